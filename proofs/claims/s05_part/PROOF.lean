import PyProof.Rows.All
import Wide.All
import OpenK.AllK
import Wide.FinOn
import PyProof.StationsW
import OpenK.KGet
import PyProof.ExcInit
import PyProof.ExcBaseAll.Exception
import OpenK.KMake
import PyProof.InstStoreFacts
import PyProof.ExcArgs
import PyProof.EqAt
import PyProof.EqKinds
import PyProof.TupleCall
import KE.BitLaws
import Open.SpecLaws
import KE.OsHead
import KE.SpHead
import KE.OsShapes
import PyProof.WalkInts
import KE.KMinKey
import KE.OsGo
import PySem.Challenge.RW_recipetexts_s05_part
set_option Elab.async false
set_option linter.all false
set_option maxRecDepth 100000
set_option maxHeartbeats 4000000
section
namespace LX
open PySem PySem.Spec PyProof.Rows
def Tr (h B:Heap) (e C dx:Addr) (fl:Value):Prop :=
 ∃ (oe:Obj) (vs:Array Value) (T:Addr) (oT:Obj) (ts:Array Value),(h.get? e=some oe/\oe.cls=.ref C/\oe.dict=some dx/\oe.data=.fields vs/\vs[1]? = some (.ref T))/\(B.get? T=none/\T≠e)/\h.get? T=some oT/\oT.data=.fields ts/\ts[3]? = some fl
structure Note (B:Heap) (l:List Env) (e C dx:Addr) (fl:Value) (h h':Heap):Prop where
 st:B.StaysIn h'
 ff:h'.FunFrames B l
 tr:Tr h' B e C dx fl
 up:h.UpToSlots h'
structure Fly (B:Heap) (l:List Env) (e C dx:Addr) (fl:Value) (h:Heap):Prop where
 st:B.StaysIn h
 nw:B.get? e=none
 ff:h.FunFrames B l
 tr:Tr h B e C dx fl
section
variable {M:Model} {A:Around} {E:Value->Shared->Prop} {s:Shared} {B:Heap} {env:Env} {outer:List Env} {L e C dx:Addr} {Q:Unit->Shared->Prop}
theorem qhb {oe:Obj} {vs:Array Value} {head:Value} {had:Bool}
  (hfr:A.frames=some (env::outer)) (hl:s.heap.FunFrames B (env::outer)) (hf:env.frame=some L)
  (he:s.heap.get? e=some oe) (hc:oe.cls=.ref C) (hdx:oe.dict=some dx) (hd:oe.data=.fields vs) (hsz:1<vs.size) (hst:B.StaysIn s.heap) (hnw:B.get? e=none)
  (h:∀ h',Note B (env::outer) e C dx (rawInt L) s.heap h'->Q () { s with heap:=h' }) :
  wpAny M A (do let a <- frameOf env; let pl <- entryPlaceOf L had; let b <- EntryCells.newEntry head a .none (rawInt L) .none pl; setField (.ref e) 1 b) Q E s:=by
 have nofr:e∉(env::outer).filterMap (·.frame):=by
  intro hm
  obtain ⟨_,o,ho,hnf⟩:=hl.mem hm
  obtain rfl:oe=o:=Option.some.inj (he.symm.trans ho)
  exact hnf vs hd
 refine wpAny_bind (wpAny_frameOf_fun hfr hl hf fun h1 hs1=>?_)
 refine wpAny_bind (wpAny_entryPlaceOf fun pl hpl=>?_)
 unfold EntryCells.newEntry newFields
 refine wpAny_bind (wpAny_newObj_type ?_ (hpl.sizeOk5 _ _ _ _ _))
 have e1:h1.get? e=some oe:=(hs1.2.1 e nofr).trans he
 have st1:B.StaysIn h1:=fun b o q=>(hs1.2.1 b fun hm=>by
  have z:=(hl.mem hm).1
  rw [q] at z
  cases z).trans (hst b o q)
 generalize hN:({ cls:=.type "traceback",dict:=none,data:=.fields ([head,.ref L,.none,rawInt L,.none]++(if pl.isEmpty then List.replicate 6 Value.none else pl)).toArray }:Obj)=nT
 have dT:nT.data=.fields ([head,.ref L,.none,rawInt L,.none]++(if pl.isEmpty then List.replicate 6 Value.none else pl)).toArray:=by rw [<- hN]
 have fT:nT.isFreed=false:=by rw [<- hN]; rfl
 have e2:=Heap.get?_push_of_some (h:=h1) nT e1
 refine wpAny_setField e2 hd hsz (h _ ?_)
 have Te:h1.objs.size≠e:=Nat.ne_of_gt (Heap.lt_size e1)
 have d3:=Obj.data_mapFields hd (·.setIfInBounds 1 (Value.ref h1.objs.size))
 have e3:=Heap.get?_update_self (Obj.mapFields (·.setIfInBounds 1 (Value.ref h1.objs.size))) e2 (Obj.isFreed_of_fields d3)
 have T3:=(Heap.get?_update_other (h1.push nT) (Obj.mapFields (·.setIfInBounds 1 (Value.ref h1.objs.size))) (Ne.symm Te)).trans (Heap.get?_push_size h1 fT)
 have kp:∀ b o,b≠e->h1.get? b=some o->((h1.push nT).update e (Obj.mapFields (·.setIfInBounds 1 (Value.ref h1.objs.size)))).get? b=some o:=by
  intro b o be q
  rw [Heap.get?_update_other _ _ (Ne.symm be)]
  exact Heap.get?_push_of_some _ q
 have rec_ne:∀ b o,s.heap.get? b=some o->(∀ ws,o.data≠.fields ws)->b≠e:=by
  intro b o q hnf z
  subst z
  obtain rfl:oe=o:=Option.some.inj (he.symm.trans q)
  exact hnf vs hd
 refine ⟨fun b o q=>kp b o (fun z=>by subst z; rw [hnw] at q; cases q) (st1 b o q),hl.of_keeps fun b o q hnf=>?_,?_,fun b o q hnf=>?_⟩
 ·obtain ⟨sl,hs⟩:=hs1.2.2 b o q
  exact ⟨_,kp b _ (rec_ne b o q hnf) hs,rfl⟩
 ·refine ⟨_,_,h1.objs.size,nT,_,⟨e3,?_,?_,d3,by simp [hsz]⟩,⟨st1.fresh,Te⟩,T3,dT,?_⟩
  ·rw [Obj.cls_mapFields]; exact hc
  ·have:∀ (f:Array Value->Array Value) (o:Obj),(Obj.mapFields f o).dict=o.dict:=fun f o=>by
    obtain ⟨c,d,dt,sl⟩:=o
    cases dt <;> rfl
   rw [this]; exact hdx
  ·first
    | (simp; done)
    | (rcases hpl with rfl | ⟨_,_,_,_,_,_,_,rfl⟩ <;> simp)
 ·obtain ⟨sl,hs⟩:=hs1.2.2 b o q
  exact ⟨sl,kp b _ (rec_ne b o q hnf) hs⟩
theorem qhK {oe:Obj} {vs:Array Value}
  (hfr:A.frames=some (env::outer)) (hl:s.heap.FunFrames B (env::outer)) (hf:env.frame=some L)
  (he:s.heap.get? e=some oe) (hc:oe.cls=.ref C) (hdx:oe.dict=some dx) (hd:oe.data=.fields vs) (h1:vs[1]? = some .none) (hst:B.StaysIn s.heap) (hnw:B.get? e=none)
  (h:∀ h',Note B (env::outer) e C dx (rawInt L) s.heap h'->Q () { s with heap:=h' }):wpAny M A (noteFrame (.ref e) env) Q E s:=by
 unfold noteFrame
 simp only [hf]
 refine wpAny_bind (wpAny_field he hd h1 ?_)
 rw [if_neg (by decide)]
 exact qhb hfr hl hf he hc hdx hd (Array.getElem?_eq_some_iff.mp h1).1 hst hnw h
theorem qek (hfr:A.frames=some (env::outer)) (hf:env.frame=some L) (F:Fly B (env::outer) e C dx .none s.heap)
  (h:∀ h',Note B (env::outer) e C dx (rawInt L) s.heap h'->Q () { s with heap:=h' }):wpAny M A (noteFrame (.ref e) env) Q E s:=by
 obtain ⟨hst,hnw,hl,oe,vs,T,oT,ts,⟨he,hc,hdx,hd,h1⟩,⟨hnT,hTe⟩,hT,hdT,h3⟩:=F
 unfold noteFrame
 simp only [hf]
 refine wpAny_bind (wpAny_field he hd h1 ?_)
 have t1:(Value.ref T != Value.none)=true:=by simp
 rw [if_pos t1]
 refine wpAny_bind (wpAny_field hT hdT h3 ?_)
 have t2:¬ ((Value.none == rawInt L)=true):=by simp [rawInt]
 rw [if_neg t2]
 refine wpAny_bind (wpAny_setField hT hdT (Array.getElem?_eq_some_iff.mp h3).1 ?_)
 have oth:∀ b,b≠T->(s.heap.update T (Obj.mapFields (·.setIfInBounds 3 Value.none))).get? b=s.heap.get? b:=fun b z=>Heap.get?_update_other _ _ (Ne.symm z)
 have rec_ne:∀ b o,s.heap.get? b=some o->(∀ ws,o.data≠.fields ws)->b≠T:=by
  intro b o q hnf z
  subst z
  obtain rfl:oT=o:=Option.some.inj (hT.symm.trans q)
  exact hnf ts hdT
 refine qhb hfr (hl.of_keeps fun b o q hnf=>⟨o,(oth b (rec_ne b o q hnf)).trans q,rfl⟩) hf ((oth e (Ne.symm hTe)).trans he) hc hdx hd (Array.getElem?_eq_some_iff.mp h1).1
  (fun b o q=>(oth b fun z=>by subst z; rw [hnT] at q; cases q).trans (hst b o q)) hnw fun h' N=>h h' ⟨N.st,N.ff,N.tr,fun b o q hnf=>N.up b o ((oth b (rec_ne b o q hnf)).trans q) hnf⟩
theorem Jw {l:List Env} {fl:Value} (F:Fly B l e C dx fl s.heap) (h:∀ h',Fly B l e C dx .none h'->s.heap.UpToSlots h'->Q () { s with heap:=h' }):wpAny M A (setFlight (.ref e) none) Q E s:=by
 obtain ⟨hst,hnw,hl,oe,vs,T,oT,ts,⟨he,hc,hdx,hd,h1⟩,⟨hnT,hTe⟩,hT,hdT,h3⟩:=F
 have h3s:3<ts.size:=(Array.getElem?_eq_some_iff.mp h3).1
 have oth:∀ b,b≠T->(s.heap.update T (Obj.mapFields (·.setIfInBounds 3 ((none:Option Addr).elim Value.none fun f=>rawInt f)))).get? b=s.heap.get? b:=fun b z=>Heap.get?_update_other _ _ (Ne.symm z)
 have rec_ne:∀ b o,s.heap.get? b=some o->(∀ ws,o.data≠.fields ws)->b≠T:=by
  intro b o q hnf z
  subst z
  obtain rfl:oT=o:=Option.some.inj (hT.symm.trans q)
  exact hnf ts hdT
 unfold setFlight
 refine wpAny_bind (wpAny_field he hd h1 ?_)
 have t1:(Value.ref T != Value.none)=true:=by simp
 rw [if_pos t1]
 refine wpAny_setField hT hdT h3s (h _ ⟨fun b o q=>(oth b fun z=>by subst z; rw [hnT] at q; cases q).trans (hst b o q),hnw,hl.of_keeps fun b o q hnf=>⟨o,(oth b (rec_ne b o q hnf)).trans q,rfl⟩,?_⟩ fun b o q hnf=>⟨o.slots,(oth b (rec_ne b o q hnf)).trans q⟩)
 exact ⟨oe,vs,T,_,_,⟨(oth e (Ne.symm hTe)).trans he,hc,hdx,hd,h1⟩,⟨hnT,hTe⟩,Heap.get?_update_self _ hT (Obj.isFreed_of_fields (Obj.data_mapFields hdT _)),Obj.data_mapFields hdT _,by simp [h3s]⟩
theorem qfm {fl:Value} {h:Heap} (F:Fly B (env::outer) e C dx fl h):Fly B outer e C dx fl h:=⟨F.st,F.nw,F.ff.2.2,F.tr⟩
theorem qgF {oe:Obj} {vs:Array Value}
  (hfr:A.frames=some (env::outer)) (hl:s.heap.FunFrames B (env::outer)) (hf:env.frame=some L)
  (he:s.heap.get? e=some oe) (hc:oe.cls=.ref C) (hdx:oe.dict=some dx) (hd:oe.data=.fields vs) (h1:vs[1]? = some .none) (hst:B.StaysIn s.heap) (hnw:B.get? e=none)
  (h:∀ h',Fly B outer e C dx .none h'->s.heap.UpToSlots h'->Q () { s with heap:=h' }):wpAny M A (leaving env (.ref e)) Q E s:=by
 unfold leaving
 refine wpAny_bind (qhK hfr hl hf he hc hdx hd h1 hst hnw fun h1 N=>?_)
 exact Jw (s:={ s with heap:=h1 }) ⟨N.st,hnw,N.ff,N.tr⟩ fun h2 F2 u2=>h h2 (qfm F2) (N.up.trans u2)
theorem qhL (hfr:A.frames=some (env::outer)) (hf:env.frame=some L) (F:Fly B (env::outer) e C dx .none s.heap)
  (h:∀ h',Fly B outer e C dx .none h'->s.heap.UpToSlots h'->Q () { s with heap:=h' }):wpAny M A (leaving env (.ref e)) Q E s:=by
 unfold leaving
 refine wpAny_bind (qek hfr hf F fun h1 N=>?_)
 exact Jw (s:={ s with heap:=h1 }) ⟨N.st,F.nw,N.ff,N.tr⟩ fun h2 F2 u2=>h h2 (qfm F2) (N.up.trans u2)
theorem qiO (hfr:A.frames=some (env::outer)) (hf:env.frame=some L) (F:Fly B (env::outer) e C dx .none s.heap)
  (h:∀ h',Fly B (env::outer) e C dx .none h'->s.heap.UpToSlots h'->Q () { s with heap:=h' }):wpAny M A (noteFrame (.ref e) env) (fun _ s'=>wpAny M A (setFlight (.ref e) none) Q E s') E s:=by
 refine qek hfr hf F fun h1 N=>?_
 exact Jw (s:={ s with heap:=h1 }) ⟨N.st,F.nw,N.ff,N.tr⟩ fun h2 F2 u2=>h h2 F2 (N.up.trans u2)
end
end LX
end
section
namespace LX
open PySem PySem.Spec PyProof.Rows
open Sem (wp)
section
variable {prog:Program} {w:World} {A:Around} {E:Value->Shared->Prop} {h:Heap} {g:Array GenState} {d:Drawn} {t:Nat} {os:OsState}
variable {nm q:Str} {C N:Addr} {bs bm:List Value} {hdct:Bool} {sn:List Str} {sub:List Value} {ab:Bool} {col:Option Bool} {dd:Option Addr} {k0 k1 k2 k3 k5:Option Value}
abbrev XC (h:Heap) (nm q:Str) (C N:Addr) (bs bm:List Value) (hdct:Bool) (sn:List Str) (sub:List Value) (ab:Bool) (col:Option Bool) (dd:Option Addr) (k0 k1 k2 k3 k5:Option Value):Prop :=
 h.get? C=some (excClassObj nm q C N bs bm hdct sn sub ab col dd k0 k1 k2 k3 k5 "Exception.__new__")
structure Under (bm:List Value):Prop where
 b1:bm.contains (.type "Exception")=true
 b2:bm.contains (.type "BaseException")=true
 b3:bm.contains (.type "AttributeError")=false
 b4:bm.contains (.type "NameError")=false
theorem qgG {M:Model} {rest:List Value} {Q:Unit->Shared->Prop} (U:Under bm) (hC:XC h nm q C N bs bm hdct sn sub ab col dd k0 k1 k2 k3 k5) (hq:Q () ⟨h,g,d,t,os⟩) :
  wpAny M A (checkBuiltinCall "Exception.__new__" ⟨.ref C::rest,[]⟩) Q E ⟨h,g,d,t,os⟩:=by
 have F:=PySem.F.excBase_Exception
 have hst:=F.noStar
 have hco:(Value.ref C::bm).contains (.type "Exception")=true:=by rw [List.contains_cons,U.b1]; exact Bool.or_true _
 simp only [checkBuiltinCall,F.newKind,F.newSplit,F.newRow]
 repeat (first
  | refine wpAny_loadPart_at hC ?_
  | (refine wpAny_isSubtype_exc hC ?_; rw [hco])
  | refine wpAny_staticBase_exc hC ?_
  | refine wpAny_madeBy_exc hC ?_
  | simp only [bne_self_eq_false,Bool.false_eq_true,if_false]
  | wp_step)
 exact hq
theorem qnO {R:Result->Shared->Prop} {rest:List Value} (U:Under bm) (hC:XC h nm q C N bs bm hdct sn sub ab col dd k0 k1 k2 k3 k5) (hr:rest.length<=sizeLine)
  (hq:R (.ok (.ret (.ref (h.objs.size+1)))) ⟨(h.push { cls:=.type "tuple",data:=.seq rest.toArray }).push { cls:=.ref C,data:=.fields #[.ref h.objs.size,.none,.none,.none,.bool false,.none] },g,d,t,os⟩) :
  codeAny (model prog w) A (.builtin "Exception.__new__" ⟨.ref C::rest,[]⟩) R ⟨h,g,d,t,os⟩:=by
 have F:=PySem.F.excBase_Exception
 have hen:=F.ends
 have c1:(Value.ref C::bm).contains (.type "Exception")=true:=by rw [List.contains_cons,U.b1]; exact Bool.or_true _
 have c3:(Value.ref C::bm).contains (.type "AttributeError")=false:=by rw [List.contains_cons,U.b3]; rfl
 have c4:(Value.ref C::bm).contains (.type "NameError")=false:=by rw [List.contains_cons,U.b4]; rfl
 have hrest:=hr
 refine codeAny_builtinAt F.entry ?_
 unfold Builtin.«BaseException.__new__»
 refine PySem.wpAt_bind ?_
 show PySem.wpAt _ _ _ (stack >>= _) _ _ _
 refine PySem.wpAt_bind (PySem.wpAt_stack fun p below=>PySem.wpAt_of_wpAny ?_)
 wp_walk
 refine PySem.wpAt_of_wpAny ?_
 rw [F.owner]
 repeat (first
  | with_reducible refine wpAny_madeHere_exc F.canon hC ?_
  | with_reducible refine wpAny_loadPart_at hC ?_
  | (with_reducible refine wpAny_isSubtype_exc hC ?_; first | rw [c1] | rw [c3] | rw [c4])
  | wp_step)
 show R _ _
 rw [Heap.size_push]
 exact hq
theorem qgH {rest:List Value} {fI:Addr} {oI:Obj} {Q:Fin->Shared->Prop} (U:Under bm)
  (hC:XC h nm q C N bs bm hdct sn sub ab col dd k0 k1 k2 k3 k5) (hi:PySem.W.Looks (model prog w) h (typeLookup (.ref C) "__init__") (some (.ref fI))) (hfI:h.get? fI=some oI) (hfc:oI.cls=.type "function") (hr:rest.length<=sizeLine)
  (hq:∀ h' e,h.objs.size<=e->Heap.MadeExcOf h h' e (.ref C) rest->wpAny (model prog w) A (call (.ref fI) (.ref e::rest)) (fun r s'=>r=.none/\Q (.done (.ret (.ref e))) s') E ⟨h',g,d,t,os⟩) :
  wpAny (model prog w) A (Builtin.«type.__call__» ⟨.ref C::rest,[]⟩) Q E ⟨h,g,d,t,os⟩:=by
 have F:=PySem.F.excBase_Exception
 repeat (first | with_reducible refine wpAny_loadPart_at hC ?_ | with_reducible refine wpAny_madeBy_exc hC ?_ | wp_step)
 refine codeAny_call_builtin_code (Code.quiet_builtin _ F.quiet) (qgG U hC ?_)
 refine qnO U hC hr ?_
 show wpAny _ _ _ _ _ _
 generalize hT:({ cls:=.type "tuple",data:=.seq rest.toArray }:Obj)=oT
 generalize hO:({ cls:=.ref C,data:=.fields #[.ref h.objs.size,.none,.none,.none,.bool false,.none] }:Obj)=oE
 have kp:∀ b o,h.get? b=some o->((h.push oT).push oE).get? b=some o:=fun b o z=>Heap.get?_push_of_some _ (Heap.get?_push_of_some _ z)
 have hC1:XC ((h.push oT).push oE) nm q C N bs bm hdct sn sub ab col dd k0 k1 k2 k3 k5:=kp _ _ hC
 have hf1:=kp _ _ hfI
 have hi1:=hi.keeps kp
 have hE:((h.push oT).push oE).get? (h.objs.size+1)=some oE:=by subst hT hO; heap_get
 have cE:oE.cls=.ref C:=by subst hO; rfl
 have cC:(Value.ref C::bm).contains (.ref C)=true:=by simp
 unfold isInstance
 repeat (first | (with_reducible refine wpAny_loadPart_at hE ?_; rw [cE]) | (with_reducible refine wpAny_isSubtype_exc hC1 ?_; rw [cC]) | wp_step)
 show wpAny _ _ (typeLookup (.ref C) _) _ _ _
 refine hi1.at ?_
 refine wpAny_holding (wpAny_bind ?_)
 unfold bindSpecial
 refine wpAny_bind (wpAny_typeOf (T:= "function") ⟨_,hf1,hfc⟩ ?_)
 rw [if_pos (by decide)]
 refine wpAny_pure (wpAny_bind (wpAny_mono (hq _ (h.objs.size+1) (Nat.le_succ _) ⟨kp,Heap.get?_none_of_le (Nat.le_succ _),h.objs.size,by rw [hE,<- hO],Heap.get?_none_of_le (Nat.le_refl _),?_⟩) (fun r s' z=>?_) fun _ _ x=>x))
 ·rw [hT]
  exact Heap.get?_push_of_some _ (Heap.get?_push_at rfl (by subst hT; rfl))
 ·obtain ⟨rfl,z⟩:=z
  wp_walk
  exact z
theorem x_call {rest:List Value} {fI:Addr} {oI:Obj} {Q:Value->Shared->Prop} (U:Under bm)
  (hC:XC h nm q C N bs bm hdct sn sub ab col dd k0 k1 k2 k3 k5) (hi:PySem.W.Looks (model prog w) h (typeLookup (.ref C) "__init__") (some (.ref fI))) (hfI:h.get? fI=some oI) (hfc:oI.cls=.type "function") (hr:rest.length<=sizeLine)
  (hq:∀ h' e,h.objs.size<=e->Heap.MadeExcOf h h' e (.ref C) rest->wpAny (model prog w) (A.under (.builtin "type.__call__" ⟨.ref C::rest,[]⟩)) (call (.ref fI) (.ref e::rest)) (fun r s'=>r=.none/\Q (.ref e) s') E ⟨h',g,d,t,os⟩) :
  wpAny (model prog w) A (call (.ref C) rest) Q E ⟨h,g,d,t,os⟩:=by
 have f1:=tc_lookup
 have f2:=tc_bind (.ref C)
 have hT:(⟨h,g,d,t,os⟩:Shared).TypeIs (.ref C) "type":=⟨_,hC,rfl⟩
 refine wpAny_call (codeAny_of_tree ?_)
 show wpAny _ _ (callAny (.ref C) _) _ _ _
 repeat (any_goals (first
  | assumption
  | with_reducible refine wpAny_loadPart_at hC ?_
  | wp_step))
 refine ⟨rfl,?_⟩
 refine codeAny_call_builtin_at (Code.quiet_builtin _ (by decide +kernel)) entry_typeCall (wpAny_check_type_call_sub hC ?_)
 exact qgH U hC hi hfI hfc hr fun h' e hs hm=>hq h' e hs hm
end
section
variable {M:Model} {A:Around} {E:Value->Shared->Prop} {env:Env}
variable {nm q:Str} {C N:Addr} {bs bm:List Value} {hdct:Bool} {sn:List Str} {sub:List Value} {ab:Bool} {col:Option Bool} {dd:Option Addr} {k0 k1 k2 k3 k5:Option Value}
theorem x_raise {s:Shared} {x:Sem Value} {Q:Flow->Shared->Prop} (U:Under bm) (hh:A.handled=none)
  (h:wpAny M A x (fun v s1=>∃ (e t:Addr) (dx:Option Addr) (sl:Array (Option Value)),v=.ref e/\XC s1.heap nm q C N bs bm hdct sn sub ab col dd k0 k1 k2 k3 k5 /\
   s1.heap.get? e=some { cls:=.ref C,dict:=dx,data:=.fields #[.ref t,.none,.none,.none,.bool false,.none],slots:=sl }/\E (.ref e) s1) E s) :
  wpAny M A (raiseStmt env (some x) none) Q E s:=by
 have cB:(Value.ref C::bm).contains (.type "BaseException")=true:=by rw [List.contains_cons,U.b2]; exact Bool.or_true _
 unfold raiseStmt
 refine wpAny_bind (wpAny_mono h (fun v s1 z=>?_) fun _ _ x=>x)
 obtain ⟨e,t,dx,sl,rfl,hC,he,hE⟩:=z
 obtain ⟨hp,g,d,tk,os⟩:=s1
 repeat (first
  | with_reducible refine wpAny_loadPart_at he ?_
  | with_reducible refine wpAny_loadPart_at hC ?_
  | (with_reducible refine wpAny_isSubtype_exc hC ?_; rw [cB])
  | wp_step)
 exact wpAny_raiseNew_none hh hE
theorem qiP {h:Heap} {g:Array GenState} {d:Drawn} {t:Nat} {os:OsState} {e S NS:Addr} {oe:Obj} {nmS qS:Str} {bsS bmS:List Value} {hdS:Bool} {snS:List Str} {subS:List Value} {abS:Bool} {colS:Option Bool} {ddS:Option Addr} {j0 j1 j2 j3 j5:Option Value} {Q:Bool->Shared->Prop}
  (US:Under bmS) (hC:XC h nm q C N bs bm hdct sn sub ab col dd k0 k1 k2 k3 k5) (hS:XC h nmS qS S NS bsS bmS hdS snS subS abS colS ddS j0 j1 j2 j3 j5) (hcs:(Value.ref C::bm).contains (.ref S)=true)
  (he:h.get? e=some oe) (hcls:oe.cls=.ref C) (hq:Q true ⟨h,g,d,t,os⟩):wpAny M A (excMatches (.ref e) (.ref S)) Q E ⟨h,g,d,t,os⟩:=by
 have cB:(Value.ref S::bmS).contains (.type "BaseException")=true:=by rw [List.contains_cons,US.b2]; exact Bool.or_true _
 have f:=tc_notTuple
 unfold excMatches
 repeat (first
  | (with_reducible refine wpAny_loadPart_at he ?_; rw [hcls])
  | with_reducible refine wpAny_loadPart_at hS ?_
  | (with_reducible refine wpAny_isSubtype_exc hS ?_; rw [cB])
  | (with_reducible refine wpAny_isSubtype_exc hC ?_; rw [hcs])
  | wp_step)
 exact hq
end
end LX
end
section
namespace LX
open PySem PySem.Spec PyProof.Rows Builtin Builtin.ObjectAttr
open PySem.W (Frag InstAt Looks clsIn findIn takerIn findObj handedIn looks_findIn looks_clsIn looks_mroIn mroIn)
def QI:List Value->Bool
 | [.type a,.type b,.type c]=>a == "Exception" && b == "BaseException" && c == "object"
 | .ref _::r=>QI r
 | _=>false
theorem qcw (self:Value):∀ {l:List Value},QI l=true->refuseLoop self "__setattr__" l=pure ()
 | [.type a,.type b,.type c],e=>by
  simp only [QI,Bool.and_eq_true,beq_iff_eq] at e
  obtain ⟨⟨rfl,rfl⟩,rfl⟩:=e
  exact PySem.F.store_Exception.passes self
 | .ref c::r,e=>by rw [refuseLoop_ref]; exact qcw self (l:=r) e
theorem qfn:∀ {l:List Value},QI l=true->l.contains (.type "object")=true
 | [.type a,.type b,.type c],e=>by
  simp only [QI,Bool.and_eq_true,beq_iff_eq] at e
  obtain ⟨⟨rfl,rfl⟩,rfl⟩:=e
  decide
 | .ref c::r,e=>by rw [List.contains_cons,qfn (l:=r) e,Bool.or_true]
theorem qhc {l:List Value} (e:QI l=true):l.isEmpty=false:=by
 cases l with
 | nil=>cases e
 | cons _ _=>rfl
section
variable {prog:Program} {w:World} {A:Around} {E:Value->Shared->Prop} {s:Shared} {K:Frag} {x C:Addr} {ox:Obj} {od:Option Obj} {name:Str} {v:Value} {cd:ClassData}
theorem qls {tk:Tok} {R:Result->Shared->Prop} (X:K.In s.heap) (I:InstAt s.heap x ox C od) (hc:clsIn K C=some cd) (hp:QI cd.mro=true) (ht:findIn K (.ref C) name=some none)
  (h:wpAny (model prog w) A.in1 (storeInOwnDict (.ref x) (.ref C) (.str name tk) name v false)
   (fun fin s'=>match fin with | .done f=>R (.ok f) s' | .again c'=>c'.quiet=true/\codeAny (model prog w) A c' R s') (fun e s'=>R (.error e) s') s) :
  codeAny (model prog w) A (.call (.builtin "object.__setattr__") ⟨[.ref x,.str name tk,v],[]⟩) R s:=by
 have SF:=PySem.F.store_object
 have ne:=qhc hp
 have sub:Looks (model prog w) s.heap (isInstance (.ref x) (.type "object")) true:=I.type.andThen (looks_mroIn X (by unfold mroIn; rw [hc,Option.bind_some,if_neg (by rw [ne]; decide),qfn hp]))
 refine codeAny_call_builtin SF.slot.plain SF.entry (@PySem.W.check_slot (model prog w) _ _ s "object.__setattr__" "object" "__setattr__" (.ref x) [.str name tk,v] [] _ SF.kind SF.split sub (SF.args (.ref x) (.str name tk) v) ?_)
 have hm:Looks (model prog w) s.heap (mroOf (.ref C)) cd.mro:=(looks_clsIn X hc).andThen .now
 rw [PySem.W.osa_eq,refuse_eq]
 refine wpAny_bind (wpAny_bind (I.type.here (wpAny_bind (hm.here ?_))))
 rw [qcw _ hp]
 refine wpAny_pure (wpAny_bind (I.type.here (wpAny_bind ((looks_findIn X ht).here (wpAny_bind ?_)))))
 exact wpAny_pure h
theorem qmH {vs:Array Value} {sl:Array (Option Value)} {Q:Unit->Shared->Prop} (X:K.In s.heap) (hx:s.heap.get? x=some ⟨.ref C,none,.fields vs,sl⟩) (hc:clsIn K C=some cd) (hp:QI cd.mro=true) (hd:cd.hasDict=true)
  (hs:findIn K (.ref C) "__setattr__" = some (some (.builtin "object.__setattr__"))) (ht:findIn K (.ref C) name=some none)
  (h:∀ h' tk,h'.get? x=some ⟨.ref C,some s.heap.objs.size,.fields vs,sl⟩->h'.Ns1 s.heap.objs.size (fun y=>if y=name then some v else none)->(∀ b o,b≠x->s.heap.get? b=some o->h'.get? b=some o)->Q () { s with heap:=h',toks:=tk }) :
  wpAny (model prog w) A (setAttr (.ref x) name v) Q E s:=by
 have I:InstAt s.heap x ⟨.ref C,none,.fields vs,sl⟩ C none:=⟨hx,rfl,rfl,trivial⟩
 refine PySem.W.set_plain X I hs (qls (s:={ s with toks:=s.toks+1 }) X I hc hp ht ?_)
 have L:=looks_clsIn (M:=model prog w) X hc
 unfold storeInOwnDict
 have e1:ownStreamTells (.ref x) (.ref C)=pure ():=rfl
 rw [e1]
 refine wpAny_bind (wpAny_pure ?_)
 rw [if_neg (show ¬ ((Value.ref C == Value.type "module")=true) by simp)]
 refine wpAny_bind ?_
 show wpAny _ _ (instanceDict x true) _ _ _
 unfold instanceDict
 refine wpAny_bind (wpAny_loadPart (s:={ s with toks:=s.toks+1 }) hx ?_)
 dsimp only
 refine wpAny_bind (L.here (s:={ s with toks:=s.toks+1 }) ?_)
 rw [hd]
 simp only [Bool.not_true,Bool.false_eq_true,if_false,typeHasDict,Bool.false_or]
 have hx1:(s.heap.push { cls:=.type "dict",data:=.dict #[] }).get? x=some ⟨.ref C,none,.fields vs,sl⟩:=Heap.get?_push_of_some _ hx
 have hxs:x≠s.heap.objs.size:=Nat.ne_of_lt (Heap.lt_size hx)
 refine wpAny_bind (wpAny_alloc (wpAny_bind (wpAny_update hx1 ?_)))
 refine wpAny_pure (a:=some s.heap.objs.size) ?_
 have hgd:((s.heap.push { cls:=.type "dict",data:=.dict #[] }).update x fun o=>{ o with dict:=some s.heap.objs.size }).get? s.heap.objs.size=some { cls:=.type "dict",data:=.dict #[] } :=
  (Heap.get?_update_ne _ _ _ _ hxs.symm).trans (Heap.get?_push_at rfl rfl)
 have hnd:((s.heap.push { cls:=.type "dict",data:=.dict #[] }).update x fun o=>{ o with dict:=some s.heap.objs.size }).Ns s.heap.objs.size (fun _=>none) :=
  ⟨_,#[],_,hgd,rfl,fun e he=>absurd he (by simp),fun _=>rfl⟩
 show wpAny _ _ (storeInDict s.heap.objs.size (.str name s.toks) name v) _ _ _
 unfold storeInDict newKeyGuard
 refine wpAny_bind (wpAny_pure (wpAny_bind (wpAny_nsSet1 (Heap.Ns1.of_empty hnd) fun h' hn' hs'=>?_)))
 obtain ⟨oD,esD,epD,hoD,hdD,hcD⟩:=hn'.count (Within.cons name v Within.nil)
 refine wpAny_bind (wpAny_lookBehind hoD (by rw [hdD]; exact pastItsLine_dict (Nat.le_trans hcD (by rw [List.length_cons,List.length_nil,sizeLine_eq]; omega))) ?_)
 refine wpAny_pure (h h' _ ?_ hn' fun b o hb q=>?_)
 ·exact (hs'.2 x hxs).trans (Heap.get?_update_self _ hx1 rfl)
 ·exact (hs'.2 b (Nat.ne_of_lt (Heap.lt_size q))).trans ((Heap.get?_update_ne _ _ _ _ hb).trans (Heap.get?_push_of_some _ q))
theorem qmI {vs:Array Value} {sl:Array (Option Value)} {dx:Addr} {mA:Str->Option Value} {ns:List Str} {Q:Unit->Shared->Prop} (X:K.In s.heap) (hx:s.heap.get? x=some ⟨.ref C,some dx,.fields vs,sl⟩) (hn:s.heap.Ns1 dx mA)
  (hw:PySem.Within mA ns) (hsz:ns.length<=1000) (hc:clsIn K C=some cd) (hp:QI cd.mro=true) (hd:cd.hasDict=true)
  (hs:findIn K (.ref C) "__setattr__" = some (some (.builtin "object.__setattr__"))) (ht:findIn K (.ref C) name=some none)
  (h:∀ h' tk,h'.Ns1 dx (fun y=>if y=name then some v else mA y)->Heap.SameBut dx s.heap h'->Q () { s with heap:=h',toks:=tk }) :
  wpAny (model prog w) A (setAttr (.ref x) name v) Q E s:=by
 obtain ⟨od,eod⟩:∃ od,s.heap.get? dx=some od:=let ⟨o,_,_,e,_⟩:=hn; ⟨o,e⟩
 have I:InstAt s.heap x ⟨.ref C,some dx,.fields vs,sl⟩ C (some od):=⟨hx,rfl,rfl,eod⟩
 refine PySem.W.set_plain X I hs (qls (s:={ s with toks:=s.toks+1 }) X I hc hp ht ?_)
 have L:=looks_clsIn (M:=model prog w) X hc
 unfold storeInOwnDict
 have e1:ownStreamTells (.ref x) (.ref C)=pure ():=rfl
 rw [e1]
 refine wpAny_bind (wpAny_pure ?_)
 rw [if_neg (show ¬ ((Value.ref C == Value.type "module")=true) by simp)]
 refine wpAny_bind ?_
 show wpAny _ _ (instanceDict x true) _ _ _
 unfold instanceDict
 refine wpAny_bind (wpAny_loadPart (s:={ s with toks:=s.toks+1 }) hx ?_)
 dsimp only
 refine wpAny_bind (L.here (s:={ s with toks:=s.toks+1 }) ?_)
 rw [hd]
 refine wpAny_pure (a:=some dx) ?_
 show wpAny _ _ (storeInDict dx (.str name s.toks) name v) _ _ _
 unfold storeInDict newKeyGuard
 refine wpAny_bind (wpAny_pure (wpAny_bind (wpAny_nsSet1 (s:={ s with toks:=s.toks+1 }) hn fun h' hn' hs'=>?_)))
 obtain ⟨oD,esD,epD,hoD,hdD,hcD⟩:=hn'.count (Within.cons name v hw)
 refine wpAny_bind (wpAny_lookBehind hoD (by rw [hdD]; exact pastItsLine_dict (Nat.le_trans hcD (by rw [List.length_cons,sizeLine_eq]; omega))) ?_)
 exact wpAny_pure (h h' _ hn' hs')
theorem qlQ:builtinKind "BaseException.__getattribute__" = some .slot:=by decide +kernel
theorem qkn:splitId "BaseException.__getattribute__" = some ("BaseException","__getattribute__"):=by decide +kernel
theorem qko:plainId "BaseException.__getattribute__" = true:=by decide +kernel
theorem qlR (self:Value):bindSpecial (.builtin "BaseException.__getattribute__") self=pure (.builtin "BaseException.__getattribute__",[self]):=PySem.F.excAttr_ValueError.ga.bind self
theorem qnP {expr:Bool} {Q:Value->Shared->Prop} (X:K.In s.heap) (I:InstAt s.heap x ox C od) (hga:findIn K (.ref C) "__getattribute__" = some (some (.builtin "BaseException.__getattribute__")))
  (hk:findIn K (.ref C) "__getattr__" = some none) (hsub:mroIn K C (.type "BaseException")=some true) (hf:findObj K C od name=some (.value v)) (hh:handedIn v=true) (h:Q v { s with toks:=s.toks+1 }) :
  wpAny (model prog w) A (getAttr (.ref x) name expr) Q E s:=by
 obtain ⟨hp,g,d,t,os⟩:=s
 have L0:=I.type (M:=model prog w)
 have L1:=looks_findIn (M:=model prog w) X hga
 have L2:=looks_findIn (M:=model prog w) X hk
 have L3:=PySem.W.looks_find (M:=model prog w) X I hf
 have L4:Looks (model prog w) hp (isInstance (.ref x) (.type "BaseException")) true:=L0.andThen (looks_mroIn X hsub)
 unfold getAttr getAttrBy
 refine wpAny_bind (wpAny_mkText (wpAny_holding (wpAny_bind (L0.at (wpAny_bind (L1.at ?_))))))
 show wpAny _ _ (getAttrByItsOwn _ _ _ _ _ _) _ _ _
 unfold getAttrByItsOwn hookBefore
 refine wpAny_bind (L2.at ?_)
 refine wpAny_bind (wpAny_attempt (wpAny_holding ?_))
 have e0:(expr&&onTheHeap (Value.builtin "BaseException.__getattribute__"))=false:=by cases expr <;> rfl
 unfold callGetattribute
 rw [e0]
 show wpAny _ _ (boundAndCalled _ _ _) _ _ _
 unfold boundAndCalled
 rw [qlR]
 refine wpAny_bind (wpAny_pure (wpAny_call ?_))
 refine codeAny_call_builtin qko PySem.F.entry_bexc_ga (@PySem.W.check_slot (model prog w) _ _ ⟨hp,g,d,t+1,os⟩ "BaseException.__getattribute__" "BaseException" "__getattribute__" (.ref x) [.str name t] [] _ qlQ qkn L4 (PySem.F.args_bexc_ga _ _) ?_)
 unfold Builtin.«object.__getattribute__»
 refine wpAny_bind (wpAny_pure (wpAny_bind (wpAny_pure (wpAny_bind (L0.at (wpAny_bind (L3.at ?_)))))))
 refine wpAny_pure ?_
 show wpAny _ _ (handedOut v) _ _ _
 rw [PySem.W.handedOut_of hh]
 exact wpAny_pure h
end
end LX
end
section
namespace L2
open PySem PySem.Spec PyProof.Rows
abbrev Key:=Sum Int Str
def Jx:Key->Value->Bool
 | .inl k,v=>Value.isInt k v
 | .inr x,v=>Value.isStrOf x v
def qkp (w:World):Key->Int
 | .inl k=>hashInt k
 | .inr x=>hashStr w x
theorem jz:∀ {k:Key} {v:Value},Jx k v=true->(∃ i t,k=Sum.inl i/\v=Value.int i t) \/ (∃ x t,k=Sum.inr x/\v=Value.str x t)
 | .inl i,v,h=>by
  obtain ⟨t,e⟩:=Value.isInt_shape (k:=i) (v:=v) h
  exact .inl ⟨i,t,rfl,e⟩
 | .inr x,v,h=>by
  obtain ⟨t,e⟩:=Value.isStrOf_shape (x:=x) (v:=v) h
  exact .inr ⟨x,t,rfl,e⟩
theorem qiQ (i:Int) (t:Tok):Jx (.inl i) (.int i t)=true:=by simp [Jx,Value.isInt]
theorem qiR (x:Str) (t:Tok):Jx (.inr x) (.str x t)=true:=by simp [Jx,Value.isStrOf]
theorem qmJ (a b:Int):decide ((Sum.inl a:Key)=Sum.inl b)=(a == b):=by
 by_cases e:a=b
 ·subst e; simp
 ·have h:¬ (Sum.inl a:Key)=Sum.inl b:=fun q=>e (Sum.inl.inj q)
  rw [decide_eq_false h]
  exact (beq_eq_false_iff_ne.mpr e).symm
theorem qmK (a b:Str):decide ((Sum.inr a:Key)=Sum.inr b)=decide (a=b):=by
 by_cases e:a=b
 ·subst e; simp
 ·have h:¬ (Sum.inr a:Key)=Sum.inr b:=fun q=>e (Sum.inr.inj q)
  rw [decide_eq_false h,decide_eq_false e]
theorem qmL (a:Int) (b:Str):decide ((Sum.inl a:Key)=Sum.inr b)=false:=decide_eq_false (fun q=>nomatch q)
theorem qmM (a:Str) (b:Int):decide ((Sum.inr a:Key)=Sum.inl b)=false:=decide_eq_false (fun q=>nomatch q)
def zW (prog:Program) (w:World):PySem.KeyKind prog w Key where
 is:=Jx
 hash:=qkp w
 inj:=fun v a b ha hb=>by
  rcases jz ha with ⟨i,t,rfl,rfl⟩ | ⟨x,t,rfl,rfl⟩
  ·rcases jz hb with ⟨j,u,rfl,e⟩ | ⟨y,u,rfl,e⟩
   ·injection e with e1 _; rw [e1]
   ·exact nomatch e
  ·rcases jz hb with ⟨j,u,rfl,e⟩ | ⟨y,u,rfl,e⟩
   ·exact nomatch e
   ·injection e with e1 _; rw [e1]
 byValue:=fun k v h=>by
  rcases jz h with ⟨i,t,rfl,rfl⟩ | ⟨x,t,rfl,rfl⟩ <;> rfl
 pyHash:=fun hv h=>by
  rcases jz hv with ⟨i,t,rfl,rfl⟩ | ⟨x,t,rfl,rfl⟩
  ·exact wpAny_pyHash_int h
  ·exact wpAny_pyHash_str h
 eqBool:=fun hu hv h=>by
  rcases jz hu with ⟨i,t,rfl,rfl⟩ | ⟨x,t,rfl,rfl⟩
  ·rcases jz hv with ⟨j,u,rfl,rfl⟩ | ⟨y,u,rfl,rfl⟩
   ·rw [qmJ] at h; exact wpAny_eqBool_int h
   ·rw [qmL] at h; exact SeqAt.EqAt.int_str i t y u _ _ _ _ h
  ·rcases jz hv with ⟨j,u,rfl,rfl⟩ | ⟨y,u,rfl,rfl⟩
   ·rw [qmM] at h; exact SeqAt.EqAt.str_int x t j u _ _ _ _ h
   ·rw [qmK] at h; exact wpAny_eqBool_str h
 «strs»:=fun k x t v h=>by
  rcases jz h with ⟨i,u,rfl,e⟩ | ⟨y,u,rfl,e⟩
  ·exact nomatch e
  ·injection e with e1 _
   subst e1
   cases v <;> rfl
theorem qgI (prog:Program) (w:World) (i:Int) (t:Tok):(zW prog w).is (.inl i) (.int i t)=true:=qiQ i t
theorem qgJ (prog:Program) (w:World) (x:Str) (t:Tok):(zW prog w).is (.inr x) (.str x t)=true:=qiR x t
end L2
namespace L2
open PySem PySem.Spec PyProof.Rows
inductive V where
 | non | bl (b:Bool) | int (i:Int) | str (x:Str) | byt (b:Array UInt8) | flt (b:UInt64) | ref (a:Addr) | ty (n:String)
 deriving DecidableEq
def RelV:V->Value->Prop
 | .non,u=>u=Value.none
 | .bl b,u=>u=Value.bool b
 | .int i,u=>∃ t,u=Value.int i t
 | .str x,u=>∃ t,u=Value.str x t
 | .byt b,u=>∃ t,u=Value.bytes b t
 | .flt b,u=>∃ t,u=Value.float b t
 | .ref a,u=>u=Value.ref a
 | .ty n,u=>u=Value.type n
abbrev qE:List V->List Value->Prop:=Paired RelV
theorem qE.length {xs:List V} {us:List Value} (r:qE xs us):xs.length=us.length:=Paired.length r
theorem qE.get:∀ {xs:List V} {us:List Value} {i:Nat} {x:V},qE xs us->xs[i]? = some x->∃ u,us[i]? = some u/\RelV x u
 | _,_,_,_,.nil,e=>by simp at e
 | _,_,0,_,.cons r _,e=>by simp at e; subst e; exact ⟨_,rfl,r⟩
 | _,_,i+1,x,.cons _ t,e=>by
  obtain ⟨u,h1,h2⟩:=qE.get (i:=i) (x:=x) t (by simpa using e)
  exact ⟨u,by simpa using h1,h2⟩
theorem qE.append:∀ {xs ys:List V} {us ws:List Value},qE xs us->qE ys ws->qE (xs++ys) (us++ws)
 | _,_,_,_,.nil,s=>s
 | _,_,_,_,.cons r t,s=>.cons r (qE.append t s)
theorem qE.take:∀ {xs:List V} {us:List Value} (n:Nat),qE xs us->qE (xs.take n) (us.take n)
 | _,_,0,_=>.nil
 | _,_,_+1,.nil=>.nil
 | _,_,n+1,.cons r t=>.cons r (qE.take n t)
theorem qE.drop:∀ {xs:List V} {us:List Value} (n:Nat),qE xs us->qE (xs.drop n) (us.drop n)
 | _,_,0,r=>r
 | _,_,_+1,.nil=>.nil
 | _,_,n+1,.cons _ t=>qE.drop n t
def jT:Option V->Option Value->Prop
 | some v,some u=>RelV v u
 | none,none=>True
 | _,_=>False
def KV {κ : Type}:List (κ × V)->List (κ × Value)->Prop:=Paired fun (p:κ × V) (q:κ × Value)=>p.1=q.1/\RelV p.2 q.2
def kV:Key->V
 | .inl i=>.int i
 | .inr x=>.str x
inductive HO where
 | lst (xs:List V)
 | tup (xs:List V)
 | dK (kvs:List (Key × V)) | dT (kvs:List (List Key × V))
 | set (S:Int->Bool) (n:Nat)
 | ins (C dx:Addr) (fs:List (Str × V))
 | own (x:Addr)
 | xd (fs:List (Str × V))
 | met (f x:Addr)
 | rng (lo hi:Int)
 | frz (o:Obj) (u:HO)
 | tbl (ps:Array Value)
 | ext (φ : Heap->Prop)
abbrev Hp:=Addr->Option HO
def upd (H:Hp) (a:Addr) (o:HO):Hp:=fun b=>if b=a then some o else H b
theorem qc {H:Hp} {a:Addr} {o:HO}:upd H a o a=some o:=by unfold upd; rw [if_pos rfl]
theorem qd {H:Hp} {a b:Addr} {o:HO} (h:b≠a):upd H a o b=H b:=by unfold upd; rw [if_neg h]
theorem jO {H:Hp} {a:Addr} {o u:HO}:upd (upd H a o) a u=upd H a u:=by
 funext b; unfold upd; split <;> rfl
theorem qca {H:Hp} {a b:Addr} {o u:HO} (h:H a=some o) (h':H b=some u) (d:o≠u):a≠b:=by
 intro e; subst e; rw [h] at h'; exact d (Option.some.inj h')
theorem qh {H:Hp} {a b:Addr} {o:HO} (h:H a=some o) (h':H b=none):a≠b:=by
 intro e; subst e; rw [h] at h'; cases h'
section
variable (P:Program) (w:World)
def zm (H:Hp) (h:Heap) (a:Addr):HO->Prop
 | .lst xs=>xs.length<=sizeLine/\∃ (its:List Value) (n:Nat),qE xs its/\h.get? a=some { cls:=.type "list",data:=.seq its.toArray n }
 | .tup xs=>xs.length<=sizeLine/\∃ its:List Value,qE xs its/\IsTup h a its.toArray
 | .dK kvs=>kvs.length<=sizeLine/\(a == sysModules)=false/\∃ vs,KV kvs vs/\h.DictOf (zW P w) a vs
 | .dT kvs=>kvs.length<=sizeLine/\(a == sysModules)=false/\∃ xs:List (List Key × Addr × Value),
   Paired (fun (p:List Key × V) (q:List Key × Addr × Value)=>p.1=q.1/\H q.2.1=some (.tup (p.1.map kV))/\RelV p.2 q.2.2) kvs xs /\
   ∃ o es ep,h.get? a=some o/\o.ExactDict/\o.data=.dict es ep/\es.toList=xs.map (entryOfKey (tupleKind (zW P w)))/\(xs.map (·.1)).Nodup
 | .set S n=>h.SetOf (intKind P w) a S n
 | .ins C dx fs=>H dx=some (.own a)/\fs.length<=1000/\dx≠a/\h.get? a=some (PySem.W.instObj C dx) /\
   ∃ mA,h.Ns1 dx mA/\(∀ f,jT (fs.lookup f) (mA f))/\PySem.Within mA (fs.map (·.1))
 | .own _=>∃ o,h.get? a=some o
 | .xd fs=>∃ mA,h.Ns1 a mA/\∀ f,jT (fs.lookup f) (mA f)
 | .rng lo hi=>∃ t u v,h.get? a=some { cls:=.type "range",data:=.fields #[.int lo t,.int hi u,.int 1 v] }
 | .frz o u=>h.get? a=some o/\zm H h a u
 | .tbl ps=>h.get? a=some { cls:=.none,data:=.fields ps }
 | .met f x=>h.get? a=some (PySem.W.methodObj (.ref f) (.ref x))
 | .ext φ=>φ h/\(∃ o,h.get? a=some o)/\∀ h1 h2:Heap,φ h1->(∀ o,h1.get? a=some o->h2.get? a=some o) -> φ h2
def HOk (H:Hp) (h:Heap):Prop:=∀ a o,H a=some o->zm P w H h a o
end
section
variable {P:Program} {w:World} {H H':Hp} {h h':Heap} {a:Addr} {o:HO}
theorem zm.lt (x:zm P w H h a o):a<h.objs.size:=by
 cases o with
 | lst xs=>obtain ⟨_,_,_,_,e⟩:=x; exact Heap.lt_size e
 | tup xs=>obtain ⟨_,_,_,p⟩:=x; exact p.lt
 | dK kvs=>obtain ⟨_,_,_,_,o,_,_,e,_⟩:=x; exact Heap.lt_size e
 | dT kvs=>obtain ⟨_,_,_,_,o,_,_,e,_⟩:=x; exact Heap.lt_size e
 | set S n=>obtain ⟨o,_,_,_,e,_⟩:=x; exact Heap.lt_size e
 | ins C dx fs=>obtain ⟨_,_,_,e,_⟩:=x; exact Heap.lt_size e
 | own y=>obtain ⟨_,e⟩:=x; exact Heap.lt_size e
 | xd fs=>obtain ⟨_,⟨_,_,_,e,_⟩,_⟩:=x; exact Heap.lt_size e
 | rng lo hi=>obtain ⟨_,_,_,e⟩:=x; exact Heap.lt_size e
 | frz ob u=>obtain ⟨e,_⟩:=x; exact Heap.lt_size e
 | tbl ps=>exact Heap.lt_size (show h.get? a=some _ from x)
 | met f y=>exact Heap.lt_size (show h.get? a=some _ from x)
 | ext φ=>obtain ⟨_,⟨_,e⟩,_⟩:=x; exact Heap.lt_size e
theorem Paired.mapP {α β : Type} {F G:α -> β -> Prop}:∀ {l₁ : List α} {l₂ : List β},Paired F l₁ l₂ -> (∀ a b,F a b->G a b)->Paired G l₁ l₂
 | _,_,.nil,_=>.nil
 | _,_,.cons r t,f=>.cons (f _ _ r) (Paired.mapP t f)
theorem zm.stay (x:zm P w H h a o) (k:∀ b u,(b=a \/ H b=some (.own a))->h.get? b=some u->h'.get? b=some u)
  (ho:∀ b,H b=some (.own a)->H' b=some (.own a)) (ht:∀ b xs,H b=some (.tup xs)->H' b=some (.tup xs)):zm P w H' h' a o:=by
 induction o with
 | lst xs=>obtain ⟨z,its,n,r,e⟩:=x; exact ⟨z,its,n,r,k _ _ (.inl rfl) e⟩
 | tup xs=>obtain ⟨z,its,r,ob,e,c⟩:=x; exact ⟨z,its,r,ob,k _ _ (.inl rfl) e,c⟩
 | dK kvs=>obtain ⟨z,y,vs,r,ob,es,ep,e,c⟩:=x; exact ⟨z,y,vs,r,ob,es,ep,k _ _ (.inl rfl) e,c⟩
 | dT kvs=>
  obtain ⟨z,y,xs,r,ob,es,ep,e,c⟩:=x
  exact ⟨z,y,xs,Paired.mapP r fun p q z=>⟨z.1,ht _ _ z.2.1,z.2.2⟩,ob,es,ep,k _ _ (.inl rfl) e,c⟩
 | set S n=>obtain ⟨ob,es,ep,t,e,c⟩:=x; exact ⟨ob,es,ep,t,k _ _ (.inl rfl) e,c⟩
 | ins C dx fs=>
  obtain ⟨d,z,ne,e,mA,⟨od,es,ep,e2,c⟩,r⟩:=x
  exact ⟨ho _ d,z,ne,k _ _ (.inl rfl) e,mA,⟨od,es,ep,k _ _ (.inr d) e2,c⟩,r⟩
 | own y=>obtain ⟨ob,e⟩:=x; exact ⟨ob,k _ _ (.inl rfl) e⟩
 | xd fs=>obtain ⟨mA,⟨od,es,ep,e,c⟩,r⟩:=x; exact ⟨mA,⟨od,es,ep,k _ _ (.inl rfl) e,c⟩,r⟩
 | rng lo hi=>obtain ⟨t,u,v,e⟩:=x; exact ⟨t,u,v,k _ _ (.inl rfl) e⟩
 | frz ob u ih=>obtain ⟨e,q⟩:=x; exact ⟨k _ _ (.inl rfl) e,ih q⟩
 | tbl ps=>
  have e:h.get? a=some { cls:=.none,data:=.fields ps }:=x
  show h'.get? a=some { cls:=.none,data:=.fields ps }
  exact k a _ (.inl rfl) e
 | met f y=>
  have e:h.get? a=some (PySem.W.methodObj (.ref f) (.ref y)):=x
  show h'.get? a=some (PySem.W.methodObj (.ref f) (.ref y))
  exact k a _ (.inl rfl) e
 | ext φ=>obtain ⟨p,⟨o,e⟩,st⟩:=x; exact ⟨st _ _ p fun o q=>k _ _ (.inl rfl) q,⟨o,k _ _ (.inl rfl) e⟩,st⟩
theorem HOk.lt (x:HOk P w H h) (e:H a=some o):a<h.objs.size:=(x a o e).lt
theorem HOk.fresh (x:HOk P w H h) (e:h.objs.size<=a):H a=none:=by
 cases q:H a with
 | none=>rfl
 | some u=>exact absurd (Nat.lt_of_lt_of_le (x.lt q) e) (Nat.lt_irrefl _)
theorem HOk.kept (x:HOk P w H h) (k:∀ b u,h.get? b=some u->h'.get? b=some u):HOk P w H h':=fun a o e=>
 (x a o e).stay (fun b u _ q=>k b u q) (fun _ q=>q) fun _ _ q=>q
theorem HOk.laid (x:HOk P w H h) (k:∀ b u,h.get? b=some u->h'.get? b=some u) (hp:h.objs.size<=a) (new:zm P w (upd H a o) h' a o):HOk P w (upd H a o) h':=fun b u e=>by
 have hn:=x.fresh hp
 by_cases hb:b=a
 ·subst hb; rw [qc] at e; cases e; exact new
 ·rw [qd hb] at e
  exact (x b u e).stay (fun c v _ q=>k c v q) (fun c q=>by rw [qd (qh q hn)]; exact q) fun c xs q=>by rw [qd (qh q hn)]; exact q
end
def Rd (H:Hp) (a:Addr) (u:HO):Prop:=H a=some u \/ ∃ o,H a=some (.frz o u)
theorem Rd.ok {P:Program} {w:World} {H:Hp} {h:Heap} {a:Addr} {u:HO} (r:Rd H a u) (x:HOk P w H h):zm P w H h a u:=by
 rcases r with r | ⟨o,r⟩
 ·exact x a u r
 ·obtain ⟨_,q⟩:=x a _ r
  exact q
def Mut:Option HO->Prop
 | some (.lst _)=>True
 | some (.dK _)=>True
 | some (.dT _)=>True
 | some (.set _ _)=>True
 | some (.ins _ _ _)=>True
 | some (.ext _)=>True
 | _=>False
section
variable {P:Program} {w:World} {H:Hp} {h h':Heap} {x e:Addr} {o':HO}
theorem HOk.write (ok:HOk P w H h) (mu:Mut (H x)) (he:e=x \/ H e=some (.own x)) (k:∀ b u,b≠e->h.get? b=some u->h'.get? b=some u) (heo:∃ u,h'.get? e=some u)
  (new:zm P w (upd H x o') h' x o'):HOk P w (upd H x o') h':=fun b u q=>by
 have nown:∀ c y,H c=some (.own y)->c≠x:=fun c y r z=>by subst z; rw [r] at mu; exact mu
 have ntup:∀ c xs,H c=some (.tup xs)->c≠x:=fun c xs r z=>by subst z; rw [r] at mu; exact mu
 by_cases hb:b=x
 ·subst hb; rw [qc] at q; cases q; exact new
 ·rw [qd hb] at q
  by_cases hbe:b=e
  ·have q':H b=some (.own x):=by
    rcases he with z | z
    ·exact absurd (hbe.trans z) hb
    ·rw [hbe]; exact z
   rw [q] at q'; cases q'
   obtain ⟨v,hv⟩:=heo
   exact ⟨v,by rw [hbe]; exact hv⟩
  ·refine (ok b u q).stay (fun c v hc r=>k c v ?_ r) (fun c r=>by rw [qd (nown c b r)]; exact r) fun c xs r=>by rw [qd (ntup c xs r)]; exact r
   rcases hc with rfl | hc
   ·exact hbe
   ·rintro rfl
    rcases he with z | z
    ·exact nown c b hc z
    ·rw [hc] at z; cases z; exact hb rfl
end
structure Un (fs ex:List Addr) (H H':Hp) (h h':Heap):Prop where
 keep:∀ b o,h.get? b=some o->H b=none->b∉fs->b∉ex->h'.get? b=some o
 slot:∀ b o,h.get? b=some o->H b=none->b∈fs->b∉ex->∃ sl,h'.get? b=some { o with slots:=sl }
 free:∀ b o,h.get? b=some o->H b=none->b∉ex->H' b=none
 there:∀ b o,h.get? b=some o->b∉ex->∃ o',h'.get? b=some o'
 tups:∀ b xs,H b=some (.tup xs)->H' b=some (.tup xs)
 frzs:∀ b o u,H b=some (.frz o u)->H' b=some (.frz o u)
 tbls:∀ b ps,H b=some (.tbl ps)->∃ more,H' b=some (.tbl (ps++more))
section
variable {fs fs' ex ex':List Addr} {H H1 H2:Hp} {h h1 h2 h':Heap} {a x e:Addr} {o:HO}
theorem Un.any (u:Un fs ex H H1 h h1) {b:Addr} {ob:Obj} (q:h.get? b=some ob) (n:H b=none) (hx:b∉ex):∃ sl,h1.get? b=some { ob with slots:=sl }:=by
 by_cases hb:b∈fs
 ·exact u.slot b ob q n hb hx
 ·exact ⟨ob.slots,u.keep b ob q n hb hx⟩
theorem Un.kept (k:∀ b u,h.get? b=some u->h'.get? b=some u):Un fs ex H H h h' :=
 ⟨fun b ob q _ _ _=>k b ob q,fun b ob q _ _ _=>⟨ob.slots,k b ob q⟩,fun _ _ _ n _=>n,fun b ob q _=>⟨ob,k b ob q⟩,fun _ _ q=>q,fun _ _ _ q=>q,fun _ ps q=>⟨#[],by rw [q]; simp⟩⟩
theorem Un.refl:Un fs ex H H h h:=Un.kept fun _ _ q=>q
theorem Un.laid (k:∀ b u,h.get? b=some u->h'.get? b=some u) (hp:h.objs.size<=a) (hn:H a=none):Un fs ex H (upd H a o) h h' where
 keep:=fun b u q _ _ _=>k b u q
 slot:=fun b u q _ _ _=>⟨u.slots,k b u q⟩
 free:=fun b u q n _=>by rw [qd (Nat.ne_of_lt (Nat.lt_of_lt_of_le (Heap.lt_size q) hp))]; exact n
 there:=fun b u q _=>⟨u,k b u q⟩
 tups:=fun b xs q=>by rw [qd (qh q hn)]; exact q
 frzs:=fun b u xs q=>by rw [qd (qh q hn)]; exact q
 tbls:=fun b ps q=>⟨#[],by rw [qd (qh q hn),q]; simp⟩
theorem Un.write (mu:Mut (H x)) (he:e=x \/ H e=some (.own x)) (k:∀ b u,b≠e->h.get? b=some u->h'.get? b=some u) (heo:∃ u,h'.get? e=some u):Un fs ex H (upd H x o) h h':=by
 have hx:∀ b,H b=none->b≠x:=fun b n z=>by subst z; rw [n] at mu; exact mu
 have hb:∀ b,H b=none->b≠e:=fun b n z=>by
  subst z
  rcases he with r | r
  ·exact hx b n r
  ·rw [n] at r; cases r
 have hm:∀ b u,H b=some u->¬ Mut (some u)->b≠x:=fun b u q nm z=>by subst z; rw [q] at mu; exact nm mu
 refine ⟨fun b u q n _ _=>k b u (hb b n) q,fun b u q n _ _=>⟨u.slots,k b u (hb b n) q⟩,fun b u q n _=>by rw [qd (hx b n)]; exact n,fun b u q _=>?_,
  fun b xs q=>by rw [qd (hm b _ q fun z=>z)]; exact q,fun b u xs q=>by rw [qd (hm b _ q fun z=>z)]; exact q,fun b ps q=>⟨#[],by rw [qd (hm b _ q fun z=>z),q]; simp⟩⟩
 by_cases hbe:b=e
 ·subst hbe; exact heo
 ·exact ⟨u,k b u hbe q⟩
end
def trk (h:Heap) (H:Hp):List Addr:=(List.range h.objs.size).filter fun a=>(H a).isSome
def qaI (h:Heap) (H:Hp):Heap:=PySem.W.hideAll h (trk h H)
theorem qiS (h:Heap) (H:Hp):(qaI h H).objs.size=h.objs.size:=PySem.W.hideAll_size _ _
theorem qkq {h:Heap} {H:Hp} {b:Addr} {o:Obj} (e:h.get? b=some o) (n:H b=none):(qaI h H).get? b=some o :=
 PySem.W.hideAll_get _ e fun hm=>by
  have q:(H b).isSome=true:=(List.mem_filter.mp hm).2
  rw [n] at q; simp at q
theorem qlS {h:Heap} {H:Hp} {b:Addr} {o:Obj} (e:(qaI h H).get? b=some o):h.get? b=some o/\H b=none:=by
 have e':h.get? b=some o:=PySem.W.of_hideAll (trk h H) e
 refine ⟨e',?_⟩
 cases q:H b with
 | none=>rfl
 | some x=>
  have hm:b∈trk h H:=List.mem_filter.mpr ⟨List.mem_range.mpr (Heap.lt_size e'),by simp [q]⟩
  have z:(qaI h H).get? b=none:=PySem.W.hideAll_none (trk h H) hm
  rw [z] at e; cases e
end L2
namespace L2
open PySem PySem.Spec PyProof.Rows
structure Mod (K:PySem.W.Frag) (mg:Str->Option Value) (base:Heap):Prop where
 kin:K.In base
 glob:base.Ns mainGlobals mg
 blt:∃ mb,base.Ns builtinsNs mb/\∀ x:Str,x ≠ "__name__" -> mb x=bootBuiltins x
 nolimit:base.NoLimit
structure Cx where
 prog:Program
 w:World
 K:PySem.W.Frag
 mg:Str->Option Value
 base:Heap
 A:Around
 N:List Str
 s_0:Shared
 H_0:Hp
 env:Env
 outer:List Env
 stack:List Env
 ex:List Addr
 fn:Str->Bool
 calm:Bool
 pn:List (Addr × Obj)
 xe:Value->Shared->Prop
def frs (l:List Env):List Addr:=l.filterMap (·.frame)
abbrev Cx.fs (X:Cx):List Addr:=frs X.outer
def Vis (sc:Scope) (x:Str):Prop:=sc.names.lookup x=some .local \/ sc.names.lookup x=some .cell \/ sc.names.lookup x=some .free
def Loc (sc:Scope) (x:Str):Prop:=sc.names.lookup x=some .local \/ sc.names.lookup x=some .cell
def Look (env:Env) (h:Heap) (m:Str->Option Value) (x:Str) (u:Value):Prop :=
 (env.kindOf x=some .local/\m x=some u) \/ ((env.kindOf x=some .cell \/ env.kindOf x=some .free)/\∃ c,env.cells.lookup x=some c/\h.IsCell c (some u))
structure Cx.Ok (X:Cx):Prop where
 mod:Mod X.K X.mg X.base
 kind:X.env.scope.kind=.function
 glob:X.env.globals=mainGlobals
 blt:X.env.builtins=builtinsNs
 above:X.s_0.heap.objs.size<=X.env.locals
 inj:∀ x y c,X.env.cells.lookup x=some c->X.env.cells.lookup y=some c->x=y
 has:∀ x,(X.env.kindOf x=some .cell \/ X.env.kindOf x=some .free)->∃ c,X.env.cells.lookup x=some c
 cab:∀ x c,X.fn x=true->X.env.cells.lookup x=some c->X.s_0.heap.objs.size<=c
 hd:X.calm=true->X.A.handled=none
 frames:X.A.frames=some X.stack
 stk:X.stack=X.outer \/ (X.stack=X.env::X.outer/\X.env.frame=some X.env.locals)
 exf:∀ b∈X.ex,b≠X.env.locals/\∀ x c,X.env.cells.lookup x=some c->c≠b
 bs:∀ b o,X.base.get? b=some o->X.s_0.heap.get? b=some o/\X.H_0 b=none
 bsz:X.base.objs.size<=X.s_0.heap.objs.size
 noex:∀ b o,X.base.get? b=some o->b∉X.ex
 exfs:∀ b∈X.ex,b∉X.fs
 funs:X.s_0.heap.FunFrames X.base X.outer
 frf:∀ b∈X.fs,X.H_0 b=none
structure Inv (X:Cx) (pins:List (Addr × Obj)) (σ : List (Option V)) (H:Hp) (s:Shared):Prop where
 ok:X.Ok
 os:s.os=X.s_0.os
 bare:AllBare s.gens
 base:Un X.fs X.ex X.H_0 H X.s_0.heap s.heap
 loc:∃ m,s.heap.Ns X.env.locals m/\∀ (i:Nat) (x:Str) (v:V),X.N[i]? = some x -> σ[i]? = some (some v)->Vis X.env.scope x->∃ u,RelV v u/\Look X.env s.heap m x u
 cell:∀ x c,X.env.cells.lookup x=some c->∃ v,s.heap.IsCell c v
 free:H X.env.locals=none
 freeC:∀ x c,X.env.cells.lookup x=some c->H c=none
 pin:∀ p∈X.pn++pins,s.heap.get? p.1=some p.2/\H p.1=none/\p.1≠X.env.locals/\p.1∉X.fs/\∀ v,p.2.data≠.cell v
 hok:HOk X.prog X.w H s.heap
 len:σ.length=X.N.length
section
variable {X:Cx} {pins:List (Addr × Obj)} {σ : List (Option V)} {H H':Hp} {s:Shared} {h':Heap}
theorem Cx.Ok.nofr (ok:X.Ok) {b:Addr} {o:Obj} (e:X.base.get? b=some o):b∉X.fs:=fun hb=>by
 have:=(ok.funs.mem hb).1
 rw [e] at this; cases this
theorem Inv.bs (I:Inv X pins σ H s):∀ b o,X.base.get? b=some o->s.heap.get? b=some o/\H b=none:=fun b o e=>
 ⟨I.base.keep b o (I.ok.bs b o e).1 (I.ok.bs b o e).2 (I.ok.nofr e) (I.ok.noex b o e),I.base.free b o (I.ok.bs b o e).1 (I.ok.bs b o e).2 (I.ok.noex b o e)⟩
theorem Inv.bk (I:Inv X pins σ H s):∀ b o,X.base.get? b=some o->s.heap.get? b=some o:=fun b o e=>(I.bs b o e).1
theorem Inv.mod (I:Inv X pins σ H s):Mod X.K X.mg X.base:=I.ok.mod
theorem Inv.kIn (I:Inv X pins σ H s):X.K.In s.heap:=I.ok.mod.kin.keeps I.bk
theorem Inv.lt (I:Inv X pins σ H s):X.env.locals<s.heap.objs.size:=let ⟨_,hn,_⟩:=I.loc; hn.lt
theorem Inv.sz (I:Inv X pins σ H s):X.s_0.heap.objs.size<=s.heap.objs.size:=Nat.le_trans I.ok.above (Nat.le_of_lt I.lt)
theorem Inv.nofs (I:Inv X pins σ H s) {a:Addr} (h:s.heap.objs.size<=a):a∉X.fs:=fun hb=>by
 obtain ⟨_,o,ho,_⟩:=I.ok.funs.mem hb
 exact absurd (Nat.lt_of_lt_of_le (Heap.lt_size ho) (Nat.le_trans I.sz h)) (Nat.lt_irrefl _)
theorem Inv.cne (I:Inv X pins σ H s):∀ x c,X.env.cells.lookup x=some c->c≠X.env.locals:=fun x c e z=>by
 obtain ⟨v,o,ho,hd⟩:=I.cell x c e
 obtain ⟨m,⟨o',es,ep,ho',hd',_⟩,_⟩:=I.loc
 rw [z,ho'] at ho; cases ho; rw [hd'] at hd; cases hd
theorem Inv.funs (I:Inv X pins σ H s):s.heap.FunFrames X.base X.outer:=by
 have all:∀ (l:List Env),(∀ b∈frs l,b∈X.fs)->X.s_0.heap.FunFrames X.base l->s.heap.FunFrames X.base l:=by
  intro l
  induction l with
  | nil=>intro _ _; trivial
  | cons env r ih=>
   intro hs hl
   obtain ⟨hk,⟨L,o,hf,hn,ho,hd⟩,hr⟩:=hl
   have hL:L∈X.fs:=hs L (by unfold frs; rw [List.filterMap_cons,hf]; exact List.mem_cons_self)
   obtain ⟨sl,e⟩:=I.base.slot L o ho (I.ok.frf L hL) hL fun z=>I.ok.exfs L z hL
   exact ⟨hk,⟨L,_,hf,hn,e,hd⟩,ih (fun b hb=>hs b (by unfold frs; rw [List.filterMap_cons,hf]; exact List.mem_cons_of_mem _ hb)) hr⟩
 exact all X.outer (fun _ hb=>hb) I.ok.funs
theorem Inv.stack (I:Inv X pins σ H s):s.heap.FunFrames X.base X.stack:=by
 rcases I.ok.stk with e | ⟨e,hf⟩
 ·rw [e]; exact I.funs
 ·rw [e]
  obtain ⟨m,hn,_⟩:=I.loc
  refine .cons (by rw [I.ok.kind]; decide) hf hn ?_ I.funs
  exact Heap.get?_none_of_le (Nat.le_trans I.ok.bsz I.ok.above)
theorem Inv.stkSub (I:Inv X pins σ H s):∀ b∈frs X.stack,b∈X.env.locals::X.fs:=fun b hb=>by
 rcases I.ok.stk with e | ⟨e,hf⟩
 ·rw [e] at hb; exact List.mem_cons_of_mem _ hb
 ·rw [e] at hb
  unfold frs at hb
  rw [List.filterMap_cons,hf] at hb
  exact hb
theorem Inv.stkFree (I:Inv X pins σ H s):∀ b∈frs X.stack,H b=none:=fun b hb=>by
 rcases List.mem_cons.mp (I.stkSub b hb) with e | hb
 ·rw [e]; exact I.free
 ·obtain ⟨_,o,ho,_⟩:=I.ok.funs.mem hb
  exact I.base.free b o ho (I.ok.frf b hb) fun z=>I.ok.exfs b z hb
theorem Inv.step {g':Array GenState} {t':Nat} {d':Drawn} {ch:List Addr} (I:Inv X pins σ H s)
  (hch:∀ b∈ch,(b∈X.ex \/ X.s_0.heap.objs.size<=b)/\b≠X.env.locals/\(∀ x c,X.env.cells.lookup x=some c->c≠b)/\∀ p∈X.pn++pins,p.1≠b)
  (keep:∀ b o,b≠X.env.locals->b∉X.fs->b∉ch->s.heap.get? b=some o->H b=none->h'.get? b=some o)
  (slot:∀ b o,b≠X.env.locals->b∈X.fs->b∉ch->s.heap.get? b=some o->H b=none->∃ sl,h'.get? b=some { o with slots:=sl }) (free:∀ b o,b∉ch->s.heap.get? b=some o->H b=none->H' b=none)
  (there:∀ b o,b∉ch->s.heap.get? b=some o->∃ o',h'.get? b=some o')
  (tups:∀ b xs,H b=some (.tup xs)->H' b=some (.tup xs)) (frzs:∀ b o u,H b=some (.frz o u)->H' b=some (.frz o u)) (tbls:∀ b ps,H b=some (.tbl ps)->∃ more,H' b=some (.tbl (ps++more)))
  (ns:∀ m,s.heap.Ns X.env.locals m->h'.Ns X.env.locals m) (hok:HOk X.prog X.w H' h') (hg:AllBare g') :
  Inv X pins σ H' { s with heap:=h',gens:=g',drawn:=d',toks:=t' }:=by
 have neL:∀ b o,X.s_0.heap.get? b=some o->b≠X.env.locals:=fun b o e=>Nat.ne_of_lt (Nat.lt_of_lt_of_le (Heap.lt_size e) I.ok.above)
 have neC:∀ b o,X.s_0.heap.get? b=some o->b∉X.ex->b∉ch:=fun b o e hx hb=>by
  rcases (hch b hb).1 with z | z
  ·exact hx z
  ·exact absurd (Nat.lt_of_lt_of_le (Heap.lt_size e) z) (Nat.lt_irrefl _)
 have cellK:∀ x c,X.env.cells.lookup x=some c->∀ v,s.heap.IsCell c v->h'.IsCell c v:=fun x c e v ⟨o,ho,hd⟩=>by
  have nch:c∉ch:=fun z=>(hch c z).2.2.1 x c e rfl
  by_cases hc:c∈X.fs
  ·obtain ⟨sl,q⟩:=slot c o (I.cne x c e) hc nch ho (I.freeC x c e)
   exact ⟨_,q,hd⟩
  ·exact ⟨o,keep c o (I.cne x c e) hc nch ho (I.freeC x c e),hd⟩
 refine ⟨I.ok,I.os,hg,⟨fun b o e n hb hx=>?_,fun b o e n hb hx=>?_,fun b o e n hx=>?_,fun b o e hx=>?_,fun b xs e=>tups b xs (I.base.tups b xs e),fun b o xs e=>frzs b o xs (I.base.frzs b o xs e),fun b ps e=>?_⟩,?_,fun x c e=>?_,?_,fun x c e=>?_,fun p hp=>?_,hok,I.len⟩
 ·exact keep b o (neL b o e) hb (neC b o e hx) (I.base.keep b o e n hb hx) (I.base.free b o e n hx)
 ·obtain ⟨sl,e1⟩:=I.base.slot b o e n hb hx
  obtain ⟨sl',e2⟩:=slot b _ (neL b o e) hb (neC b o e hx) e1 (I.base.free b o e n hx)
  exact ⟨sl',e2⟩
 ·obtain ⟨o',e1⟩:=I.base.there b o e hx
  exact free b o' (neC b o e hx) e1 (I.base.free b o e n hx)
 ·obtain ⟨o',e1⟩:=I.base.there b o e hx
  exact there b o' (neC b o e hx) e1
 ·obtain ⟨m1,e1⟩:=I.base.tbls b ps e
  obtain ⟨m2,e2⟩:=tbls b _ e1
  exact ⟨m1++m2,by rw [e2,Array.append_assoc]⟩
 ·obtain ⟨m,hn,hl⟩:=I.loc
  refine ⟨m,ns m hn,fun i x v e1 e2 e3=>?_⟩
  obtain ⟨u,r,l⟩:=hl i x v e1 e2 e3
  refine ⟨u,r,?_⟩
  rcases l with l | ⟨k,c,e,z⟩
  ·exact .inl l
  ·exact .inr ⟨k,c,e,cellK x c e _ z⟩
 ·obtain ⟨v,z⟩:=I.cell x c e
  exact ⟨v,cellK x c e v z⟩
 ·obtain ⟨m,⟨o,_,_,ho,_⟩,_⟩:=I.loc
  exact free _ o (fun z=>(hch _ z).2.1 rfl) ho I.free
 ·obtain ⟨v,o,ho,hd⟩:=I.cell x c e
  exact free c o (fun z=>(hch c z).2.2.1 x c e rfl) ho (I.freeC x c e)
 ·obtain ⟨e,n,ne,nf,d⟩:=I.pin p hp
  have nch:p.1∉ch:=fun z=>(hch p.1 z).2.2.2 p hp rfl
  exact ⟨keep p.1 p.2 ne nf nch e n,free p.1 p.2 nch e n,ne,nf,d⟩
theorem Inv.un {t':Nat} (I:Inv X pins σ H s) (u:Un X.fs [] H H' s.heap h') (hok:HOk X.prog X.w H' h'):Inv X pins σ H' { s with heap:=h',toks:=t' }:=by
 obtain ⟨m,⟨o,es,ep,ho,r⟩,_⟩:=id I.loc
 obtain ⟨sl,hL⟩:=u.any ho I.free (by simp)
 exact I.step (g':=s.gens) (d':=s.drawn) (ch:=[]) (fun _ z=>nomatch z) (fun b o _ hb _ e n=>u.keep b o e n hb (by simp)) (fun b o _ hb _ e n=>u.slot b o e n hb (by simp)) (fun b o _ e n=>u.free b o e n (by simp)) (fun b o _ e=>u.there b o e (by simp)) u.tups u.frzs u.tbls (fun m' hm=>by
  obtain ⟨o',es',ep',ho',r'⟩:=hm
  rw [ho] at ho'; cases ho'
  exact ⟨_,es',ep',hL,r'⟩) hok I.bare
theorem Inv.call {g':Array GenState} {t':Nat} {d':Drawn} {ch:List Addr} (I:Inv X pins σ H s) (u:Un (frs X.stack) ch H H' s.heap h') (hok:HOk X.prog X.w H' h') (hg:AllBare g')
  (hch:∀ b∈ch,(b∈X.ex \/ X.s_0.heap.objs.size<=b)/\b≠X.env.locals/\(∀ x c,X.env.cells.lookup x=some c->c≠b)/\∀ p∈X.pn++pins,p.1≠b) :
  Inv X pins σ H' { s with heap:=h',gens:=g',drawn:=d',toks:=t' }:=by
 obtain ⟨m,⟨o,es,ep,ho,r⟩,_⟩:=id I.loc
 obtain ⟨sl,hL⟩:=u.any ho I.free fun z=>(hch _ z).2.1 rfl
 exact I.step (ch:=ch) hch (fun b o hL hb hc e n=>u.keep b o e n (fun z=>(List.mem_cons.mp (I.stkSub b z)).elim hL hb) hc) (fun b o _ _ hc e n=>u.any e n hc) (fun b o hc e n=>u.free b o e n hc) (fun b o hc e=>u.there b o e hc) u.tups u.frzs u.tbls (fun m' hm=>by
  obtain ⟨o',es',ep',ho',r'⟩:=hm
  rw [ho] at ho'; cases ho'
  exact ⟨_,es',ep',hL,r'⟩) hok hg
theorem Inv.turned {t':Nat} {it:Addr} (I:Inv X pins σ H s) (k:∀ b o,b≠it->s.heap.get? b=some o->h'.get? b=some o) (hn:H it=none) (hL:it≠X.env.locals)
  (h1:it∈X.ex \/ X.s_0.heap.objs.size<=it) (h2:∀ x c,X.env.cells.lookup x=some c->c≠it) (h3:∀ p∈X.pn++pins,p.1≠it):Inv X pins σ H { s with heap:=h',toks:=t' }:=by
 have nit:∀ b u,H b=some u->b≠it:=fun b u e z=>by rw [z,hn] at e; cases e
 refine I.step (g':=s.gens) (d':=s.drawn) (ch:=[it]) (fun b hb=>?_) (fun b o _ _ hc e _=>k b o (fun z=>hc (by simp [z])) e) (fun b o _ _ hc e _=>⟨o.slots,k b o (fun z=>hc (by simp [z])) e⟩) (fun _ _ _ _ n=>n)
  (fun b o hc e=>⟨o,k b o (fun z=>hc (by simp [z])) e⟩) (fun _ _ e=>e) (fun _ _ _ e=>e) (fun b ps e=>⟨#[],by rw [e]; simp⟩) (fun m hm=>?_) (fun b u e=>?_) I.bare
 ·have e:b=it:=by simpa using hb
  subst e
  exact ⟨h1,hL,h2,h3⟩
 ·obtain ⟨o,es,ep,ho,r⟩:=hm
  exact ⟨o,es,ep,k _ o (Ne.symm hL) ho,r⟩
 ·refine (I.hok b u e).stay (fun c v hc q=>k c v ?_ q) (fun _ q=>q) fun _ _ q=>q
  rcases hc with z | z
  ·rw [z]; exact nit b u e
  ·exact nit c _ z
theorem Inv.tok (I:Inv X pins σ H s) (t:Nat):Inv X pins σ H { s with toks:=t }:=I.un (h':=s.heap) (t':=t) Un.refl I.hok
theorem Inv.kept {t':Nat} (I:Inv X pins σ H s) (k:∀ b u,s.heap.get? b=some u->h'.get? b=some u):Inv X pins σ H { s with heap:=h',toks:=t' }:=I.un (Un.kept k) (I.hok.kept k)
theorem Inv.laid {a:Addr} {o:HO} {t':Nat} (I:Inv X pins σ H s) (k:∀ b u,s.heap.get? b=some u->h'.get? b=some u) (hp:s.heap.objs.size<=a) (new:zm X.prog X.w (upd H a o) h' a o) :
  Inv X pins σ (upd H a o) { s with heap:=h',toks:=t' }:=I.un (Un.laid k hp (I.hok.fresh hp)) (I.hok.laid k hp new)
theorem Inv.write {x e:Addr} {o:HO} {t':Nat} (I:Inv X pins σ H s) (mu:Mut (H x)) (he:e=x \/ H e=some (.own x)) (k:∀ b u,b≠e->s.heap.get? b=some u->h'.get? b=some u) (heo:∃ u,h'.get? e=some u)
  (new:zm X.prog X.w (upd H x o) h' x o):Inv X pins σ (upd H x o) { s with heap:=h',toks:=t' }:=I.un (Un.write mu he k heo) (I.hok.write mu he k heo new)
theorem Inv.weak {σ':List (Option V)} (I:Inv X pins σ H s) (hl:σ'.length = σ.length) (w:∀ (i:Nat) v,σ'[i]? = some (some v) -> σ[i]? = some (some v)):Inv X pins σ' H s :=
 ⟨I.ok,I.os,I.bare,I.base,let ⟨m,hn,hl'⟩:=I.loc; ⟨m,hn,fun i x v e1 e2 e3=>hl' i x v e1 (w i v e2) e3⟩,I.cell,I.free,I.freeC,I.pin,I.hok,hl.trans I.len⟩
theorem Inv.pins_of {pins':List (Addr × Obj)} (I:Inv X pins σ H s) (h:∀ p∈pins',s.heap.get? p.1=some p.2/\H p.1=none/\p.1≠X.env.locals/\p.1∉X.fs/\∀ v,p.2.data≠.cell v):Inv X pins' σ H s :=
 ⟨I.ok,I.os,I.bare,I.base,I.loc,I.cell,I.free,I.freeC,fun p hp=>(List.mem_append.mp hp).elim (fun z=>I.pin p (List.mem_append_left _ z)) (h p),I.hok,I.len⟩
theorem qcH {N:List Str} (hN:N.Nodup) {i j:Nat} {x:Str} (a:N[i]? = some x) (b:N[j]? = some x):i=j:=by
 obtain ⟨h1,e1⟩:=List.getElem?_eq_some_iff.mp a
 obtain ⟨h2,e2⟩:=List.getElem?_eq_some_iff.mp b
 exact (List.getElem_inj hN).mp (e1.trans e2.symm)
theorem qel {M:Model} {A:Around} {E:Value->Shared->Prop} {i:Nat} {x:Str} {v:V} {u:Value} {Q:Unit->Shared->Prop} (I:Inv X pins σ H s) (hN:X.N.Nodup) (hi:X.N[i]? = some x) (hx:Loc X.env.scope x) (r:RelV v u)
  (h:∀ s',Inv X pins (σ.set i (some v)) H s'->(∃ a,Heap.SameBut a s.heap s'.heap/\(a=X.env.locals \/ X.env.cells.lookup x=some a))->Q () s') (hf:X.fn x=true \/ X.env.scope.names.lookup x=some .local:=by first | exact .inl rfl | exact .inr rfl | assumption):wpAny M A (storeName X.env x u) Q E s:=by
 obtain ⟨m,hn,hl⟩:=id I.loc
 have hcls:(X.env.scope.kind == .class||(X.env.scope.kind == .module&&X.env.locals != X.env.globals))=false:=by rw [I.ok.kind]; rfl
 have hiσ : i < σ.length:=by rw [I.len]; exact (List.getElem?_eq_some_iff.mp hi).1
 have cne:=I.cne
 have tracked:∀ {a:Addr} {h':Heap},(∃ o,s.heap.get? a=some o/\H a=none)->Heap.SameBut a s.heap h'->HOk X.prog X.w H h':=fun {a h'} ha hs b ob e=>by
  obtain ⟨_,_,hfree⟩:=ha
  refine (I.hok b ob e).stay (fun c w' hc q=>(hs.2 c ?_).trans q) (fun _ q=>q) fun _ _ q=>q
  rintro rfl
  rcases hc with rfl | hc
  ·rw [hfree] at e; cases e
  ·rw [hfree] at hc; cases hc
 rcases hx with hk | hk
 ·refine wpAny_storeName_local hk hn (fun h' hn' hs=>?_) hcls
  obtain ⟨oL,_,_,hoL,_⟩:=id hn
  refine h _ ⟨I.ok,I.os,I.bare,⟨fun b o e n hb hx=>?_,fun b o e n hb hx=>?_,I.base.free,fun b o e hx=>?_,I.base.tups,I.base.frzs,I.base.tbls⟩,⟨_,hn',fun j y v' e1 e2 e3=>?_⟩,fun y c e=>?_,I.free,I.freeC,fun p hp=>?_,tracked ⟨oL,hoL,I.free⟩ hs,by simpa using I.len⟩ ⟨_,hs,.inl rfl⟩
  ·exact (hs.2 b (Nat.ne_of_lt (Nat.lt_of_lt_of_le (Heap.lt_size e) I.ok.above))).trans (I.base.keep b o e n hb hx)
  ·obtain ⟨sl,e1⟩:=I.base.slot b o e n hb hx
   exact ⟨sl,(hs.2 b (Nat.ne_of_lt (Nat.lt_of_lt_of_le (Heap.lt_size e) I.ok.above))).trans e1⟩
  ·obtain ⟨o',e1⟩:=I.base.there b o e hx
   exact ⟨o',(hs.2 b (Nat.ne_of_lt (Nat.lt_of_lt_of_le (Heap.lt_size e) I.ok.above))).trans e1⟩
  ·by_cases hj:j=i
   ·subst hj
    rw [hi] at e1; cases e1
    rw [List.getElem?_set_self hiσ] at e2
    cases e2
    exact ⟨u,r,.inl ⟨hk,by simp⟩⟩
   ·rw [List.getElem?_set_ne (Ne.symm hj)] at e2
    obtain ⟨u',r',q⟩:=hl j y v' e1 e2 e3
    refine ⟨u',r',?_⟩
    rcases q with ⟨k,e⟩ | ⟨k,c,e,z⟩
    ·refine .inl ⟨k,?_⟩
     have:y≠x:=fun e=>hj (qcH hN e1 (e ▸ hi))
     simp [this,e]
    ·exact .inr ⟨k,c,e,z.sameBut hs (cne y c e)⟩
  ·obtain ⟨w',z⟩:=I.cell y c e
   exact ⟨w',z.sameBut hs (cne y c e)⟩
  ·obtain ⟨e,n,ne,nf,d⟩:=I.pin p hp
   exact ⟨(hs.2 p.1 ne).trans e,n,ne,nf,d⟩
 ·have hfn:X.fn x=true:=by
   rcases hf with z | z
   ·exact z
   ·rw [z] at hk; cases hk
  obtain ⟨c,hc⟩:=I.ok.has x (.inl hk)
  obtain ⟨w',z⟩:=I.cell x c hc
  refine wpAny_storeName_cell I.ok.kind hk hc z (fun h' hc' hs=>?_)
  obtain ⟨oc,hoc,hocd⟩:=id z
  refine h { s with heap:=h' } ⟨I.ok,I.os,I.bare,⟨fun b o e n hb hx=>?_,fun b o e n hb hx=>?_,I.base.free,fun b o e hx=>?_,I.base.tups,I.base.frzs,I.base.tbls⟩,⟨m,hn.sameBut hs (Ne.symm (cne x c hc)),fun j y v' e1 e2 e3=>?_⟩,fun y c' e=>?_,I.free,I.freeC,fun p hp=>?_,tracked ⟨oc,hoc,I.freeC x c hc⟩ hs,by simpa using I.len⟩ ⟨c,hs,.inr hc⟩
  ·exact (hs.2 b (Nat.ne_of_lt (Nat.lt_of_lt_of_le (Heap.lt_size e) (I.ok.cab x c hfn hc)))).trans (I.base.keep b o e n hb hx)
  ·obtain ⟨sl,e1⟩:=I.base.slot b o e n hb hx
   exact ⟨sl,(hs.2 b (Nat.ne_of_lt (Nat.lt_of_lt_of_le (Heap.lt_size e) (I.ok.cab x c hfn hc)))).trans e1⟩
  ·obtain ⟨o',e1⟩:=I.base.there b o e hx
   exact ⟨o',(hs.2 b (Nat.ne_of_lt (Nat.lt_of_lt_of_le (Heap.lt_size e) (I.ok.cab x c hfn hc)))).trans e1⟩
  ·by_cases hj:j=i
   ·subst hj
    rw [hi] at e1; cases e1
    rw [List.getElem?_set_self hiσ] at e2
    cases e2
    exact ⟨u,r,.inr ⟨.inl hk,c,hc,hc'⟩⟩
   ·rw [List.getElem?_set_ne (Ne.symm hj)] at e2
    obtain ⟨u',r',q⟩:=hl j y v' e1 e2 e3
    refine ⟨u',r',?_⟩
    rcases q with q | ⟨k,c',e,z'⟩
    ·exact .inl q
    ·refine .inr ⟨k,c',e,z'.sameBut hs ?_⟩
     rintro rfl
     exact hj (qcH hN e1 (I.ok.inj _ _ _ e hc ▸ hi))
  ·by_cases hcc:c'=c
   ·subst hcc; exact ⟨_,hc'⟩
   ·obtain ⟨w2,z2⟩:=I.cell y c' e
    exact ⟨w2,z2.sameBut hs hcc⟩
  ·obtain ⟨e,n,ne,nf,d⟩:=I.pin p hp
   refine ⟨(hs.2 p.1 ?_).trans e,n,ne,nf,d⟩
   intro q
   rw [q,hoc] at e
   have q':oc=p.2:=Option.some.inj e
   exact d w' (by rw [<- q']; exact hocd)
theorem qaJ {M:Model} {A:Around} {E:Value->Shared->Prop} {i:Nat} {x:Str} {v:V} {u:Value} {Q:Unit->Shared->Prop} (I:Inv X pins σ H s) (hN:X.N.Nodup) (hi:X.N[i]? = some x) (hx:Loc X.env.scope x) (r:RelV v u)
  (h:∀ s',Inv X pins (σ.set i (some v)) H s'->Q () s') (hf:X.fn x=true \/ X.env.scope.names.lookup x=some .local:=by first | exact .inl rfl | exact .inr rfl | assumption):wpAny M A (storeName X.env x u) Q E s :=
 qel I hN hi hx r (fun s' I' _=>h s' I') hf
theorem Inv.call' {s':Shared} {ch:List Addr} (I:Inv X pins σ H s) (ho:s'.os=s.os) (u:Un (frs X.stack) ch H H' s.heap s'.heap) (hok:HOk X.prog X.w H' s'.heap) (hg:AllBare s'.gens)
  (hch:∀ b∈ch,(b∈X.ex \/ X.s_0.heap.objs.size<=b)/\b≠X.env.locals/\(∀ x c,X.env.cells.lookup x=some c->c≠b)/\∀ p∈X.pn++pins,p.1≠b):Inv X pins σ H' s':=by
 obtain ⟨h',g',d',t',o'⟩:=s'
 have e:o'=s.os:=ho
 subst e
 exact I.call (g':=g') (t':=t') (d':=d') u hok hg hch
end
abbrev XK:=Value->Option Addr->Hp->Prop
abbrev St:=List (Option V)
abbrev VK:=V->Hp->Prop
abbrev TE:=St->Hp->VK->Prop
abbrev TT:=St->Hp->(Bool->Hp->Prop)->Prop
abbrev TA:=St->Hp->(List V->Hp->Prop)->Prop
structure Ends where
 nx:St->Hp->Prop
 rt:VK
 bk:St->Hp->Prop:=fun _ _=>False
 ct:St->Hp->Prop:=fun _ _=>False
abbrev TS:=Ends->St->Hp->Prop
def EP (X:Cx) (pins:List (Addr × Obj)) (σ : St) (Q:VK) (u:Value) (s':Shared):Prop:=∃ v H',Inv X pins σ H' s'/\RelV v u/\Q v H'
def TP (X:Cx) (pins:List (Addr × Obj)) (σ : St) (Q:Bool->Hp->Prop) (b:Bool) (s':Shared):Prop:=∃ H',Inv X pins σ H' s'/\Q b H'
def AP (X:Cx) (pins:List (Addr × Obj)) (σ : St) (Q:List V->Hp->Prop) (us:List Value) (s':Shared):Prop:=∃ vs H',Inv X pins σ H' s'/\qE vs us/\Q vs H'
def SP (X:Cx) (pins:List (Addr × Obj)) (D:Ends) (f:Flow) (s':Shared):Prop :=
 match f with
 | .next=>∃ σ' H',Inv X pins σ' H' s'/\D.nx σ' H'
 | .brk=>∃ σ' H',Inv X pins σ' H' s'/\D.bk σ' H'
 | .cont=>∃ σ' H',Inv X pins σ' H' s'/\D.ct σ' H'
 | .ret u=>∃ v σ' H',Inv X pins σ' H' s'/\RelV v u/\D.rt v H'
def PE (X:Cx) (e:Expr) (t:TE):Prop :=
 ∀ (pins:List (Addr × Obj)) (s:Shared) (σ : St) (H:Hp) (Q:VK),Inv X pins σ H s->t σ H Q->wpAny (model X.prog X.w) X.A (eval e X.env) (EP X pins σ Q) X.xe s
def PT (X:Cx) (e:Expr) (t:TT):Prop :=
 ∀ (pins:List (Addr × Obj)) (s:Shared) (σ : St) (H:Hp) (Q:Bool->Hp->Prop),Inv X pins σ H s->t σ H Q->wpAny (model X.prog X.w) X.A (isTrue e X.env (eval e X.env)) (TP X pins σ Q) X.xe s
def PW (X:Cx) (e:Expr) (t:TT):Prop :=
 ∀ (whole:Sem Value) (pins:List (Addr × Obj)) (s:Shared) (σ : St) (H:Hp) (Q:Bool->Hp->Prop),Inv X pins σ H s->t σ H Q->wpAny (model X.prog X.w) X.A (isTrue e X.env whole) (TP X pins σ Q) X.xe s
theorem PW.pt {X:Cx} {e:Expr} {t:TT} (h:PW X e t):PT X e t:=h _
def PA (X:Cx) (es:List Expr) (t:TA):Prop :=
 ∀ (pos:Pos) (pins:List (Addr × Obj)) (s:Shared) (σ : St) (H:Hp) (Q:List V->Hp->Prop),Inv X pins σ H s->t σ H Q->wpAny (model X.prog X.w) X.A (spliced (backTo pos (starEach es X.env))) (AP X pins σ Q) X.xe s
def PS (X:Cx) (st:Stmt) (t:TS):Prop :=
 ∀ (pins:List (Addr × Obj)) (s:Shared) (σ : St) (H:Hp) (D:Ends),Inv X pins σ H s->t D σ H->wpAny (model X.prog X.w) X.A (exec st X.env) (SP X pins D) X.xe s
def PSs (X:Cx) (st:List Stmt) (t:TS):Prop :=
 ∀ (pins:List (Addr × Obj)) (s:Shared) (σ : St) (H:Hp) (D:Ends),Inv X pins σ H s->t D σ H->wpAny (model X.prog X.w) X.A (execs st X.env) (SP X pins D) X.xe s
theorem thn {α : Type} {t:Sem α} {Q Q':α -> Shared->Prop} {M:Model} {A:Around} {E:Value->Shared->Prop} {s:Shared} (h:wpAny M A t Q E s) (hQ:∀ a s,Q a s->Q' a s):wpAny M A t Q' E s:=wpAny_mono h hQ fun _ _ x=>x
end L2
namespace L2
open PySem PySem.Spec PyProof.Rows
section
variable {X:Cx}
def zM (i:Nat):TE:=fun σ H Q=>∃ v,σ[i]? = some (some v)/\Q v H
def tC (v:V):TE:=fun _ H Q=>Q v H
theorem qmN {i:Nat} {x:Str} {pos:Pos} (hN:X.N[i]? = some x) (hv:Vis X.env.scope x) (hd:(x == ("__debug__" : Str))=false:=by decide) (hcd:(x == ("__classdict__" : Str))=false:=by decide):PE X (.Name x pos) (zM i):=by
 intro pins s σ H Q I h
 obtain ⟨v,e,h⟩:=h
 obtain ⟨m,hn,hl⟩:=I.loc
 obtain ⟨u,r,l⟩:=hl i x v hN e hv
 have fin:EP X pins σ Q u s:=⟨v,H,I,r,h⟩
 rcases l with ⟨hk,hm⟩ | ⟨hk,c,hc,hcell⟩
 ·exact wpAny_Name (wpAny_loadName_local I.ok.kind hk hn hm fin) hd
 ·rcases hk with hk | hk
  ·exact wpAny_Name (wpAny_loadName_cell I.ok.kind hk hc hcell fin) hd
  ·exact wpAny_Name (wpAny_loadName_free I.ok.kind hk hc hcell fin hcd) hd
theorem qr {i j pos}:PE X (.Constant (.int i) j pos) (tC (.int i)):=fun _ _ _ H _ I h=>wpAny_Constant_int ⟨.int i,H,I.tok _,⟨_,rfl⟩,h⟩
theorem qaK {b j pos}:PE X (.Constant (.bool b) j pos) (tC (.bl b)):=fun _ _ _ H _ I h=>Constant_bool ⟨.bl b,H,I,rfl,h⟩
theorem qK {x j pos}:PE X (.Constant (.str x) j pos) (tC (.str x)):=fun _ _ _ H _ I h=>Calls.Constant_str ⟨.str x,H,I.tok _,⟨_,rfl⟩,h⟩
def Gl (X:Cx) (x:Str):Prop:=X.env.kindOf x=some .globalImplicit
theorem Zs {E:Value->Shared->Prop} {pins:List (Addr × Obj)} {s:Shared} {σ : St} {H:Hp} {x:Str} {u:Value} {pos:Pos} {Q:Value->Shared->Prop} (I:Inv X pins σ H s) (hg:Gl X x) (hm:X.mg x=some u) (h:Q u s)
  (hd:(x == ("__debug__" : Str))=false:=by decide):wpAny (model X.prog X.w) X.A (eval (.Name x pos) X.env) Q E s :=
 Calls.Name_function_global I.ok.kind hg (Calls.loadGlobal_global (by rw [I.ok.glob]; exact I.mod.glob.keeps I.bk) hm h) hd
theorem JH {E:Value->Shared->Prop} {pins:List (Addr × Obj)} {s:Shared} {σ : St} {H:Hp} {x:Str} {u:Value} {pos:Pos} {Q:Value->Shared->Prop} (I:Inv X pins σ H s) (hg:Gl X x) (hm:X.mg x=none) (hv:bootBuiltins x=some u) (h:Q u s)
  (hn:x ≠ "__name__":=by decide) (hd:(x == ("__debug__" : Str))=false:=by decide):wpAny (model X.prog X.w) X.A (eval (.Name x pos) X.env) Q E s:=by
 obtain ⟨mb,h1,h2⟩:=I.mod.blt
 exact Calls.Name_function_global I.ok.kind hg (Calls.loadGlobal_builtin (by rw [I.ok.glob]; exact I.mod.glob.keeps I.bk) hm (by rw [I.ok.blt]; exact h1.keeps I.bk) ((h2 x hn).trans hv) h) hd
theorem qlT {x:Str} {v:V} {u:Value} {pos:Pos} (hg:Gl X x) (hm:X.mg x=some u) (r:RelV v u) (hd:(x == ("__debug__" : Str))=false:=by decide):PE X (.Name x pos) (tC v) :=
 fun _ _ _ H _ I h=>Zs I hg hm ⟨v,H,I,r,h⟩ hd
variable {a b:Expr} {ta tb:TE} {pos:Pos}
def PC (X:Cx) (op:CmpOp) (a b:Expr) (t:TE):Prop :=
 ∀ (pins:List (Addr × Obj)) (s:Shared) (σ : St) (H:Hp) (Q:VK),Inv X pins σ H s->t σ H Q ->
  wpAny (model X.prog X.w) X.A (eval a X.env) (fun v s₁=>wpAny (model X.prog X.w) X.A (eval b X.env) (fun u s₂=>wpAny (model X.prog X.w) X.A (compareOp op v u) (EP X pins σ Q) X.xe s₂) X.xe s₁) X.xe s
theorem qkr (b:Expr) {op:CmpOp} (h:op≠.In) (h2:op≠.NotIn):behindInMarks op b=false:=by
 have e1:(op == CmpOp.In)=false:=by cases op <;> first | rfl | exact absurd rfl h
 have e2:(op == CmpOp.NotIn)=false:=by cases op <;> first | rfl | exact absurd rfl h2
 cases b <;> simp [behindInMarks,e1,e2]
def qn9 (ta:TE):TE:=fun σ H Q=>ta σ H fun x H1=>Q (.bl (decide (x=.non))) H1
theorem RelV.none_iff {x:V} {v:Value} (r:RelV x v):(v == Value.none)=decide (x=.non):=by
 cases x with
 | non=>cases r; rfl
 | bl _=>cases r; rfl
 | int _=>obtain ⟨t,rfl⟩:=r; rfl
 | str _=>obtain ⟨t,rfl⟩:=r; rfl
 | byt _=>obtain ⟨t,rfl⟩:=r; rfl
 | flt _=>obtain ⟨t,rfl⟩:=r; rfl
 | ref _=>cases r; rfl
 | ty _=>cases r; rfl
theorem qmO {j pos'} (ha:PE X a ta):PC X .Is a (.Constant .none j pos') (qn9 ta):=by
 intro pins s σ H Q I h
 refine thn (ha pins s σ H _ I h) fun v s1 ⟨x,H1,I1,r1,q1⟩=>?_
 exact Constant_none (is_none_gen ⟨.bl _,H1,I1,by rw [r1.none_iff]; rfl,q1⟩)
def tB (t:TE):TT:=fun σ H Q=>t σ H fun x H1=>∃ c,x=.bl c/\Q c H1
theorem qfo {op:CmpOp} {t:TE} (h:PC X op a b t) (h1:behindInMarks op b=false:=by first | exact qkr _ (by decide) (by decide) | rfl):PT X (.Compare a [op] [b] pos) (tB t):=by
 intro pins s σ H Q I hw
 refine wpAny_isTrue_Compare1 (thn (h pins s σ H _ I hw) fun v s1 h1=>thn h1 fun u s2 h2=>thn h2 fun c s3 ⟨x,H1,I1,r1,q1⟩=>?_) h1
 obtain ⟨d,rfl,q⟩:=q1
 cases r1
 exact wpAny_truthy_bool ⟨H1,I1,q⟩
theorem QP {e:Expr} {t:TE} (h:PE X e t) (he:∀ whole,isTrue e X.env whole=(do let v <- whole; standAt e.pos; holding [v] (truthy v)):=by intro _; rfl):PT X e (tB t):=by
 intro pins s σ H Q I hw
 refine isTrue_plain (thn (h pins s σ H _ I hw) fun v s1 ⟨x,H1,I1,r1,q1⟩=>?_) (he _)
 obtain ⟨d,rfl,q⟩:=q1
 cases r1
 exact wpAny_truthy_bool ⟨H1,I1,q⟩
variable {tA tB':TT} {rest:List Expr}
def qmP (t u:TT):TT:=fun σ H Q=>t σ H fun c H1=>if c=true then u σ H1 Q else Q false H1
def tOr (t u:TT):TT:=fun σ H Q=>t σ H fun c H1=>if c=true then Q true H1 else u σ H1 Q
def qoa (t:TT):TT:=fun σ H Q=>t σ H fun c H1=>Q (!c) H1
theorem qdH (ha:PT X a tA):PW X (.BoolOp .And [a] pos) tA:=by
 intro wh pins s σ H Q I h
 refine isTrue_and (thn (ha pins s σ H Q I h) fun c s1 e=>?_)
 cases c with
 | true=>exact isTrue_and_nil e
 | false=>exact e
theorem qiT (ha:PT X a tA):PW X (.BoolOp .Or [a] pos) tA:=by
 intro wh pins s σ H Q I h
 refine isTrue_or (thn (ha pins s σ H Q I h) fun c s1 e=>?_)
 cases c with
 | false=>exact isTrue_or_nil e
 | true=>exact e
theorem qfp (ha:PT X a tA) (hb:PW X (.BoolOp .And (b::rest) pos) tB'):PW X (.BoolOp .And (a::b::rest) pos) (qmP tA tB'):=by
 intro wh pins s σ H Q I h
 refine isTrue_and (thn (ha pins s σ H _ I h) fun c s1 ⟨H1,I1,q1⟩=>?_)
 cases c with
 | true=>exact hb wh pins s1 σ H1 Q I1 q1
 | false=>exact ⟨H1,I1,q1⟩
theorem qlt (ha:PT X a tA) (hb:PW X (.BoolOp .Or (b::rest) pos) tB'):PW X (.BoolOp .Or (a::b::rest) pos) (tOr tA tB'):=by
 intro wh pins s σ H Q I h
 refine isTrue_or (thn (ha pins s σ H _ I h) fun c s1 ⟨H1,I1,q1⟩=>?_)
 cases c with
 | true=>exact ⟨H1,I1,q1⟩
 | false=>exact hb wh pins s1 σ H1 Q I1 q1
theorem qby (ha:PT X a tA):PT X (.UnaryOp .Not a pos) (qoa tA):=by
 intro pins s σ H Q I h
 exact isTrue_not (ha pins s σ H (fun c H1=>Q (!c) H1) I h)
def qks (ta tb:TE):TE:=fun σ H Q=>ta σ H fun x H1=>∃ c,x=.bl c/\if c=true then Q (.bl true) H1 else tb σ H1 Q
theorem qiU {op} {t:TE} (h:PE X a t):PE X (.BoolOp op [a] pos) t:=fun pins s σ H Q I hw=>BoolOp_one (h pins s σ H Q I hw)
theorem qhM (ha:PE X a ta) (hb:PE X (.BoolOp .Or (b::rest) pos) tb):PE X (.BoolOp .Or (a::b::rest) pos) (qks ta tb):=by
 intro pins s σ H Q I h
 refine BoolOp_or (thn (ha pins s σ H _ I h) fun v s1 ⟨x,H1,I1,r1,q1⟩=>?_)
 obtain ⟨c,rfl,q1⟩:=q1
 cases r1
 refine wpAny_truthy_bool ?_
 cases c with
 | false=>exact hb pins s1 σ H1 Q I1 q1
 | true=>exact ⟨.bl true,H1,I1,rfl,q1⟩
def tIf (t:TT) (ta tb:TE):TE:=fun σ H Q=>t σ H fun c H1=>if c=true then ta σ H1 Q else tb σ H1 Q
theorem qaL {c:Expr} (hc:PT X c tA) (ha:PE X a ta) (hb:PE X b tb):PE X (.IfExp c a b pos) (tIf tA ta tb):=by
 intro pins s σ H Q I h
 refine wpAny_IfExp (thn (hc pins s σ H _ I h) fun d s1 ⟨H1,I1,q1⟩=>?_)
 cases d with
 | true=>exact ha pins s1 σ H1 Q I1 q1
 | false=>exact hb pins s1 σ H1 Q I1 q1
end
end L2
namespace L2
open PySem PySem.Spec PyProof.Rows
def SqL (K:PySem.W.Frag) (H:Hp) (a:Addr) (xs:List V):Prop :=
 Rd H a (.lst xs) \/
  ∃ (o:Obj) (its:Array Value) (n:Nat),K.lookup a=some o/\o.cls=.type "list" /\ o.dict=none/\o.data=.seq its n/\its.size<=sizeLine/\qE xs its.toList
def SqT (K:PySem.W.Frag) (H:Hp) (a:Addr) (xs:List V):Prop :=
 Rd H a (.tup xs) \/
  ∃ (o:Obj) (its:Array Value) (n:Nat),K.lookup a=some o/\o.cls=.type "tuple" /\ o.data=.seq its n/\its.size<=sizeLine/\qE xs its.toList
def qob:Value->Option V
 | .none=>some .non
 | .bool b=>some (.bl b)
 | .int i _=>some (.int i)
 | .str x _=>some (.str x)
 | .bytes b _=>some (.byt b)
 | .float b _=>some (.flt b)
 | .ref a=>some (.ref a)
 | .type n=>some (.ty n)
 | _=>none
theorem RelV.abs {x:V} {u:Value} (r:RelV x u):qob u=some x:=by
 cases x with
 | non=>cases r; rfl
 | bl _=>cases r; rfl
 | int _=>obtain ⟨t,rfl⟩:=r; rfl
 | str _=>obtain ⟨t,rfl⟩:=r; rfl
 | byt _=>obtain ⟨t,rfl⟩:=r; rfl
 | flt _=>obtain ⟨t,rfl⟩:=r; rfl
 | ref _=>cases r; rfl
 | ty _=>cases r; rfl
theorem RelV.inj {x y:V} {u:Value} (r:RelV x u) (q:RelV y u):x=y:=Option.some.inj (r.abs.symm.trans q.abs)
theorem qE.inj:∀ {xs ys:List V} {us:List Value},qE xs us->qE ys us->xs=ys
 | _,_,_,.nil,.nil=>rfl
 | _,_,_,.cons r t,.cons r' t'=>by rw [r.inj r',qE.inj t t']
section
variable {X:Cx} {pins:List (Addr × Obj)} {σ : St} {H:Hp} {s:Shared} {a:Addr} {xs ys:List V}
theorem SqL.of {K:PySem.W.Frag} (h:H a=some (.lst xs)):SqL K H a xs:=.inl (.inl h)
theorem SqT.of {K:PySem.W.Frag} (h:H a=some (.tup xs)):SqT K H a xs:=.inl (.inl h)
theorem Inv.list (I:Inv X pins σ H s) (h:SqL X.K H a xs):∃ its:List Value,qE xs its/\PlainL s.heap a its.toArray/\xs.length<=sizeLine:=by
 rcases h with h | ⟨o,its,n,hk,hc,hd,hs,hz,r⟩
 ·obtain ⟨z,its,n,r,e⟩:=h.ok I.hok
  exact ⟨its,r,⟨_,n,e,rfl,rfl,rfl⟩,z⟩
 ·refine ⟨its.toList,r,⟨o,n,I.kIn a o hk,hc,hd,by simpa using hs⟩,?_⟩
  have e:=r.length
  simp only [Array.length_toList] at e
  omega
theorem Inv.tuple (I:Inv X pins σ H s) (h:SqT X.K H a xs):∃ its:List Value,qE xs its/\IsTup s.heap a its.toArray/\xs.length<=sizeLine:=by
 rcases h with h | ⟨o,its,n,hk,hc,hs,hz,r⟩
 ·obtain ⟨z,its,r,p⟩:=h.ok I.hok
  exact ⟨its,r,p,z⟩
 ·refine ⟨its.toList,r,⟨o,I.kIn a o hk,hc,n,by simpa using hs⟩,?_⟩
  have e:=r.length
  simp only [Array.length_toList] at e
  omega
theorem Inv.list_inj (I:Inv X pins σ H s) (h:SqL X.K H a xs) (h':SqL X.K H a ys):xs=ys:=by
 obtain ⟨its,r,⟨o,n,e,_,_,d⟩,_⟩:=I.list h
 obtain ⟨its',r',⟨o',n',e',_,_,d'⟩,_⟩:=I.list h'
 rw [e] at e'; cases e'
 rw [d] at d'
 injection d' with d1 _
 have:its=its':=by simpa using congrArg Array.toList d1
 subst this
 exact r.inj r'
theorem Inv.tuple_inj (I:Inv X pins σ H s) (h:SqT X.K H a xs) (h':SqT X.K H a ys):xs=ys:=by
 obtain ⟨its,r,⟨o,e,_,n,d⟩,_⟩:=I.tuple h
 obtain ⟨its',r',⟨o',e',_,n',d'⟩,_⟩:=I.tuple h'
 rw [e] at e'; cases e'
 rw [d] at d'
 injection d' with d1 _
 have:its=its':=by simpa using congrArg Array.toList d1
 subst this
 exact r.inj r'
end
abbrev Cx.wish (X:Cx) (E:Value->Shared->Prop):Cx:={ X with xe:=E }
abbrev Cx.nox (X:Cx):Cx:=X.wish fun _ _=>False
theorem Cx.Ok.wish {X:Cx} (ok:X.Ok) (E:Value->Shared->Prop):(X.wish E).Ok :=
 ⟨ok.mod,ok.kind,ok.glob,ok.blt,ok.above,ok.inj,ok.has,ok.cab,ok.hd,ok.frames,ok.stk,ok.exf,ok.bs,ok.bsz,ok.noex,ok.exfs,ok.funs,ok.frf⟩
theorem Cx.Ok.unwish {X:Cx} {E:Value->Shared->Prop} (ok:(X.wish E).Ok):X.Ok :=
 ⟨ok.mod,ok.kind,ok.glob,ok.blt,ok.above,ok.inj,ok.has,ok.cab,ok.hd,ok.frames,ok.stk,ok.exf,ok.bs,ok.bsz,ok.noex,ok.exfs,ok.funs,ok.frf⟩
section
variable {X:Cx} {pins:List (Addr × Obj)} {σ : St} {H:Hp} {s:Shared} {E:Value->Shared->Prop}
theorem Inv.wish (I:Inv X pins σ H s) (E:Value->Shared->Prop):Inv (X.wish E) pins σ H s:=⟨I.ok.wish E,I.os,I.bare,I.base,I.loc,I.cell,I.free,I.freeC,I.pin,I.hok,I.len⟩
theorem Inv.unwish (I:Inv (X.wish E) pins σ H s):Inv X pins σ H s:=⟨I.ok.unwish,I.os,I.bare,I.base,I.loc,I.cell,I.free,I.freeC,I.pin,I.hok,I.len⟩
theorem SP.unwish {D:Ends} {f:Flow} {s':Shared} (h:SP (X.wish E) pins D f s'):SP X pins D f s':=by
 cases f with
 | next=>obtain ⟨σ',H',I,q⟩:=h; exact ⟨σ',H',I.unwish,q⟩
 | brk=>obtain ⟨σ',H',I,q⟩:=h; exact ⟨σ',H',I.unwish,q⟩
 | cont=>obtain ⟨σ',H',I,q⟩:=h; exact ⟨σ',H',I.unwish,q⟩
 | ret u=>obtain ⟨v,σ',H',I,r,q⟩:=h; exact ⟨v,σ',H',I.unwish,r,q⟩
theorem PSs.nox {st:List Stmt} {t:TS} (h:PSs X.nox st t):PSs X st t:=fun pins s σ H D I hw=>
 wpAny_mono (h pins s σ H D (I.wish _) hw) (fun _ _ q=>q.unwish) fun _ _ z=>False.elim z
end
section
variable {X:Cx} {st:Stmt} {rest:List Stmt} {t u:TS} {e:Expr} {te:TE} {pos:Pos}
def qlu:TS:=fun D σ H=>D.nx σ H
def qfq (t u:TS):TS:=fun D σ H=>t { D with nx:=u D } σ H
theorem zf:PSs X [] qlu:=fun _ _ σ H _ I h=>wpAny_execs_nil ⟨σ,H,I,h⟩
theorem qi (h1:PS X st t) (h2:PSs X rest u):PSs X (st::rest) (qfq t u):=by
 intro pins s σ H D I h
 refine wpAny_execs_cons (thn (h1 pins s σ H { D with nx:=u D } I h) fun f s1 q=>?_)
 cases f with
 | next=>
  obtain ⟨σ',H',I',q⟩:=q
  exact h2 pins s1 σ' H' D I' q
 | ret v=>exact q
 | brk=>exact q
 | cont=>exact q
theorem qf (h1:PS X st t):PSs X [st] t:=by
 intro pins s σ H D I h
 refine wpAny_execs_cons (thn (h1 pins s σ H D I h) fun f s1 q=>?_)
 cases f with
 | next=>exact wpAny_execs_nil q
 | ret v=>exact q
 | brk=>exact q
 | cont=>exact q
theorem Inv.quiet {pins:List (Addr × Obj)} {σ : St} {H:Hp} {s:Shared} (I:Inv X pins σ H s):interactive X.env=false:=by simp [interactive,I.ok.kind]
def qlv (te:TE):TS:=fun D σ H=>te σ H fun _ H1=>D.nx σ H1
theorem qu (he:PE X e te) (hs:swapsWith e none pos.line X.env=pure false:=by rfl):PS X (.Expr e pos) (qlv te):=by
 intro pins s σ H D I h
 exact wpAny_Expr_any (thn (he pins s σ H _ I h) fun v s1 ⟨x,H1,I1,r1,q1⟩=>⟨σ,H1,I1,q1⟩) I.quiet hs
def qcI (te:TE):TS:=fun D σ H=>te σ H D.rt
theorem qG (he:PE X e te):PS X (.Return (some e) pos) (qcI te):=by
 intro pins s σ H D I h
 exact wpAny_Return_some (thn (he pins s σ H _ I h) fun v s1 ⟨x,H1,I1,r1,q1⟩=>⟨x,σ,H1,I1,r1,q1⟩)
def qnQ:TS:=fun D _ H=>D.rt .non H
theorem qlU:PS X (.Return none pos) qnQ:=fun _ _ σ H _ I h=>wpAny_Return_none ⟨.non,σ,H,I,rfl,h⟩
def qhN (c:TT) (t u:TS):TS:=fun D σ H=>c σ H fun b H1=>if b=true then t D σ H1 else u D σ H1
theorem qQ {c:Expr} {a b:List Stmt} {tc:TT} (hc:PT X c tc) (ha:PSs X a t) (hb:PSs X b u):PS X (.If c a b pos) (qhN tc t u):=by
 intro pins s σ H D I h
 refine wpAny_If (thn (hc pins s σ H _ I h) fun d s1 ⟨H1,I1,q1⟩=>?_)
 cases d with
 | true=>exact ha pins s1 σ H1 D I1 q1
 | false=>exact hb pins s1 σ H1 D I1 q1
end
abbrev TG:=V->St->Hp->(St->Hp->Prop)->Prop
abbrev TGs:=List V->St->Hp->(St->Hp->Prop)->Prop
def PG (X:Cx) (target:Expr) (t:TG):Prop :=
 ∀ (pins:List (Addr × Obj)) (s:Shared) (σ : St) (H:Hp) (v:V) (u:Value) (Q:St->Hp->Prop),Inv X pins σ H s->RelV v u->t v σ H Q ->
  wpAny (model X.prog X.w) X.A (assign target X.env u) (fun _ s'=>∃ σ' H',Inv X pins σ' H' s'/\Q σ' H') X.xe s
def PGs (X:Cx) (ts:List Expr) (t:TGs):Prop :=
 ∀ (pins:List (Addr × Obj)) (s:Shared) (σ : St) (H:Hp) (vs:List V) (us:List Value) (Q:St->Hp->Prop),Inv X pins σ H s->qE vs us->t vs σ H Q ->
  wpAny (model X.prog X.w) X.A (assignInOrder ((assignEach ts X.env).map (·.2)) us) (fun _ s'=>∃ σ' H',Inv X pins σ' H' s'/\Q σ' H') X.xe s
abbrev TIp:=V->V->Hp->VK->Prop
def PIp (X:Cx) (op:Operator) (t:TIp):Prop :=
 ∀ (pins:List (Addr × Obj)) (s:Shared) (σ : St) (H:Hp) (x y:V) (v u:Value) (Q:VK),Inv X pins σ H s->RelV x v->RelV y u->t x y H Q ->
  wpAny (model X.prog X.w) X.A (inplaceOp op v u) (EP X pins σ Q) X.xe s
section
variable {X:Cx} {pos:Pos}
def ZH (i:Nat):TG:=fun v σ H Q=>Q (σ.set i (some v)) H
theorem jv {i:Nat} {x:Str} (hN:X.N.Nodup) (hi:X.N[i]? = some x) (hx:Loc X.env.scope x) (hf:X.fn x=true \/ X.env.scope.names.lookup x=some .local:=by first | exact .inl rfl | exact .inr rfl | assumption):PG X (.Name x pos) (ZH i):=by
 intro pins s σ H v u Q I r h
 exact wpAny_assign_Name (qaJ I hN hi hx r (fun s' I'=>⟨_,H,I',h⟩) hf)
def qmQ:TGs:=fun vs σ H Q=>vs=[]/\Q σ H
def qhO (t:TG) (u:TGs):TGs:=fun vs σ H Q=>∃ v r,vs=v::r/\t v σ H fun σ' H'=>u r σ' H' Q
theorem qhd:PGs X [] qmQ:=by
 intro pins s σ H vs us Q I r h
 obtain ⟨e,h⟩:=h
 subst e
 cases r
 exact assignInOrder_nil ⟨σ,H,I,h⟩
theorem qaM {e:Expr} {es:List Expr} {t:TG} {u:TGs} (h1:PG X e t) (h2:PGs X es u)
  (hs:(assignEach (e::es) X.env).map (·.2)=assign e X.env::(assignEach es X.env).map (·.2):=by rfl):PGs X (e::es) (qhO t u):=by
 intro pins s σ H vs us Q I r h
 obtain ⟨v,vr,e1,h⟩:=h
 subst e1
 cases r with
 | cons r rr=>
  rw [hs]
  refine assignInOrder_cons (thn (h1 pins s σ H _ _ _ I r h) fun _ s1 ⟨σ1,H1,I1,q1⟩=>?_)
  exact h2 pins s1 σ1 H1 _ _ Q I1 rr q1
def qmR (K:PySem.W.Frag) (n:Nat) (t:TGs):TG:=fun v σ H Q=>∃ a xs,v=.ref a/\SqT K H a xs/\xs.length=n/\t xs σ H Q
theorem qiV {es:List Expr} {k:Nat} {t:TGs} {n:Nat} (hc:X.calm=true) (h:PGs X es t)
  (hn:(assignEach es X.env).length=n:=by rfl) (hst:(assignEach es X.env).findIdx? (·.1)=none:=by rfl):PG X (.Tuple es k pos) (qmR X.K n t):=by
 intro pins s σ H v u Q I r hw
 obtain ⟨a,xs,e1,hq,hl,hw⟩:=hw
 subst e1
 cases r
 obtain ⟨its,rv,ht,hz⟩:=I.tuple hq
 refine assign_Tuple_tuple (I.ok.hd hc) ht (by simp [hn,<- hl,rv.length]) hst fun h' hx=>?_
 have I1:Inv X pins σ H { s with heap:=h' }:=I.kept (t':=s.toks) fun b o e=>hx b o (Nat.ne_of_lt (Heap.lt_size e)) e
 exact h pins _ σ H xs _ Q I1 (by simpa using rv) hw
def qkt (te:TE) (g:TG):TS:=fun D σ H=>te σ H fun x H1=>g x σ H1 D.nx
theorem qZ {i:Nat} {x:Str} {e:Expr} {te:TE} {pos':Pos} (hN:X.N.Nodup) (hi:X.N[i]? = some x) (hx:Loc X.env.scope x) (he:PE X e te) (hs:swapsWith e (some (.Name x pos')) pos.line X.env=pure false:=by rfl) (hf:X.fn x=true \/ X.env.scope.names.lookup x=some .local:=by first | exact .inl rfl | exact .inr rfl | assumption) :
  PS X (.Assign [.Name x pos'] e pos) (qkt te (ZH i)):=by
 intro pins s σ H D I h
 refine wpAny_Assign_Name (thn (he pins s σ H _ I h) fun v s1 ⟨y,H1,I1,r1,q1⟩=>?_) hs
 exact qaJ I1 hN hi hx r1 (fun s2 I2=>⟨_,H1,I2,q1⟩) hf
def qoc (i:Nat) (te:TE) (ti:TIp):TS:=fun D σ H=>∃ x,σ[i]? = some (some x)/\te σ H fun y H1=>ti x y H1 fun z H2=>D.nx (σ.set i (some z)) H2
theorem qiW {i:Nat} {x:Str} {e:Expr} {te:TE} {op:Operator} {ti:TIp} {pos':Pos} (hN:X.N.Nodup) (hi:X.N[i]? = some x) (hx:Loc X.env.scope x) (he:PE X e te) (ho:PIp X op ti) (hf:X.fn x=true \/ X.env.scope.names.lookup x=some .local:=by first | exact .inl rfl | exact .inr rfl | assumption) :
  PS X (.AugAssign (.Name x pos') op e pos) (qoc i te ti):=by
 intro pins s σ H D I h
 obtain ⟨v,e1,h⟩:=h
 obtain ⟨m,hn,hl⟩:=I.loc
 have vis:Vis X.env.scope x:=by rcases hx with k | k; exact .inl k; exact .inr (.inl k)
 obtain ⟨u,r,l⟩:=hl i x v hi e1 vis
 refine wpAny_AugAssign_Name ?_
 have go:wpAny (model X.prog X.w) X.A (eval e X.env) (fun w s₂=>wpAny (model X.prog X.w) X.A (inplaceOp op u w) (fun r s₃=>wpAny (model X.prog X.w) X.A (storeName X.env x r) (fun _=>SP X pins D .next) X.xe s₃) X.xe s₂) X.xe s:=by
  refine thn (he pins s σ H _ I h) fun w s1 ⟨y,H1,I1,r1,q1⟩=>?_
  refine thn (ho pins s1 σ H1 v y u w _ I1 r r1 q1) fun z s2 ⟨zv,H2,I2,r2,q2⟩=>?_
  exact qaJ I2 hN hi hx r2 (fun s3 I3=>⟨_,H2,I3,q2⟩) hf
 rcases l with ⟨hk,hm⟩ | ⟨hk,c,hc,hcell⟩
 ·exact wpAny_loadName_local I.ok.kind hk hn hm go
 ·rcases hk with hk | hk
  ·exact wpAny_loadName_cell I.ok.kind hk hc hcell go
  ·rcases hx with k | k
   ·have:X.env.scope.names.lookup x=some .free:=hk
    rw [k] at this; cases this
   ·have:X.env.scope.names.lookup x=some .free:=hk
    rw [k] at this; cases this
def ipI (f:Int->Int->Int):TIp:=fun x y H Q=>∃ i j,x=.int i/\y=.int j/\Q (.int (f i j)) H
theorem qiX:PIp X .Add (ipI fun i j=>i+j):=by
 intro pins s σ H x y v u Q I r1 r2 h
 obtain ⟨i,j,e1,e2,q⟩:=h
 subst e1; subst e2
 obtain ⟨t,rfl⟩:=r1
 obtain ⟨t',rfl⟩:=r2
 exact iadd_int ⟨.int _,H,I.tok _,⟨_,rfl⟩,q⟩
end
section
variable {X:Cx} {pos:Pos}
def qmS (c:TT) (tb:TS):TS:=fun D σ H=>∃ W:Nat->St->Hp->Prop,(∃ m,W m σ H)/\∀ m σ H,W m σ H ->
 c σ H fun b H1=>if b=true then ∃ N:St->Hp->Prop,(∀ σ' H',N σ' H'->∃ m',m'<m/\W m' σ' H')/\tb { D with nx:=N,ct:=N,bk:=D.nx } σ H1 else D.nx σ H1
theorem QQ {c:Expr} {body:List Stmt} {tc:TT} {tb:TS} (hp:PassesOwn (model X.prog X.w) X.A X.env X.xe) (hc:PT X c tc) (hb:PSs X body tb):PS X (.While c body [] pos) (qmS tc tb):=by
 intro pins s σ H D I h
 obtain ⟨W,⟨m0,w0⟩,turn⟩:=h
 refine wpAny_While (codeAny_whileLoop (fun n s'=>∃ σ' H',Inv X pins σ' H' s'/\W n σ' H') ?_ m0 ⟨σ,H,I,w0⟩)
 rintro n s1 ⟨σ1,H1,I1,w1⟩
 refine wpAny_passesOwn hp (thn (hc pins s1 σ1 H1 _ I1 (turn n σ1 H1 w1)) fun b s2 ⟨H2,I2,q2⟩=>?_)
 cases b with
 | true=>
  obtain ⟨N,hN,q2⟩:=q2
  rw [if_pos rfl]
  refine wpAny_passesOwn hp (thn (hb pins s2 σ1 H2 _ I2 q2) fun f s3 q3=>?_)
  cases f with
  | next=>
   obtain ⟨σ3,H3,I3,n3⟩:=q3
   obtain ⟨m',hm,w3⟩:=hN σ3 H3 n3
   exact ⟨m',hm,σ3,H3,I3,w3⟩
  | cont=>
   obtain ⟨σ3,H3,I3,n3⟩:=q3
   obtain ⟨m',hm,w3⟩:=hN σ3 H3 n3
   exact ⟨m',hm,σ3,H3,I3,w3⟩
  | brk=>exact q3
  | ret v=>exact q3
 | false=>
  rw [if_neg Bool.false_ne_true]
  exact wpAny_execs_nil ⟨σ1,H2,I2,q2⟩
end
structure It where
 go:Nat->Hp->Prop
 yld:Nat->Hp->V->Hp->Prop
 stop:Nat->Hp->Prop
def Js (X:Cx) (pins:List (Addr × Obj)) (H:Hp) (b:Addr):Prop :=
 H b=none/\b≠X.env.locals/\b∉X.fs/\(b∈X.ex \/ X.s_0.heap.objs.size<=b)/\(∀ x c,X.env.cells.lookup x=some c->c≠b)/\∀ p∈X.pn++pins,p.1≠b
theorem Inv.fpOk {X:Cx} {pins:List (Addr × Obj)} {σ : St} {H H':Hp} {s:Shared} {b:Addr} (I:Inv X pins σ H s) (hb:s.heap.objs.size<=b) (hn:H' b=none):Js X pins H' b:=by
 refine ⟨hn,Nat.ne_of_gt (Nat.lt_of_lt_of_le I.lt hb),I.nofs hb,.inr (Nat.le_trans I.sz hb),fun x c e z=>?_,fun p hp z=>?_⟩
 ·obtain ⟨v,q⟩:=I.cell x c e
  exact absurd (Nat.lt_of_lt_of_le q.lt (by rw [z]; exact hb)) (Nat.lt_irrefl _)
 ·exact absurd (Nat.lt_of_lt_of_le (Heap.lt_size (I.pin p hp).1) (by rw [z]; exact hb)) (Nat.lt_irrefl _)
structure Turn (P:Program) (w:World) (K:PySem.W.Frag) (tg:Expr) (J:It) (fp:List Addr) (it:Addr) (tn:Nat->Heap->Prop):Prop where
 mem:it∈fp
 obj:∀ i h,tn i h->∀ b∈fp,∃ o,h.get? b=some o/\∀ v,o.data≠.cell v
 keep:∀ i h h',tn i h->(∀ b∈fp,∀ o,h.get? b=some o->h'.get? b=some o)->tn i h'
 item:∀ (X:Cx),X.prog=P->X.w=w->X.K=K->X.calm=true->∀ (i:Nat) (pins:List (Addr × Obj)) (s:Shared) (σ : St) (H:Hp) (E:Value->Shared->Prop),Inv X pins σ H s->(∀ b∈fp,Js X pins H b)->tn i s.heap->J.go i H ->
  wpAny (model P w) X.A (pyNext (.ref it)) (fun r s1=>∃ u,r=some u /\
   wpAny (model P w) X.A (letOwnedTupleGo tg (.ref it) u) (fun _ s2=>∃ x H',Inv X pins σ H' s2/\RelV x u/\J.yld i H x H'/\tn (i+1) s2.heap/\∀ b∈fp,H' b=none) E s1) E s
 done:∀ (X:Cx),X.prog=P->X.w=w->X.K=K->X.calm=true->∀ (i:Nat) (pins:List (Addr × Obj)) (s:Shared) (σ : St) (H:Hp) (E:Value->Shared->Prop),Inv X pins σ H s->(∀ b∈fp,Js X pins H b)->tn i s.heap->J.stop i H ->
  wpAny (model P w) X.A (pyNext (.ref it)) (fun r s1=>r=none/\Inv X pins σ H s1) E s
 self:∀ (A:Around) (i:Nat) (s:Shared) (Q:Value->Shared->Prop) (E:Value->Shared->Prop),tn i s.heap->Q (.ref it) s->wpAny (model P w) A (pyIter (.ref it)) Q E s
abbrev TI:=St->Hp->(It->Hp->Prop)->Prop
def PIE (X:Cx) (pins:List (Addr × Obj)) (σ : St) (tg:Expr) (R:It->Hp->Prop) (itv:Value) (s2:Shared):Prop :=
 ∃ (it:Addr) (fp:List Addr) (tn:Nat->Heap->Prop) (J:It) (H':Hp),itv=.ref it/\Inv X pins σ H' s2/\Turn X.prog X.w X.K tg J fp it tn/\tn 0 s2.heap/\(∀ b∈fp,Js X pins H' b)/\R J H'
def PI (X:Cx) (tg iter:Expr) (wi:TI):Prop :=
 ∀ (pins:List (Addr × Obj)) (s:Shared) (σ : St) (H:Hp) (R:It->Hp->Prop),Inv X pins σ H s->wi σ H R ->
  wpAny (model X.prog X.w) X.A (eval iter X.env) (fun v s1=>wpAny (model X.prog X.w) X.A (pyIter v) (PIE X pins σ tg R) X.xe s1) X.xe s
theorem qhP {M:Model} {A:Around} {E:Value->Shared->Prop} {s:Shared} {tg:Expr} {it:Addr} {u:Value} {o:Obj} {n:String} {vs:Array Value} {Q:Unit->Shared->Prop} (ho:s.heap.get? it=some o) (hc:o.cls=.type n) (hd:o.data=.fields vs)
  (hn:["enumerate","zip","dict_itemiterator","dict_reverseitemiterator","odict_iterator","itertools.zip_longest","itertools.pairwise"].contains n=false) (hQ:Q () s):wpAny M A (letOwnedTupleGo tg (.ref it) u) Q E s:=by
 unfold letOwnedTupleGo
 cases tg <;> first
  | exact wpAny_pure hQ
  | (cases u <;> first
    | exact wpAny_pure hQ
    | (refine wpAny_bind (wpAny_load ho ?_)
       rw [hc,hd]
       show wpAny M A (if (["enumerate","zip","dict_itemiterator","dict_reverseitemiterator","odict_iterator","itertools.zip_longest","itertools.pairwise"].contains n&&vs[0]? == some (rawInt _))=true then _ else _) Q E s
       rw [if_neg (by intro h; rw [hn,Bool.false_and] at h; cases h)]
       exact wpAny_pure hQ))
def Itl (K:PySem.W.Frag) (a:Addr):It :=
 ⟨fun i H=>∃ xs x,SqL K H a xs/\xs[i]? = some x,fun i H x H'=>H'=H/\∀ xs,SqL K H a xs->xs[i]? = some x,fun i H=>∃ xs,SqL K H a xs/\xs.length<=i⟩
def Itt (K:PySem.W.Frag) (a:Addr):It :=
 ⟨fun i H=>∃ xs x,SqT K H a xs/\xs[i]? = some x,fun i H x H'=>H'=H/\∀ xs,SqT K H a xs->xs[i]? = some x,fun i H=>∃ xs,SqT K H a xs/\xs.length<=i⟩
theorem qiY {P:Program} {w:World} {K:PySem.W.Frag} {tg:Expr} (a it:Addr):Turn P w K tg (Itl K a) [it] it (fun i h=>h.IsListIter it a i) where
 mem:=by simp
 obj:=fun i h st b hb=>by
  have e:b=it:=by simpa using hb
  subst e
  obtain ⟨o,e,c,d⟩:=st
  exact ⟨o,e,fun v z=>by rw [d] at z; cases z⟩
 keep:=fun i h h' st k=>st.at fun o e=>k it (by simp) o e
 item:=by
  intro X hP hw hK hc i pins s σ H E I hf st hg
  subst hP hw hK
  obtain ⟨xs,x,hq,hx⟩:=hg
  obtain ⟨its,rv,p,hz⟩:=I.list hq
  obtain ⟨u,hu,ru⟩:=rv.get hx
  obtain ⟨f0,f1,f2,f3,f4,f5⟩:=hf it (by simp)
  refine wpAny_pyNext_list_item st p.isList (x:=u) (by simpa using hu) fun h' st' sb=>?_
  have I1:Inv X pins σ H { s with heap:=h' }:=I.turned (t':=s.toks) (fun b o hb e=>(sb.2 b hb).trans e) f0 f1 f3 f4 f5
  obtain ⟨o,e,c,d⟩:=id st'
  exact ⟨u,rfl,qhP (s:={ s with heap:=h' }) e c d (by decide) ⟨x,H,I1,ru,⟨rfl,fun ys hy=>by rw [I.list_inj hy hq]; exact hx⟩,st',fun b hb=>(hf b hb).1⟩⟩
 done:=by
  intro X hP hw hK hc i pins s σ H E I hf st hg
  subst hP hw hK
  obtain ⟨xs,hq,hx⟩:=hg
  obtain ⟨its,rv,p,hz⟩:=I.list hq
  obtain ⟨f0,f1,f2,f3,f4,f5⟩:=hf it (by simp)
  have hl:=rv.length
  exact wpAny_pyNext_list_end (I.ok.hd hc) st p.isList (by simp; omega) fun h' eb=>⟨rfl,I.turned (t':=s.toks) (fun b o hb e=>eb b o hb e) f0 f1 f3 f4 f5⟩
 self:=fun _ _ _ _ _ st h=>wpAny_pyIter_listiter st h
theorem qhQ {P:Program} {w:World} {K:PySem.W.Frag} {tg:Expr} (a it:Addr):Turn P w K tg (Itt K a) [it] it (fun i h=>h.IsTupleIter it a i) where
 mem:=by simp
 obj:=fun i h st b hb=>by
  have e:b=it:=by simpa using hb
  subst e
  obtain ⟨o,e,c,d⟩:=st
  exact ⟨o,e,fun v z=>by rw [d] at z; cases z⟩
 keep:=fun i h h' st k=>st.at fun o e=>k it (by simp) o e
 item:=by
  intro X hP hw hK hc i pins s σ H E I hf st hg
  subst hP hw hK
  obtain ⟨xs,x,hq,hx⟩:=hg
  obtain ⟨its,rv,p,hz⟩:=I.tuple hq
  obtain ⟨u,hu,ru⟩:=rv.get hx
  obtain ⟨f0,f1,f2,f3,f4,f5⟩:=hf it (by simp)
  refine wpAny_pyNext_tuple_item st (show s.heap.IsTuple a its.toArray from p) (x:=u) (by simpa using hu) fun h' st' sb=>?_
  have I1:Inv X pins σ H { s with heap:=h' }:=I.turned (t':=s.toks) (fun b o hb e=>(sb.2 b hb).trans e) f0 f1 f3 f4 f5
  obtain ⟨o,e,c,d⟩:=id st'
  exact ⟨u,rfl,qhP (s:={ s with heap:=h' }) e c d (by decide) ⟨x,H,I1,ru,⟨rfl,fun ys hy=>by rw [I.tuple_inj hy hq]; exact hx⟩,st',fun b hb=>(hf b hb).1⟩⟩
 done:=by
  intro X hP hw hK hc i pins s σ H E I hf st hg
  subst hP hw hK
  obtain ⟨xs,hq,hx⟩:=hg
  obtain ⟨its,rv,p,hz⟩:=I.tuple hq
  obtain ⟨f0,f1,f2,f3,f4,f5⟩:=hf it (by simp)
  have hl:=rv.length
  exact wpAny_pyNext_tuple_end (I.ok.hd hc) st (show s.heap.IsTuple a its.toArray from p) (by simp; omega) fun h' eb=>⟨rfl,I.turned (t':=s.toks) (fun b o hb e=>eb b o hb e) f0 f1 f3 f4 f5⟩
 self:=fun _ _ _ _ _ st h=>wpAny_pyIter_tupleiter st h
end L2
namespace L2
open PySem PySem.Spec PyProof.Rows
section
variable {X:Cx} {tg:Expr}
def qnR (K:PySem.W.Frag) (tl:TE):TI:=fun σ H R=>tl σ H fun x H1=>∃ a,x=.ref a/\(∃ xs,SqL K H1 a xs)/\R (Itl K a) H1
def qod (K:PySem.W.Frag) (tl:TE):TI:=fun σ H R=>tl σ H fun x H1=>∃ a,x=.ref a/\(∃ xs,SqT K H1 a xs)/\R (Itt K a) H1
theorem ZX {l:Expr} {tl:TE} (hl:PE X l tl):PI X tg l (qnR X.K tl):=by
 intro pins s σ H R I h
 refine thn (hl pins s σ H _ I h) fun v s1 ⟨x,H1,I1,r1,q1⟩=>?_
 obtain ⟨a,e,⟨xs,hq⟩,q⟩:=q1
 subst e
 cases r1
 obtain ⟨its,rv,p,hz⟩:=I1.list hq
 refine wpAny_pyIter_list p.isList ?_
 refine ⟨s1.heap.objs.size,[s1.heap.objs.size],_,_,H1,rfl,I1.kept (t':=s1.toks) fun b o e=>Heap.get?_push_of_some _ e,qiY a _,⟨_,Heap.get?_push_size _ rfl,rfl,rfl⟩,fun b hb=>?_,q⟩
 have e:b=s1.heap.objs.size:=by simpa using hb
 subst e
 exact I1.fpOk (Nat.le_refl _) (I1.hok.fresh (Nat.le_refl _))
theorem qfr {l:Expr} {tl:TE} (hl:PE X l tl):PI X tg l (qod X.K tl):=by
 intro pins s σ H R I h
 refine thn (hl pins s σ H _ I h) fun v s1 ⟨x,H1,I1,r1,q1⟩=>?_
 obtain ⟨a,e,⟨xs,hq⟩,q⟩:=q1
 subst e
 cases r1
 obtain ⟨its,rv,p,hz⟩:=I1.tuple hq
 refine wpAny_pyIter_tuple (show s1.heap.IsTuple a its.toArray from p) ?_
 refine ⟨s1.heap.objs.size,[s1.heap.objs.size],_,_,H1,rfl,I1.kept (t':=s1.toks) fun b o e=>Heap.get?_push_of_some _ e,qhQ a _,⟨_,Heap.get?_push_size _ rfl,rfl,rfl⟩,fun b hb=>?_,q⟩
 have e:b=s1.heap.objs.size:=by simpa using hb
 subst e
 exact I1.fpOk (Nat.le_refl _) (I1.hok.fresh (Nat.le_refl _))
def qoe (wi:TI) (g:TG) (tb:TS):TS:=fun D σ H=>wi σ H fun J H1=>∃ W:Nat->Nat->St->Hp->Prop,(∃ m,W 0 m σ H1)/\∀ i m σ H,W i m σ H ->
 (J.stop i H/\D.nx σ H) \/ (J.go i H/\∃ N:St->Hp->Prop,(∀ σ' H',N σ' H'->∃ m',m'<m/\W (i+1) m' σ' H')/\∀ x H',J.yld i H x H'->g x σ H' fun σ2 H2=>tb { D with nx:=N,ct:=N,bk:=D.nx } σ2 H2)
def qbz (fp:List Addr) (h:Heap):List (Addr × Obj):=fp.filterMap fun b=>(h.get? b).map fun o=>(b,o)
theorem qaN {fp:List Addr} {h:Heap} {b:Addr} {o:Obj} (hb:b∈fp) (e:h.get? b=some o):(b,o)∈qbz fp h:=List.mem_filterMap.mpr ⟨b,hb,by rw [e]; rfl⟩
theorem qiZ {fp:List Addr} {h:Heap} {p:Addr × Obj} (hp:p∈qbz fp h):p.1∈fp/\h.get? p.1=some p.2:=by
 obtain ⟨b,hb,e⟩:=List.mem_filterMap.mp hp
 cases q:h.get? b with
 | none=>rw [q] at e; cases e
 | some o=>
  rw [q] at e
  have e':(b,o)=p:=Option.some.inj e
  subst e'
  exact ⟨hb,q⟩
theorem Inv.pinned {pins:List (Addr × Obj)} {σ : St} {H:Hp} {s:Shared} {fp:List Addr} (I:Inv X pins σ H s) (hf:∀ b∈fp,Js X pins H b) (ho:∀ b∈fp,∃ o,s.heap.get? b=some o/\∀ v,o.data≠.cell v):Inv X (pins++qbz fp s.heap) σ H s :=
 I.pins_of fun p hp=>(List.mem_append.mp hp).elim (fun z=>I.pin p (List.mem_append_right _ z)) fun z=>by
  obtain ⟨hb,e⟩:=qiZ z
  obtain ⟨f0,f1,f2,_⟩:=hf p.1 hb
  obtain ⟨o,e',d⟩:=ho p.1 hb
  rw [e] at e'; cases e'
  exact ⟨e,f0,f1,f2,d⟩
theorem Inv.unpinned {pins pl:List (Addr × Obj)} {σ : St} {H:Hp} {s:Shared} (I:Inv X (pins++pl) σ H s):Inv X pins σ H s:=I.pins_of fun p hp=>I.pin p (List.mem_append_right _ (List.mem_append_left _ hp))
theorem Jk {iter:Expr} {body:List Stmt} {wi:TI} {g:TG} {tb:TS} {pos:Pos} (hp:PassesOwn (model X.prog X.w) X.A X.env X.xe) (hc:X.calm=true) (hi:PI X tg iter wi) (hg:PG X tg g) (hb:PSs X body tb)
  (hs:∀ x,foldedSetIterable iter X.env x=pure x:=by intro _; rfl):PS X (.For tg iter body [] pos) (qoe wi g tb):=by
 intro pins s σ H D I h
 refine wpAny_For (thn (hi pins s σ H _ I h) fun v s1 h1=>thn h1 fun itv s2 h2=>?_) hs
 obtain ⟨it,fp,tn,J,H2,e,I2,T,st2,f2,W,⟨m0,w0⟩,turn⟩:=h2
 subst e
 have stat:∀ {H':Hp},(∀ b∈fp,H' b=none)->∀ b∈fp,Js X pins H' b:=fun hn b hb=>⟨hn b hb,(f2 b hb).2⟩
 refine codeAny_forLoop_any (fun n s'=>∃ i σ' H',Inv X pins σ' H' s'/\tn i s'.heap/\(∀ b∈fp,H' b=none)/\W i n σ' H') ?_ m0 ⟨0,σ,H2,I2,st2,fun b hb=>(f2 b hb).1,w0⟩
 rintro n s3 ⟨i,σ3,H3,I3,st3,fr3,w3⟩
 rcases turn i n σ3 H3 w3 with ⟨stop,qn⟩ | ⟨go,N,hN,step⟩
 ·refine wpAny_passesOwn hp (thn (T.done X rfl rfl rfl hc i pins s3 σ3 H3 X.xe I3 (stat fr3) st3 stop) fun r s4 ⟨hr,I4⟩=>?_)
  subst hr
  exact wpAny_execs_nil ⟨σ3,H3,I4,qn⟩
 ·refine wpAny_passesOwn hp (thn (T.item X rfl rfl rfl hc i pins s3 σ3 H3 X.xe I3 (stat fr3) st3 go) fun r s4 ⟨u,hr,h4⟩=>?_)
  subst hr
  refine wpAny_passesOwn hp (thn h4 fun _ s5 ⟨x,H5,I5,r5,y5,st5,fr5⟩=>?_)
  have I5':=I5.pinned (stat fr5) (T.obj _ _ st5)
  refine wpAny_passesOwn hp (thn (hg _ s5 σ3 H5 x u _ I5' r5 (step x H5 y5)) fun _ s6 ⟨σ6,H6,I6,q6⟩=>?_)
  refine wpAny_passesOwn hp (thn (hb _ s6 σ6 H6 _ I6 q6) fun f s7 q7=>?_)
  have again:∀ {σ7:St} {H7:Hp},Inv X (pins++qbz fp s5.heap) σ7 H7 s7->N σ7 H7->∃ m,m<n/\∃ i σ' H',Inv X pins σ' H' s7/\tn i s7.heap/\(∀ b∈fp,H' b=none)/\W i m σ' H':=fun {σ7 H7} I7 n7=>by
   obtain ⟨m',hm,w7⟩:=hN σ7 H7 n7
   refine ⟨m',hm,i+1,σ7,H7,I7.unpinned,T.keep _ _ _ st5 fun b hb o e=>(I7.pin (b,o) (List.mem_append_right _ (List.mem_append_right _ (qaN hb e)))).1,fun b hb=>?_,w7⟩
   obtain ⟨o,e,d⟩:=T.obj _ _ st5 b hb
   exact (I7.pin (b,o) (List.mem_append_right _ (List.mem_append_right _ (qaN hb e)))).2.1
  cases f with
  | next=>obtain ⟨σ7,H7,I7,n7⟩:=q7; exact again I7 n7
  | cont=>obtain ⟨σ7,H7,I7,n7⟩:=q7; exact again I7 n7
  | brk=>obtain ⟨σ7,H7,I7,q7⟩:=q7; exact ⟨σ7,H7,I7.unpinned,q7⟩
  | ret v=>obtain ⟨x7,σ7,H7,I7,r7,q7⟩:=q7; exact ⟨x7,σ7,H7,I7.unpinned,r7,q7⟩
end
theorem qaO {K:PySem.W.Frag} {a:Addr} {xs:List V} {g:TG} {tb:TS} {D:Ends} {σ : St} {H:Hp} (Pv:Nat->St->Hp->Prop) (h0:Pv 0 σ H) (hl:∀ i σ H,i<=xs.length->Pv i σ H->SqL K H a xs)
  (hs:∀ i x σ H,xs[i]? = some x->Pv i σ H->g x σ H fun σ2 H2=>tb { D with nx:=Pv (i+1),ct:=Pv (i+1),bk:=D.nx } σ2 H2) (hd:∀ σ H,Pv xs.length σ H->D.nx σ H) :
  ∃ W:Nat->Nat->St->Hp->Prop,(∃ m,W 0 m σ H)/\∀ i m σ H,W i m σ H ->
   ((Itl K a).stop i H/\D.nx σ H) \/ ((Itl K a).go i H/\∃ N:St->Hp->Prop,(∀ σ' H',N σ' H'->∃ m',m'<m/\W (i+1) m' σ' H')/\∀ x H',(Itl K a).yld i H x H'->g x σ H' fun σ2 H2=>tb { D with nx:=N,ct:=N,bk:=D.nx } σ2 H2):=by
 refine ⟨fun i m σ H=>m=xs.length - i/\i<=xs.length/\Pv i σ H,⟨xs.length,by simp,Nat.zero_le _,h0⟩,?_⟩
 rintro i m σ H ⟨rfl,hi,p⟩
 have q:=hl i σ H hi p
 by_cases hlt:i<xs.length
 ·refine .inr ⟨⟨xs,xs[i],q,by simp [hlt]⟩,Pv (i+1),fun σ' H' p'=>⟨xs.length - (i+1),by omega,rfl,hlt,p'⟩,fun x H' y=>?_⟩
  obtain ⟨e,y⟩:=y
  subst e
  exact hs i x σ _ (y xs q) p
 ·have e:i=xs.length:=by omega
  subst e
  exact .inl ⟨⟨xs,q,Nat.le_refl _⟩,hd σ H p⟩
theorem qdI {K:PySem.W.Frag} {a:Addr} {xs:List V} {g:TG} {tb:TS} {D:Ends} {σ : St} {H:Hp} (Pv:Nat->St->Hp->Prop) (h0:Pv 0 σ H) (hl:∀ i σ H,i<=xs.length->Pv i σ H->SqT K H a xs)
  (hs:∀ i x σ H,xs[i]? = some x->Pv i σ H->g x σ H fun σ2 H2=>tb { D with nx:=Pv (i+1),ct:=Pv (i+1),bk:=D.nx } σ2 H2) (hd:∀ σ H,Pv xs.length σ H->D.nx σ H) :
  ∃ W:Nat->Nat->St->Hp->Prop,(∃ m,W 0 m σ H)/\∀ i m σ H,W i m σ H ->
   ((Itt K a).stop i H/\D.nx σ H) \/ ((Itt K a).go i H/\∃ N:St->Hp->Prop,(∀ σ' H',N σ' H'->∃ m',m'<m/\W (i+1) m' σ' H')/\∀ x H',(Itt K a).yld i H x H'->g x σ H' fun σ2 H2=>tb { D with nx:=N,ct:=N,bk:=D.nx } σ2 H2):=by
 refine ⟨fun i m σ H=>m=xs.length - i/\i<=xs.length/\Pv i σ H,⟨xs.length,by simp,Nat.zero_le _,h0⟩,?_⟩
 rintro i m σ H ⟨rfl,hi,p⟩
 have q:=hl i σ H hi p
 by_cases hlt:i<xs.length
 ·refine .inr ⟨⟨xs,xs[i],q,by simp [hlt]⟩,Pv (i+1),fun σ' H' p'=>⟨xs.length - (i+1),by omega,rfl,hlt,p'⟩,fun x H' y=>?_⟩
  obtain ⟨e,y⟩:=y
  subst e
  exact hs i x σ _ (y xs q) p
 ·have e:i=xs.length:=by omega
  subst e
  exact .inl ⟨⟨xs,q,Nat.le_refl _⟩,hd σ H p⟩
end L2
namespace L2
open PySem PySem.Spec PyProof.Rows
abbrev R2:=V->V->Hp->VK->Prop
def OpR (X:Cx) (f:Value->Value->Sem Value) (r:R2):Prop :=
 ∀ (pins:List (Addr × Obj)) (s:Shared) (σ : St) (H:Hp) (x y:V) (v u:Value) (Q:VK),Inv X pins σ H s->RelV x v->RelV y u->r x y H Q ->
  wpAny (model X.prog X.w) X.A (f v u) (EP X pins σ Q) X.xe s
def UnR (X:Cx) (f:Value->Sem Value) (r:V->Hp->VK->Prop):Prop :=
 ∀ (pins:List (Addr × Obj)) (s:Shared) (σ : St) (H:Hp) (x:V) (v:Value) (Q:VK),Inv X pins σ H s->RelV x v->r x H Q ->
  wpAny (model X.prog X.w) X.A (f v) (EP X pins σ Q) X.xe s
def qcb (X:Cx) (f:Value) (r:List V->Hp->VK->Prop):Prop :=
 ∀ (pins:List (Addr × Obj)) (s:Shared) (σ : St) (H:Hp) (xs:List V) (us:List Value) (Q:VK),Inv X pins σ H s->qE xs us->r xs H Q ->
  wpAny (model X.prog X.w) X.A (call f us) (EP X pins σ Q) X.xe s
def qof (X:Cx) (r:V->Hp->(Bool->Hp->Prop)->Prop):Prop :=
 ∀ (pins:List (Addr × Obj)) (s:Shared) (σ : St) (H:Hp) (x:V) (v:Value) (Q:Bool->Hp->Prop),Inv X pins σ H s->RelV x v->r x H Q ->
  wpAny (model X.prog X.w) X.A (truthy v) (TP X pins σ Q) X.xe s
def tOp (r:R2) (ta tb:TE):TE:=fun σ H Q=>ta σ H fun x H1=>tb σ H1 fun y H2=>r x y H2 Q
def tUn (r:V->Hp->VK->Prop) (ta:TE):TE:=fun σ H Q=>ta σ H fun x H1=>r x H1 Q
def rI0 (g:Int->Int->V):R2:=fun x y H Q=>∃ i j,x=.int i/\y=.int j/\Q (g i j) H
def rU (g:Int->V):V->Hp->VK->Prop:=fun x H Q=>∃ i,x=.int i/\Q (g i) H
section
variable {X:Cx} {a b c:Expr} {ta tb tc:TE} {pos:Pos}
theorem qku (ha:PE X a ta) (hb:PE X b tb) {pins:List (Addr × Obj)} {s:Shared} {σ : St} {H:Hp} {R:V->V->Hp->Prop} (I:Inv X pins σ H s)
  (h:ta σ H fun x H1=>tb σ H1 fun y H2=>R x y H2) {Q:Value->Shared->Prop} {f:Value->Value->Sem Value}
  (hf:∀ v u s2 x y H2,Inv X pins σ H2 s2->RelV x v->RelV y u->R x y H2->wpAny (model X.prog X.w) X.A (f v u) Q X.xe s2) :
  wpAny (model X.prog X.w) X.A (eval a X.env) (fun v s₁=>wpAny (model X.prog X.w) X.A (eval b X.env) (fun u s₂=>wpAny (model X.prog X.w) X.A (f v u) Q X.xe s₂) X.xe s₁) X.xe s:=by
 refine thn (ha pins s σ H _ I h) fun v s1 ⟨x,H1,I1,r1,q1⟩=>?_
 refine thn (hb pins s1 σ H1 _ I1 q1) fun u s2 ⟨y,H2,I2,r2,q2⟩=>?_
 exact hf v u s2 x y H2 I2 r1 r2 q2
theorem QK {op:Operator} {r:R2} (ho:OpR X (binaryOp op) r) (ha:PE X a ta) (hb:PE X b tb):PE X (.BinOp a op b pos) (tOp r ta tb):=by
 intro pins s σ H Q I h
 exact wpAny_BinOp (qku ha hb I h fun v u s2 x y H2 I2 rx ry q=>ho pins s2 σ H2 x y v u Q I2 rx ry q)
theorem Ja {op:UnaryOp} {r:V->Hp->VK->Prop} (ho:UnR X (unaryOp op) r) (ha:PE X a ta):PE X (.UnaryOp op a pos) (tUn r ta):=by
 intro pins s σ H Q I h
 exact UnaryOp_ (thn (ha pins s σ H _ I h) fun v s1 ⟨x,H1,I1,r1,q1⟩=>ho pins s1 σ H1 x v Q I1 r1 q1)
theorem qmT {f:Value->Value->Sem Value} {g:Int->Int->Int}
  (rule:∀ (i j:Int) (t u:Tok) (s:Shared) (Q:Value->Shared->Prop) (E:Value->Shared->Prop),Q (.int (g i j) s.toks) { s with toks:=s.toks+1 }->wpAny (model X.prog X.w) X.A (f (.int i t) (.int j u)) Q E s) :
  OpR X f (rI0 fun i j=>.int (g i j)):=by
 intro pins s σ H x y v u Q I rx ry h
 obtain ⟨i,j,rfl,rfl,q⟩:=h
 obtain ⟨t,rfl⟩:=rx
 obtain ⟨t',rfl⟩:=ry
 exact rule i j t t' s _ _ ⟨.int (g i j),H,I.tok _,⟨_,rfl⟩,q⟩
theorem qhR {f:Value->Value->Sem Value} {g:Int->Int->Bool}
  (rule:∀ (i j:Int) (t u:Tok) (s:Shared) (Q:Value->Shared->Prop) (E:Value->Shared->Prop),Q (.bool (g i j)) s->wpAny (model X.prog X.w) X.A (f (.int i t) (.int j u)) Q E s) :
  OpR X f (rI0 fun i j=>.bl (g i j)):=by
 intro pins s σ H x y v u Q I rx ry h
 obtain ⟨i,j,rfl,rfl,q⟩:=h
 obtain ⟨t,rfl⟩:=rx
 obtain ⟨t',rfl⟩:=ry
 exact rule i j t t' s _ _ ⟨.bl (g i j),H,I,rfl,q⟩
theorem JI:OpR X (binaryOp .Add) (rI0 fun i j=>.int (i+j)):=qmT fun _ _ _ _ _ _ _ q=>add_int q
theorem qc2:OpR X (binaryOp .Sub) (rI0 fun i j=>.int (i - j)):=qmT fun _ _ _ _ _ _ _ q=>sub_int q
theorem unI {f:Value->Sem Value} {g:Int->Int}
  (rule:∀ (i:Int) (t:Tok) (s:Shared) (Q:Value->Shared->Prop) (E:Value->Shared->Prop),Q (.int (g i) s.toks) { s with toks:=s.toks+1 }->wpAny (model X.prog X.w) X.A (f (.int i t)) Q E s) :
  UnR X f (rU fun i=>.int (g i)):=by
 intro pins s σ H x v Q I rx h
 obtain ⟨i,rfl,q⟩:=h
 obtain ⟨t,rfl⟩:=rx
 exact rule i t s _ _ ⟨.int (g i),H,I.tok _,⟨_,rfl⟩,q⟩
theorem Ze:UnR X (unaryOp .USub) (rU fun i=>.int (-i)):=unI fun _ _ _ _ _ q=>neg_int q
end
def qmU:V->V->Bool
 | .non,.non=>true | .non,.int _=>true | .int _,.non=>true | .non,.bl _=>true | .bl _,.non=>true | .non,.str _=>true | .str _,.non=>true
 | .int _,.int _=>true | .bl _,.bl _=>true | .str _,.str _=>true | .byt _,.byt _=>true
 | .int _,.str _=>true | .str _,.int _=>true | .bl _,.str _=>true | .str _,.bl _=>true
 | _,_=>false
def rEq:R2:=fun x y H Q=>qmU x y=true/\Q (.bl (decide (x=y))) H
def rNe:R2:=fun x y H Q=>qmU x y=true/\Q (.bl (!decide (x=y))) H
theorem jw {i j:Int}:decide (V.int i=V.int j)=(i == j):=by
 rw [Bool.eq_iff_iff]
 simp
theorem qi0 {i j:Bool}:decide (V.bl i=V.bl j)=(i == j):=by
 rw [Bool.eq_iff_iff]
 simp
theorem qhe {i j:Str}:decide (V.str i=V.str j)=(i == j):=by
 rw [Bool.eq_iff_iff]
 simp
theorem qhf {i j:Array UInt8}:decide (V.byt i=V.byt j)=(i.toList == j.toList):=by
 rw [Bool.eq_iff_iff]
 cases i
 cases j
 simp
section
variable {X:Cx} {a b c:Expr} {ta tb tc:TE} {pos:Pos}
theorem zh {pins:List (Addr × Obj)} {σ : St} {H:Hp} {s:Shared} {Q:VK} {k k':Bool} (I:Inv X pins σ H s) (q:Q (.bl k) H) (e:k=k'):EP X pins σ Q (.bool k') s:=by
 subst e
 exact ⟨.bl k,H,I,rfl,q⟩
theorem z9:OpR X (compareOp .Eq) rEq:=by
 intro pins s σ H x y v u Q I rx ry h
 obtain ⟨hs,q⟩:=h
 cases x with
 | non=>
  cases rx
  cases y with
  | non=>cases ry; exact PySem.EqNone.eq_none_none (zh I q (by simp))
  | bl j=>cases ry; exact PySem.EqNone.eq_none_bool (zh I q (by simp))
  | int j=>obtain ⟨t',rfl⟩:=ry; exact PySem.EqNone.eq_none_int (zh I q (by simp))
  | str j=>obtain ⟨t',rfl⟩:=ry; exact PySem.EqNone.eq_none_str (zh I q (by simp))
  | _=>exact absurd (show false=true from hs) Bool.false_ne_true
 | bl i=>
  cases rx
  cases y with
  | non=>cases ry; exact PySem.EqNone.eq_bool_none (zh I q (by simp))
  | bl j=>cases ry; exact eq_bool (zh I q qi0)
  | str j=>obtain ⟨t',rfl⟩:=ry; exact PySem.EqMixed.eq_bool_str (zh I q (by simp))
  | _=>exact absurd (show false=true from hs) Bool.false_ne_true
 | int i=>
  obtain ⟨t,rfl⟩:=rx
  cases y with
  | non=>cases ry; exact PySem.EqNone.eq_int_none (zh I q (by simp))
  | int j=>obtain ⟨t',rfl⟩:=ry; exact eq_int (zh I q jw)
  | str j=>obtain ⟨t',rfl⟩:=ry; exact PySem.EqMixed.eq_int_str (zh I q (by simp))
  | _=>exact absurd (show false=true from hs) Bool.false_ne_true
 | str i=>
  obtain ⟨t,rfl⟩:=rx
  cases y with
  | non=>cases ry; exact PySem.EqNone.eq_str_none (zh I q (by simp))
  | bl j=>cases ry; exact PySem.EqMixed.eq_str_bool (zh I q (by simp))
  | int j=>obtain ⟨t',rfl⟩:=ry; exact PySem.EqMixed.eq_str_int (zh I q (by simp))
  | str j=>obtain ⟨t',rfl⟩:=ry; exact eq_str (zh I q qhe)
  | _=>exact absurd (show false=true from hs) Bool.false_ne_true
 | byt i=>
  obtain ⟨t,rfl⟩:=rx
  cases y with
  | byt j=>obtain ⟨t',rfl⟩:=ry; exact PySem.W.eq_bytes (zh I q qhf)
  | _=>exact absurd (show false=true from hs) Bool.false_ne_true
 | _=>cases y <;> exact absurd (show false=true from hs) Bool.false_ne_true
theorem qnS:OpR X (compareOp .NotEq) rNe:=by
 intro pins s σ H x y v u Q I rx ry h
 obtain ⟨hs,q⟩:=h
 cases x with
 | non=>
  cases rx
  cases y with
  | non=>cases ry; exact PySem.EqNone.ne_none_none (zh I q (by simp))
  | bl j=>cases ry; exact PySem.EqNone.ne_none_bool (zh I q (by simp))
  | int j=>obtain ⟨t',rfl⟩:=ry; exact PySem.EqNone.ne_none_int (zh I q (by simp))
  | str j=>obtain ⟨t',rfl⟩:=ry; exact PySem.EqNone.ne_none_str (zh I q (by simp))
  | _=>exact absurd (show false=true from hs) Bool.false_ne_true
 | bl i=>
  cases rx
  cases y with
  | non=>cases ry; exact PySem.EqNone.ne_bool_none (zh I q (by simp))
  | bl j=>cases ry; exact ne_bool (zh I q (congrArg not qi0))
  | str j=>obtain ⟨t',rfl⟩:=ry; exact PySem.EqMixed.ne_bool_str (zh I q (by simp))
  | _=>exact absurd (show false=true from hs) Bool.false_ne_true
 | int i=>
  obtain ⟨t,rfl⟩:=rx
  cases y with
  | non=>cases ry; exact PySem.EqNone.ne_int_none (zh I q (by simp))
  | int j=>obtain ⟨t',rfl⟩:=ry; exact ne_int (zh I q (congrArg not jw))
  | str j=>obtain ⟨t',rfl⟩:=ry; exact PySem.EqMixed.ne_int_str (zh I q (by simp))
  | _=>exact absurd (show false=true from hs) Bool.false_ne_true
 | str i=>
  obtain ⟨t,rfl⟩:=rx
  cases y with
  | non=>cases ry; exact PySem.EqNone.ne_str_none (zh I q (by simp))
  | bl j=>cases ry; exact PySem.EqMixed.ne_str_bool (zh I q (by simp))
  | int j=>obtain ⟨t',rfl⟩:=ry; exact PySem.EqMixed.ne_str_int (zh I q (by simp))
  | str j=>obtain ⟨t',rfl⟩:=ry; exact ne_str (zh I q (congrArg not qhe))
  | _=>exact absurd (show false=true from hs) Bool.false_ne_true
 | byt i=>
  obtain ⟨t,rfl⟩:=rx
  cases y with
  | byt j=>obtain ⟨t',rfl⟩:=ry; exact PySem.W.ne_bytes (zh I q (congrArg not qhf))
  | _=>exact absurd (show false=true from hs) Bool.false_ne_true
 | _=>cases y <;> exact absurd (show false=true from hs) Bool.false_ne_true
theorem qff:OpR X (compareOp .Lt) (rI0 fun i j=>.bl (decide (i<j))):=qhR fun _ _ _ _ _ _ _ q=>lt_int q
theorem qcc:OpR X (compareOp .LtE) (rI0 fun i j=>.bl (decide (i<=j))):=qhR fun _ _ _ _ _ _ _ q=>le_int q
theorem Jy:OpR X (compareOp .Gt) (rI0 fun i j=>.bl (decide (j<i))):=qhR fun _ _ _ _ _ _ _ q=>gt_int q
theorem qnT:OpR X (compareOp .GtE) (rI0 fun i j=>.bl (decide (j<=i))):=qhR fun _ _ _ _ _ _ _ q=>ge_int q
theorem qU (b:Expr) {op:CmpOp} (h:op≠.In:=by decide) (h2:op≠.NotIn:=by decide):behindInMarks op b=false:=by
 have e1:(op == CmpOp.In)=false:=by cases op <;> first | rfl | exact absurd rfl h
 have e2:(op == CmpOp.NotIn)=false:=by cases op <;> first | rfl | exact absurd rfl h2
 cases b <;> simp [behindInMarks,e1,e2]
theorem qdJ {op:CmpOp} {r:R2} (ho:OpR X (compareOp op) r) (ha:PE X a ta) (hb:PE X b tb) (hm:behindInMarks op b=false):PE X (.Compare a [op] [b] pos) (tOp r ta tb):=by
 intro pins s σ H Q I h
 exact wpAny_Compare1 (qku ha hb I h fun v u s2 x y H2 I2 rx ry q=>ho pins s2 σ H2 x y v u Q I2 rx ry q) hm
def qc3 (t:TE):TT:=fun σ H Q=>t σ H fun x H'=>∃ k,x=.bl k/\Q k H'
theorem qI {op:CmpOp} {r:R2} (ho:OpR X (compareOp op) r) (ha:PE X a ta) (hb:PE X b tb) (hm:behindInMarks op b=false):PT X (.Compare a [op] [b] pos) (qc3 (tOp r ta tb)):=by
 intro pins s σ H Q I h
 refine wpAny_isTrue_Compare1 (thn (ha pins s σ H _ I h) fun v s1 ⟨x,H1,I1,r1,q1⟩=>thn (hb pins s1 σ H1 _ I1 q1) fun u s2 ⟨y,H2,I2,r2,q2⟩=>
  thn (ho pins s2 σ H2 x y v u _ I2 r1 r2 q2) fun c s3 ⟨z,H3,I3,r3,k,e,q3⟩=>?_) hm
 subst e
 cases r3
 exact wpAny_truthy_bool ⟨H3,I3,q3⟩
def qfs (r r':R2) (ta tb tc:TE):TE:=fun σ H Q=>ta σ H fun x H1=>tb σ H1 fun y H2=>r x y H2 fun z H3=>∃ k,z=.bl k /\
 (if k=true then tc σ H3 fun w' H4=>r' y w' H4 Q else Q (.bl false) H3)
theorem qcJ {op op':CmpOp} {r r':R2} (ho:OpR X (compareOp op) r) (ho':OpR X (compareOp op') r') (ha:PE X a ta) (hb:PE X b tb) (hc:PE X c tc)
  (hm:lastMarks [op,op'] [b,c]=false:=by with_unfolding_all rfl):PE X (.Compare a [op,op'] [b,c] pos) (qfs r r' ta tb tc):=by
 intro pins s σ H Q I h
 refine Compare_chain (thn (ha pins s σ H _ I h) fun v s1 ⟨x,H1,I1,r1,q1⟩=>chain_link (thn (hb pins s1 σ H1 _ I1 q1) fun u s2 ⟨y,H2,I2,r2,q2⟩=>
  thn (ho pins s2 σ H2 x y v u _ I2 r1 r2 q2) fun d s3 ⟨z,H3,I3,r3,k,e,q3⟩=>?_)) hm
 subst e
 cases r3
 refine wpAny_truthy_bool ?_
 cases k with
 | false=>exact ite_ff ⟨.bl false,H3,I3,rfl,q3⟩
 | true=>exact ite_tt (chain_last (thn (hc pins s3 σ H3 _ I3 q3) fun w' s4 ⟨z',H4,I4,r4,q4⟩=>ho' pins s4 σ H4 y z' u w' Q I4 r2 r4 q4))
def qmV (K:PySem.W.Frag) (x:V) (H:Hp) (k:Bool):Prop :=
 match x with
 | .non=>k=false
 | .bl b=>k=b
 | .int i=>k=(i != 0)
 | .str y=>y.length<=sizeLine/\k=((y.length:Int) != 0)
 | .byt y=>y.size<=sizeLine/\k=((y.size:Int) != 0)
 | .ref p=>(∃ xs,SqL K H p xs/\k = !xs.isEmpty) \/ (∃ xs,SqT K H p xs/\k = !xs.isEmpty) \/ ∃ kvs,H p=some (.dK kvs)/\k = !kvs.isEmpty
 | _=>False
theorem qhS {κ : Type} {kvs:List (κ × V)} {vs:List (κ × Value)} (r:KV kvs vs):(!vs.isEmpty) = !kvs.isEmpty:=by
 cases r <;> rfl
theorem qc4 {xs:List V} {its:List Value} (r:qE xs its):(!its.toArray.isEmpty) = !xs.isEmpty:=by
 cases r <;> simp
theorem qc5:(sizeLine:Nat)<2 ^ 63:=by rw [sizeLine_eq]; decide
theorem qmW:qof X (fun x H Q=>∃ k,qmV X.K x H k/\Q k H):=by
 intro pins s σ H x v Q I rx h
 obtain ⟨k,e,q⟩:=h
 have hl:=qc5
 have hs:sizeLine=16777216:=sizeLine_eq
 cases x with
 | non=>
  cases rx
  have e':k=false:=e
  subst e'
  exact truthy_none ⟨H,I,q⟩
 | bl b=>
  cases rx
  have e':k=b:=e
  subst e'
  exact wpAny_truthy_bool ⟨H,I,q⟩
 | int i=>
  obtain ⟨t,rfl⟩:=rx
  have e':k=(i != 0):=e
  subst e'
  exact PySem.P.truthy_int ⟨H,I,q⟩
 | str y=>
  obtain ⟨t,rfl⟩:=rx
  obtain ⟨hy,e'⟩:y.length<=sizeLine/\k=((y.length:Int) != 0):=e
  subst e'
  exact PySem.P.truthy_str (by omega) ⟨H,I.tok _,q⟩
 | byt y=>
  obtain ⟨t,rfl⟩:=rx
  obtain ⟨hy,e'⟩:y.size<=sizeLine/\k=((y.size:Int) != 0):=e
  subst e'
  exact PySem.W.truthy_bytes (by omega) ⟨H,I.tok _,q⟩
 | ref p=>
  cases rx
  have e':(∃ xs,SqL X.K H p xs/\k = !xs.isEmpty) \/ (∃ xs,SqT X.K H p xs/\k = !xs.isEmpty) \/ ∃ kvs,H p=some (.dK kvs)/\k = !kvs.isEmpty:=e
  rcases e' with ⟨xs,hx,e'⟩ | ⟨xs,hx,e'⟩ | ⟨kvs,hx,e'⟩
  ·subst e'
   obtain ⟨its,r,pl,hz⟩:=I.list hx
   have hlen:=r.length
   exact wpAny_truthy_list pl.isList (by simp only [List.size_toArray]; omega) ⟨H,I.tok _,by rw [qc4 r]; exact q⟩
  ·subst e'
   obtain ⟨its,r,pl,hz⟩:=I.tuple hx
   have hlen:=r.length
   exact truthy_tuple pl (by simp only [List.size_toArray]; omega) ⟨H,I.tok _,by rw [qc4 r]; exact q⟩
  ·subst e'
   obtain ⟨hz,hS,vs,r,m⟩:kvs.length<=sizeLine/\(p == sysModules)=false/\∃ vs,KV kvs vs/\s.heap.DictOf (zW X.prog X.w) p vs:=I.hok p _ hx
   have hlen:kvs.length=vs.length:=Paired.length r
   exact wpAny_truthy_dict hS m (by omega) ⟨H,I.tok _,by rw [qhS r]; exact q⟩
 | _=>exact (show False from e).elim
theorem QR (ha:PE X a ta) (he:∀ whole,isTrue a X.env whole=(do let v <- whole; standAt a.pos; holding [v] (truthy v))) :
  PT X a (fun σ H Q=>ta σ H fun x H'=>∃ k,qmV X.K x H' k/\Q k H'):=by
 intro pins s σ H Q I h
 exact isTrue_plain (thn (ha pins s σ H _ I h) fun v s1 ⟨x,H1,I1,r1,q1⟩=>qmW pins s1 σ H1 x v Q I1 r1 q1) (he _)
theorem vals1 {x:V} {us:List Value} (r:qE [x] us):∃ u,us=[u]/\RelV x u:=by
 cases r with
 | cons r1 r2=>cases r2; exact ⟨_,rfl,r1⟩
theorem qkv:qcb X (.builtin "ord") (fun xs H Q=>∃ x,xs=[.str x]/\x.length=1/\Q (.int (x.cps.getD 0 0:Nat)) H):=by
 intro pins s σ H xs us Q I r h
 obtain ⟨x,rfl,hz,q⟩:=h
 obtain ⟨u,rfl,t,rfl⟩:=vals1 r
 exact ord_of_one hz ⟨.int _,H,I.tok _,⟨_,rfl⟩,q⟩
end
end L2
namespace L2
open PySem PySem.Spec PyProof.Rows
structure qcK (h:Heap) (x dx C:Addr) (mA:Str->Option Value):Prop where
 obj:h.get? x=some (PySem.W.instObj C dx)
 ns:h.Ns1 dx mA
 ne:dx≠x
theorem qem {h:Heap} {dx:Addr} {mA:Str->Option Value} (n:h.Ns1 dx mA):∃ od,h.get? dx=some od/\∀ name,PySem.W.lookIn name od=some (mA name):=by
 obtain ⟨o,es,ep,ho,hd,hk,_,hm⟩:=n
 refine ⟨o,ho,fun name=>?_⟩
 have e:=hm name
 unfold nsFind findBy at e
 rw [<- Array.find?_toList] at e
 unfold PySem.W.lookIn
 rw [hd]
 dsimp only
 split
 ·rename_i y q
  rw [q] at e
  exact congrArg some e
 ·rename_i q
  rw [q] at e
  have a:es.toList.any (·.refKey)=false:=by
   rw [List.any_eq_false]
   intro y hy
   obtain ⟨z,t,hkey⟩:=hk y (Array.mem_toList_iff.mp hy)
   simp [DictEntry.refKey,hkey]
  have a':¬ es.toList.any (·.refKey)=true:=by rw [a]; exact Bool.false_ne_true
  rw [if_neg a']
  exact congrArg some e
theorem qcK.look {h:Heap} {x dx C:Addr} {mA:Str->Option Value} (I:qcK h x dx C mA):∃ od,PySem.W.InstAt h x (PySem.W.instObj C dx) C (some od)/\∀ name,PySem.W.lookIn name od=some (mA name) :=
 let ⟨od,ho,hl⟩:=qem I.ns
 ⟨od,⟨I.obj,rfl,rfl,ho⟩,hl⟩
section
variable {prog:Program} {w:World} {A:Around} {E:Value->Shared->Prop} {s:Shared} {K:PySem.W.Frag} {x dx C f:Addr} {mA:Str->Option Value} {name:Str} {v:Value}
theorem qlV {expr:Bool} {Q:Value->Shared->Prop} (X:K.In s.heap) (I:qcK s.heap x dx C mA) (hg:PySem.W.plainGet K C name=true) (hh:PySem.W.hasDictIn K C=true)
  (ha:PySem.W.findIn K (.ref C) name=some none) (hv:mA name=some v) (hv':PySem.W.handedIn v=true) (h:Q v { s with toks:=s.toks+1 }) :
  wpAny (model prog w) A (getAttr (.ref x) name expr) Q E s:=by
 obtain ⟨od,J,hl⟩:=I.look
 exact PySem.W.get_value X J (PySem.W.plainGet_of hg).1 (PySem.W.findObj_own hh ha rfl (by rw [hl,hv])) hv' h
theorem qkw {pl:Sem Bool} {Q:Value × List Value->Shared->Prop} (X:K.In s.heap) (I:qcK s.heap x dx C mA) (hg:PySem.W.plainGet K C name=true)
  (hf:PySem.W.findIn K (.ref C) name=some (some (.ref f))) (ht:PySem.W.isFn K (.ref f)=true) (hv:mA name=none) (h:Q (.ref f,[.ref x]) s) :
  wpAny (model prog w) A (getMethod (.ref x) name pl) Q E s:=by
 obtain ⟨od,J,hl⟩:=I.look
 exact PySem.W.method_fn X J (PySem.W.plainGet_of hg).1 (PySem.W.plainGet_of hg).2 hf (beq_iff_eq.mp ht) (by show (PySem.W.lookIn name od).map (·.isSome)=some false; rw [hl,hv]; rfl) h
theorem qlW {ns:List Str} {Q:Unit->Shared->Prop} (X:K.In s.heap) (I:qcK s.heap x dx C mA)
  (hs:PySem.W.findIn K (.ref C) "__setattr__" = some (some (.builtin "object.__setattr__"))) (hp:PySem.W.plainOver K C=true) (ht:PySem.W.takerIn K C name=some none) (hh:PySem.W.hasDictIn K C=true)
  (hw:PySem.Within mA ns) (hsz:ns.length<=sizeLine)
  (h:∀ h',qcK h' x dx C (fun y=>if y=name then some v else mA y)->Heap.SameBut dx s.heap h'->Q () { s with heap:=h',toks:=s.toks+2 }) :
  wpAny (model prog w) A (setAttr (.ref x) name v) Q E s:=by
 obtain ⟨od,J,hl⟩:=I.look
 refine PySem.W.set_plain X J hs (PySem.W.osa_open (s:={ s with toks:=s.toks+1 }) (r:=none) X J hp ht fun b=>?_)
 obtain ⟨cd,hc,hd'⟩:=PySem.W.any_some hh
 have hx:s.heap.get? x=some ⟨.ref C,some dx,.plain,#[]⟩:=I.obj
 refine wpAny_bind (wpAny_pure (wpAny_bind (wpAny_bind (wpAny_loadPart hx (wpAny_bind (PySem.W.Looks.here (s:={ s with toks:=s.toks+1 }) (PySem.W.looks_clsIn X hc) ?_))))))
 rw [hd']
 refine wpAny_pure (a:=some dx) (wpAny_bind (wpAny_pure (wpAny_bind ?_)))
 refine wpAny_nsSet1 (s:={ s with toks:=s.toks+1 }) I.ns fun h' hn2 hs2=>?_
 obtain ⟨oD,esD,epD,hoD,hdD,hcD⟩:=hn2.count (PySem.Within.cons name v hw)
 refine wpAny_bind (wpAny_lookBehind hoD (by rw [hdD]; exact pastItsLine_dict (Nat.le_trans hcD (by rw [List.length_cons]; omega))) ?_)
 exact wpAny_pure (h _ ⟨(hs2.2 _ (Ne.symm I.ne)).trans I.obj,hn2,I.ne⟩ hs2)
theorem qkx {R:Result->Shared->Prop} {vs:List Value} {kw:List (Str × Value)} (X:K.In s.heap) (hm:PySem.W.makesIn K C=true)
  (hi:PySem.W.findIn K (.ref C) "__init__" = some (some (.ref f))) (hf:PySem.W.typeIn K (.ref f)=some (.type "function"))
  (h:codeAny (model prog w) (A.under (.builtin "type.__call__" ⟨.ref C::vs,kw⟩)) (.call (.ref f) ⟨.ref (s.heap.objs.size+1)::vs,kw⟩) (PySem.W.InitBack (s.heap.objs.size+1) R)
   { s with heap:=(s.heap.push PySem.W.emptyDict).push (PySem.W.instObj C s.heap.objs.size) }) :
  codeAny (model prog w) A (.call (.ref C) ⟨vs,kw⟩) R s:=by
 obtain ⟨hh,g,d,t,os⟩:=s
 exact PySem.W.make_core (PySem.W.makes_of X hm) (PySem.W.looks_findIn X hi) (fun self=>PySem.W.bind_fn X self hf) (.inl rfl) h
end
def zb (f:Str) (v:V):List (Str × V)->List (Str × V)
 | []=>[(f,v)]
 | (g,x)::r=>if g=f then (g,v)::r else (g,x)::zb f v r
theorem J9 (f g:Str) (v:V):∀ fs:List (Str × V),(zb f v fs).lookup g=if g=f then some v else fs.lookup g
 | []=>by
  show List.lookup g [(f,v)]=_
  by_cases h:g=f
  ·have hb:(g == f)=true:=beq_iff_eq.mpr h
   simp only [List.lookup,hb,if_pos h]
  ·have hb:(g == f)=false:=beq_eq_false_iff_ne.mpr h
   simp only [List.lookup,hb,if_neg h]
 | (k,x)::r=>by
  have ih:=J9 f g v r
  rw [show zb f v ((k,x)::r)=(if k=f then (k,v)::r else (k,x)::zb f v r) from rfl]
  by_cases hk:k=f
  ·rw [if_pos hk]
   by_cases h:g=k
   ·have hb:(g == k)=true:=beq_iff_eq.mpr h
    simp only [List.lookup,hb,if_pos (h.trans hk)]
   ·have hb:(g == k)=false:=beq_eq_false_iff_ne.mpr h
    simp only [List.lookup,hb,if_neg (fun e:g=f=>h (e.trans hk.symm))]
  ·rw [if_neg hk]
   by_cases h:g=k
   ·have hb:(g == k)=true:=beq_iff_eq.mpr h
    simp only [List.lookup,hb,if_neg (fun e:g=f=>hk (h.symm.trans e))]
   ·have hb:(g == k)=false:=beq_eq_false_iff_ne.mpr h
    simp only [List.lookup,hb]
    exact ih
theorem Jl (f:Str) (v:V):∀ fs:List (Str × V),f∈(zb f v fs).map (·.1)/\∀ g,g∈fs.map (·.1)->g∈(zb f v fs).map (·.1)
 | []=>⟨by simp [zb],fun g h=>by simp at h⟩
 | (k,x)::r=>by
  obtain ⟨i1,i2⟩:=Jl f v r
  rw [show zb f v ((k,x)::r)=(if k=f then (k,v)::r else (k,x)::zb f v r) from rfl]
  by_cases hk:k=f
  ·rw [if_pos hk]
   subst hk
   exact ⟨by simp,fun g h=>by simpa using h⟩
  ·rw [if_neg hk]
   refine ⟨?_,fun g h=>?_⟩
   ·rw [List.map_cons]
    exact List.mem_cons_of_mem _ i1
   ·rw [List.map_cons] at h ⊢
    rcases List.mem_cons.mp h with e | e
    ·exact List.mem_cons.mpr (.inl e)
    ·exact List.mem_cons_of_mem _ (i2 g e)
theorem qcx (f:Str) (v:V):∀ fs:List (Str × V),(zb f v fs).length<=fs.length+1
 | []=>by simp [zb]
 | (k,x)::r=>by
  have ih:=qcx f v r
  rw [show zb f v ((k,x)::r)=(if k=f then (k,v)::r else (k,x)::zb f v r) from rfl]
  by_cases hk:k=f
  ·rw [if_pos hk,List.length_cons,List.length_cons]; omega
  ·rw [if_neg hk,List.length_cons,List.length_cons]; omega
theorem jT.some_of {v:V} {o:Option Value} (r:jT (some v) o):∃ u,o=some u/\RelV v u:=by
 cases o with
 | none=>exact (show False from r).elim
 | some u=>exact ⟨u,rfl,r⟩
theorem jT.none_of {o:Option Value} (r:jT none o):o=none:=by
 cases o with
 | none=>rfl
 | some u=>exact (show False from r).elim
theorem qen {v:V} {u:Value} (r:RelV v u):PySem.W.handedIn u=true:=by
 cases v with
 | non=>cases (show u=Value.none from r); rfl
 | bl b=>cases (show u=Value.bool b from r); rfl
 | int i=>obtain ⟨t,e⟩:=(show ∃ t,u=Value.int i t from r); cases e; rfl
 | str x=>obtain ⟨t,e⟩:=(show ∃ t,u=Value.str x t from r); cases e; rfl
 | byt b=>obtain ⟨t,e⟩:=(show ∃ t,u=Value.bytes b t from r); cases e; rfl
 | flt b=>obtain ⟨t,e⟩:=(show ∃ t,u=Value.float b t from r); cases e; rfl
 | ref a=>cases (show u=Value.ref a from r); rfl
 | ty n=>cases (show u=Value.type n from r); rfl
section
variable {P:Program} {w:World} {H H':Hp} {h h':Heap} {a C dx:Addr} {fs fs':List (Str × V)}
theorem qcd (hok:HOk P w H h) (e:H a=some (.ins C dx fs)):∃ mA,qcK h a dx C mA/\(∀ f,jT (fs.lookup f) (mA f))/\PySem.Within mA (fs.map (·.1))/\fs.length<=1000/\H dx=some (.own a):=by
 obtain ⟨d,z,ne,ob,mA,n,r,q⟩:=(show zm P w H h a (.ins C dx fs) from hok a _ e)
 exact ⟨mA,⟨ob,n,ne⟩,r,q,z,d⟩
end
structure Cls (K:PySem.W.Frag) (C:Addr):Prop where
 pg:PySem.W.plainGet K C Str.empty=true
 hd:PySem.W.hasDictIn K C=true
 po:PySem.W.plainOver K C=true
 sa:PySem.W.findIn K (.ref C) "__setattr__" = some (some (.builtin "object.__setattr__"))
theorem Cls.get {K:PySem.W.Frag} {C:Addr} (c:Cls K C) (f:Str):PySem.W.plainGet K C f=true:=c.pg
def qx (K:PySem.W.Frag) (C:Addr) (f:Str):Prop:=PySem.W.findIn K (.ref C) f=some none
theorem qx.taker {K:PySem.W.Frag} {C:Addr} {f:Str} (n:qx K C f):PySem.W.takerIn K C f=some none:=by
 unfold PySem.W.takerIn
 rw [show PySem.W.findIn K (.ref C) f=some none from n]
 rfl
structure qhT (K:PySem.W.Frag) (C:Addr) (m:Str) (f:Addr):Prop where
 at_:PySem.W.findIn K (.ref C) m=some (some (.ref f))
 fn:PySem.W.isFn K (.ref f)=true
 kp:PySem.W.keepIn K (.ref f)=true
section
variable {X:Cx} {pins:List (Addr × Obj)} {σ : St} {H:Hp} {s:Shared} {a C dx:Addr} {fs:List (Str × V)} {f:Str} {v:V} {A:Around} {E:Value->Shared->Prop}
theorem qc6 {b:Bool} {Q:Value->Shared->Prop} (I:Inv X pins σ H s) (e:H a=some (.ins C dx fs)) (c:Cls X.K C) (n:qx X.K C f) (l:fs.lookup f=some v)
  (h:∀ u s',Inv X pins σ H s'->RelV v u->Q u s'):wpAny (model X.prog X.w) A (getAttr (.ref a) f b) Q E s:=by
 obtain ⟨mA,O,r,_,_,_⟩:=qcd I.hok e
 obtain ⟨u,hu,ru⟩:=jT.some_of (v:=v) (o:=mA f) (by rw [<- l]; exact r f)
 exact qlV I.kIn O (c.get f) c.hd n hu (qen ru) (h u _ (I.tok _) ru)
theorem qc7 {m:Str} {g:Addr} {pl:Sem Bool} {Q:Value × List Value->Shared->Prop} (I:Inv X pins σ H s) (e:H a=some (.ins C dx fs)) (c:Cls X.K C) (k:qhT X.K C m g) (l:fs.lookup m=none)
  (h:Q (.ref g,[.ref a]) s):wpAny (model X.prog X.w) A (getMethod (.ref a) m pl) Q E s:=by
 obtain ⟨mA,O,r,_,_,_⟩:=qcd I.hok e
 have hn:mA m=none:=jT.none_of (by rw [<- l]; exact r m)
 exact qkw I.kIn O (c.get m) k.at_ k.fn hn h
theorem qc8 {y:V} {u:Value} {Q:Unit->Shared->Prop} (I:Inv X pins σ H s) (e:H a=some (.ins C dx fs)) (c:Cls X.K C) (n:qx X.K C f) (hl:fs.length<1000) (ry:RelV y u)
  (h:∀ s',Inv X pins σ (upd H a (.ins C dx (zb f y fs))) s'->Q () s'):wpAny (model X.prog X.w) A (setAttr (.ref a) f u) Q E s:=by
 obtain ⟨mA,O,r,wi,_,ho⟩:=qcd I.hok e
 have hz:(fs.map (·.1)).length<=sizeLine:=by rw [List.length_map,sizeLine_eq]; omega
 refine qlW I.kIn O c.sa c.po n.taker c.hd wi hz fun h' O' sb=>h _ ?_
 have hd:∃ o,h'.get? dx=some o:=let ⟨o,_,_,e',_⟩:=O'.ns; ⟨o,e'⟩
 refine I.write (x:=a) (e:=dx) (by rw [e]; exact True.intro) (.inr ho) (fun b q hb z=>(sb.2 b hb).trans z) hd ?_
 refine ⟨by rw [qd O.ne]; exact ho,?_,O.ne,O'.obj,_,O'.ns,fun g=>?_,fun g hg=>?_⟩
 ·have:=qcx f y fs; omega
 ·show jT ((zb f y fs).lookup g) (if g=f then some u else mA g)
  rw [J9]
  by_cases q:g=f
  ·rw [if_pos q,if_pos q]; exact ry
  ·rw [if_neg q,if_neg q]; exact r g
 ·by_cases q:g=f
  ·rw [q]; exact (Jl f y fs).1
  ·refine (Jl f y fs).2 g (wi g fun z=>hg ?_)
   show (if g=f then some u else mA g)=none
   rw [if_neg q]; exact z
theorem Inv.made (I:Inv X pins σ H s):Inv X pins σ (upd (upd H s.heap.objs.size (.own (s.heap.objs.size+1))) (s.heap.objs.size+1) (.ins C s.heap.objs.size []))
  { s with heap:=(s.heap.push PySem.W.emptyDict).push (PySem.W.instObj C s.heap.objs.size) }:=by
 have e1:(s.heap.push PySem.W.emptyDict).get? s.heap.objs.size=some PySem.W.emptyDict:=Heap.get?_push_size s.heap rfl
 have e2:((s.heap.push PySem.W.emptyDict).push (PySem.W.instObj C s.heap.objs.size)).get? (s.heap.objs.size+1)=some (PySem.W.instObj C s.heap.objs.size):=by
  have:=Heap.get?_push_size (s.heap.push PySem.W.emptyDict) (o:=PySem.W.instObj C s.heap.objs.size) rfl
  rwa [Heap.size_push] at this
 have e3:(s.heap.push PySem.W.emptyDict).Ns s.heap.objs.size (fun _=>none):=⟨PySem.W.emptyDict,#[],_,e1,rfl,(fun e he=>absurd he (by simp)),fun _=>rfl⟩
 have I1:=I.laid (a:=s.heap.objs.size) (o:=.own (s.heap.objs.size+1)) (h':=s.heap.push PySem.W.emptyDict) (t':=s.toks) (fun b u q=>Heap.get?_push_of_some _ q) (Nat.le_refl _) ⟨_,e1⟩
 refine I1.laid (a:=s.heap.objs.size+1) (o:=.ins C s.heap.objs.size []) (t':=s.toks) (fun b u q=>Heap.get?_push_of_some _ q) (Nat.le_of_eq (Heap.size_push _ _)) ?_
 have ne:s.heap.objs.size≠s.heap.objs.size+1:=Nat.ne_of_lt (Nat.lt_succ_self _)
 refine ⟨by rw [qd ne,qc],Nat.zero_le _,ne,e2,fun _=>none,(Heap.Ns1.of_empty e3).at fun o q=>Heap.get?_push_of_some _ q,fun _=>True.intro,fun y hy=>absurd rfl hy⟩
theorem qhg {prog:Program} {w:World} {env:Env} {e:Expr} {f:Str} {pos:Pos} {s:Shared} {Q:Value->Shared->Prop} (hb:attributeBase e f env (eval e env)=eval e env)
  (h:wpAny (model prog w) A (eval e env) (fun o s₁=>wpAny (model prog w) A (getAttr o f true) Q E s₁) E s):wpAny (model prog w) A (eval (.Attribute e f pos) env) Q E s :=
 Attribute_any_ h (by rw [arm_eval_Attribute,hb])
end
def qaa (K:PySem.W.Frag) (ta:TE) (f:Str):TE:=fun σ H Q=>ta σ H fun x H1=>∃ a C dx fs v,x=.ref a/\H1 a=some (.ins C dx fs)/\Cls K C/\qx K C f/\fs.lookup f=some v/\Q v H1
def qog (K:PySem.W.Frag) (ta tv:TE) (f:Str):TS:=fun D σ H=>tv σ H fun y H1=>ta σ H1 fun x H2=>∃ a C dx fs,x=.ref a/\H2 a=some (.ins C dx fs)/\Cls K C/\qx K C f/\fs.length<1000 /\
 D.nx σ (upd H2 a (.ins C dx (zb f y fs)))
def qky (X:Cx) (op:Operator) (rd:V->V->Hp->VK->Prop):Prop :=
 ∀ (pins:List (Addr × Obj)) (s:Shared) (σ : St) (H:Hp) (x y:V) (u v:Value) (Q:VK),Inv X pins σ H s->RelV x u->RelV y v->rd x y H Q->wpAny (model X.prog X.w) X.A (inplaceOp op u v) (EP X pins σ Q) X.xe s
def qlX (K:PySem.W.Frag) (ta tv:TE) (rd:V->V->Hp->VK->Prop) (f:Str):TS:=fun D σ H=>ta σ H fun x H1=>∃ a C dx fs v,x=.ref a/\H1 a=some (.ins C dx fs)/\Cls K C/\qx K C f/\fs.lookup f=some v /\
 tv σ H1 fun y H2=>rd v y H2 fun z H3=>∃ dx' fs',H3 a=some (.ins C dx' fs')/\fs'.length<1000/\D.nx σ (upd H3 a (.ins C dx' (zb f z fs')))
section
variable {X:Cx} {o e value:Expr} {f:Str} {pos pos' tpos:Pos} {ta tv:TE}
theorem qj (he:PE X e ta) (hb:attributeBase e f X.env (eval e X.env)=eval e X.env):PE X (.Attribute e f pos) (qaa X.K ta f):=by
 intro pins s σ H Q I h
 refine qhg hb (thn (he pins s σ H _ I h) fun u s1 ⟨x,H1,I1,rx,a,C,dx,fs,v,ex,ea,c,n,l,q⟩=>?_)
 subst ex
 obtain rfl:u=Value.ref a:=rx
 exact qc6 I1 ea c n l fun u' s2 I2 ru=>⟨v,H1,I2,ru,q⟩
theorem zy (ha:PE X o ta) (hv:PE X value tv) (hs:swapsWith value (some (.Attribute o f pos')) pos.line X.env=pure false):PS X (.Assign [.Attribute o f pos'] value pos) (qog X.K ta tv f):=by
 intro pins s σ H D I h
 refine plainObj_wpAny_Assign_Attribute (thn (hv pins s σ H _ I h) fun u s1 ⟨y,H1,I1,ry,q⟩=>thn (ha pins s1 σ H1 _ I1 q) fun ov s2 ⟨x,H2,I2,rx,a,C,dx,fs,ex,ea,c,n,l,q2⟩=>?_) hs
 subst ex
 obtain rfl:ov=Value.ref a:=rx
 exact qc8 I2 ea c n l ry fun s3 I3=>⟨σ,_,I3,q2⟩
theorem Qn {op:Operator} {rd:V->V->Hp->VK->Prop} (ha:PE X o ta) (hv:PE X value tv) (hop:qky X op rd):PS X (.AugAssign (.Attribute o f tpos) op value pos) (qlX X.K ta tv rd f):=by
 intro pins s σ H D I h
 refine wpAny_AugAssign_AttributeAny (thn (ha pins s σ H _ I h) fun ov s1 ⟨x,H1,I1,rx,a,C,dx,fs,v,ex,ea,c,n,l,q⟩=>?_)
 subst ex
 obtain rfl:ov=Value.ref a:=rx
 refine qc6 I1 ea c n l fun u s2 I2 ru=>thn (hv pins s2 σ H1 _ I2 q) fun w3 s3 ⟨y,H2,I3,ry,q3⟩=>thn (hop pins s3 σ H2 v y u w3 _ I3 ru ry q3) fun w4 s4 ⟨z,H3,I4,rz,dx',fs',ea',l',q4⟩=>?_
 exact qc8 I4 ea' c n l' rz fun s5 I5=>⟨σ,_,I5,q4⟩
def qoh:V->V->Hp->VK->Prop:=fun x y H Q=>∃ i j,x=.int i/\y=.int j/\Q (.int (i+j)) H
def qoi:V->V->Hp->VK->Prop:=fun x y H Q=>∃ i j,x=.int i/\y=.int j/\Q (.int (i - j)) H
theorem JJ:qky X .Add qoh:=by
 rintro pins s σ H x y u v Q I rx ry ⟨i,j,rfl,rfl,q⟩
 obtain ⟨t,rfl⟩:=(show ∃ t,u=Value.int i t from rx)
 obtain ⟨t',rfl⟩:=(show ∃ t',v=Value.int j t' from ry)
 exact PyProof.Rows.iadd_int ⟨.int (i+j),H,I.tok _,⟨_,rfl⟩,q⟩
theorem qmX:qky X .Sub qoi:=by
 rintro pins s σ H x y u v Q I rx ry ⟨i,j,rfl,rfl,q⟩
 obtain ⟨t,rfl⟩:=(show ∃ t,u=Value.int i t from rx)
 obtain ⟨t',rfl⟩:=(show ∃ t',v=Value.int j t' from ry)
 exact PyProof.Rows.isub_int ⟨.int (i - j),H,I.tok _,⟨_,rfl⟩,q⟩
end
section
variable {X:Cx} {pins:List (Addr × Obj)} {σ : St} {H:Hp} {s:Shared} {A:Around} {E:Value->Shared->Prop} {Q:Value->Shared->Prop} {c:Value} {b:Bool}
inductive ZY (K:PySem.W.Frag) (H:Hp):V->Value->Prop where
 | non:ZY K H .non (.type "NoneType")
 | bl (x:Bool):ZY K H (.bl x) (.type "bool")
 | int (i:Int):ZY K H (.int i) (.type "int")
 | str (x:Str):ZY K H (.str x) (.type "str")
 | flt (x:UInt64):ZY K H (.flt x) (.type "float")
 | lst {a:Addr} {xs:List V} (e:H a=some (.lst xs)):ZY K H (.ref a) (.type "list")
 | frz {a:Addr} {o:Obj} {xs:List V} (e:H a=some (.frz o (.lst xs))):ZY K H (.ref a) (.type "list")
 | tup {a:Addr} {xs:List V} (e:H a=some (.tup xs)):ZY K H (.ref a) (.type "tuple")
 | dK {a:Addr} {kvs:List (Key × V)} (e:H a=some (.dK kvs)):ZY K H (.ref a) (.type "dict")
 | dT {a:Addr} {kvs:List (List Key × V)} (e:H a=some (.dT kvs)):ZY K H (.ref a) (.type "dict")
 | ins {a C dx:Addr} {fs:List (Str × V)} (e:H a=some (.ins C dx fs)) (cl:Cls K C) (ha:PySem.W.findIn K (.ref C) "__class__" = some (some (.builtin "object.__class__")))
   (hn:PySem.W.specialIn K (.builtin "object.__class__") "__get__" = some (some (.builtin "getset_descriptor.__get__"))) (htk:PySem.W.takesIn K (.builtin "object.__class__")=some true)
   (hm:PySem.W.mroIn K C (.type "object")=some true):ZY K H (.ref a) (.ref C)
theorem qi1 {x:V} {u t:Value} (I:Inv X pins σ H s) (rx:RelV x u) (ty:ZY X.K H x t) (e:PySem.W.kitOne X.K t c=some b) (h:∀ tk,Q (.bool b) { s with toks:=tk }) :
  wpAny (model X.prog X.w) A (call (.builtin "isinstance") [u,c]) Q E s:=by
 cases ty with
 | non=>cases (show u=Value.none from rx); exact PySem.W.kia_one PySem.W.kitx_none I.kIn True.intro e (fun z=>nomatch z) h
 | bl y=>cases (show u=Value.bool y from rx); exact PySem.W.kia_one PySem.W.kitx_bool I.kIn True.intro e (fun z=>nomatch z) h
 | int i=>obtain ⟨t,q⟩:=(show ∃ t,u=Value.int i t from rx); cases q; exact PySem.W.kia_one PySem.W.kitx_int I.kIn True.intro e (fun z=>nomatch z) h
 | str y=>obtain ⟨t,q⟩:=(show ∃ t,u=Value.str y t from rx); cases q; exact PySem.W.kia_one PySem.W.kitx_str I.kIn True.intro e (fun z=>nomatch z) h
 | flt y=>obtain ⟨t,q⟩:=(show ∃ t,u=Value.float y t from rx); cases q; exact PySem.W.kia_one PySem.W.kitx_float I.kIn True.intro e (fun z=>nomatch z) h
 | @lst a xs ea=>
  cases (show u=Value.ref a from rx)
  obtain ⟨_,_,n,_,h1⟩:=(show zm X.prog X.w H s.heap a (.lst xs) from I.hok a _ ea)
  exact PySem.W.kia_one PySem.W.kitx_list I.kIn ⟨_,h1,rfl⟩ e (fun z=>nomatch z) h
 | @frz a ob xs ea=>
  cases (show u=Value.ref a from rx)
  obtain ⟨_,_,_,n,_,h1⟩:=(show zm X.prog X.w H s.heap a (.frz ob (.lst xs)) from I.hok a _ ea)
  exact PySem.W.kia_one PySem.W.kitx_list I.kIn ⟨_,h1,rfl⟩ e (fun z=>nomatch z) h
 | @tup a xs ea=>
  cases (show u=Value.ref a from rx)
  obtain ⟨_,_,_,p⟩:=(show zm X.prog X.w H s.heap a (.tup xs) from I.hok a _ ea)
  obtain ⟨o,h1,h2,_⟩:=p
  exact PySem.W.kia_one PySem.W.kitx_tuple I.kIn ⟨o,h1,h2⟩ e (fun z=>nomatch z) h
 | @dK a kvs ea=>
  cases (show u=Value.ref a from rx)
  obtain ⟨_,_,vs,_,p⟩:=(show zm X.prog X.w H s.heap a (.dK kvs) from I.hok a _ ea)
  obtain ⟨o,es,ep,h1,h2,_⟩:=p
  exact PySem.W.kia_one PySem.W.kitx_dict I.kIn ⟨o,h1,h2.1⟩ e (fun z=>nomatch z) h
 | @dT a kvs ea=>
  cases (show u=Value.ref a from rx)
  obtain ⟨_,_,xs,_,o,es,ep,h1,h2,_⟩:=(show zm X.prog X.w H s.heap a (.dT kvs) from I.hok a _ ea)
  exact PySem.W.kia_one PySem.W.kitx_dict I.kIn ⟨o,h1,h2.1⟩ e (fun z=>nomatch z) h
 | @ins a C dx fs ea cl ha hn htk hm=>
  cases (show u=Value.ref a from rx)
  obtain ⟨mA,O,_⟩:=qcd I.hok ea
  obtain ⟨od,J,_⟩:=O.look
  exact PySem.W.kia_one (PySem.W.kitx_own (cl.get _) cl.hd ha hn htk hm) I.kIn J e (fun z=>nomatch z) h
end
end L2
namespace L2
open PySem PySem.Spec PyProof.Rows
structure qN (k:Nat) (A:Around):Prop where
 hd:A.handled=none
 dp:A.depth+3 * k+5<recursionLimit
 un:A.units+16 * k+200<cLine
theorem qN.mono {j k:Nat} {A:Around} (r:qN k A) (h:j<=k):qN j A:=⟨r.hd,by have:=r.dp; omega,by have:=r.un; omega⟩
theorem qN.deeper {k:Nat} {A:Around} (r:qN (k+1) A) (env:Env):qN k (A.deeper env) :=
 ⟨r.hd,by have:=r.dp; show A.depth+1+3 * k+5<_; omega,by have:=r.un; show A.units+3+16 * k+200<_; omega⟩
theorem qhU {A:Around} {C:Addr} {us:List Value} {kw:List (Str × Value)}:(A.under (.builtin "type.__call__" ⟨.ref C::us,kw⟩)).depth=A.depth+1:=by
 first | rfl | simp [Around.under,Code.weight,Code.isCreation,Code.isGuard,Code.isCaller,Code.frames,Code.isFrame,guardIds]
theorem qhV {A:Around} {C:Addr} {us:List Value} {kw:List (Str × Value)}:(A.under (.builtin "type.__call__" ⟨.ref C::us,kw⟩)).units=A.units+1:=by
 first | rfl | simp [Around.under,Code.cUnits,Code.frames,Code.isFrame]
theorem qN.make {k:Nat} {A:Around} (r:qN (k+1) A) (C:Addr) (us:List Value) (kw:List (Str × Value)):qN k (A.under (.builtin "type.__call__" ⟨.ref C::us,kw⟩)) :=
 ⟨r.hd,by have:=r.dp; rw [qhU]; omega,by have:=r.un; rw [qhV]; omega⟩
theorem qN.depth {k:Nat} {A:Around} (r:qN k A):A.depth<recursionLimit:=by have:=r.dp; omega
theorem qN.units {k:Nat} {A:Around} (r:qN k A):A.units+64<cLine:=by have:=r.un; omega
def jV:TA:=fun _ H Q=>Q [] H
def ji (ta:TE) (tr:TA):TA:=fun σ H Q=>ta σ H fun x H1=>tr σ H1 fun xs H2=>Q (x::xs) H2
section
variable {X:Cx} {e:Expr} {es:List Expr} {te:TE} {t:TA} {pos:Pos}
theorem qg:PA X [] jV:=fun _ _ _ _ H Q I h=>Calls.spliced_nil ⟨[],H,I,.nil,h⟩
theorem qa (ha:PE X e te) (hr:PA X es t) (hs:starEach (e::es) X.env=(false,eval e X.env)::starEach es X.env:=by rfl):PA X (e::es) (ji te t):=by
 intro pos pins s σ H Q I h
 rw [hs]
 show wpAny _ _ (spliced ((false,eval e X.env)::backTo pos (starEach es X.env))) _ _ s
 refine Calls.spliced_cons (thn (ha pins s σ H _ I h) fun u s1 ⟨x,H1,I1,r1,q1⟩=>?_)
 exact thn (hr pos pins s1 σ H1 _ I1 q1) fun us s2 ⟨xs,H2,I2,r2,q2⟩=>⟨x::xs,H2,I2,.cons r1 r2,q2⟩
def qmY (t:TA):TE:=fun σ H Q=>t σ H fun xs H1=>xs.length<=sizeLine/\∀ p,H1 p=none->Q (.ref p) (upd H1 p (.tup xs))
def qbA (t:TA):TE:=fun σ H Q=>t σ H fun xs H1=>xs.length<=sizeLine/\∀ p,H1 p=none->Q (.ref p) (upd H1 p (.lst xs))
theorem qft {x1} (h:PA X es t):PE X (.Tuple es x1 pos) (qmY t):=by
 intro pins s σ H Q I hq
 refine wpAny_Tuple_spliced (thn (h pos pins s σ H _ I hq) fun us s1 ⟨xs,H1,I1,r,z,q⟩=>⟨by rw [<- r.length]; exact z,?_⟩)
 have hf:H1 s1.heap.objs.size=none:=I1.hok.fresh (Nat.le_refl _)
 refine ⟨.ref s1.heap.objs.size,upd H1 s1.heap.objs.size (.tup xs),I1.laid (t':=s1.toks) (fun b u e=>Heap.get?_push_of_some _ e) (Nat.le_refl _) ?_,rfl,q _ hf⟩
 exact ⟨z,us,r,⟨_,Heap.get?_push_size _ rfl,rfl,_,rfl⟩⟩
theorem qX (h:PA X es t):PE X (.List es pos) (qbA t):=by
 intro pins s σ H Q I hq
 refine wpAny_List_spliced (thn (h pos pins s σ H _ I hq) fun us s1 ⟨xs,H1,I1,r,z,q⟩=>⟨by rw [<- r.length]; exact z,?_⟩)
 have hf:H1 s1.heap.objs.size=none:=I1.hok.fresh (Nat.le_refl _)
 refine ⟨.ref s1.heap.objs.size,upd H1 s1.heap.objs.size (.lst xs),I1.laid (t':=s1.toks) (fun b u e=>Heap.get?_push_of_some _ e) (Nat.le_refl _) ?_,rfl,q _ hf⟩
 exact ⟨z,us,0,r,Heap.get?_push_size _ rfl⟩
end
abbrev Sp:=List V->Hp->VK->XK->Prop
abbrev CXT:=List Env->Hp->Shared->XK->Value->Shared->Prop
structure qcL (P:Program) (w:World) (K:PySem.W.Frag) (mg:Str->Option Value) (base:Heap) (A:Around) (outer:List Env) (s:Shared) (H:Hp):Prop where
 frames:A.frames=some outer
 mod:Mod K mg base
 bs:∀ b o,base.get? b=some o->s.heap.get? b=some o/\H b=none
 bsz:base.objs.size<=s.heap.objs.size
 funs:s.heap.FunFrames base outer
 frf:∀ b∈frs outer,H b=none
 hok:HOk P w H s.heap
 bare:AllBare s.gens
def CE (outer:List Env) (P:Program) (w:World) (H:Hp) (s:Shared) (Q:VK) (u:Value) (s':Shared):Prop :=
 ∃ v H',s'.os=s.os/\AllBare s'.gens/\Un (frs outer) [] H H' s.heap s'.heap/\HOk P w H' s'.heap/\RelV v u/\Q v H'
def CR (CX:CXT) (outer:List Env) (P:Program) (w:World) (H:Hp) (s:Shared) (Q:VK) (E:XK) (r:Result) (s':Shared):Prop :=
 match r with
 | .ok (.ret u)=>CE outer P w H s Q u s'
 | .ok _=>False
 | .error e=>CX outer H s E e s'
structure qw (P:Program) (w:World) (K:PySem.W.Frag) (mg:Str->Option Value) (base:Heap) (CX:CXT) (k:Nat) (f:Addr) (fd:FuncData) (ps:List Str) (sp:Sp):Prop where
 len:∀ vs H Q E,sp vs H Q E->vs.length=ps.length
 run:∀ (A:Around) (outer:List Env) (s:Shared) (H:Hp) (args:Args) (us:List Value) (vs:List V) (Q:VK) (E:XK),qN k A->qcL P w K mg base A outer s H->BindsTo s fd args (ps.zip us)->qE vs us->sp vs H Q E ->
  codeAny (model P w) A (.call (.ref f) args) (CR CX outer P w H s Q E) s
theorem qw.mono {P:Program} {w:World} {K:PySem.W.Frag} {mg:Str->Option Value} {base:Heap} {CX:CXT} {j k:Nat} {f:Addr} {fd:FuncData} {ps:List Str} {sp:Sp} (F:qw P w K mg base CX j f fd ps sp) (h:j<=k) :
  qw P w K mg base CX k f fd ps sp:=⟨F.len,fun A outer s H args us vs Q E hr=>F.run A outer s H args us vs Q E (hr.mono h)⟩
theorem qcL.make {P:Program} {w:World} {K:PySem.W.Frag} {mg:Str->Option Value} {base:Heap} {A:Around} {outer:List Env} {s:Shared} {H:Hp} (e:qcL P w K mg base A outer s H) (C:Addr) (us:List Value) (kw:List (Str × Value)) :
  qcL P w K mg base (A.under (.builtin "type.__call__" ⟨.ref C::us,kw⟩)) outer s H:=⟨by first | exact e.frames | (simpa [Around.under,Code.envs,Code.isFrame,pushEnvs] using e.frames),e.mod,e.bs,e.bsz,e.funs,e.frf,e.hok,e.bare⟩
section
variable {X:Cx} {pins:List (Addr × Obj)} {σ : St} {H:Hp} {s s':Shared}
theorem Inv.env0 (I:Inv X pins σ H s):qcL X.prog X.w X.K X.mg X.base X.A X.stack s H :=
 ⟨I.ok.frames,I.ok.mod,I.bs,Nat.le_trans I.ok.bsz I.sz,I.stack,I.stkFree,I.hok,I.bare⟩
theorem Inv.after {Q:VK} {u:Value} (I:Inv X pins σ H s) (h:CE X.stack X.prog X.w H s Q u s'):EP X pins σ Q u s':=by
 obtain ⟨v,H',os,bare,un,hok,r,q⟩:=h
 obtain ⟨hh,g,d,t,os'⟩:=s'
 obtain rfl:os'=s.os:=os
 exact ⟨v,H',I.call (h':=hh) (g':=g) (d':=d) (t':=t) (ch:=[]) un hok bare (fun b z=>absurd z (by simp)),r,q⟩
end
def Jz (sp:Sp) (dvs:List V) (E:XK) (t:TA):TE:=fun σ H Q=>t σ H fun vs H1=>sp (vs++dvs) H1 Q E
def qc9 (C:Addr) (m:Str) (sp:Sp) (dvs:List V) (E:XK) (ta:TE) (t:TA):TE:=fun σ H Q=>ta σ H fun x H1=>∃ a dx fs,x=.ref a/\H1 a=some (.ins C dx fs)/\fs.lookup m=none /\
 t σ H1 fun vs H2=>sp (x::(vs++dvs)) H2 Q E
def qlw (C:Addr) (sp:Sp) (dvs:List V) (E:XK) (t:TA):TE:=fun σ H Q=>t σ H fun vs H1=>∀ x dx,H1 x=none->H1 dx=none->dx≠x ->
 sp (.ref x::(vs++dvs)) (upd (upd H1 dx (.own x)) x (.ins C dx [])) (fun v H2=>v=.non/\Q (.ref x) H2) E
def Binds (K:PySem.W.Frag) (fd:FuncData) (ps:List Str) (ds:List Value):Prop :=
 ∀ (s:Shared) (us:List Value),K.In s.heap->(us++ds).length=ps.length->BindsTo s fd ⟨us,[]⟩ (ps.zip (us++ds))
theorem Binds.all {K:PySem.W.Frag} {fd:FuncData} {ps:List Str} (h:∀ us:List Value,us.length=ps.length->bindArgs fd ⟨us,[]⟩=pure (ps.zip us)):Binds K fd ps []:=fun s us _ hl=>by
 rw [List.append_nil] at hl ⊢
 exact .of_eq (h us hl)
def j9 (CX:CXT) (X:Cx) (E:XK):Prop:=∀ (pins:List (Addr × Obj)) (σ : St) (H:Hp) (s:Shared) (e:Value) (s':Shared),Inv X pins σ H s->CX X.stack H s E e s'->X.xe e s'
section
variable {X:Cx} {CX:CXT} {k:Nat} {f C:Addr} {fd:FuncData} {ps:List Str} {sp:Sp} {dvs:List V} {ds:List Value} {E:XK} {x m:Str} {p pos apos:Pos} {e o:Expr} {es:List Expr} {ta:TE} {t:TA}
theorem qbB {pins:List (Addr × Obj)} {σ : St} {H:Hp} {s:Shared} {Q:VK} {us:List Value} {vs:List V} (F:qw X.prog X.w X.K X.mg X.base CX k f fd ps sp) (hr:qN k X.A) (hb:Binds X.K fd ps ds) (hd:qE dvs ds) (hx:j9 CX X E)
  (I:Inv X pins σ H s) (r:qE vs us) (h:sp (vs++dvs) H Q E):wpAny (model X.prog X.w) X.A (call (.ref f) us) (EP X pins σ Q) X.xe s:=by
 have r2:qE (vs++dvs) (us++ds):=r.append hd
 have hl:(us++ds).length=ps.length:=by rw [<- r2.length]; exact F.len _ _ _ _ h
 refine wpAny_call (codeAny_mono (F.run X.A X.stack s H ⟨us,[]⟩ (us++ds) (vs++dvs) Q E hr I.env0 (hb s us I.kIn hl) r2 h) fun r s' hq=>?_)
 cases r with
 | error e=>exact hx pins σ H s e s' I hq
 | ok fl=>
  cases fl with
  | ret u=>exact I.after hq
  | next=>exact False.elim hq
  | brk=>exact False.elim hq
  | cont=>exact False.elim hq
theorem qlY (F:qw X.prog X.w X.K X.mg X.base CX k f fd ps sp) (hr:qN k X.A) (hg:Gl X x) (hm:X.mg x=some (.ref f)) (hk:PySem.W.keepIn X.K (.ref f)=true) (hb:Binds X.K fd ps ds) (hd:qE dvs ds) (hx:j9 CX X E)
  (ha:PA X (e::es) t) (hdb:(x == ("__debug__" : Str))=false:=by decide) (he:starEach (e::es) X.env=(false,eval e X.env)::starEach es X.env:=by rfl) (hpl:(backTo pos (starEach es X.env)).any (·.1)=false:=by rfl) :
  PE X (.Call (.Name x p) (e::es) [] pos) (Jz sp dvs E t):=by
 intro pins s σ H Q I h
 refine wpAny_Call_Name_kw (Zs I hg hm ?_ hdb)
 refine PySem.W.callWith_K (h₀:=X.base) I.ok.mod.kin hk (thn (ha pos pins s σ H _ I h) fun us s1 ⟨vs,H1,I1,r,q⟩=>⟨I1.kIn,?_⟩) he hpl
 exact qbB F hr hb hd hx I1 r q
theorem qlZ {pl:Sem Bool} (he:PE X o ta) (c:Cls X.K C) (hm:qhT X.K C m f) (F:qw X.prog X.w X.K X.mg X.base CX k f fd ps sp) (hr:qN k X.A) (hb:Binds X.K fd ps ds) (hd:qE dvs ds) (hx:j9 CX X E) (ha:PA X (e::es) t)
  (hst:starEach (e::es) X.env=(false,eval e X.env)::starEach es X.env:=by rfl) (hpl:(backTo pos (starEach es X.env)).any (·.1)=false:=by rfl)
  (ht:eval (.Call (.Attribute o m apos) (e::es) [] pos) X.env=(do
   let ov <- eval o X.env
   standAt apos.atName
   let (f,first) <- holding [ov] (getMethod ov m pl)
   callWith pos f first (backTo pos (starEach (e::es) X.env)) (backToKw pos (keywordEach [] X.env))):=by rfl) :
  PE X (.Call (.Attribute o m apos) (e::es) [] pos) (qc9 C m sp dvs E ta t):=by
 intro pins s σ H Q I h
 refine PySem.W.methodCall_KW (pl:=pl) (thn (he pins s σ H _ I h) fun u s1 ⟨x,H1,I1,rx,a,dx,fs,ex,ea,l,q⟩=>?_) ht
 subst ex
 obtain rfl:u=Value.ref a:=rx
 refine qc7 I1 ea c hm l ?_
 refine PySem.W.callWith_K (first:=[.ref a]) (h₀:=X.base) I.ok.mod.kin hm.kp (thn (ha pos pins s1 σ H1 _ I1 q) fun us s2 ⟨vs,H2,I2,r,q2⟩=>⟨I2.kIn,?_⟩) hst hpl
 exact qbB (us:=.ref a::us) (vs:=.ref a::vs) F hr hb hd hx I2 (.cons rfl r) q2
theorem qkz {pl:Sem Bool} (he:PE X o ta) (c:Cls X.K C) (hm:qhT X.K C m f) (F:qw X.prog X.w X.K X.mg X.base CX k f fd ps sp) (hr:qN k X.A) (hb:Binds X.K fd ps ds) (hd:qE dvs ds) (hx:j9 CX X E)
  (ht:eval (.Call (.Attribute o m apos) [] [] pos) X.env=(do
   let ov <- eval o X.env
   standAt apos.atName
   let (f,first) <- holding [ov] (getMethod ov m pl)
   callWith pos f first (backTo pos (starEach [] X.env)) (backToKw pos (keywordEach [] X.env))):=by rfl) :
  PE X (.Call (.Attribute o m apos) [] [] pos) (qc9 C m sp dvs E ta jV):=by
 intro pins s σ H Q I h
 refine PySem.W.methodCall_KW (pl:=pl) (thn (he pins s σ H _ I h) fun u s1 ⟨x,H1,I1,rx,a,dx,fs,ex,ea,l,q⟩=>?_) ht
 subst ex
 obtain rfl:u=Value.ref a:=rx
 refine qc7 I1 ea c hm l ?_
 exact PySem.W.callWith_K0 (first:=[.ref a]) I1.kIn hm.kp (qbB (us:=[.ref a]) (vs:=[.ref a]) F hr hb hd hx I1 (.cons rfl .nil) q)
structure Mk (K:PySem.W.Frag) (C f:Addr):Prop where
 makes:PySem.W.makesIn K C=true
 init:PySem.W.findIn K (.ref C) "__init__" = some (some (.ref f))
 fn:PySem.W.isFn K (.ref f)=true
 kp:PySem.W.keepIn K (.ref C)=true
theorem qkA {pins:List (Addr × Obj)} {σ : St} {H:Hp} {s:Shared} {Q:VK} {us:List Value} {vs:List V} (M:Mk X.K C f) (F:qw X.prog X.w X.K X.mg X.base CX k f fd ps sp) (hr:qN (k+1) X.A) (hb:Binds X.K fd ps ds) (hd:qE dvs ds)
  (hx:j9 CX X E) (I:Inv X pins σ H s) (r:qE vs us)
  (h:∀ x dx,H x=none->H dx=none->dx≠x->sp (.ref x::(vs++dvs)) (upd (upd H dx (.own x)) x (.ins C dx [])) (fun v H2=>v=.non/\Q (.ref x) H2) E) :
  wpAny (model X.prog X.w) X.A (call (.ref C) us) (EP X pins σ Q) X.xe s:=by
 have hq:=h (s.heap.objs.size+1) s.heap.objs.size (I.hok.fresh (Nat.le_succ _)) (I.hok.fresh (Nat.le_refl _)) (Nat.ne_of_lt (Nat.lt_succ_self _))
 have I2:=Inv.made (C:=C) I
 have r2:qE (V.ref (s.heap.objs.size+1)::(vs++dvs)) (Value.ref (s.heap.objs.size+1)::(us++ds)):=.cons rfl (r.append hd)
 have hl:(Value.ref (s.heap.objs.size+1)::us++ds).length=ps.length:=by
  have e:=r2.length
  rw [F.len _ _ _ _ hq] at e
  exact e.symm
 refine wpAny_call (qkx (f:=f) I.kIn M.makes M.init (beq_iff_eq.mp M.fn) (codeAny_mono (F.run _ X.stack _ _ ⟨Value.ref (s.heap.objs.size+1)::us,[]⟩ (Value.ref (s.heap.objs.size+1)::(us++ds)) _ _ E (hr.make C us [])
  (I2.env0.make C us []) (hb _ (Value.ref (s.heap.objs.size+1)::us) I2.kIn hl) r2 hq) fun r s' hq'=>?_))
 cases r with
 | error e=>exact hx pins σ _ _ e s' I2 hq'
 | ok fl=>
  cases fl with
  | ret u=>
   obtain ⟨v,H',I3,rv,ev,q3⟩:=I2.after hq'
   subst ev
   exact ⟨rv,⟨V.ref (s.heap.objs.size+1),H',I3,rfl,q3⟩⟩
  | next=>exact False.elim hq'
  | brk=>exact False.elim hq'
  | cont=>exact False.elim hq'
theorem ql0 (M:Mk X.K C f) (F:qw X.prog X.w X.K X.mg X.base CX k f fd ps sp) (hr:qN (k+1) X.A) (hg:Gl X x) (hm:X.mg x=some (.ref C)) (hb:Binds X.K fd ps ds) (hd:qE dvs ds) (hx:j9 CX X E)
  (ha:PA X (e::es) t) (hdb:(x == ("__debug__" : Str))=false:=by decide) (he:starEach (e::es) X.env=(false,eval e X.env)::starEach es X.env:=by rfl) (hpl:(backTo pos (starEach es X.env)).any (·.1)=false:=by rfl) :
  PE X (.Call (.Name x p) (e::es) [] pos) (qlw C sp dvs E t):=by
 intro pins s σ H Q I h
 refine wpAny_Call_Name_kw (Zs I hg hm ?_ hdb)
 refine PySem.W.callWith_K (h₀:=X.base) I.ok.mod.kin M.kp (thn (ha pos pins s σ H _ I h) fun us s1 ⟨vs,H1,I1,r,q⟩=>⟨I1.kIn,?_⟩) he hpl
 exact qkA M F hr hb hd hx I1 r q
end
section
variable {X:Cx} {CX:CXT} {k:Nat} {f C:Addr} {fd:FuncData} {ps ks:List Str} {sp:Sp} {E:XK} {x m:Str} {p pos apos kpos:Pos} {e o:Expr} {es:List Expr} {kws:List Keyword} {te ta:TE} {t tk:TA} {nm:Option Str}
variable {g:List Value->List Value->List Value} {gV:List V->List V->List V}
end
structure qm (N P:List Str) (sc:Scope):Prop where
 kind:sc.kind=.function
 co:sc.isCoroutine=false
 gen:sc.isGenerator=false
 nd:N.Nodup
 pre:N.take P.length=P
 par:∀ x∈P,sc.names.lookup x=some .local \/ sc.names.lookup x=some .cell
 nofree:∀ y∈sc.names,y.2≠.free
theorem qeo {kindOf:Str->Option NameKind} {x:Str}:∀ {binds:List (Str × Value)} {m:Str->Option Value},(∀ v,(x,v)∉binds)->bindL kindOf binds m x=m x
 | [],_,_=>rfl
 | (n,v)::r,m,h=>by
  unfold bindL
  rw [qeo fun w hw=>h w (List.mem_cons_of_mem _ hw)]
  split
  ·have:x≠n:=by rintro rfl; exact h v List.mem_cons_self
   simp [this]
  ·rfl
theorem qep {kindOf:Str->Option NameKind} {x:Str}:∀ {binds:List (Str × Value)} {m:Str->Option Value},(∀ v,(x,v)∉binds)->bindC kindOf binds m x=m x
 | [],_,_=>rfl
 | (n,v)::r,m,h=>by
  unfold bindC
  rw [qep fun w hw=>h w (List.mem_cons_of_mem _ hw)]
  split
  ·rfl
  ·have:x≠n:=by rintro rfl; exact h v List.mem_cons_self
   simp [this]
theorem qeq {kindOf:Str->Option NameKind} {x:Str} {v:Value}:∀ {P:List Str} {vs:List Value} {i:Nat} {m:Str->Option Value},P.Nodup->P[i]? = some x->vs[i]? = some v->kindOf x=some .local ->
  bindL kindOf (P.zip vs) m x=some v
 | [],_,_,_,_,h,_,_=>by simp at h
 | _::_,[],_,_,_,_,h,_=>by simp at h
 | p::P,w::vs,0,m,nd,h1,h2,hk=>by
  simp at h1 h2; subst h1; subst h2
  show bindL kindOf ((p,w)::P.zip vs) m p=_
  unfold bindL
  rw [qeo fun v hv=>(List.nodup_cons.mp nd).1 (List.of_mem_zip hv).1,if_pos hk]
  simp
 | p::P,w::vs,i+1,m,nd,h1,h2,hk=>by
  show bindL kindOf ((p,w)::P.zip vs) m x=_
  unfold bindL
  exact qeq (i:=i) (List.nodup_cons.mp nd).2 (by simpa using h1) (by simpa using h2) hk
theorem qer {kindOf:Str->Option NameKind} {x:Str} {v:Value}:∀ {P:List Str} {vs:List Value} {i:Nat} {m:Str->Option Value},P.Nodup->P[i]? = some x->vs[i]? = some v->kindOf x≠some .local ->
  bindC kindOf (P.zip vs) m x=some v
 | [],_,_,_,_,h,_,_=>by simp at h
 | _::_,[],_,_,_,_,h,_=>by simp at h
 | p::P,w::vs,0,m,nd,h1,h2,hk=>by
  simp at h1 h2; subst h1; subst h2
  show bindC kindOf ((p,w)::P.zip vs) m p=_
  unfold bindC
  rw [qep fun v hv=>(List.nodup_cons.mp nd).1 (List.of_mem_zip hv).1,if_neg hk]
  simp
 | p::P,w::vs,i+1,m,nd,h1,h2,hk=>by
  show bindC kindOf ((p,w)::P.zip vs) m x=_
  unfold bindC
  exact qer (i:=i) (List.nodup_cons.mp nd).2 (by simpa using h1) (by simpa using h2) hk
def start (N:List Str) (vs:List V):St:=vs.map some++List.replicate (N.length - vs.length) none
def zc (CX:CXT) (P:Program) (w:World) (K:PySem.W.Frag) (mg:Str->Option Value) (base:Heap) (N:List Str) (qual:Str) (scope:Scope) (f:Addr) (cd:Value) (A:Around) (outer:List Env) (s:Shared) (H:Hp) (E:XK):Cx where
 prog:=P
 w:=w
 K:=K
 mg:=mg
 base:=base
 A:=A.deeper (envOfC qual scope s.heap.objs.size f cd)
 N:=N
 s_0:=s
 H_0:=H
 env:=envOfC qual scope s.heap.objs.size f cd
 outer:=outer
 stack:=envOfC qual scope s.heap.objs.size f cd::outer
 ex:=[]
 calm:=true
 fn:=fun _=>true
 pn:=[]
 xe:=fun e s'=>wpAny (model P w) (A.deeper (envOfC qual scope s.heap.objs.size f cd)) (leaving (envOfC qual scope s.heap.objs.size f cd) e) (fun _ s''=>CX outer H s E e s'') (fun e' s''=>CX outer H s E e' s'') s'
theorem qfu {sc:Scope} {n:Nat} {x:Str} (h:sc.names.lookup x=some .cell):∃ c,(cellsFrom n sc.names []).lookup x=some c:=by
 have q:=PySem.W.cellsFrom_some sc.names n [] (.inl h)
 exact Option.isSome_iff_exists.mp q
theorem qi2 {CX:CXT} {P:Program} {w:World} {K:PySem.W.Frag} {mg:Str->Option Value} {base:Heap} {N ps:List Str} {qual:Str} {scope:Scope} {f:Addr} {cd:Value} {A:Around} {outer:List Env} {s s1:Shared} {H:Hp} {E:XK} {us:List Value} {vs:List V}
  (S:qm N ps scope) (hd:A.handled=none) (e0:qcL P w K mg base A outer s H) (hl:vs.length=ps.length) (r:qE vs us)
  (x:InCallC s s.heap.objs.size (bindL (envOfC qual scope s.heap.objs.size f cd).kindOf (ps.zip us) fun _=>none) (cellsFrom (s.heap.objs.size+1) scope.names []) (bindC (envOfC qual scope s.heap.objs.size f cd).kindOf (ps.zip us) fun _=>none) s1) :
  Inv (zc CX P w K mg base N qual scope f cd A outer s H E) [] (start N vs) H s1:=by
 have hpl:ps.length<=N.length:=by have:=congrArg List.length S.pre; rw [List.length_take] at this; omega
 obtain ⟨h1,tk,rfl,hk⟩:=x.done
 have noA:∀ b:Addr,b∉(zc CX P w K mg base N qual scope f cd A outer s H E).ex:=fun b z=>absurd (show b∈([]:List Addr) from z) (by simp)
 refine ⟨⟨e0.mod,S.kind,rfl,rfl,Nat.le_refl _,fun y z c h1 h2=>?_,fun y hy=>?_,fun y c _ h=>?_,fun _=>hd,Around.frames_deeper e0.frames,.inr ⟨rfl,rfl⟩,fun b z=>absurd z (noA b),e0.bs,e0.bsz,fun b _ _=>noA b,fun b z=>absurd z (noA b),e0.funs,e0.frf⟩,
  rfl,e0.bare,Un.kept hk,⟨_,x.toInCall.ns,fun i y v h1 h2 h3=>?_⟩,fun y c h=>⟨_,x.cell y c h⟩,e0.hok.fresh (Nat.le_refl _),fun y c h=>?_,fun p hp=>absurd (show p∈([]:List (Addr × Obj)) from hp) (by simp),e0.hok.kept hk,?_⟩
 ·exact name_of_addr x.apart (PySem.mem_of_lookup h1) (PySem.mem_of_lookup h2)
 ·have hy:scope.names.lookup y=some .cell \/ scope.names.lookup y=some .free:=hy
  rcases hy with hy | hy
  ·exact qfu hy
  ·exact absurd rfl (S.nofree _ (PySem.mem_of_lookup hy))
 ·exact Nat.le_of_lt (x.above y c (PySem.mem_of_lookup h))
 ·have hi:i<vs.length:=by
   unfold start at h2
   by_cases hi:i<vs.length
   ·exact hi
   ·rw [List.getElem?_append_right (by simpa using hi)] at h2
    rw [List.getElem?_replicate] at h2
    split at h2 <;> cases h2
  have ha:vs[i]? = some v:=by
   unfold start at h2
   rw [List.getElem?_append_left (by simpa using hi),List.getElem?_map] at h2
   cases e:vs[i]? with
   | none=>rw [e] at h2; cases h2
   | some a=>rw [e] at h2; cases h2; rfl
  obtain ⟨u,hu,rv⟩:=r.get ha
  have hp:ps[i]? = some y:=by
   rw [<- S.pre,List.getElem?_take_of_lt (by omega)]; exact h1
  have ndP:ps.Nodup:=by rw [<- S.pre]; exact S.nd.sublist (List.take_sublist _ _)
  refine ⟨u,rv,?_⟩
  rcases S.par y (List.mem_of_getElem? hp) with k | k
  ·exact .inl ⟨k,qeq ndP hp hu k⟩
  ·obtain ⟨c,e⟩:=qfu (n:=s.heap.objs.size+1) k
   refine .inr ⟨.inl k,c,e,?_⟩
   have q:=x.cell y c e
   rw [qer ndP hp hu (by show scope.names.lookup y≠_; rw [k]; decide)] at q
   exact q
 ·exact e0.hok.fresh (Nat.le_of_lt (x.above y c (PySem.mem_of_lookup h)))
 ·unfold start
  show _=N.length
  rw [List.length_append,List.length_map,List.length_replicate]
  omega
theorem qlx {CX:CXT} {P:Program} {w:World} {K:PySem.W.Frag} {mg:Str->Option Value} {base:Heap} {k:Nat} {f:Addr} {name qual:Str} {params:Arguments} {body:List Stmt} {scope:Scope} {dV kV doc pm cdv ct oc:Value} {an od:Option Addr}
  {osl:Array (Option Value)} {N ps:List Str} {sp:Sp} (lk:K.lookup f=some ⟨oc,od,.func (PySem.W.fnOf name qual params body scope dV kV doc pm an cdv ct),osl⟩) (hcd:PySem.W.codeIn K cdv qual=true) (S:qm N ps scope)
  (len:∀ vs H Q E,sp vs H Q E->vs.length=ps.length)
  (hbody:∀ (A:Around) (outer:List Env) (s:Shared) (H:Hp) (vs:List V) (Q:VK) (E:XK),qN k (A.deeper (envOfC qual scope s.heap.objs.size f cdv))->sp vs H Q E ->
   ∃ t,PSs (zc CX P w K mg base N qual scope f cdv A outer s H E) body t/\t { nx:=fun _ H'=>Q .non H',rt:=Q } (start N vs) H) :
  qw P w K mg base CX (k+1) f (PySem.W.fnOf name qual params body scope dV kV doc pm an cdv ct) ps sp:=by
 refine ⟨len,fun A outer s H args us vs Q E hr e0 hb r hsp=>?_⟩
 have hl:=len _ _ _ _ hsp
 have KX:K.In s.heap:=e0.mod.kin.keeps fun b o e=>(e0.bs b o e).1
 have lim:s.heap.NoLimit:=e0.mod.nolimit.keeps fun b o e=>(e0.bs b o e).1
 have hkind:∀ y∈ps.zip us,scope.names.lookup y.1=some .local \/ (scope.names.lookup y.1=some .cell/\((cellsFrom (s.heap.objs.size+1) scope.names []).lookup y.1).isSome=true):=fun ⟨n,v⟩ hy=>by
  rcases S.par n (List.of_mem_zip hy).1 with q | q
  ·exact .inl q
  ·exact .inr ⟨q,PySem.W.cellsFrom_some _ _ _ (.inl q)⟩
 refine codeAny_call_function hr.depth (KX _ _ lk) rfl S.co S.gen rfl (PySem.W.codeRec_of KX hcd) (hb _ _ _ _ ?_)
 refine wpAny_newFunctionEnv_cells S.kind hkind fun env he s1 x=>?_
 subst he
 refine ⟨lim.keeps x.toInCall.keep,codeAny_func ?_⟩
 obtain ⟨t,ht,hq⟩:=hbody A outer s H vs Q E (hr.deeper _) hsp
 have I:Inv (zc CX P w K mg base N qual scope f cdv A outer s H E) [] (start N vs) H s1:=qi2 S hr.hd e0 hl r x
 refine wpAny_mono (ht [] s1 (start N vs) H _ I hq) (fun fl s' hs=>?_) fun e s' hs=>hs
 have fin:∀ {σ':St} {H':Hp} {v:V} {u:Value},Inv (zc CX P w K mg base N qual scope f cdv A outer s H E) [] σ' H' s'->RelV v u->Q v H'->CE outer P w H s Q u s' :=
  fun {σ' H' v u} J rv q=>⟨v,H',J.os,J.bare,J.base,J.hok,rv,q⟩
 cases fl with
 | ret u=>
  obtain ⟨v,σ',H',J,rv,q⟩:=hs
  exact fin J rv q
 | next=>
  obtain ⟨σ',H',J,q⟩:=hs
  exact fin (v:=V.non) (u:=Value.none) J rfl q
 | brk=>
  obtain ⟨_,_,_,q⟩:=hs
  exact False.elim q
 | cont=>
  obtain ⟨_,_,_,q⟩:=hs
  exact False.elim q
end L2
namespace L2
open PySem PySem.Spec PyProof.Rows
section
variable {X:Cx} {x:Str} {p pos:Pos} {e:Expr} {es:List Expr} {t:TA} {id T:String} {r:List V->Hp->VK->Prop}
def tCB (r:List V->Hp->VK->Prop) (t:TA):TE:=fun σ H Q=>t σ H fun vs H1=>r vs H1 Q
theorem ja (hc:qcb X (.builtin id) r) (hg:Gl X x) (hm:X.mg x=none) (hv:bootBuiltins x=some (.builtin id)) (ha:PA X (e::es) t) (hn:x ≠ "__name__":=by decide) (hdb:(x == ("__debug__" : Str))=false:=by decide)
  (he:starEach (e::es) X.env=(false,eval e X.env)::starEach es X.env:=by rfl) (hpl:(backTo pos (starEach es X.env)).any (·.1)=false:=by rfl):PE X (.Call (.Name x p) (e::es) [] pos) (tCB r t):=by
 intro pins s σ H Q I h
 refine wpAny_Call_Name_kw (JH I hg hm hv ?_ hn hdb)
 exact PyProof.Rows.callWith_builtin1 (thn (ha pos pins s σ H _ I h) fun us s1 ⟨vs,H1,I1,r1,q1⟩=>hc pins s1 σ H1 vs us Q I1 r1 q1) he hpl
theorem qi3 (hc:qcb X (.type T) r) (hg:Gl X x) (hm:X.mg x=none) (hv:bootBuiltins x=some (.type T)) (ha:PA X (e::es) t) (hn:x ≠ "__name__":=by decide) (hdb:(x == ("__debug__" : Str))=false:=by decide)
  (he:starEach (e::es) X.env=(false,eval e X.env)::starEach es X.env:=by rfl) (hpl:(backTo pos (starEach es X.env)).any (·.1)=false:=by rfl):PE X (.Call (.Name x p) (e::es) [] pos) (tCB r t):=by
 intro pins s σ H Q I h
 refine wpAny_Call_Name_kw (JH I hg hm hv ?_ hn hdb)
 exact PyProof.Rows.callWith_type1 (thn (ha pos pins s σ H _ I h) fun us s1 ⟨vs,H1,I1,r1,q1⟩=>hc pins s1 σ H1 vs us Q I1 r1 q1) he hpl
end
end L2
namespace HT
open PySem PyProof.Rows
section
open PySem.SeqAt
open PySem.AutoSeq1 (wpAny_loadPart')
open PySem.MeetsSeq PySem.MeetsSeq2 PySem.MeetsSeq3
end
section
variable {prog:Program} {w:World} {A:Around} {E:Value->Shared->Prop} {s:Shared}
def sIx (n d:Nat):Option Int->Nat
 | none=>d
 | some v=>if v<0 then (v+(n:Int)).toNat else min v.toNat n
theorem qce (n d k:Nat):sIx n d (some (k:Int))=min k n:=by
 show (if (k:Int)<0 then ((k:Int)+(n:Int)).toNat else min (k:Int).toNat n)=min k n
 rw [if_neg (by omega),Int.toNat_natCast]
theorem qi4 (n d:Nat) (hd:d<=n) (o:Option Int):sIx n d o<=n:=by
 cases o with
 | none=>exact hd
 | some v=>
  show (if v<0 then (v+(n:Int)).toNat else min v.toNat n)<=n
  by_cases hv:v<0
  ·rw [if_pos hv]; omega
  ·rw [if_neg hv]; exact Nat.min_le_right _ _
end
end HT
namespace L2
open PySem PySem.Spec PyProof.Rows
abbrev TO:=St->Hp->(Option Int->Hp->Prop)->Prop
def PO (X:Cx) (e:Option Expr) (t:TO):Prop :=
 ∀ (pins:List (Addr × Obj)) (s:Shared) (σ : St) (H:Hp) (Q:Option Int->Hp->Prop),Inv X pins σ H s->t σ H Q ->
  wpAny (model X.prog X.w) X.A (evalPart e X.env) (fun u s'=>∃ o H',Inv X pins σ H' s'/\IsPart u o/\Q o H') X.xe s
def ql1:TO:=fun _ H Q=>Q none H
def qhW (t:TE):TO:=fun σ H Q=>t σ H fun x H1=>∃ i,x=.int i/\Q (some i) H1
section
variable {X:Cx} {e:Expr} {te:TE} {lo hi:Option Expr} {tl th:TO} {pos p2:Pos}
theorem qhh:PO X none ql1:=by
 intro pins s σ H Q I h
 rw [evalPart_none]
 exact wpAny_pure ⟨none,H,I,.none,h⟩
theorem QZ (h:PE X e te):PO X (some e) (qhW te):=by
 intro pins s σ H Q I hw
 rw [evalPart_some]
 refine thn (h pins s σ H _ I hw) fun u s1 ⟨x,H1,I1,r1,q1⟩=>?_
 obtain ⟨i,rfl,q⟩:=q1
 obtain ⟨t,rfl⟩:=r1
 exact ⟨some i,H1,I1,.int i t,q⟩
def SlR (X:Cx) (r:V->Option Int->Option Int->Hp->VK->Prop):Prop :=
 ∀ (pins:List (Addr × Obj)) (s:Shared) (σ : St) (H:Hp) (x:V) (v vl vu:Value) (lo hi:Option Int) (sl:Addr) (Q:VK),Inv X pins σ H s->RelV x v->s.heap.IsSliceOf sl vl vu .none->IsPart vl lo->IsPart vu hi->r x lo hi H Q ->
  ∃ T id,typeLookup (.type T) "__getitem__" = pure (some (.builtin id))/\s.TypeIs v T/\wpAny (model X.prog X.w) X.A (getItem v (.ref sl)) (EP X pins σ Q) X.xe s
def tSl (r:V->Option Int->Option Int->Hp->VK->Prop) (te:TE) (tl th:TO):TE:=fun σ H Q=>te σ H fun x H1=>tl σ H1 fun l H2=>th σ H2 fun u H3=>r x l u H3 Q
theorem JK {r:V->Option Int->Option Int->Hp->VK->Prop} (hr:SlR X r) (he:PE X e te) (hl:PO X lo tl) (hu:PO X hi th):PE X (.Subscript e (.Slice lo hi none p2) pos) (tSl r te tl th):=by
 intro pins s σ H Q I h
 refine Subscript_ (thn (he pins s σ H _ I h) fun v s1 ⟨x,H1,I1,r1,q1⟩=>?_)
 refine wpAny_Slice (thn (hl pins s1 σ H1 _ I1 q1) fun vl s2 ⟨l,H2,I2,pl,q2⟩=>thn (hu pins s2 σ H2 _ I2 q2) fun vu s3 ⟨u,H3,I3,pu,q3⟩=>?_)
 rw [evalPart_none]
 refine wpAny_pure ?_
 have I4:Inv X pins σ H3 { s3 with heap:=s3.heap.push { cls:=.type "slice",data:=.fields #[vl,vu,.none] } }:=I3.kept (t':=s3.toks) fun b ob q=>Heap.get?_push_of_some _ q
 obtain ⟨T,id,hT,ht,hg⟩:=hr pins { s3 with heap:=s3.heap.push { cls:=.type "slice",data:=.fields #[vl,vu,.none] } } σ H3 x v vl vu l u s3.heap.objs.size Q I4 r1 (Heap.IsSliceOf.new ..) pl pu q3
 show wpAny (model X.prog X.w) X.A (subscriptTail e (.Slice lo hi none p2) v (.ref s3.heap.objs.size)) (EP X pins σ Q) X.xe { s3 with heap:=s3.heap.push { cls:=.type "slice",data:=.fields #[vl,vu,.none] } }
 exact tail_any (ops:=[.ref s3.heap.objs.size,v]) ht hT hg (by with_unfolding_all rfl)
def JL (xs:List V) (lo hi:Option Int):List V:=(xs.drop (HT.sIx xs.length 0 lo)).take (HT.sIx xs.length xs.length hi - HT.sIx xs.length 0 lo)
theorem qgK (xs:List V) (lo hi:Option Int):(JL xs lo hi).length<=xs.length:=by
 unfold JL
 rw [List.length_take,List.length_drop]
 omega
end
end L2
namespace L2
open PySem PySem.Spec PyProof.Rows
def ixN (n:Nat) (i:Int):Option Nat:=if 0<=i then (if i<n then some i.toNat else none) else if -(n:Int)<=i then some (i+n).toNat else none
def atI {α : Type} (xs:List α) (i:Int):Option α:=(ixN xs.length i).bind fun j=>xs[j]?
theorem ql2 {n:Nat} {i:Int} {j:Nat} (h:ixN n i=some j):seqIndex? i n=some j/\j<n /\ -(n:Int)<=i/\i<n:=by
 unfold ixN at h
 by_cases h0:0<=i
 ·rw [if_pos h0] at h
  by_cases h1:i<n
  ·rw [if_pos h1] at h
   have e:i.toNat=j:=Option.some.inj h
   exact ⟨by rw [seqIndex_of h0 h1,e],by omega,by omega,h1⟩
  ·rw [if_neg h1] at h; cases h
 ·rw [if_neg h0] at h
  by_cases h1:-(n:Int)<=i
  ·rw [if_pos h1] at h
   have e:(i+n).toNat=j:=Option.some.inj h
   exact ⟨by rw [seqIndex_neg (by omega) h1,e],by omega,h1,by omega⟩
  ·rw [if_neg h1] at h; cases h
theorem ql3 {α : Type} {xs:List α} {i:Int} {v:α} (h:atI xs i=some v):∃ j,seqIndex? i xs.length=some j/\xs[j]? = some v/\j<xs.length /\ -(xs.length:Int)<=i/\i<xs.length:=by
 unfold atI at h
 cases e:ixN xs.length i with
 | none=>rw [e] at h; cases h
 | some j=>
  rw [e] at h
  obtain ⟨h1,h2,h3,h4⟩:=ql2 e
  exact ⟨j,h1,h,h2,h3,h4⟩
theorem jF {α : Type} {xs:List α} {j:Nat} {v:α} (h:xs[j]? = some v):atI xs (j:Int)=some v:=by
 have hj:j<xs.length:=(List.getElem?_eq_some_iff.mp h).1
 have e:ixN xs.length (j:Int)=some j:=by
  unfold ixN
  rw [if_pos (by omega),if_pos (by omega)]; simp
 unfold atI; rw [e]; exact h
theorem Zo {α : Type} (xs:List α) (v:α):atI (xs++[v]) (-1)=some v:=by
 have hl:(xs++[v]).length=xs.length+1:=by simp
 have e:ixN (xs++[v]).length (-1)=some xs.length:=by
  unfold ixN
  rw [hl,if_neg (by decide),if_pos (by omega)]
  congr 1
  omega
 unfold atI
 rw [e]
 show (xs++[v])[xs.length]? = some v
 simp
def qcf (b:Expr):Prop:=∀ o i,subscripted b false o i=operate [o,i] (getItem o i)
def IxR (X:Cx) (r:R2):Prop :=
 ∀ (value slice:Expr) (pins:List (Addr × Obj)) (s:Shared) (σ : St) (H:Hp) (x y:V) (v u:Value) (Q:VK),Inv X pins σ H s->RelV x v->RelV y u->r x y H Q ->
  subscripted slice false v u=operate [v,u] (getItem v u)->wpAny (model X.prog X.w) X.A (subscriptTail value slice v u) (EP X pins σ Q) X.xe s
def MtR (X:Cx) (id:String) (r:V->List V->Hp->VK->Prop):Prop :=
 ∀ (pins:List (Addr × Obj)) (s:Shared) (σ : St) (H:Hp) (x:V) (xs:List V) (v:Value) (us:List Value) (Q:VK),Inv X pins σ H s->RelV x v->qE xs us->r x xs H Q ->
  wpAny (model X.prog X.w) X.A (call (.builtin id) (v::us)) (EP X pins σ Q) X.xe s
section
variable {X:Cx} {a b:Expr} {ta tb:TE} {pos:Pos}
theorem jj {r:R2} (hr:IxR X r) (ha:PE X a ta) (hb:PE X b tb) (hs:qcf b):PE X (.Subscript a b pos) (tOp r ta tb):=by
 intro pins s σ H Q I h
 exact Subscript_ (qku ha hb I h fun v u s2 x y H2 I2 rx ry q=>hr a b pins s2 σ H2 x y v u Q I2 rx ry q (hs _ _))
def qoj (K:PySem.W.Frag):R2:=fun x y H Q=>∃ p xs i v,x=.ref p/\y=.int i/\SqL K H p xs/\atI xs i=some v/\Q v H
theorem zp:IxR X (qoj X.K):=by
 intro value slice pins s σ H x y v u Q I rx ry h hs
 obtain ⟨p,xs,i,z,rfl,rfl,hq,he,q⟩:=h
 cases rx
 obtain ⟨t,rfl⟩:=ry
 obtain ⟨its,r,pl,hz⟩:=I.list hq
 obtain ⟨j,h1,h2,h3,h4,h5⟩:=ql3 he
 obtain ⟨w,ew,rw'⟩:=r.get h2
 have hl:=r.length
 have hn:=qc5
 have fin:EP X pins σ Q w s:=⟨z,H,I,rw',q⟩
 by_cases h0:0<=i
 ·have hj:i.toNat=j:=by
   rw [seqIndex_of h0 h5] at h1
   exact Option.some.inj h1
  exact item_listR pl.isList h0 (by omega) (by rw [hj]; simpa using ew) fin hs
 ·have hj:(i+(its.toArray.size:Int)).toNat=j:=by
   rw [seqIndex_neg (by omega) h4] at h1
   rw [List.size_toArray,<- hl]
   exact Option.some.inj h1
  exact subscriptTail_builtinR (x:=w) pl.isList.typeIs slot_list_getitem.lookup
   (wpAny_getItem_list_neg (Q:=fun r s'=>r=w/\EP X pins σ Q r s') pl.isList (by omega) (by rw [List.size_toArray] <;> omega) (by omega) (by rw [hj]; simpa using ew) ⟨rfl,fin⟩) hs
theorem qfv (lo hi:Option Int) (n:Nat):(sliceBounds lo hi none n).1=((HT.sIx n 0 lo:Nat):Int)/\(sliceBounds lo hi none n).2.1=((HT.sIx n n hi:Nat):Int)/\(sliceBounds lo hi none n).2.2=1:=by
 refine ⟨?_,?_,rfl⟩
 ·cases lo with
  | none=>simp [sliceBounds,HT.sIx]
  | some i=>
   simp only [sliceBounds,HT.sIx,Option.getD_none,show (1:Int) > 0 by decide,if_true]
   by_cases h:i<0
   ·simp only [h,if_true] <;> omega
   ·simp only [h,if_false] <;> omega
 ·cases hi with
  | none=>simp [sliceBounds,HT.sIx]
  | some i=>
   simp only [sliceBounds,HT.sIx,Option.getD_none,show (1:Int) > 0 by decide,if_true]
   by_cases h:i<0
   ·simp only [h,if_true] <;> omega
   ·simp only [h,if_false] <;> omega
theorem qe0 (its:List Value) (lo hi:Option Int):slicePick its.toArray lo hi none=((its.drop (HT.sIx its.length 0 lo)).take (HT.sIx its.length its.length hi - HT.sIx its.length 0 lo)).toArray:=by
 obtain ⟨h1,h2,h3⟩:=qfv lo hi its.toArray.size
 unfold slicePick
 rw [h1,h2,h3]
 simp only [sliceRange_one,pick_run,List.size_toArray] <;> rfl
def qmZ (K:PySem.W.Frag):V->Option Int->Option Int->Hp->VK->Prop:=fun x lo hi H Q=>∃ a xs,x=.ref a/\SqL K H a xs/\∀ p,H p=none->Q (.ref p) (upd H p (.lst (JL xs lo hi)))
theorem qcg:SlR X (qmZ X.K):=by
 intro pins s σ H x v vl vu lo hi sl Q I rx hs pl pu h
 obtain ⟨a,xs,rfl,hx,q⟩:=h
 cases rx
 obtain ⟨its,r,ht,hz⟩:=I.list hx
 have hlen:=r.length
 refine ⟨"list",_,slot_list_getitem.lookup,ht.isList.typeIs,?_⟩
 refine wpAny_getItem_list_slice ht.isList hs pl pu .none (by simp) ?_ (by rw [List.size_toArray] <;> omega)
 rw [qe0,<- hlen]
 refine ⟨.ref s.heap.objs.size,_,I.laid (t':=s.toks) (o:=.lst (JL xs lo hi)) (fun b ob q=>Heap.get?_push_of_some _ q) (Nat.le_refl _) ?_,rfl,q _ (I.hok.fresh (Nat.le_refl _))⟩
 exact ⟨Nat.le_trans (qgK xs lo hi) hz,_,0,(r.drop (HT.sIx xs.length 0 lo)).take (HT.sIx xs.length xs.length hi - HT.sIx xs.length 0 lo),Heap.get?_push_size _ rfl⟩
def Qo:V->Bool
 | .non=>true
 | .bl _=>true
 | .int _=>true
 | .str _=>true
 | _=>false
def eqV:V->V->Bool
 | .non,.non=>true
 | .bl a,.bl b=>a == b
 | .bl a,.int b=>(if a then 1 else 0) == b
 | .int a,.bl b=>a == (if b then 1 else 0)
 | .int a,.int b=>a == b
 | .str a,.str b=>a == b
 | _,_=>false
theorem qm0 {A:Around} {s:Shared} {y x:V} {u v:Value} (ry:RelV y u) (rx:RelV x v) (fy:Qo y=true) (fx:Qo x=true):SeqAt.EqAt A s u v (eqV y x):=by
 cases y with
 | non=>
  cases ry
  cases x with
  | non=>cases rx; exact SeqAt.EqAt.same _
  | bl b=>cases rx; exact SeqAt.EqAt.none_bool b
  | int b=>obtain ⟨t,rfl⟩:=rx; exact SeqAt.EqAt.none_int b t
  | str b=>obtain ⟨t,rfl⟩:=rx; exact SeqAt.EqAt.none_str b t
  | _=>exact absurd (show false=true from fx) Bool.false_ne_true
 | bl a=>
  cases ry
  cases x with
  | non=>cases rx; exact SeqAt.EqAt.bool_none a
  | bl b=>cases rx; exact SeqAt.EqAt.bool_bool a b
  | int b=>obtain ⟨t,rfl⟩:=rx; exact SeqAt.EqAt.bool_int a b t
  | str b=>obtain ⟨t,rfl⟩:=rx; exact SeqAt.EqAt.bool_str a b t
  | _=>exact absurd (show false=true from fx) Bool.false_ne_true
 | int a=>
  obtain ⟨t',rfl⟩:=ry
  cases x with
  | non=>cases rx; exact SeqAt.EqAt.int_none a t'
  | bl b=>cases rx; exact SeqAt.EqAt.int_bool a t' b
  | int b=>obtain ⟨t,rfl⟩:=rx; exact SeqAt.EqAt.int_int a t' b t
  | str b=>obtain ⟨t,rfl⟩:=rx; exact SeqAt.EqAt.int_str a t' b t
  | _=>exact absurd (show false=true from fx) Bool.false_ne_true
 | str a=>
  obtain ⟨t',rfl⟩:=ry
  cases x with
  | non=>cases rx; exact SeqAt.EqAt.str_none a t'
  | bl b=>cases rx; exact SeqAt.EqAt.str_bool a t' b
  | int b=>obtain ⟨t,rfl⟩:=rx; exact SeqAt.EqAt.str_int a t' b t
  | str b=>obtain ⟨t,rfl⟩:=rx; exact SeqAt.EqAt.str_str a t' b t
  | _=>exact absurd (show false=true from fx) Bool.false_ne_true
 | _=>exact absurd (show false=true from fy) Bool.false_ne_true
def eqU (x:V) (u:Value):Bool:=match u with
 | .none=>eqV .non x
 | .bool b=>eqV (.bl b) x
 | .int i _=>eqV (.int i) x
 | .str z _=>eqV (.str z) x
 | _=>false
theorem qi5 {x y:V} {u:Value} (r:RelV y u) (f:Qo y=true):eqU x u=eqV y x:=by
 cases y with
 | non=>cases r; rfl
 | bl b=>cases r; rfl
 | int i=>obtain ⟨t,rfl⟩:=r; rfl
 | str z=>obtain ⟨t,rfl⟩:=r; rfl
 | _=>exact absurd (show false=true from f) Bool.false_ne_true
theorem qaq {x:V}:∀ {xs:List V} {us:List Value},qE xs us->xs.all Qo=true->us.any (eqU x)=xs.any fun y=>eqV y x
 | _,_,.nil,_=>rfl
 | y::xs,u::us,.cons r t,f=>by
  rw [List.all_cons,Bool.and_eq_true] at f
  rw [List.any_cons,List.any_cons,qi5 r f.1,qaq t f.2]
theorem JM {A:Around} {s:Shared} {x:V} {v:Value} (rx:RelV x v) (fx:Qo x=true):∀ {xs:List V} {us:List Value},qE xs us->xs.all Qo=true->∀ u∈us,SeqAt.EqAt A s u v (eqU x u)
 | _,_,.nil,_=>fun u hu=>by cases hu
 | y::xs,u::us,.cons r t,f=>fun u' hu=>by
  rw [List.all_cons,Bool.and_eq_true] at f
  rcases List.mem_cons.mp hu with rfl | hu
  ·rw [qi5 r f.1]; exact qm0 r rx f.1 fx
  ·exact JM rx fx t f.2 u' hu
def inV (x:V) (xs:List V):Bool:=xs.any fun y=>eqV y x
def rIn (K:PySem.W.Frag) (neg:Bool):R2:=fun x y H Q=>∃ p xs,y=.ref p/\(SqL K H p xs \/ SqT K H p xs)/\Qo x=true/\xs.all Qo=true/\Q (.bl (if neg then !inV x xs else inV x xs)) H
theorem Zt:OpR X (compareOp .In) (rIn X.K false):=by
 intro pins s σ H x y v u Q I rx ry h
 obtain ⟨p,xs,rfl,hq,fx,fs,q⟩:=h
 cases ry
 rcases hq with hq | hq
 ·obtain ⟨its,r,pl,hz⟩:=I.list hq
  refine SeqAt.in_listAt (eqU x) pl.isList (fun w hw=>JM rx fx r fs w (by simpa using hw)) ⟨.bl _,H,I,rfl,?_⟩
  rw [show its.toArray.any (eqU x)=its.any (eqU x) by simp,qaq r fs]
  exact q
 ·obtain ⟨its,r,pl,hz⟩:=I.tuple hq
  refine SeqAt.in_tupleAt (eqU x) pl (fun w hw=>JM rx fx r fs w (by simpa using hw)) ⟨.bl _,H,I,rfl,?_⟩
  rw [show its.toArray.any (eqU x)=its.any (eqU x) by simp,qaq r fs]
  exact q
theorem qfw:OpR X (compareOp .NotIn) (rIn X.K true):=by
 intro pins s σ H x y v u Q I rx ry h
 obtain ⟨p,xs,rfl,hq,fx,fs,q⟩:=h
 cases ry
 rcases hq with hq | hq
 ·obtain ⟨its,r,pl,hz⟩:=I.list hq
  refine SeqAt.notIn_listAt (eqU x) pl.isList (fun w hw=>JM rx fx r fs w (by simpa using hw)) ⟨.bl _,H,I,rfl,?_⟩
  rw [show its.toArray.any (eqU x)=its.any (eqU x) by simp,qaq r fs]
  exact q
 ·obtain ⟨its,r,pl,hz⟩:=I.tuple hq
  refine SeqAt.notIn_tupleAt (eqU x) pl (fun w hw=>JM rx fx r fs w (by simpa using hw)) ⟨.bl _,H,I,rfl,?_⟩
  rw [show its.toArray.any (eqU x)=its.any (eqU x) by simp,qaq r fs]
  exact q
theorem zB:qcb X (.builtin "len") (fun xs H Q=>∃ p ys,xs=[.ref p]/\(SqL X.K H p ys \/ SqT X.K H p ys)/\Q (.int ys.length) H):=by
 intro pins s σ H xs us Q I r h
 obtain ⟨p,ys,rfl,hq,q⟩:=h
 obtain ⟨u,rfl,rx⟩:=vals1 r
 cases rx
 have hn:=qc5
 rcases hq with hq | hq
 ·obtain ⟨its,r',pl,hz⟩:=I.list hq
  have hlen:=r'.length
  exact Calls.call_len_list pl.isList (by simp only [List.size_toArray] <;> omega) ⟨.int ys.length,H,I.tok _,⟨s.toks+1,by rw [List.size_toArray,hlen]⟩,q⟩
 ·obtain ⟨its,r',pl,hz⟩:=I.tuple hq
  have hlen:=r'.length
  exact len_tuple pl (by simp only [List.size_toArray] <;> omega) ⟨.int ys.length,H,I.tok _,⟨s.toks+1,by rw [List.size_toArray,hlen]⟩,q⟩
theorem qbC:qcb X (.builtin "len") (fun xs H Q=>∃ z,xs=[.str z]/\z.length<=sizeLine/\Q (.int z.length) H):=by
 intro pins s σ H xs us Q I r h
 obtain ⟨z,rfl,hz,q⟩:=h
 obtain ⟨u,rfl,t,rfl⟩:=vals1 r
 have hn:=qc5
 exact len_str (by omega) ⟨.int z.length,H,I.tok _,⟨_,rfl⟩,q⟩
theorem qe1:qcb X (.type "tuple") (fun xs H Q=>∃ p ys,xs=[.ref p]/\((SqL X.K H p ys/\∀ l,H l=none->Q (.ref l) (upd H l (.tup ys))) \/ (SqT X.K H p ys/\Q (.ref p) H))):=by
 intro pins s σ H xs us Q I r h
 obtain ⟨p,ys,rfl,h⟩:=h
 obtain ⟨u,rfl,rx⟩:=vals1 r
 cases rx
 rcases h with ⟨hq,q⟩ | ⟨hq,q⟩
 ·obtain ⟨its,r',pl,hz⟩:=I.list hq
  have hlen:=r'.length
  refine call_tuple_list pl.isList (fun h' kp=>?_) (by simp only [List.size_toArray] <;> omega)
  have I1:Inv X pins σ H { s with heap:=h' }:=I.kept (t':=s.toks) kp
  have I2:Inv X pins σ (upd H h'.objs.size (.tup ys)) { s with heap:=h'.push { cls:=.type "tuple",data:=.seq its.toArray } } :=
   I1.laid (t':=s.toks) (fun b o e=>Heap.get?_push_of_some _ e) (Nat.le_refl _) (show zm X.prog X.w _ _ _ (.tup ys) from ⟨hz,its,r',IsTup.new _ _⟩)
  exact ⟨.ref h'.objs.size,_,I2,rfl,q _ (I1.hok.fresh (Nat.le_refl _))⟩
 ·obtain ⟨its,r',pl,hz⟩:=I.tuple hq
  exact call_tuple_same pl ⟨.ref p,H,I,rfl,q⟩
def tyV (K:PySem.W.Frag) (T:String) (x:V) (H:Hp):Prop:=match x with
 | .str _=>T = "str"
 | .int _=>T = "int"
 | .ref p=>(T = "list" /\ ∃ xs,SqL K H p xs) \/ (T = "tuple" /\ ∃ o,K.lookup p=some o/\o.cls=.type "tuple" /\ o.dict=none) \/
   (T = "dict" /\ ((∃ kvs,H p=some (.dK kvs)) \/ ∃ kvs,H p=some (.dT kvs))) \/ (T = "set" /\ ∃ S n,H p=some (.set S n))
 | _=>False
theorem qi6 {pins:List (Addr × Obj)} {σ : St} {H:Hp} {s:Shared} {T:String} {x:V} {v:Value} (I:Inv X pins σ H s) (r:RelV x v) (ty:tyV X.K T x H) :
  s.TypeIs v T/\∀ a,v=.ref a->∃ ob,s.heap.get? a=some ob/\ob.dict=none:=by
 cases x with
 | str z=>
  obtain ⟨t,rfl⟩:=r
  cases (show T = "str" from ty)
  exact ⟨typeIs_str s z t,fun _ e=>nomatch e⟩
 | int i=>
  obtain ⟨t,rfl⟩:=r
  cases (show T = "int" from ty)
  exact ⟨typeIs_int s i t,fun _ e=>nomatch e⟩
 | ref p=>
  cases r
  rcases ty with ⟨rfl,xs,hq⟩ | ⟨rfl,o,hk,hc,hd⟩ | ⟨rfl,hk⟩ | ⟨rfl,S,n,hk⟩
  ·obtain ⟨its,_,pl,_⟩:=I.list hq
   refine ⟨pl.isList.typeIs,fun a e=>?_⟩
   cases e
   obtain ⟨o,n,e,c,hd,_⟩:=pl
   exact ⟨o,e,hd⟩
  ·refine ⟨⟨o,I.kIn p o hk,hc⟩,fun a e=>?_⟩
   cases e
   exact ⟨o,I.kIn _ o hk,hd⟩
  ·have z:∃ o,s.heap.get? p=some o/\o.ExactDict:=by
    rcases hk with ⟨kvs,hk⟩ | ⟨kvs,hk⟩
    ·obtain ⟨_,_,_,_,o,_,_,e,ex,_⟩:=I.hok p _ hk
     exact ⟨o,e,ex⟩
    ·obtain ⟨_,_,_,_,o,_,_,e,ex,_⟩:=I.hok p _ hk
     exact ⟨o,e,ex⟩
   obtain ⟨o,e,ex⟩:=z
   refine ⟨⟨o,e,ex.1⟩,fun a e2=>?_⟩
   cases e2
   exact ⟨o,e,ex.2.1⟩
  ·obtain ⟨o,_,_,_,e,ex,_⟩:=I.hok p _ hk
   refine ⟨⟨o,e,ex.1⟩,fun a e2=>?_⟩
   cases e2
   exact ⟨o,e,ex.2.1⟩
 | _=>exact False.elim ty
def qok (K:PySem.W.Frag) (T:String) (r:V->List V->Hp->VK->Prop) (to:TE):TE:=fun σ H Q=>to σ H fun x H1=>tyV K T x H1/\r x [] H1 Q
def tBM (K:PySem.W.Frag) (T:String) (r:V->List V->Hp->VK->Prop) (to:TE) (t:TA):TE:=fun σ H Q=>to σ H fun x H1=>tyV K T x H1/\t σ H1 fun xs H2=>r x xs H2 Q
variable {o e:Expr} {es:List Expr} {to:TE} {t:TA} {name:Str} {apos cpos:Pos} {T id:String} {r:V->List V->Hp->VK->Prop}
theorem qbD (pa:PlainAttrs T) (slot:Slot T name id) (hty:typeOf (.builtin id)=pure (.type "method_descriptor")) (hm:MtR X id r) (ho:PE X o to)
  (hbase:attributeBase o name X.env (eval o X.env)=eval o X.env:=by rfl) (hline:(apos.endLine == cpos.line)=true:=by rfl):PE X (.Call (.Attribute o name apos) [] [] cpos) (qok X.K T r to):=by
 intro pins s σ H Q I h
 refine wpAny_Call_method0_late hbase hline (thn (ho pins s σ H _ I h) fun v s1 ⟨x,H1,I1,r1,ty,q1⟩=>?_)
 obtain ⟨h1,h2⟩:=qi6 I1 r1 ty
 exact ⟨T,id,pa,slot,hty,h1,h2,Calls.callWith_builtin rfl (PySem.evalArgs_none (hm pins s1 σ H1 x [] v [] Q I1 r1 .nil q1))⟩
theorem zK (pa:PlainAttrs T) (slot:Slot T name id) (hty:typeOf (.builtin id)=pure (.type "method_descriptor")) (hm:MtR X id r) (ho:PE X o to) (ha:PA X (e::es) t)
  (hbase:attributeBase o name X.env (eval o X.env)=eval o X.env:=by rfl)
  (hfew:((backTo cpos (starEach (e::es) X.env)).all (fun x=>!x.1)&&(backToKw cpos (keywordEach [] X.env)).all (fun x=>x.1.isSome)
   && decide ((e::es).length+([]:List Keyword).length+(if ([]:List Keyword).isEmpty then 0 else 1)<30))=true:=by rfl)
  (hline:(apos.endLine == cpos.line)=true:=by rfl) (hs:starEach (e::es) X.env=(false,eval e X.env)::starEach es X.env:=by rfl) (hplain:(backTo cpos (starEach es X.env)).any (·.1)=false:=by rfl) :
  PE X (.Call (.Attribute o name apos) (e::es) [] cpos) (tBM X.K T r to t):=by
 intro pins s σ H Q I h
 refine wpAny_Call_method_late hbase hfew hline rfl (thn (ho pins s σ H _ I h) fun v s1 ⟨x,H1,I1,r1,ty,q1⟩=>?_)
 obtain ⟨h1,h2⟩:=qi6 I1 r1 ty
 refine ⟨T,id,pa,slot,hty,h1,h2,?_⟩
 have hA:=ha cpos pins s1 σ H1 _ I1 q1
 rw [hs] at hA ⊢
 refine Calls.callWith_builtin (by show (false||(backTo cpos (starEach es X.env)).any (·.1))=false; rw [hplain] <;> rfl) (Calls.evalArgs_plain ?_)
 exact thn hA fun us s2 ⟨vs,H2,I2,r2,q2⟩=>hm pins s2 σ H2 x vs v us Q I2 r1 r2 q2
end
end L2
namespace L2
open PySem PySem.Spec PyProof.Rows
def MtM (X:Cx) (id:String) (r:V->List V->Hp->VK->Prop):Prop :=
 ∀ (pins:List (Addr × Obj)) (s:Shared) (σ : St) (H:Hp) (x:V) (xs:List V) (v:Value) (us:List Value) (Q:VK),Inv X pins σ H s->RelV x v->qE xs us->r x xs H Q ->
  wpAny (model X.prog X.w) X.A (call (.builtin id) (v::us)) (EP X pins σ Q) X.xe s
theorem qE.one:∀ {x:V} {us:List Value},qE [x] us->∃ u,us=[u]/\RelV x u
 | _,_,.cons r .nil=>⟨_,rfl,r⟩
theorem qE.zero:∀ {us:List Value},qE [] us->us=[]
 | _,.nil=>rfl
theorem qE.dropLast {xs:List V} {us:List Value} (h:qE xs us):qE xs.dropLast us.dropLast:=by
 induction h with
 | nil=>exact .nil
 | cons r t ih=>
  cases t with
  | nil=>exact .nil
  | cons q t'=>exact .cons r ih
theorem qE.reverse {xs:List V} {us:List Value} (h:qE xs us):qE xs.reverse us.reverse:=by
 induction h with
 | nil=>exact .nil
 | cons r t ih=>rw [List.reverse_cons,List.reverse_cons]; exact qE.append ih (.cons r .nil)
theorem qhX {α : Type} (l:List α):l.eraseIdx (l.length - 1)=l.dropLast:=by
 induction l with
 | nil=>rfl
 | cons a r ih=>
  cases r with
  | nil=>rfl
  | cons b r=>
   have e:(a::b::r).length - 1=((b::r).length - 1)+1:=by
    have h1:(a::b::r).length=r.length+2:=rfl
    have h2:(b::r).length=r.length+1:=rfl
    omega
   rw [e,List.eraseIdx_cons_succ,ih]
   all_goals rfl
section
variable {X:Cx} {pins:List (Addr × Obj)} {σ : St} {H:Hp} {s:Shared} {l b:Addr} {xs ys zs:List V}
theorem Inv.lset {its its':List Value} {n:Nat} {f:Array Value->Array Value} {t':Nat} (I:Inv X pins σ H s) (hH:H l=some (.lst xs))
  (e:s.heap.get? l=some { cls:=.type "list",data:=.seq its.toArray n }) (hf:f its.toArray=its'.toArray) (hv:qE ys its') (hz:ys.length<=sizeLine) :
  Inv X pins σ (upd H l (.lst ys)) { s with heap:=s.heap.update l (Obj.mapSeq f),toks:=t' }:=by
 have q:=PySem.IsL.update e f
 rw [hf] at q
 refine I.write (x:=l) (e:=l) (by rw [hH]; exact trivial) (.inl rfl) (fun b' u hb hu=>(Heap.get?_update_other s.heap (Obj.mapSeq f) (Ne.symm hb)).trans hu) ⟨_,q⟩ ?_
 exact ⟨hz,its',_,hv,q⟩
theorem Inv.lnew {its:List Value} {t':Nat} (I:Inv X pins σ H s) (hv:qE ys its) (hz:ys.length<=sizeLine) :
  Inv X pins σ (upd H s.heap.objs.size (.lst ys)) { s with heap:=s.heap.push { cls:=.type "list",data:=.seq its.toArray },toks:=t' } :=
 I.laid (fun _ _ q=>Heap.get?_push_of_some _ q) (Nat.le_refl _) ⟨hz,its,0,hv,Heap.get?_push_size _ rfl⟩
theorem Inv.fresh (I:Inv X pins σ H s):H s.heap.objs.size=none:=I.hok.fresh (Nat.le_refl _)
theorem Inv.lstM (I:Inv X pins σ H s) (hH:H l=some (.lst xs)):xs.length<=sizeLine/\∃ (its:List Value) (n:Nat),qE xs its/\xs.length=its.length/\s.heap.get? l=some { cls:=.type "list",data:=.seq its.toArray n }:=by
 obtain ⟨z,its,n,r,e⟩:=I.hok l _ hH
 exact ⟨z,its,n,r,r.length,e⟩
theorem qkB {n:Nat} (h:n<=sizeLine):Builtin.List.listTooLong n=false:=by
 unfold Builtin.List.listTooLong
 exact decide_eq_false (by omega)
end
section
variable {X:Cx}
def qhi:V->List V->Hp->VK->Prop:=fun x vs H Q=>∃ l xs y,x=.ref l/\vs=[y]/\H l=some (.lst xs)/\xs.length<sizeLine/\Q .non (upd H l (.lst (xs++[y])))
theorem zq:MtM X "list.append" qhi:=by
 intro pins s σ H x vs v us Q I rx rv h
 obtain ⟨l,xs,y,rfl,rfl,hH,hz,q⟩:=h
 cases rx
 obtain ⟨u,rfl,ru⟩:=rv.one
 obtain ⟨z,its,n,r,hl,e⟩:=I.lstM hH
 refine call_meets F.slot_list_append ⟨_,e,rfl⟩ F.entry_list_append (F.args_list_append_2 _ _) (PySem.list_append l its.toArray n u (by rw [List.size_toArray]; omega)) ⟨e,?_⟩
 refine ⟨.non,_,I.lset (its':=its++[u]) hH e (by simp) (r.append (.cons ru .nil)) ?_,rfl,q⟩
 rw [List.length_append,List.length_singleton]
 omega
def ql4:V->List V->Hp->VK->Prop:=fun x vs H Q=>∃ l b xs zs,x=.ref l/\vs=[.ref b]/\H l=some (.lst xs)/\H b=some (.lst zs)/\xs.length+zs.length<=sizeLine/\Q .non (upd H l (.lst (xs++zs)))
theorem jL:MtM X "list.extend" ql4:=by
 intro pins s σ H x vs v us Q I rx rv h
 obtain ⟨l,b,xs,zs,rfl,rfl,hH,hB,hz,q⟩:=h
 cases rx
 obtain ⟨u,rfl,ru⟩:=rv.one
 cases ru
 obtain ⟨z,its,n,r,hl,e⟩:=I.lstM hH
 obtain ⟨z2,its2,n2,r2,hl2,e2⟩:=I.lstM hB
 have hsz:its.toArray.size+its2.toArray.size<=sizeLine:=by rw [List.size_toArray,List.size_toArray]; omega
 have hlong:¬ (!its.toArray.isEmpty&&Builtin.List.listTooLong (its.toArray.size+its2.toArray.size))=true:=by
  rw [qkB hsz,Bool.and_false]
  exact Bool.false_ne_true
 refine call_meets F.slot_list_extend ⟨_,e,rfl⟩ F.entry_list_extend (F.args_list_extend_2 _ _)
  (AutoSeq1.list_extend_list_list_0 l its.toArray n b its2.toArray n2 hlong (by rw [List.size_toArray]; omega) (by omega)) ⟨e,e2,?_⟩
 refine ⟨.non,_,I.lset (its':=its++its2) hH e (by simp) (r.append r2) ?_,rfl,q⟩
 rw [List.length_append]
 omega
def qol:V->List V->Hp->VK->Prop:=fun x vs H Q=>∃ l xs y,x=.ref l/\vs=[]/\H l=some (.lst xs)/\xs[xs.length - 1]? = some y/\Q y (upd H l (.lst xs.dropLast))
theorem qbE:MtM X "list.pop" qol:=by
 intro pins s σ H x vs v us Q I rx rv h
 obtain ⟨l,xs,y,rfl,rfl,hH,hy,q⟩:=h
 cases rx
 have hus:=rv.zero
 subst hus
 obtain ⟨z,its,n,r,hl,e⟩:=I.lstM hH
 obtain ⟨u,hu,ru⟩:=r.get hy
 have hy':its.toArray[its.toArray.size - 1]? = some u:=by
  show its.toArray[its.length - 1]? = some u
  rw [<- Array.getElem?_toList,<- hl]
  exact hu
 refine call_meets F.slot_list_pop ⟨_,e,rfl⟩ F.entry_list_pop (F.args_list_pop_1 _) (MeetsSeq.list_pop_last l its.toArray n u hy' (by rw [List.size_toArray]; omega)) ⟨e,?_⟩
 refine ⟨y,_,I.lset (its':=its.dropLast) hH e ?_ r.dropLast ?_,ru,q⟩
 ·show its.toArray.eraseIdxIfInBounds (its.toArray.size - 1)=its.dropLast.toArray
  rw [List.size_toArray,List.eraseIdxIfInBounds_toArray,qhX]
 ·rw [List.length_dropLast]
  omega
def qm1:R2:=fun x y H Q=>∃ l b xs zs,x=.ref l/\y=.ref b/\H l=some (.lst xs)/\H b=some (.lst zs)/\xs.length+zs.length<=sizeLine/\∀ p,H p=none->Q (.ref p) (upd H p (.lst (xs++zs)))
theorem qfx:OpR X (binaryOp .Add) qm1:=by
 intro pins s σ H x y v u Q I rx ry h
 obtain ⟨l,b,xs,zs,rfl,rfl,hH,hB,hz,q⟩:=h
 cases rx
 cases ry
 obtain ⟨z,its,n,r,hl,e⟩:=I.lstM hH
 obtain ⟨z2,its2,n2,r2,hl2,e2⟩:=I.lstM hB
 refine PySem.P.add_list e e2 ?_ (by rw [List.size_toArray,List.size_toArray]; omega)
 have ea:its.toArray++its2.toArray=(its++its2).toArray:=by simp
 rw [ea]
 exact ⟨.ref _,_,I.lnew (t':=s.toks) (r.append r2) (by rw [List.length_append]; omega),rfl,q _ I.fresh⟩
end
section
variable {prog:Program} {w:World} {A:Around} {E:Value->Shared->Prop} {s:Shared}
set_option maxRecDepth 100000 in
end
section
variable {X:Cx}
end
end L2
namespace L2
open PySem PySem.Spec PyProof.Rows
theorem qE.ints:∀ {ns:List Int} {us:List Value},qE (ns.map V.int) us->IntsAre us ns
 | [],us,h=>by
  rw [List.map_nil] at h
  cases h
  exact IntsAre.nil
 | n::ns,us,h=>by
  rw [List.map_cons] at h
  cases h with
  | cons r t=>
   obtain ⟨k,rfl⟩:=r
   exact IntsAre.cons n k (qE.ints t)
theorem qE.ref1 {a:Addr} {us:List Value} (r:qE [V.ref a] us):us=[Value.ref a]:=by
 cases r with
 | cons r t=>
  cases t
  cases r
  rfl
section
variable {prog:Program} {w:World} {A:Around} {E:Value->Shared->Prop} {s:Shared} {l:Addr} {its:List Value} {ns:List Int} {Q:Value->Shared->Prop}
end
section
variable {X:Cx}
end
section
variable {X:Cx}
end
section
variable {X:Cx}
end
section
variable {X:Cx}
end
mutual
inductive Dp (K:PySem.W.Frag) (H:Hp):V->PyData->Prop
 | non:Dp K H .non .none
 | bl (b:Bool):Dp K H (.bl b) (.bool b)
 | int (i:Int):Dp K H (.int i) (.int i)
 | str (x:Str):Dp K H (.str x) (.str x)
 | lst {a:Addr} {xs:List V} {ds:List PyData}:SqL K H a xs->qaP K H xs ds->Dp K H (.ref a) (.list ds)
 | tup {a:Addr} {xs:List V} {ds:List PyData}:SqT K H a xs->qaP K H xs ds->Dp K H (.ref a) (.tuple ds)
inductive qaP (K:PySem.W.Frag) (H:Hp):List V->List PyData->Prop
 | nil:qaP K H [] []
 | cons {v:V} {vs:List V} {d:PyData} {ds:List PyData}:Dp K H v d->qaP K H vs ds->qaP K H (v::vs) (d::ds)
end
section
variable {X:Cx} {pins:List (Addr × Obj)} {σ : St} {H:Hp} {s:Shared}
mutual
theorem Dp.reads (I:Inv X pins σ H s):∀ (d:PyData) (v:V) (u:Value),Dp X.K H v d->RelV v u->∃ as,Reads s.heap u d as
 | .none,_,_,h,r=>by
  cases h
  cases r
  exact ⟨_,Reads.none⟩
 | .bool b,_,_,h,r=>by
  cases h
  cases r
  exact ⟨_,Reads.bool b⟩
 | .int i,_,_,h,r=>by
  cases h
  obtain ⟨t,rfl⟩:=r
  exact ⟨_,Reads.int i t⟩
 | .str x,_,_,h,r=>by
  cases h
  obtain ⟨t,rfl⟩:=r
  exact ⟨_,Reads.str x t⟩
 | .list ds,_,_,h,r=>by
  cases h with
  | lst hs ha=>
   cases r
   obtain ⟨its,rv,⟨o,n,ho,hc,_,hd⟩,_⟩:=I.list hs
   obtain ⟨as,hr⟩:=Dp.readsAll I ds _ its ha rv
   exact ⟨_,Reads.list ho hc hd hr⟩
 | .tuple ds,_,_,h,r=>by
  cases h with
  | tup hs ha=>
   cases r
   obtain ⟨its,rv,⟨o,ho,hc,n,hd⟩,_⟩:=I.tuple hs
   obtain ⟨as,hr⟩:=Dp.readsAll I ds _ its ha rv
   exact ⟨_,Reads.tuple ho hc hd hr⟩
 | .dict _,_,_,h,_=>by cases h
theorem Dp.readsAll (I:Inv X pins σ H s):∀ (ds:List PyData) (vs:List V) (us:List Value),qaP X.K H vs ds->qE vs us->∃ as,ReadsAll s.heap us ds as
 | [],_,_,h,r=>by
  cases h
  cases r
  exact ⟨_,ReadsAll.nil⟩
 | d::ds,_,_,h,r=>by
  cases h with
  | cons h1 h2=>
   cases r with
   | cons r1 r2=>
    obtain ⟨as,q1⟩:=Dp.reads I d _ _ h1 r1
    obtain ⟨bs,q2⟩:=Dp.readsAll I ds _ _ h2 r2
    exact ⟨_,ReadsAll.cons q1 q2⟩
end
end
section
variable {X:Cx}
def qm2 (K:PySem.W.Frag):R2:=fun x y H Q=>∃ d e,Dp K H x d/\Dp K H y e/\SeqAt.shaped d=true/\SeqAt.shaped e=true/\Q (.bl (PyData.eqv d e)) H
theorem qi7 (hu:X.A.units+64<cLine):OpR X (compareOp .Eq) (qm2 X.K):=by
 intro pins s σ H x y v u Q I rx ry h
 obtain ⟨d,e,hd,he,sd,se,q⟩:=h
 obtain ⟨as,r1⟩:=Dp.reads I d x v hd rx
 obtain ⟨bs,r2⟩:=Dp.reads I e y u he ry
 exact SeqAt.compareEq_shaped r1 r2 sd se hu ⟨.bl _,H,I,rfl,q⟩
end
end L2
namespace L2
open PySem PySem.Spec PyProof.Rows
abbrev qi8 (h:Heap) (c:Addr) (v:Option Value):Prop:=h.IsCell c v
def qom (scope sc:Scope):Scope :=
 { scope with names:=scope.names.map fun (n,k)=>if (k == .free&&sc.kind == .function&&sc.names.lookup n == some .cell) then (n,.cell) else (n,k) }
def zD (cells:List (Str × Addr)):List (Str × NameKind)->List (Str × Addr)->List (Str × Addr)
 | [],acc=>acc
 | (n,k)::r,acc=>if k == .free then zD cells r ((n,(cells.lookup n).getD 0)::acc) else zD cells r acc
theorem qbF (env:Env) (f:Str × NameKind->List (Str × Addr)->Sem (ForInStep (List (Str × Addr))))
  (hf:∀ n k c,f (n,k) c=if k == .free then (do let a <- cellOf env n; pure (.yield ((n,a)::c))) else pure (.yield c)) :
  ∀ (names:List (Str × NameKind)) (acc:List (Str × Addr)),(∀ y∈names,y.2=.free->∃ c,env.cells.lookup y.1=some c)->forIn names acc f=pure (zD env.cells names acc)
 | [],acc,_=>by rw [List.forIn_nil]; rfl
 | (n,k)::r,acc,h=>by
  rw [List.forIn_cons,hf]
  have ih:=fun acc=>qbF env f hf r acc fun y hy=>h y (List.mem_cons_of_mem _ hy)
  unfold zD
  by_cases hk:(k == NameKind.free)=true
  ·rw [if_pos hk,if_pos hk]
   obtain ⟨c,hc⟩:=h (n,k) List.mem_cons_self (by simpa using hk)
   have e:cellOf env n=pure c:=by unfold cellOf; rw [hc]
   rw [e]
   have e2:(env.cells.lookup n).getD 0=c:=by rw [hc]; rfl
   rw [e2]
   exact ih _
  ·rw [if_neg hk,if_neg hk]
   exact ih _
theorem qhY {scope:Scope} {env:Env} (h:∀ y∈scope.names,y.2=.free->∃ c,env.cells.lookup y.1=some c):closureFor scope env=pure (zD env.cells scope.names []):=by
 simp only [closureFor]
 rw [qbF env _ (fun n k c=>rfl) scope.names [] h]
 rfl
theorem mem_lookup {α : Type}:∀ {l:List (Str × α)} {n:Str} {c:α},(n,c)∈l->∃ c',l.lookup n=some c'
 | (k,v)::r,n,c,h=>by
  rw [List.lookup_cons]
  cases hb:n == k with
  | true=>exact ⟨_,rfl⟩
  | false=>
   rcases List.mem_cons.mp h with e | h
   ·cases e; simp at hb
   ·exact mem_lookup h
theorem Jb {cells:List (Str × Addr)}:∀ {names:List (Str × NameKind)} {acc:List (Str × Addr)} {n:Str} {c:Addr},(n,c)∈zD cells names acc->(n,c)∈acc \/ ((n,.free)∈names/\c=(cells.lookup n).getD 0)
 | [],_,_,_,h=>.inl h
 | (m,k)::r,acc,n,c,h=>by
  unfold zD at h
  split at h
  ·rename_i hk
   have hk:k=.free:=by simpa using hk
   rcases Jb h with h | ⟨h1,h2⟩
   ·rcases List.mem_cons.mp h with e | h
    ·cases e; exact .inr ⟨hk ▸ List.mem_cons_self,rfl⟩
    ·exact .inl h
   ·exact .inr ⟨List.mem_cons_of_mem _ h1,h2⟩
  ·rcases Jb h with h | ⟨h1,h2⟩
   ·exact .inl h
   ·exact .inr ⟨List.mem_cons_of_mem _ h1,h2⟩
theorem qab {cells:List (Str × Addr)}:∀ {names:List (Str × NameKind)} {acc:List (Str × Addr)} {p:Str × Addr},p∈acc->p∈zD cells names acc
 | [],_,_,h=>h
 | (m,k)::r,acc,p,h=>by
  unfold zD
  split
  ·exact qab (List.mem_cons_of_mem _ h)
  ·exact qab h
theorem qac {cells:List (Str × Addr)}:∀ {names:List (Str × NameKind)} {acc:List (Str × Addr)} {n:Str},(n,.free)∈names->(n,(cells.lookup n).getD 0)∈zD cells names acc
 | (m,k)::r,acc,n,h=>by
  unfold zD
  rcases List.mem_cons.mp h with e | h
  ·cases e
   exact qab List.mem_cons_self
  ·split
   ·exact qac h
   ·exact qac h
theorem Jm:∀ {names:List (Str × NameKind)} {h:Heap} {acc:List (Str × Addr)} {x:Str} {c:Addr},(x,c)∈cellsFrom h.objs.size names acc ->
  (x,c)∈acc \/ ((x,.cell)∈names/\h.objs.size<=c/\qi8 (pushCells h names) c none)
 | [],_,_,_,_,h=>.inl h
 | (n,k)::r,h,acc,x,c,hm=>by
  unfold cellsFrom at hm
  unfold pushCells
  split at hm
  ·rename_i hk
   rw [if_pos hk]
   have hk:k=.cell:=by simpa using hk
   rw [<- Heap.size_push h { cls:=.type "cell",data:=.cell none }] at hm
   rcases Jm hm with hm | ⟨h1,h2,h3⟩
   ·rcases List.mem_cons.mp hm with e | hm
    ·cases e
     exact .inr ⟨hk ▸ List.mem_cons_self,Nat.le_refl _,_,pushCells_keeps r _ _ _ (Heap.get?_push_size _ rfl),rfl⟩
    ·exact .inl hm
   ·rw [Heap.size_push] at h2
    exact .inr ⟨List.mem_cons_of_mem _ h1,Nat.le_of_succ_le h2,h3⟩
  ·rename_i hk
   rw [if_neg hk]
   rcases Jm hm with hm | ⟨h1,h2,h3⟩
   ·exact .inl hm
   ·exact .inr ⟨List.mem_cons_of_mem _ h1,h2,h3⟩
theorem J1:∀ {names:List (Str × NameKind)} {n:Nat} {acc:List (Str × Addr)} {p:Str × Addr},p∈acc->p∈cellsFrom n names acc
 | [],_,_,_,h=>h
 | (m,k)::r,n,acc,p,h=>by
  unfold cellsFrom
  split
  ·exact J1 (List.mem_cons_of_mem _ h)
  ·exact J1 h
theorem qbG:∀ {names:List (Str × NameKind)} {n:Nat} {acc:List (Str × Addr)} {x:Str},(x,.cell)∈names->∃ c,(x,c)∈cellsFrom n names acc
 | (m,k)::r,n,acc,x,h=>by
  unfold cellsFrom
  rcases List.mem_cons.mp h with e | h
  ·cases e
   exact ⟨n,J1 List.mem_cons_self⟩
  ·split
   ·exact qbG h
   ·exact qbG h
theorem qbH:∀ {names:List (Str × NameKind)} {h:Heap} {acc:List (Str × Addr)} {x y:Str} {c:Addr},(∀ p∈acc,p.2<h.objs.size)->(∀ x y c,(x,c)∈acc->(y,c)∈acc->x=y) ->
  (x,c)∈cellsFrom h.objs.size names acc->(y,c)∈cellsFrom h.objs.size names acc->x=y
 | [],_,_,_,_,_,_,hi,h1,h2=>hi _ _ _ h1 h2
 | (n,k)::r,h,acc,x,y,c,hl,hi,h1,h2=>by
  unfold cellsFrom at h1 h2
  split at h1
  ·rename_i hk
   rw [if_pos hk] at h2
   rw [<- Heap.size_push h { cls:=.type "cell",data:=.cell none }] at h1 h2
   refine qbH (h:=h.push _) (fun p hp=>?_) (fun x y c a b=>?_) h1 h2
   ·rw [Heap.size_push]
    rcases List.mem_cons.mp hp with rfl | hp
    ·exact Nat.lt_succ_self _
    ·exact Nat.lt_succ_of_lt (hl p hp)
   ·rcases List.mem_cons.mp a with e | a <;> rcases List.mem_cons.mp b with e' | b
    ·cases e; cases e'; rfl
    ·cases e; exact absurd (hl _ b) (Nat.lt_irrefl _)
    ·cases e'; exact absurd (hl _ a) (Nat.lt_irrefl _)
    ·exact hi _ _ _ a b
  ·rename_i hk
   rw [if_neg hk] at h2
   exact qbH hl hi h1 h2
theorem qgL {M:Model} {A:Around} {E:Value->Shared->Prop} {s:Shared} {scope:Scope} {globals:Addr} {closure:List (Str × Addr)} {qual:Str} {func:Option Addr} {code:Value} {around:Env} {builtins:Addr} {Q:Env->Shared->Prop}
  (h:Q (newEnv scope s.heap.objs.size globals (cellsFrom (s.heap.objs.size+1) scope.names closure) qual func code (some around) builtins)
   { s with heap:=pushCells (s.heap.push { cls:=.type "dict",data:=.dict #[] }) scope.names }) :
  wpAny M A (newFunctionEnv scope globals closure [] qual func code (some around) builtins) Q E s:=by
 simp only [newFunctionEnv,Option.isSome_some,if_true]
 refine wpAny_bind (wpAny_alloc ?_)
 refine wpAny_bind (wpAny_layCells _ (fun n k c=>rfl) scope.names closure _ _ ?_)
 rw [show ({ s with heap:=s.heap.push { cls:=.type "dict",data:=.dict #[] } }:Shared).heap.objs.size=s.heap.objs.size+1 from Heap.size_push ..]
 rw [List.forIn_nil]
 exact wpAny_bind (wpAny_pure (wpAny_pure h))
theorem qad {sc:Scope}:∀ {names:List (Str × NameKind)} {x:Str} {k:NameKind},
  (names.map fun (n,k)=>if (k == NameKind.free&&sc.kind == .function&&sc.names.lookup n == some .cell) then (n,NameKind.cell) else (n,k)).lookup x=some k ->
  ∃ k',names.lookup x=some k'/\(k=k' \/ (k'=.free/\k=.cell))
 | [],_,_,h=>by simp at h
 | (n,k₀)::r,x,k,h=>by
  have ih:=@qad sc r x k
  have h':List.lookup x ((if (k₀ == NameKind.free&&sc.kind == .function&&sc.names.lookup n == some .cell)=true then (n,NameKind.cell) else (n,k₀))::(r.map _))=some k:=h
  cases hx:x == n with
  | true=>
   simp only [List.lookup_cons,hx]
   by_cases hc:(k₀ == NameKind.free&&sc.kind == .function&&sc.names.lookup n == some .cell)=true
   ·rw [if_pos hc] at h'
    simp only [List.lookup_cons,hx] at h'
    cases h'
    simp only [Bool.and_eq_true,beq_iff_eq] at hc
    exact ⟨k₀,rfl,.inr ⟨hc.1.1,rfl⟩⟩
   ·rw [if_neg hc] at h'
    simp only [List.lookup_cons,hx] at h'
    cases h'
    exact ⟨_,rfl,.inl rfl⟩
  | false=>
   simp only [List.lookup_cons,hx]
   by_cases hc:(k₀ == NameKind.free&&sc.kind == .function&&sc.names.lookup n == some .cell)=true
   ·rw [if_pos hc] at h'
    simp only [List.lookup_cons,hx] at h'
    exact ih h'
   ·rw [if_neg hc] at h'
    simp only [List.lookup_cons,hx] at h'
    exact ih h'
structure qda (N:List Str) (sc scope:Scope) (own:List (Str × Nat)):Prop where
 kind:scope.kind=.function
 uniq:∀ y∈scope.names,scope.names.lookup y.1=some y.2
 ix:∀ p∈own,N[p.2]? = some p.1
 free:∀ y∈scope.names,y.2=.free->sc.names.lookup y.1=some .cell \/ sc.names.lookup y.1=some .free
 own:∀ y∈scope.names,y.2=.local \/ y.2=.cell->y.1∈own.map (·.1) \/ y.1∉N
def wipe (σ : St):List Nat->St
 | []=>σ
 | v::vs=>(wipe σ vs).set v none
theorem qae (σ : St):∀ vs:List Nat,(wipe σ vs).length = σ.length
 | []=>rfl
 | v::vs=>by unfold wipe; rw [List.length_set,qae σ vs]
theorem qbI {σ : St} {i:Nat} {x:V}:∀ {vs:List Nat},(wipe σ vs)[i]? = some (some x) -> σ[i]? = some (some x)/\i∉vs
 | [],h=>⟨h,by simp⟩
 | v::vs,h=>by
  unfold wipe at h
  by_cases hi:v=i
  ·subst hi
   by_cases hv:v<(wipe σ vs).length
   ·rw [List.getElem?_set_self hv] at h; cases h
   ·rw [List.getElem?_eq_none (by simpa using hv)] at h; cases h
  ·rw [List.getElem?_set_ne hi] at h
   obtain ⟨h1,h2⟩:=qbI h
   exact ⟨h1,by simp only [List.mem_cons,not_or]; exact ⟨fun e=>hi e.symm,h2⟩⟩
abbrev Cx.blk (X:Cx) (s:Shared) (H:Hp) (scope:Scope) (cenv:Env) (fp:List Addr):Cx:={ X with s_0:=s,H_0:=H,env:=cenv,outer:=X.stack,ex:=fp,fn:=fun x=>scope.names.lookup x == some .cell,pn:=[],xe:=fun _ _=>False }
section
variable {X:Cx} {pins:List (Addr × Obj)} {σ : St} {H:Hp} {s:Shared}
theorem qgM {scope:Scope} {own:List (Str × Nat)} {fp:List Addr} (I:Inv X pins σ H s) (ok:qda X.N X.env.scope scope own) (hN:X.N.Nodup) (hfp:∀ b∈fp,Js X pins H b/\b<s.heap.objs.size) :
  Inv (X.blk s H scope (compEnvC scope (cellsFrom (s.heap.objs.size+1) scope.names (zD X.env.cells scope.names [])) s.heap.objs.size X.env) fp) [] (wipe σ (own.map (·.2))) H { s with heap:=pushCells (s.heap.push { cls:=.type "dict",data:=.dict #[] }) scope.names }:=by
 have hfree:∀ y∈scope.names,y.2=.free->∃ c,X.env.cells.lookup y.1=some c:=fun y hy e=>by
  rcases ok.free y hy e with k | k
  ·exact I.ok.has _ (.inl k)
  ·exact I.ok.has _ (.inr k)
 generalize hcenv:compEnvC scope (cellsFrom (s.heap.objs.size+1) scope.names (zD X.env.cells scope.names [])) s.heap.objs.size X.env=cenv
 have kp:∀ b o,s.heap.get? b=some o->(pushCells (s.heap.push { cls:=.type "dict",data:=.dict #[] }) scope.names).get? b=some o:=fun b o e=>pushCells_keeps _ _ _ _ (Heap.get?_push_of_some _ e)
 have hL:cenv.locals=s.heap.objs.size:=by rw [<- hcenv]; rfl
 have hcl:cenv.cells=cellsFrom (s.heap.objs.size+1) scope.names (zD X.env.cells scope.names []):=by rw [<- hcenv]; rfl
 have hsc:cenv.scope=qom scope X.env.scope:=by rw [<- hcenv]; rfl
 rw [<- Heap.size_push s.heap { cls:=.type "dict",data:=.dict #[] }] at hcl
 have cm:∀ {y c},(y,c)∈zD X.env.cells scope.names []->X.env.cells.lookup y=some c/\c<s.heap.objs.size:=fun {y c} hm=>by
  rcases Jb hm with hm | ⟨h1,rfl⟩
  ·cases hm
  ·obtain ⟨c,hc⟩:=hfree _ h1 rfl
   rw [hc]
   obtain ⟨w,z⟩:=I.cell _ _ hc
   exact ⟨rfl,z.lt⟩
 have mem:∀ {y c},cenv.cells.lookup y=some c->(X.env.cells.lookup y=some c/\c<s.heap.objs.size) \/ (s.heap.objs.size+1<=c/\qi8 (pushCells (s.heap.push { cls:=.type "dict",data:=.dict #[] }) scope.names) c none):=fun {y c} e=>by
  rw [hcl] at e
  rcases Jm (PySem.mem_of_lookup e) with hm | ⟨_,h2,h3⟩
  ·exact .inl (cm hm)
  ·rw [Heap.size_push] at h2; exact .inr ⟨h2,h3⟩
 have look:∀ {y},scope.names.lookup y=some .free->∃ c,cenv.cells.lookup y=some c/\X.env.cells.lookup y=some c:=fun {y} hl=>by
  have hy:(y,NameKind.free)∈scope.names:=PySem.mem_of_lookup hl
  obtain ⟨c',e'⟩:=mem_lookup (J1 (names:=scope.names) (n:=(s.heap.push { cls:=.type "dict",data:=.dict #[] }).objs.size) (qac (cells:=X.env.cells) (acc:=[]) hy))
  rw [<- hcl] at e'
  refine ⟨c',e',?_⟩
  rw [hcl] at e'
  rcases Jm (PySem.mem_of_lookup e') with hm | ⟨h1,_,_⟩
  ·exact (cm hm).1
  ·have:=ok.uniq _ h1
   rw [hl] at this; cases this
 have okB:(X.blk s H scope cenv fp).Ok:=by
  refine ⟨I.ok.mod,by show cenv.scope.kind=_; rw [hsc]; exact ok.kind,by show cenv.globals=_; rw [<- hcenv]; exact I.ok.glob,by show cenv.builtins=_; rw [<- hcenv]; exact I.ok.blt,by show s.heap.objs.size<=cenv.locals; rw [hL]; exact Nat.le_refl _,
   fun y z c e1 e2=>?_,fun y hy=>?_,fun y c z e=>?_,I.ok.hd,I.ok.frames,.inl rfl,fun b hb=>⟨?_,fun y c e z=>?_⟩,I.bs,Nat.le_trans I.ok.bsz I.sz,fun b o e hb=>?_,fun b hb z=>?_,I.stack,I.stkFree⟩
  ·have e1:cenv.cells.lookup y=some c:=e1
   have e2:cenv.cells.lookup z=some c:=e2
   rw [hcl] at e1 e2
   refine qbH (fun p hp=>?_) (fun y z c a b=>I.ok.inj y z c (cm a).1 (cm b).1) (PySem.mem_of_lookup e1) (PySem.mem_of_lookup e2)
   rw [Heap.size_push]
   exact Nat.lt_succ_of_lt (cm (y:=p.1) (c:=p.2) hp).2
  ·show ∃ c,cenv.cells.lookup y=some c
   have key:∀ k,cenv.kindOf y=some k->(k=.cell \/ k=.free)->∃ c,cenv.cells.lookup y=some c:=fun k hk hk'=>by
    unfold Env.kindOf at hk
    rw [hsc] at hk
    obtain ⟨k',e,r⟩:=qad hk
    have:k'=.cell \/ k'=.free:=by
     rcases r with rfl | ⟨rfl,_⟩
     ·exact hk'
     ·exact .inr rfl
    rcases this with rfl | rfl
    ·obtain ⟨c,hm⟩:=qbG (n:=(s.heap.push { cls:=.type "dict",data:=.dict #[] }).objs.size) (acc:=zD X.env.cells scope.names []) (PySem.mem_of_lookup e)
     obtain ⟨c',e'⟩:=mem_lookup hm
     exact ⟨c',by rw [hcl]; exact e'⟩
    ·obtain ⟨c,h1,_⟩:=look e
     exact ⟨c,h1⟩
   rcases hy with hy | hy
   ·exact key _ hy (.inl rfl)
   ·exact key _ hy (.inr rfl)
  ·have z:(scope.names.lookup y == some NameKind.cell)=true:=z
   have z:scope.names.lookup y=some .cell:=by simpa using z
   have e:cenv.cells.lookup y=some c:=e
   rw [hcl] at e
   rcases Jm (PySem.mem_of_lookup e) with hm | ⟨_,h2,_⟩
   ·rcases Jb hm with hm | ⟨h1,_⟩
    ·cases hm
    ·have q:=ok.uniq _ h1
     rw [z] at q; cases q
   ·rw [Heap.size_push] at h2
    exact Nat.le_of_succ_le h2
  ·show b≠cenv.locals
   rw [hL]; exact Nat.ne_of_lt (hfp b hb).2
  ·have e:cenv.cells.lookup y=some c:=e
   rcases mem e with ⟨h1,_⟩ | ⟨h1,_⟩
   ·exact (hfp b hb).1.2.2.2.2.1 y c h1 z
   ·have h2:s.heap.objs.size+1<=b:=by rw [<- z]; exact h1
    exact absurd (Nat.lt_of_lt_of_le (hfp b hb).2 (Nat.le_of_succ_le h2)) (Nat.lt_irrefl _)
  ·rcases (hfp b hb).1.2.2.2.1 with z | z
   ·exact I.ok.noex b o e z
   ·exact absurd (Nat.lt_of_lt_of_le (Heap.lt_size e) (Nat.le_trans I.ok.bsz z)) (Nat.lt_irrefl _)
  ·rcases List.mem_cons.mp (I.stkSub b z) with z | z
   ·exact (hfp b hb).1.2.1 z
   ·exact (hfp b hb).1.2.2.1 z
 refine ⟨okB,rfl,I.bare,Un.kept kp,⟨fun _=>none,?_,fun i y av e1 e2 e3=>?_⟩,fun y c e=>?_,?_,fun y c e=>?_,fun p hp=>?_,I.hok.kept kp,by rw [qae]; exact I.len⟩
 ·show Heap.Ns _ cenv.locals _
  rw [hL]
  exact Heap.Ns.keeps (Heap.Ns.new ..) fun b o e=>pushCells_keeps _ _ _ _ e
 ·obtain ⟨e2,hne⟩:=qbI e2
  have hfr:scope.names.lookup y=some .free/\(cenv.kindOf y=some .cell \/ cenv.kindOf y=some .free):=by
   have key:∀ k,cenv.scope.names.lookup y=some k->k=.local \/ k=.cell \/ k=.free->scope.names.lookup y=some .free/\(cenv.kindOf y=some .cell \/ cenv.kindOf y=some .free):=fun k hk hk'=>by
    have hk0:=hk
    rw [hsc] at hk
    obtain ⟨k',e,r⟩:=qad hk
    have no:¬ (k'=.local \/ k'=.cell):=fun hh=>by
     rcases ok.own _ (PySem.mem_of_lookup e) hh with e' | e'
     ·obtain ⟨p,hp,hpy⟩:=List.mem_map.mp e'
      have e3:=ok.ix p hp
      have:p.1=y:=hpy
      rw [this] at e3
      exact hne (List.mem_map.mpr ⟨p,hp,qcH hN e3 e1⟩)
     ·exact e' (List.mem_of_getElem? e1)
    rcases r with rfl | ⟨rfl,rfl⟩
    ·rcases hk' with rfl | rfl | rfl
     ·exact absurd (.inl rfl) no
     ·exact absurd (.inr rfl) no
     ·exact ⟨e,.inr hk0⟩
    ·exact ⟨e,.inl hk0⟩
   have e3:Vis cenv.scope y:=e3
   rcases e3 with e3 | e3 | e3
   ·exact key _ e3 (.inl rfl)
   ·exact key _ e3 (.inr (.inl rfl))
   ·exact key _ e3 (.inr (.inr rfl))
  obtain ⟨m,hn,hl⟩:=I.loc
  have hvis:Vis X.env.scope y:=(ok.free _ (PySem.mem_of_lookup hfr.1) rfl).elim (fun k=>.inr (.inl k)) (fun k=>.inr (.inr k))
  obtain ⟨w,r,q⟩:=hl i y av e1 e2 hvis
  refine ⟨w,r,.inr ⟨hfr.2,?_⟩⟩
  obtain ⟨c,h1,h2⟩:=look hfr.1
  rcases q with ⟨k,_⟩ | ⟨_,c',e',z⟩
  ·have k:X.env.scope.names.lookup y=some .local:=k
   rcases ok.free _ (PySem.mem_of_lookup hfr.1) rfl with k' | k' <;> rw [show X.env.scope.names.lookup y=_ from k'] at k <;> cases k
  ·rw [h2] at e'; cases e'
   exact ⟨c,h1,z.keeps kp⟩
 ·have e:cenv.cells.lookup y=some c:=e
  rcases mem e with ⟨h1,_⟩ | ⟨_,z⟩
  ·obtain ⟨w,z⟩:=I.cell y c h1
   exact ⟨w,z.keeps kp⟩
  ·exact ⟨_,z⟩
 ·show H cenv.locals=none
  rw [hL]; exact I.hok.fresh (Nat.le_refl _)
 ·have e:cenv.cells.lookup y=some c:=e
  rcases mem e with ⟨h1,_⟩ | ⟨h1,_⟩
  ·exact I.freeC y c h1
  ·exact I.hok.fresh (Nat.le_of_succ_le h1)
 ·exact absurd (show p∈([]:List (Addr × Obj))++[] from hp) (by simp)
theorem qm3 {E:Value->Shared->Prop} {D:Addr} {xs:List V} {y:V} {v:Value} {Q:Value->Shared->Prop} (I:Inv X pins σ H s) (hD:H D=some (.lst xs)) (hz:xs.length<sizeLine) (r:RelV y v)
  (h:∀ s',Inv X pins σ (upd H D (.lst (xs++[y]))) s'->Q .none s'):wpAny (model X.prog X.w) X.A (call (.builtin "list.append") [.ref D,v]) Q E s:=by
 obtain ⟨hz',its,n,ri,e⟩:=I.hok D _ hD
 have hl:=ri.length
 refine append_at (hsz:=by rw [List.size_toArray]; omega) e fun h' sb ho'=>?_
 refine h { s with heap:=h' } (I.write (t':=s.toks) (by rw [hD]; trivial) (.inl rfl) (fun b u hb q=>(sb.2 b hb).trans q) ⟨_,ho'⟩ ⟨by rw [List.length_append]; exact hz,its++[v],n+1,ri.append (.cons r .nil),?_⟩)
 rw [ho']
 simp
def PTs (X:Cx) (ifs:List Expr) (t:TT):Prop :=
 ∀ (pins:List (Addr × Obj)) (s:Shared) (σ : St) (H:Hp) (Q:Bool->Hp->Prop),Inv X pins σ H s->t σ H Q ->
  wpAny (model X.prog X.w) X.A (forIn ifs true fun c r=>if r=true then do let ok <- isTrue c X.env (eval c X.env); pure (ForInStep.yield ok) else pure (ForInStep.yield r)) (TP X pins σ Q) X.xe s
def qkC:TT:=fun _ H Q=>Q true H
theorem qar:PTs X [] qkC:=fun _ _ _ H _ I h=>wpAny_tests_nil ⟨H,I,h⟩
end
theorem qdK {α : Type} {t:Sem α} {Q Q':α -> Shared->Prop} {M:Model} {A:Around} {E:Value->Shared->Prop} {s:Shared} (h:wpAny M A t Q (fun _ _=>False) s) (hQ:∀ a s,Q a s->Q' a s):wpAny M A t Q' E s:=wpAny_mono h hQ fun _ _ z=>False.elim z
theorem qfy {prog:Program} {w:World} {A:Around} {R:Result->Shared->Prop} {s:Shared} {elt target iter:Expr} {ifs:List Expr} {scope:Scope} {pos:Pos} {it acc:Value} {env:Env} (I:Nat->Shared->Prop)
  (turn:∀ n s,I n s->wpAny (model prog w) A (pyNext it) (fun r s₁=>match r with
   | none=>R (.ok .next) s₁
   | some v=>wpAny (model prog w) A (letOwnedTupleGo target it v) (fun _ s₁'=>wpAny (model prog w) A (assign target env v) (fun _ s₂=>
     wpAny (model prog w) A (forIn ifs true fun c r=>if r=true then do let ok <- isTrue c env (eval c env); pure (ForInStep.yield ok) else pure (ForInStep.yield r)) (fun ok s₃=>
      if ok=true then wpAny (model prog w) A (eval elt env) (fun x s₄=>
       wpAny (model prog w) A (call (.builtin "list.append") [acc,x]) (fun _ s₅=>∃ m,m<n/\I m s₅) (notedBy (model prog w) A env fun e s'=>R (.error e) s') s₄) (notedBy (model prog w) A env fun e s'=>R (.error e) s') s₃
      else ∃ m,m<n/\I m s₃) (notedBy (model prog w) A env fun e s'=>R (.error e) s') s₂) (notedBy (model prog w) A env fun e s'=>R (.error e) s') s₁') (notedBy (model prog w) A env fun e s'=>R (.error e) s') s₁) (notedBy (model prog w) A env fun e s'=>R (.error e) s') s)
  (n:Nat) (h:I n s) :
  codeAny (model prog w) A (.compLoop (.ListComp elt [⟨target,iter,ifs,0⟩] scope pos) 0 it acc env) R s:=by
 refine codeAny_loop rfl I (fun n s hI=>?_) n h
 show wpAny _ A ((compTurn (.ListComp elt [⟨target,iter,ifs,0⟩] scope pos) 0 it acc env).onRaise (fun x=>do noteFrame x env; theTreesLotGoes x)) _ _ s
 refine wpAny_noted ?_
 rw [compTurn_list]
 refine wpAny_bind (wpAny_standAt (wpAny_bind (wpAny_mono (turn n s hI) (fun r s₁ h₁=>?_) fun _ _ h'=>h')))
 cases r with
 | none=>exact wpAny_pure h₁
 | some v=>
  refine wpAny_bind (wpAny_mono h₁ (fun _ s₁' h₁'=>?_) fun _ _ h'=>h')
  refine wpAny_bind (wpAny_mono h₁' (fun _ s₂ h₂=>wpAny_bind (wpAny_mono h₂ (fun ok s₃ h₃=>?_) fun _ _ h'=>h')) fun _ _ h'=>h')
  cases ok with
  | false=>exact wpAny_pure ⟨rfl,h₃⟩
  | true=>
   exact wpAny_bind (wpAny_bind (wpAny_mono h₃ (fun x s₄ h₄=>wpAny_bind (wpAny_mono h₄ (fun _ s₅ h₅=>wpAny_pure (wpAny_pure ⟨rfl,h₅⟩)) fun _ _ h'=>h')) fun _ _ h'=>h'))
section
variable {X:Cx}
def tLc (wi:TI) (g:TG) (tt:TT) (te:TE) (vs:List Nat):TE:=fun σ H Q=>wi σ H fun J H1=>∀ D,H1 D=none->∃ W:Nat->Nat->Hp->Prop,(∃ m,W 0 m (upd H1 D (.lst [])))/\∀ i m H,W i m H ->
 (J.stop i H/\Q (.ref D) H) \/ (J.go i H/\∃ Nx:Hp->Prop,(∀ H',Nx H'->∃ m',m'<m/\W (i+1) m' H')/\∀ x H',J.yld i H x H'->g x (wipe σ vs) H' fun σ2 H2=>wipe σ2 vs=wipe σ vs/\tt σ2 H2 fun b H3=>
  if b=true then te σ2 H3 fun y H4=>∃ acc,H4 D=some (.lst acc)/\acc.length<sizeLine/\Nx (upd H4 D (.lst (acc++[y]))) else Nx H3)
theorem qhj {pins:List (Addr × Obj)} {s:Shared} {σ : St} {H:Hp} {Q:VK} {elt tg iter:Expr} {ifs:List Expr} {scope:Scope} {own:List (Str × Nat)} {pos pos':Pos} {wi:TI} {g:TG} {tt:TT} {te:TE} {use:Option (Value->Sem Unit)} {Qf:Value->Shared->Prop}
  (hc:X.calm=true) (hN:X.N.Nodup) (I:Inv X pins σ H s) (hi:PI X tg iter wi) (ok:qda X.N X.env.scope scope own)
  (hg:∀ (s:Shared) (H:Hp) (C:Addr) (cl:List (Str × Addr)) (fp:List Addr),PG (X.blk s H scope (compEnvC scope cl C X.env) fp) tg g) (ht:∀ (s:Shared) (H:Hp) (C:Addr) (cl:List (Str × Addr)) (fp:List Addr),PTs (X.blk s H scope (compEnvC scope cl C X.env) fp) ifs tt)
  (he:∀ (s:Shared) (H:Hp) (C:Addr) (cl:List (Str × Addr)) (fp:List Addr),PE (X.blk s H scope (compEnvC scope cl C X.env) fp) elt te) (hs:∀ x,foldedSetIterable iter X.env x=pure x)
  (h:tLc wi g tt te (own.map (·.2)) σ H Q)
  (hRR:∀ D C s' m H',Inv X pins σ H' s'->Q (.ref D) H'->s'.heap.Ns C m->Js X pins H' C->compPost (model X.prog X.w) X.A X.xe use Qf (.ref D) C (.ok .next) s') :
  wpAny (model X.prog X.w) X.A (comprehension (.ListComp elt [⟨tg,iter,ifs,0⟩] scope pos) scope X.env pos' (newList []) false (eval iter X.env) use) Qf X.xe s:=by
 have hfree:∀ y∈scope.names,y.2=.free->∃ c,X.env.cells.lookup y.1=some c:=fun y hy e=>by
  rcases ok.free y hy e with k | k
  ·exact I.ok.has _ (.inl k)
  ·exact I.ok.has _ (.inr k)
 refine wpAny_comprehension_free (use:=use) rfl hs (qhY hfree) ok.kind (fun y hy e=>by rw [ok.uniq y hy,e])
  (thn (hi pins s σ H _ I h) fun xv s1 hx=>thn hx fun itv s2 h2=>?_)
 obtain ⟨it,fp,tn,J,H2,e,I2,T,st2,f2,q⟩:=h2
 subst e
 refine wpAny_newObj_type (qgL ?_) (by show 0<=sizeLine; decide)
 generalize hD:s2.heap.objs.size=D
 have hDn:H2 D=none:=I2.hok.fresh (Nat.le_of_eq hD)
 obtain ⟨W,⟨m0,w0⟩,turn⟩:=q D hDn
 generalize hs3:({ s2 with heap:=s2.heap.push { cls:=.type "list",data:=.seq ([]:List Value).toArray } }:Shared)=s3
 have I3:Inv X pins σ (upd H2 D (.lst [])) s3:=by
  rw [<- hs3]
  refine I2.laid (t':=s2.toks) (fun b o e=>Heap.get?_push_of_some _ e) (Nat.le_of_eq hD) ⟨Nat.zero_le _,[],0,.nil,?_⟩
  rw [<- hD]
  exact Heap.get?_push_size _ rfl
 have h3:s3.heap=s2.heap.push { cls:=.type "list",data:=.seq ([]:List Value).toArray }:=by rw [<- hs3]
 have sz:∀ b∈fp,b<s2.heap.objs.size:=fun b hb=>by
  obtain ⟨o,e,_⟩:=T.obj _ _ st2 b hb
  exact Heap.lt_size e
 have f3:∀ b∈fp,Js X pins (upd H2 D (.lst [])) b/\b<s3.heap.objs.size:=fun b hb=>by
  have hlt:=sz b hb
  refine ⟨⟨?_,(f2 b hb).2⟩,by rw [h3,Heap.size_push]; exact Nat.lt_succ_of_lt hlt⟩
  rw [qd (by rw [<- hD]; exact Nat.ne_of_lt hlt)]
  exact (f2 b hb).1
 have st3:tn 0 s3.heap:=T.keep _ _ _ st2 fun b _ o e=>by rw [h3]; exact Heap.get?_push_of_some _ e
 have I4:=qgM I3 ok hN f3
 have pg:=hg s3 (upd H2 D (.lst [])) s3.heap.objs.size (cellsFrom (s3.heap.objs.size+1) scope.names (zD X.env.cells scope.names [])) fp
 have pt:=ht s3 (upd H2 D (.lst [])) s3.heap.objs.size (cellsFrom (s3.heap.objs.size+1) scope.names (zD X.env.cells scope.names [])) fp
 have pe:=he s3 (upd H2 D (.lst [])) s3.heap.objs.size (cellsFrom (s3.heap.objs.size+1) scope.names (zD X.env.cells scope.names [])) fp
 show codeAny _ _ (.compStart (.ListComp elt [⟨tg,iter,ifs,0⟩] scope pos) 0 (.ref it) (.ref D) (compEnvC scope (cellsFrom (s3.heap.objs.size+1) scope.names (zD X.env.cells scope.names [])) s3.heap.objs.size X.env)) (compPost (model X.prog X.w) X.A X.xe use Qf (.ref D) s3.heap.objs.size) { s3 with heap:=pushCells (s3.heap.push { cls:=.type "dict",data:=.dict #[] }) scope.names }
 have nfp:∀ b∈fp,(upd H2 D (.lst [])) b=none:=fun b hb=>(f3 b hb).1.1
 generalize hce:compEnvC scope (cellsFrom (s3.heap.objs.size+1) scope.names (zD X.env.cells scope.names [])) s3.heap.objs.size X.env=ce at I4 pg pt pe ⊢
 have cL:ce.locals=s3.heap.objs.size:=by subst hce; rfl
 generalize hH3:upd H2 D (.lst [])=H3 at I3 I4 pg pt pe w0 nfp f3
 generalize hs4:({ s3 with heap:=pushCells (s3.heap.push { cls:=.type "dict",data:=.dict #[] }) scope.names }:Shared)=s4 at I4 ⊢
 have st4:tn 0 s4.heap:=T.keep _ _ _ st3 fun b _ o e=>by rw [<- hs4]; exact pushCells_keeps _ _ _ _ (Heap.get?_push_of_some _ e)
 have stat:∀ {σ':St} {H':Hp} {s':Shared},Inv (X.blk s3 H3 scope ce fp) [] σ' H' s'->(∀ b∈fp,H' b=none)->∀ b∈fp,Js (X.blk s3 H3 scope ce fp) [] H' b:=fun {σ' H' s'} I' hn b hb=>
  ⟨hn b hb,(I'.ok.exf b hb).1,I'.ok.exfs b hb,.inl hb,fun x c e=>(I'.ok.exf b hb).2 x c e,fun p hp=>absurd (show p∈([]:List (Addr × Obj))++[] from hp) (by simp)⟩
 have loop:codeAny (model X.prog X.w) X.A (.compLoop (.ListComp elt [⟨tg,iter,ifs,0⟩] scope pos) 0 (.ref it) (.ref D) ce) (compPost (model X.prog X.w) X.A X.xe use Qf (.ref D) s3.heap.objs.size) s4:=by
  refine qfy (fun n s'=>∃ i H',Inv (X.blk s3 H3 scope ce fp) [] (wipe σ (own.map (·.2))) H' s'/\tn i s'.heap/\(∀ b∈fp,H' b=none)/\W i n H') ?_ m0 ⟨0,H3,I4,st4,nfp,w0⟩
  rintro n s5 ⟨i,H5,I5,st5,n5,w5⟩
  rcases turn i n H5 w5 with ⟨stop,qq⟩ | ⟨go,Nx,hNx,step⟩
  ·have td:=T.done (X.blk s3 H3 scope ce fp) rfl rfl rfl hc i [] s5 _ H5 (fun _ _=>False) I5 (stat I5 n5) st5 stop
   refine qdK td fun r s6 ⟨hr,I6⟩=>?_
   subst hr
   have I7:Inv X pins σ H5 s6:=I3.call' (ch:=fp) I6.os I6.base I6.hok I6.bare fun b hb=>⟨(f3 b hb).1.2.2.2.1,(f3 b hb).1.2.1,(f3 b hb).1.2.2.2.2.1,(f3 b hb).1.2.2.2.2.2⟩
   have nC:H5 s3.heap.objs.size=none:=by
    have z:H5 ce.locals=none:=I6.free
    rw [cL] at z
    exact z
   obtain ⟨m,hn,_⟩:=I6.loc
   have hn:s6.heap.Ns ce.locals m:=hn
   rw [cL] at hn
   exact hRR D s3.heap.objs.size s6 m H5 I7 qq hn (I3.fpOk (Nat.le_refl _) nC)
  ·have ti:=T.item (X.blk s3 H3 scope ce fp) rfl rfl rfl hc i [] s5 _ H5 (fun _ _=>False) I5 (stat I5 n5) st5 go
   refine qdK ti fun r s6 ⟨u,hr,h6⟩=>?_
   subst hr
   refine qdK h6 fun _ s7 ⟨x,H7,I7,r7,y7,st7,n7⟩=>?_
   have I7':=I7.pinned (stat I7 n7) (T.obj _ _ st7)
   refine qdK (pg _ s7 _ H7 x u _ I7' r7 (step x H7 y7)) fun _ s8 ⟨σ8,H8,I8,hw8,q8⟩=>?_
   refine qdK (pt _ s8 σ8 H8 _ I8 q8) fun b s9 ⟨H9,I9,q9⟩=>?_
   have fin:∀ {s':Shared} {H':Hp},Inv (X.blk s3 H3 scope ce fp) ([]++qbz fp s7.heap) σ8 H' s'->Nx H'->∃ m,m<n/\∃ i H',Inv (X.blk s3 H3 scope ce fp) [] (wipe σ (own.map (·.2))) H' s'/\tn i s'.heap/\(∀ b∈fp,H' b=none)/\W i m H':=fun {s' H'} I' nx=>by
    obtain ⟨m',hm,w'⟩:=hNx H' nx
    have pin':∀ b∈fp,∀ o,s7.heap.get? b=some o->s'.heap.get? b=some o/\H' b=none:=fun b hb o e=>
     let z:=I'.pin (b,o) (List.mem_append_right _ (List.mem_append_right _ (qaN hb e)))
     ⟨z.1,z.2.1⟩
    have hl:(wipe σ (own.map (·.2))).length = σ8.length:=by rw [<- hw8,qae]
    refine ⟨m',hm,i+1,H',(I'.unpinned (pins:=[])).weak hl (fun j v e=>?_),T.keep _ _ _ st7 fun b hb o e=>(pin' b hb o e).1,fun b hb=>?_,w'⟩
    ·rw [<- hw8] at e
     exact (qbI e).1
    ·obtain ⟨o,e,_⟩:=T.obj _ _ st7 b hb
     exact (pin' b hb o e).2
   cases b with
   | false=>
    simp only [Bool.false_eq_true,if_false] at q9 ⊢
    exact fin I9 q9
   | true=>
    simp only [if_true] at q9 ⊢
    refine qdK (pe _ s9 σ8 H9 _ I9 q9) fun z s10 ⟨yv,H10,I10,r10,acc,hD10,hz10,nx⟩=>?_
    exact qm3 (X:=X.blk s3 H3 scope ce fp) I10 hD10 hz10 r10 fun s11 I11=>fin I11 nx
 exact codeAny_compStart_list loop (T.self X.A 0 _ _ _ st4 loop)
theorem qfg {elt tg iter:Expr} {ifs:List Expr} {scope:Scope} {own:List (Str × Nat)} {pos:Pos} {wi:TI} {g:TG} {tt:TT} {te:TE} (hc:X.calm=true) (hN:X.N.Nodup) (hi:PI X tg iter wi) (ok:qda X.N X.env.scope scope own)
  (hg:∀ (s:Shared) (H:Hp) (C:Addr) (cl:List (Str × Addr)) (fp:List Addr),PG (X.blk s H scope (compEnvC scope cl C X.env) fp) tg g) (ht:∀ (s:Shared) (H:Hp) (C:Addr) (cl:List (Str × Addr)) (fp:List Addr),PTs (X.blk s H scope (compEnvC scope cl C X.env) fp) ifs tt)
  (he:∀ (s:Shared) (H:Hp) (C:Addr) (cl:List (Str × Addr)) (fp:List Addr),PE (X.blk s H scope (compEnvC scope cl C X.env) fp) elt te) (hs:∀ x,foldedSetIterable iter X.env x=pure x:=by intro _; rfl) :
  PE X (.ListComp elt [⟨tg,iter,ifs,0⟩] scope pos) (tLc wi g tt te (own.map (·.2))):=by
 intro pins s σ H Q I h
 rw [eval_ListComp]
 refine qhj hc hN I hi ok hg ht he hs h fun D C s' m H' I' q hn f=>⟨m,hn,fun h'' sb=>?_⟩
 obtain ⟨f0,f1,f2,f3,f4,f5⟩:=f
 exact ⟨.ref D,H',I'.turned (t':=s'.toks) (fun b o hb e=>(sb.2 b hb).trans e) f0 f1 f3 f4 f5,rfl,q⟩
theorem qkD {i:Nat} {y:Str} {py:Pos} {elt tg iter:Expr} {ifs:List Expr} {scope:Scope} {own:List (Str × Nat)} {pos spos:Pos} {wi:TI} {g:TG} {tt:TT} {te:TE} (hc:X.calm=true) (hN:X.N.Nodup) (hy:X.N[i]? = some y) (hyl:X.env.scope.names.lookup y=some .local)
  (hsw:swapsWith (.ListComp elt [⟨tg,iter,ifs,0⟩] scope pos) (some (.Name y py)) spos.line X.env=pure true) (hi:PI X tg iter wi) (ok:qda X.N X.env.scope scope own)
  (hg:∀ (s:Shared) (H:Hp) (C:Addr) (cl:List (Str × Addr)) (fp:List Addr),PG (X.blk s H scope (compEnvC scope cl C X.env) fp) tg g) (ht:∀ (s:Shared) (H:Hp) (C:Addr) (cl:List (Str × Addr)) (fp:List Addr),PTs (X.blk s H scope (compEnvC scope cl C X.env) fp) ifs tt)
  (he:∀ (s:Shared) (H:Hp) (C:Addr) (cl:List (Str × Addr)) (fp:List Addr),PE (X.blk s H scope (compEnvC scope cl C X.env) fp) elt te) (hs:∀ x,foldedSetIterable iter X.env x=pure x:=by intro _; rfl) :
  PS X (.Assign [.Name y py] (.ListComp elt [⟨tg,iter,ifs,0⟩] scope pos) spos) (qkt (tLc wi g tt te (own.map (·.2))) (ZH i)):=by
 intro pins s σ H D I h
 rw [exec_Assign_Name_used _ _ _ _ hsw]
 refine wpAny_bind (wpAny_standAt (wpAny_bind ?_))
 show wpAny _ X.A (do let _ <- comprehension (.ListComp elt [⟨tg,iter,ifs,0⟩] scope pos) scope X.env (firstIterPos [⟨tg,iter,ifs,0⟩] pos) (newList []) false (eval iter X.env) (some (assign (.Name y py) X.env))) _ _ s
 have h:tLc wi g tt te (own.map (·.2)) σ H (fun x H1=>ZH i x σ H1 D.nx):=h
 refine wpAny_bind (thn (qhj (Qf:=fun _ s'=>SP X pins D .next s') hc hN I hi ok hg ht he hs h fun L C s' m H' I' q hn f=>?_) fun _ s' hq=>wpAny_pure (wpAny_pure hq))
 show wpAny _ _ (assign (.Name y py) X.env (.ref L)) _ _ _
 refine wpAny_assign_Name (qel (v:=V.ref L) I' hN hy (.inl hyl) rfl (fun s2 I2 ⟨a,sb,ha⟩=>?_) (.inr hyl))
 obtain ⟨f0,f1,f2,f3,f4,f5⟩:=f
 have haC:C≠a:=by
  rcases ha with z | z
  ·rw [z]; exact f1
  ·exact fun e=>f4 y a z e.symm
 refine ⟨m,hn.sameBut sb haC,fun h3 sb3=>?_⟩
 exact ⟨_,H',I2.turned (t':=s2.toks) (fun b o hb e=>(sb3.2 b hb).trans e) f0 f1 f3 f4 f5,q⟩
theorem ql5 {elt:Expr} {gs:List Comprehension} {scope:Scope} {pos py:Pos} {y:Str} {l:Nat} {env:Env} (hk:env.scope.kind=.function) (hy:env.scope.names.lookup y=some .local) (hl:(py.line == pos.line)=true)
  (ha:(scope.names.any fun (n,k)=>n == y&&(k == .local||k == .cell))=false):swapsWith (.ListComp elt gs scope pos) (some (.Name y py)) l env=pure true:=by
 have ky:env.kindOf y=some .local:=hy
 have hb:env.blockKind=.function:=by unfold Env.blockKind; rw [hk]; rfl
 unfold swapsWith
 simp only [hb,ky,ha,Expr.pos,hl]
 rfl
end
theorem qhk {K:PySem.W.Frag} {a:Addr} {xs:List V} {g:TG} {tt:TT} {te:TE} {vs:List Nat} {σ : St} {H1:Hp} {D:Addr} {Qd:Hp->Prop} (Pv:Nat->Hp->Prop) (h0:Pv 0 (upd H1 D (.lst []))) (hl:∀ i H,i<=xs.length->Pv i H->SqL K H a xs)
  (hs:∀ i x H,xs[i]? = some x->Pv i H->g x (wipe σ vs) H fun σ2 H2=>wipe σ2 vs=wipe σ vs/\tt σ2 H2 fun b H3=>
   if b=true then te σ2 H3 fun y H4=>∃ acc,H4 D=some (.lst acc)/\acc.length<sizeLine/\Pv (i+1) (upd H4 D (.lst (acc++[y]))) else Pv (i+1) H3) (hd:∀ H,Pv xs.length H->Qd H) :
  ∃ W:Nat->Nat->Hp->Prop,(∃ m,W 0 m (upd H1 D (.lst [])))/\∀ i m H,W i m H ->
   ((Itl K a).stop i H/\Qd H) \/ ((Itl K a).go i H/\∃ Nx:Hp->Prop,(∀ H',Nx H'->∃ m',m'<m/\W (i+1) m' H')/\∀ x H',(Itl K a).yld i H x H'->g x (wipe σ vs) H' fun σ2 H2=>wipe σ2 vs=wipe σ vs/\tt σ2 H2 fun b H3=>
    if b=true then te σ2 H3 fun y H4=>∃ acc,H4 D=some (.lst acc)/\acc.length<sizeLine/\Nx (upd H4 D (.lst (acc++[y]))) else Nx H3):=by
 refine ⟨fun i m H=>m=xs.length - i/\i<=xs.length/\Pv i H,⟨xs.length,by simp,Nat.zero_le _,h0⟩,?_⟩
 rintro i m H ⟨rfl,hi,p⟩
 have q:=hl i H hi p
 by_cases hlt:i<xs.length
 ·refine .inr ⟨⟨xs,xs[i],q,by simp [hlt]⟩,Pv (i+1),fun H' p'=>⟨xs.length - (i+1),by omega,rfl,hlt,p'⟩,fun x H' y=>?_⟩
  obtain ⟨e,y⟩:=y
  subst e
  exact hs i x _ (y xs q) p
 ·have e:i=xs.length:=by omega
  subst e
  exact .inl ⟨⟨xs,q,Nat.le_refl _⟩,hd H p⟩
def qm4 (N:List Str) (sc scope:Scope) (own:List (Str × Nat)):Bool :=
 (match scope.kind with | .function=>true | _=>false)&&(scope.names.all fun y=>decide (scope.names.lookup y.1=some y.2))&&(own.all fun p=>decide (N[p.2]? = some p.1)) &&
  (scope.names.all fun y=>match y.2 with
   | .free=>(match sc.names.lookup y.1 with | some .cell=>true | some .free=>true | _=>false)
   | .local=>decide (y.1∈own.map (·.1))||decide (y.1∉N)
   | .cell=>decide (y.1∈own.map (·.1))||decide (y.1∉N)
   | _=>true)
theorem JN {N:List Str} {sc scope:Scope} {own:List (Str × Nat)} (h:qm4 N sc scope own=true):qda N sc scope own:=by
 unfold qm4 at h
 simp only [Bool.and_eq_true,List.all_eq_true,decide_eq_true_eq] at h
 obtain ⟨⟨⟨h1,h2⟩,h3⟩,h4⟩:=h
 refine ⟨?_,h2,h3,fun y hy e=>?_,fun y hy e=>?_⟩
 ·split at h1
  ·assumption
  ·cases h1
 ·have q:=h4 y hy
  simp only [e] at q
  split at q <;> first | exact .inl (by assumption) | exact .inr (by assumption) | cases q
 ·have q:=h4 y hy
  rcases e with e | e <;> (simp only [e,Bool.or_eq_true,decide_eq_true_eq] at q; exact q)
end L2
namespace L2
open PySem PySem.Spec PyProof.Rows
section
variable {prog:Program} {w:World} {A:Around} {R:Result->Shared->Prop} {s:Shared} {elt t0 i0 t1 i1:Expr} {ifs0 ifs1:List Expr} {scope:Scope} {pos:Pos} {it acc:Value} {env:Env}
end
section
variable {X:Cx}
end
end L2
namespace L2
open PySem PySem.Spec PyProof.Rows
section
variable {κ : Type} [DecidableEq κ]
def zz (kvs:List (κ × V)) (k:κ):Option V:=(kvs.find? fun kv=>decide (kv.1=k)).map (·.2)
def putK (kvs:List (κ × V)) (k:κ) (v:V):List (κ × V) :=
 if (kvs.any fun kv=>decide (kv.1=k))=true then kvs.map (fun kv=>if kv.1=k then (kv.1,v) else kv) else kvs++[(k,v)]
theorem JO {p:κ × V} {r:List (κ × V)} {k:κ} (e:p.1=k):zz (p::r) k=some p.2:=by simp [zz,List.find?_cons,e]
theorem JP {p:κ × V} {r:List (κ × V)} {k:κ} (e:¬ p.1=k):zz (p::r) k=zz r k:=by simp [zz,List.find?_cons,e]
theorem qcM (k:κ):∀ kvs:List (κ × V),(kvs.any fun kv=>decide (kv.1=k))=(zz kvs k).isSome
 | []=>rfl
 | p::r=>by
  rw [List.any_cons]
  by_cases e:p.1=k
  ·simp only [JO e,decide_eq_true e,Bool.true_or,Option.isSome_some]
  ·rw [JP e,decide_eq_false e,Bool.false_or]; exact qcM k r
theorem qcy (kvs:List (κ × V)) (k:κ) (v:V):(putK kvs k v).length<=kvs.length+1:=by
 unfold putK
 split
 ·rw [List.length_map]; omega
 ·rw [List.length_append,List.length_cons,List.length_nil]; omega
theorem qkE {kvs:List (κ × V)} {k:κ} (v:V) (h:zz kvs k=none):putK kvs k v=kvs++[(k,v)]:=by
 unfold putK
 rw [qcM,h]
 exact if_neg (by decide)
theorem jT.isSome_eq {o:Option V} {u:Option Value} (r:jT o u):o.isSome=u.isSome:=by
 cases o with
 | none=>cases u with
  | none=>rfl
  | some _=>exact (show False from r).elim
 | some _=>cases u with
  | none=>exact (show False from r).elim
  | some _=>rfl
theorem jT.getD {o:Option V} {u:Option Value} {d:V} {d':Value} (r:jT o u) (rd:RelV d d'):RelV (o.getD d) (u.getD d'):=by
 cases o with
 | none=>cases u with
  | none=>exact rd
  | some _=>exact (show False from r).elim
 | some _=>cases u with
  | none=>exact (show False from r).elim
  | some _=>exact r
theorem KV.val {kvs:List (κ × V)} {vs:List (κ × Value)} (r:KV kvs vs) (k:κ):jT (zz kvs k) (valueAt vs k):=by
 unfold KV at r
 induction r with
 | nil=>exact True.intro
 | @cons p q ps qs h t ih=>
  obtain ⟨h1,h2⟩:=h
  by_cases e:p.1=k
  ·have e':q.1=k:=h1.symm.trans e
   have b:valueAt (q::qs) k=some q.2:=by simp [valueAt,List.find?_cons,e']
   rw [JO e,b]; exact h2
  ·have e':¬ q.1=k:=fun z=>e (h1.trans z)
   have b:valueAt (q::qs) k=valueAt qs k:=by simp [valueAt,List.find?_cons,e']
   rw [JP e,b]; exact ih
theorem KV.any {kvs:List (κ × V)} {vs:List (κ × Value)} (r:KV kvs vs) (k:κ):(kvs.any fun kv=>decide (kv.1=k))=vs.any fun kv=>decide (kv.1=k):=by
 unfold KV at r
 induction r with
 | nil=>rfl
 | cons h t ih=>rw [List.any_cons,List.any_cons,ih,h.1]
theorem KV.repl {kvs:List (κ × V)} {vs:List (κ × Value)} (r:KV kvs vs) (k:κ) {y:V} {u:Value} (ry:RelV y u) :
  KV (kvs.map fun kv=>if kv.1=k then (kv.1,y) else kv) (vs.map fun kv=>if kv.1=k then (kv.1,u) else kv):=by
 unfold KV at r ⊢
 induction r with
 | nil=>exact .nil
 | @cons p q ps qs h t ih=>
  rw [List.map_cons,List.map_cons]
  refine .cons ?_ ih
  obtain ⟨h1,h2⟩:=h
  by_cases e:p.1=k
  ·rw [if_pos e,if_pos (h1.symm.trans e)]; exact ⟨h1,ry⟩
  ·rw [if_neg e,if_neg (fun z=>e (h1.trans z))]; exact ⟨h1,h2⟩
theorem KV.put {kvs:List (κ × V)} {vs:List (κ × Value)} (r:KV kvs vs) (k:κ) {y:V} {u:Value} (ry:RelV y u):KV (putK kvs k y) (stored vs k u):=by
 unfold putK stored
 rw [r.any k]
 by_cases e:(vs.any fun kv=>decide (kv.1=k))=true
 ·rw [if_pos e,if_pos e]; exact r.repl k ry
 ·rw [if_neg e,if_neg e]; exact Paired.snoc r ⟨rfl,ry⟩
theorem KV.length {kvs:List (κ × V)} {vs:List (κ × Value)} (r:KV kvs vs):kvs.length=vs.length:=Paired.length r
end
theorem qaQ {P:Program} {w:World} {k:Key} {u:Value} (r:RelV (kV k) u):(zW P w).is k u=true:=by
 cases k with
 | inl i=>obtain ⟨t,e⟩:=(show ∃ t,u=Value.int i t from r); subst e; exact qgI P w i t
 | inr x=>obtain ⟨t,e⟩:=(show ∃ t,u=Value.str x t from r); subst e; exact qgJ P w x t
theorem qes {P:Program} {w:World}:∀ {ks:List Key} {us:List Value},qE (ks.map kV) us->ItemsAre (zW P w) ks us
 | [],_,r=>by rw [List.map_nil] at r; cases r; exact .nil
 | k::ks,_,r=>by
  rw [List.map_cons] at r
  cases r with
  | cons h t=>exact .cons (qaQ h) (qes t)
abbrev KT (H:Hp):List (List Key × V)->List (List Key × Addr × Value)->Prop:=Paired fun p q=>p.1=q.1/\H q.2.1=some (.tup (p.1.map kV))/\RelV p.2 q.2.2
theorem KT.val {H:Hp} {kvs:List (List Key × V)} {xs:List (List Key × Addr × Value)} (r:KT H kvs xs) (k:List Key):jT (zz kvs k) ((atKey xs k).map (·.2)):=by
 induction r with
 | nil=>exact True.intro
 | @cons p q ps qs h t ih=>
  obtain ⟨h1,_,h2⟩:=h
  by_cases e:p.1=k
  ·have e':q.1=k:=h1.symm.trans e
   have b:atKey (q::qs) k=some q.2:=by simp [atKey,List.find?_cons,e']
   rw [JO e,b]; exact h2
  ·have e':¬ q.1=k:=fun z=>e (h1.trans z)
   have b:atKey (q::qs) k=atKey qs k:=by simp [atKey,List.find?_cons,e']
   rw [JP e,b]; exact ih
theorem KT.repl {H:Hp} {kvs:List (List Key × V)} {xs:List (List Key × Addr × Value)} (r:KT H kvs xs) (k:List Key) {y:V} {u:Value} (ry:RelV y u) :
  KT H (kvs.map fun kv=>if kv.1=k then (kv.1,y) else kv) (xs.map (putAt k u)):=by
 induction r with
 | nil=>exact .nil
 | @cons p q ps qs h t ih=>
  rw [List.map_cons,List.map_cons]
  refine .cons ?_ ih
  obtain ⟨h1,h2,h3⟩:=h
  unfold putAt
  by_cases e:p.1=k
  ·rw [if_pos e,if_pos (h1.symm.trans e)]; exact ⟨h1,h2,ry⟩
  ·rw [if_neg e,if_neg (fun z=>e (h1.trans z))]; exact ⟨h1,h2,h3⟩
theorem KT.put {H:Hp} {kvs:List (List Key × V)} {xs:List (List Key × Addr × Value)} (r:KT H kvs xs) (k:List Key) {b:Addr} {y:V} {u:Value} (hb:H b=some (.tup (k.map kV))) (ry:RelV y u) :
  KT H (putK kvs k y) (storedH xs k b u):=by
 have e:(kvs.any fun kv=>decide (kv.1=k))=(atKey xs k).isSome:=by
  rw [qcM,(r.val k).isSome_eq,Option.isSome_map]
 unfold putK storedH
 rw [e]
 by_cases q:(atKey xs k).isSome=true
 ·rw [if_pos q,if_pos q]; exact r.repl k ry
 ·rw [if_neg q,if_neg q]; exact Paired.snoc r ⟨rfl,hb,ry⟩
theorem KT.keeps {H H':Hp} {kvs:List (List Key × V)} {xs:List (List Key × Addr × Value)} (r:KT H kvs xs) (ht:∀ b ys,H b=some (.tup ys)->H' b=some (.tup ys)):KT H' kvs xs :=
 Paired.mapP r fun _ _ z=>⟨z.1,ht _ _ z.2.1,z.2.2⟩
section
variable {P:Program} {w:World} {H:Hp} {h:Heap} {a:Addr}
theorem qly {u:HO} (ok:HOk P w H h) (e:Rd H a u):zm P w H h a u:=e.ok ok
theorem qlz {kvs:List (Key × V)} (ok:HOk P w H h) (e:Rd H a (.dK kvs)):kvs.length<=sizeLine/\(a == sysModules)=false/\∃ vs,KV kvs vs/\h.DictOf (zW P w) a vs :=
 show zm P w H h a (.dK kvs) from qly ok e
theorem qnU {kvs:List (Key × V)} (ok:HOk P w H h) (e:H a=some (.dK kvs)):kvs.length<=sizeLine/\(a == sysModules)=false/\∃ vs,KV kvs vs/\h.DictOf (zW P w) a vs:=qlz ok (.inl e)
theorem qfz {ks:List Key} (ok:HOk P w H h) (e:H a=some (.tup (ks.map kV))):(tupleKind (zW P w)).is h ks a:=by
 obtain ⟨_,its,r,o,h1,h2,n,h3⟩:=(show zm P w H h a (.tup (ks.map kV)) from ok a _ e)
 exact ⟨o,its.toArray,n,h1,h2,h3,by simpa using qes r⟩
theorem qlA {kvs:List (List Key × V)} (ok:HOk P w H h) (e:Rd H a (.dT kvs)):kvs.length<=sizeLine/\(a == sysModules)=false /\
  ∃ xs,KT H kvs xs/\h.DictOfH (tupleKind (zW P w)) a xs:=by
 obtain ⟨z,y,xs,r,o,es,ep,h1,h2,h3,h4,h5⟩:=(show zm P w H h a (.dT kvs) from qly ok e)
 refine ⟨z,y,xs,r,o,es,ep,h1,h2,h3,h4,fun x hx=>?_,h5⟩
 have all:∀ {l:List (List Key × V)} {m:List (List Key × Addr × Value)},KT H l m->∀ x∈m,(tupleKind (zW P w)).is h x.1 x.2.1:=by
  intro l m q
  induction q with
  | nil=>intro x hx; exact nomatch hx
  | @cons p q ps qs hq t ih=>
   intro x hx
   rcases List.mem_cons.mp hx with e | hx
   ·subst e
    exact qfz ok (by rw [<- hq.1]; exact hq.2.1)
   ·exact ih x hx
 exact all r x hx
theorem qnV {kvs:List (List Key × V)} (ok:HOk P w H h) (e:H a=some (.dT kvs)):kvs.length<=sizeLine/\(a == sysModules)=false /\
  ∃ xs,KT H kvs xs/\h.DictOfH (tupleKind (zW P w)) a xs:=qlA ok (.inl e)
end
def qfA (H:Hp) (a:Addr) (y:V) (r:Option V):Prop :=
 (∃ kvs k,Rd H a (.dK kvs)/\y=kV k/\r=zz kvs k) \/ ∃ kvs k b,Rd H a (.dT kvs)/\y=.ref b/\H b=some (.tup (k.map kV))/\r=zz kvs k
def qfB (H:Hp) (a:Addr) (y v:V) (H':Hp):Prop :=
 (∃ kvs k,H a=some (.dK kvs)/\y=kV k/\kvs.length<sizeLine/\H'=upd H a (.dK (putK kvs k v))) \/
 ∃ kvs k b,H a=some (.dT kvs)/\y=.ref b/\H b=some (.tup (k.map kV))/\kvs.length<sizeLine/\H'=upd H a (.dT (putK kvs k v))
theorem qfA.t {H:Hp} {a b:Addr} {kvs:List (List Key × V)} {k:List Key} (e:H a=some (.dT kvs)) (eb:H b=some (.tup (k.map kV))):qfA H a (.ref b) (zz kvs k):=.inr ⟨kvs,k,b,.inl e,rfl,eb,rfl⟩
theorem qfB.t {H:Hp} {a b:Addr} {kvs:List (List Key × V)} {k:List Key} {v:V} (e:H a=some (.dT kvs)) (eb:H b=some (.tup (k.map kV))) (hl:kvs.length<sizeLine) :
  qfB H a (.ref b) v (upd H a (.dT (putK kvs k v))):=.inr ⟨kvs,k,b,e,rfl,eb,hl,rfl⟩
section
variable {X:Cx} {pins:List (Addr × Obj)} {σ : St} {H:Hp} {s:Shared} {a:Addr} {y v:V} {u r:Value} {o:Option V} {A:Around} {E:Value->Shared->Prop}
theorem Inv.big (I:Inv X pins σ H s):sysModules<s.heap.objs.size:=by
 have h:mainGlobals<s.heap.objs.size:=(I.mod.glob.keeps I.bk).lt
 exact Nat.lt_trans (by decide) h
theorem qon {Q:Value->Shared->Prop} (hu:A.units+1<cLine) (I:Inv X pins σ H s) (g:qfA H a y o) (ry:RelV y u) (h:∀ s',Inv X pins σ H s'->Q (.bool o.isSome) s') :
  wpAny (model X.prog X.w) A (compareOp .In u (.ref a)) Q E s:=by
 rcases g with ⟨kvs,k,e,ey,l⟩ | ⟨kvs,k,b,e,ey,eb,l⟩
 ·subst ey
  obtain ⟨z,hd,vs,rel,dd⟩:=qlz I.hok e
  refine wpAny_in_of (qaQ ry) hd dd.mapOf ?_
  rw [<- (rel.val k).isSome_eq,<- l]
  exact h _ (I.tok _)
 ·subst ey
  cases (show u=Value.ref b from ry)
  obtain ⟨z,hd,xs,rel,dd⟩:=qlA I.hok e
  refine wpAny_in_heap (tupleKind_room_in1 hu) (qfz I.hok eb) hd dd ?_
  have q:=(rel.val k).isSome_eq
  rw [Option.isSome_map] at q
  rw [<- q,<- l]
  exact h _ (I.tok _)
theorem qhl {h':Heap} {t':Nat} {ob:HO} (I:Inv X pins σ H s) (mu:Mut (H a)) (hs:Heap.SameBut a s.heap h') (he:∃ q,h'.get? a=some q) (new:zm X.prog X.w (upd H a ob) h' a ob) :
  Inv X pins σ (upd H a ob) { s with heap:=h',toks:=t' } :=
 I.write (x:=a) (e:=a) mu (.inl rfl) (fun b q hb z=>(hs.2 b hb).trans z) he new
theorem qm5 {P:Program} {w:World} {H':Hp} {h':Heap} {kvs:List (Key × V)} {vs:List (Key × Value)} (z:kvs.length<=sizeLine) (hd:(a == sysModules)=false) (rel:KV kvs vs) (dd:h'.DictOf (zW P w) a vs) :
  zm P w H' h' a (.dK kvs):=⟨z,hd,vs,rel,dd⟩
theorem qi9 {H':Hp} {Q:Unit->Shared->Prop} (hu:A.units+1<cLine) (I:Inv X pins σ H s) (g:qfB H a y v H') (ry:RelV y u) (rv:RelV v r) (h:∀ s',Inv X pins σ H' s'->Q () s') :
  wpAny (model X.prog X.w) A (setItem (.ref a) u r) Q E s:=by
 rcases g with ⟨kvs,k,e,ey,l,eH⟩ | ⟨kvs,k,b,e,ey,eb,l,eH⟩
 ·subst ey eH
  obtain ⟨z,hd,vs,rel,dd⟩:=qnU I.hok e
  have hz:vs.length<=sizeLine:=by rw [<- rel.length]; exact z
  have hl:(putK kvs k v).length<=sizeLine:=by have:=qcy kvs k v; omega
  refine wpAny_setItem_pairs (hsz:=hz) (qaQ ry) dd fun h' dd' hs=>h _ ?_
  have he:∃ q,h'.get? a=some q:=let ⟨q,_,_,hq,_⟩:=dd'; ⟨q,hq⟩
  exact qhl I (by rw [e]; exact True.intro) hs he (qm5 hl hd (rel.put k rv) dd')
 ·subst ey eH
  cases (show u=Value.ref b from ry)
  obtain ⟨z,hd,xs,rel,dd⟩:=qnV I.hok e
  have hz:xs.length<=sizeLine:=by rw [<- Paired.length rel]; exact z
  have hl:(putK kvs k v).length<=sizeLine:=by have:=qcy kvs k v; omega
  refine wpAny_setItem_heap (hsz:=hz) (tupleKind_room_in1 hu) (qfz I.hok eb) dd fun h' dd' hs=>h _ ?_
  obtain ⟨q,es,ep,hq,h2,h3,h4,_,h5⟩:=dd'
  refine qhl I (by rw [e]; exact True.intro) hs ⟨q,hq⟩ ⟨hl,hd,_,(rel.put k eb rv).keeps fun c ys ec=>?_,q,es,ep,hq,h2,h3,h4,h5⟩
  rw [qd (qca ec e (fun z=>nomatch z))]
  exact ec
end
section
variable {X:Cx} {pins:List (Addr × Obj)} {σ : St} {H:Hp} {s:Shared} {a:Addr} {kvs:List (Key × V)} {k:Key} {u:Value} {A:Around} {E:Value->Shared->Prop}
end
def qm6 (i:Expr):Prop:=∀ ov iv,subscripted i false ov iv=operate [ov,iv] (getItem ov iv)
theorem ql6 {prog:Program} {w:World} {A:Around} {E:Value->Shared->Prop} {s:Shared} {env:Env} {value slice:Expr} {pos:Pos} {T id:String} {Q:Value->Shared->Prop}
  (hl:typeLookup (.type T) "__getitem__" = pure (some (.builtin id))) (hs:qm6 slice)
  (h:wpAny (model prog w) A (eval value env) (fun o s₁=>wpAny (model prog w) A (eval slice env) (fun i s₂=>s₂.TypeIs o T/\wpAny (model prog w) A (getItem o i) Q E s₂) E s₁) E s) :
  wpAny (model prog w) A (eval (.Subscript value slice pos) env) Q E s:=by
 refine Subscript_ (wpAny_mono h (fun o s₁ h₁=>wpAny_mono h₁ (fun i s₂ h₂=>?_) fun _ _ x=>x) fun _ _ x=>x)
 obtain ⟨hT,h₂⟩:=h₂
 unfold subscriptTail
 refine wpAny_bind ?_
 rw [getitemInPython_of_ne hT.not_modules]
 refine wpAny_bind (wpAny_specialOf hT hl ?_)
 have fin:wpAny (model prog w) A (subscripted slice false o i) (fun r s₃=>wpAny (model prog w) A (letTemporaryGo value o r >>= fun _=>pure r) Q E s₃) E s₂:=by
  rw [hs o i]
  exact wpAny_operating (wpAny_mono h₂ (fun r s₃ h₃=>wpAny_bind (wpAny_letTemporaryGo (wpAny_pure h₃))) fun _ _ x=>x)
 first
  | exact wpAny_pure (wpAny_bind fin)
  | exact wpAny_bind (wpAny_pure (wpAny_bind fin))
  | exact wpAny_bind fin
def qoo (ty td:TE):TE:=fun σ H Q=>ty σ H fun y H1=>td σ H1 fun x H2=>∃ a o,x=.ref a/\qfA H2 a y o/\Q (.bl o.isSome) H2
def qnW (td ty tv:TE):TS:=fun D σ H=>tv σ H fun v H1=>td σ H1 fun x H2=>ty σ H2 fun y H3=>∃ a H4,x=.ref a/\qfB H3 a y v H4/\D.nx σ H4
section
variable {X:Cx} {o i e value:Expr} {pos pos' tpos:Pos} {td ty tv:TE}
theorem qm7 (hu:X.A.units+1<cLine) (hi:PE X i ty) (ho:PE X o td):PC X .In i o (qoo ty td):=by
 intro pins s σ H Q I h
 refine thn (hi pins s σ H _ I h) fun iv s1 ⟨y,H1,I1,ry,q1⟩=>thn (ho pins s1 σ H1 _ I1 q1) fun u s2 ⟨x,H2,I2,rx,a,ov,ex,g,q2⟩=>?_
 subst ex
 obtain rfl:u=Value.ref a:=rx
 exact qon hu I2 g ry fun s3 I3=>⟨.bl ov.isSome,H2,I3,rfl,q2⟩
theorem ql7 (hu:X.A.units+1<cLine) (ho:PE X o td) (hi:PE X i ty) (hv:PE X value tv) (hs:swapsWith value (some (.Subscript o i pos')) pos.line X.env=pure false) :
  PS X (.Assign [.Subscript o i pos'] value pos) (qnW td ty tv):=by
 intro pins s σ H D I h
 refine wpAny_Assign_Subscript (thn (hv pins s σ H _ I h) fun r s1 ⟨v,H1,I1,rv,q1⟩=>thn (ho pins s1 σ H1 _ I1 q1) fun u s2 ⟨x,H2,I2,rx,q2⟩=>thn (hi pins s2 σ H2 _ I2 q2) fun iv s3 ⟨y,H3,I3,ry,a,H4,ex,g,q3⟩=>?_) hs
 subst ex
 obtain rfl:u=Value.ref a:=rx
 exact qi9 hu I3 g ry rv fun s4 I4=>⟨σ,H4,I4,q3⟩
end
theorem qkF {P:Program} {w:World} {H:Hp} (h:Heap) (hb:sysModules<h.objs.size):zm P w H (h.push { cls:=.type "dict",data:=.dict #[] }) h.objs.size (.dT []) :=
 ⟨Nat.zero_le _,beq_eq_false_iff_ne.mpr (Ne.symm (Nat.ne_of_lt hb)),[],.nil,_,#[],0,Heap.get?_push_size _ rfl,⟨rfl,rfl,rfl⟩,rfl,rfl,List.nodup_nil⟩
def qm8:TE:=fun _ H Q=>∀ p,H p=none->Q (.ref p) (upd H p (.dT []))
section
variable {X:Cx} {pos:Pos}
theorem qkG:PE X (.Dict [] [] pos) qm8:=fun pins s σ H Q I h=>
 wpAny_Dict_empty ⟨.ref s.heap.objs.size,_,I.laid (a:=s.heap.objs.size) (o:=.dT []) (t':=s.toks) (fun _ _ q=>Heap.get?_push_of_some _ q) (Nat.le_refl _) (qkF s.heap I.big),rfl,h _ (I.hok.fresh (Nat.le_refl _))⟩
end
structure M1 (X:Cx) (o:Expr) (m:Str) (apos:Pos) (e:Expr) (cpos:Pos):Prop where
 base:attributeBase o m X.env (eval o X.env)=eval o X.env
 few:((backTo cpos (starEach [e] X.env)).all (fun x=>!x.1)&&(backToKw cpos (keywordEach [] X.env)).all (fun x=>x.1.isSome)
  && decide (([e]:List Expr).length+([]:List Keyword).length+(if ([]:List Keyword).isEmpty then 0 else 1)<30))=true
 line:(apos.endLine == cpos.line)=true
 trees:backTo cpos (starEach [e] X.env)=[(false,eval e X.env)]
structure M2 (X:Cx) (o:Expr) (m:Str) (apos:Pos) (e f:Expr) (cpos:Pos):Prop where
 base:attributeBase o m X.env (eval o X.env)=eval o X.env
 few:((backTo cpos (starEach [e,f] X.env)).all (fun x=>!x.1)&&(backToKw cpos (keywordEach [] X.env)).all (fun x=>x.1.isSome)
  && decide (([e,f]:List Expr).length+([]:List Keyword).length+(if ([]:List Keyword).isEmpty then 0 else 1)<30))=true
 line:(apos.endLine == cpos.line)=true
 trees:backTo cpos (starEach [e,f] X.env)=[(false,eval e X.env),(false,eval f X.env)]
section
variable {X:Cx} {pins:List (Addr × Obj)} {σ : St} {H:Hp} {s:Shared} {a:Addr} {y d:V} {u r:Value} {o:Option V} {A:Around} {E:Value->Shared->Prop}
end
section
variable {X:Cx} {o e f:Expr} {apos cpos:Pos} {td ty tx:TE}
end
section
variable {X:Cx} {pins:List (Addr × Obj)} {σ : St} {H:Hp} {s:Shared} {a:Addr} {kvs:List (Key × V)} {A:Around} {E:Value->Shared->Prop}
end
section
variable {X:Cx} {pins:List (Addr × Obj)} {σ : St} {H:Hp} {s:Shared} {a:Addr} {y:V} {u:Value} {A:Around} {E:Value->Shared->Prop}
end
end L2
namespace L2
open PySem PySem.Spec PyProof.Rows
section
variable {prog:Program} {w:World} {A:Around} {E:Value->Shared->Prop}
end
section
variable {X:Cx}
end
end L2
namespace L2
open PySem PySem.Spec PyProof.Rows
section
variable {X:Cx} {pins:List (Addr × Obj)} {σ : St} {H:Hp} {s:Shared} {h':Heap}
theorem Inv.turnedL {t':Nat} {ch:List Addr} (I:Inv X pins σ H s) (k:∀ b o,b∉ch->s.heap.get? b=some o->h'.get? b=some o) (hf:∀ b∈ch,Js X pins H b):Inv X pins σ H { s with heap:=h',toks:=t' }:=by
 have nit:∀ b u,H b=some u->b∉ch:=fun b u e z=>by
  have q:=(hf b z).1
  rw [q] at e; cases e
 refine I.step (g':=s.gens) (d':=s.drawn) (ch:=ch) (fun b hb=>⟨(hf b hb).2.2.2.1,(hf b hb).2.1,(hf b hb).2.2.2.2.1,(hf b hb).2.2.2.2.2⟩) (fun b o _ _ hc e _=>k b o hc e) (fun b o _ _ hc e _=>⟨o.slots,k b o hc e⟩)
  (fun _ _ _ _ n=>n) (fun b o hc e=>⟨o,k b o hc e⟩) (fun _ _ e=>e) (fun _ _ _ e=>e) (fun b ps e=>⟨#[],by rw [e]; simp⟩) (fun m hm=>?_) (fun b u e=>?_) I.bare
 ·obtain ⟨o,es,ep,ho,r⟩:=hm
  exact ⟨o,es,ep,k _ o (fun z=>(hf _ z).2.1 rfl) ho,r⟩
 ·refine (I.hok b u e).stay (fun c v hc q=>k c v ?_ q) (fun _ q=>q) fun _ _ q=>q
  rcases hc with z | z
  ·rw [z]; exact nit b u e
  ·exact nit c _ z
theorem Inv.turnedNew {t':Nat} {ch:List Addr} {T:Addr} {ob:HO} (I:Inv X pins σ H s) (k:∀ b o,b∉ch->s.heap.get? b=some o->h'.get? b=some o) (hf:∀ b∈ch,Js X pins H b) (hT:s.heap.objs.size<=T)
  (new:zm X.prog X.w (upd H T ob) h' T ob):Inv X pins σ (upd H T ob) { s with heap:=h',toks:=t' }:=by
 have hn:H T=none:=I.hok.fresh hT
 have nit:∀ b u,H b=some u->b∉ch:=fun b u e z=>by
  have q:=(hf b z).1
  rw [q] at e; cases e
 refine I.step (g':=s.gens) (d':=s.drawn) (ch:=ch) (fun b hb=>⟨(hf b hb).2.2.2.1,(hf b hb).2.1,(hf b hb).2.2.2.2.1,(hf b hb).2.2.2.2.2⟩) (fun b o _ _ hc e _=>k b o hc e) (fun b o _ _ hc e _=>⟨o.slots,k b o hc e⟩)
  (fun b o _ e n=>?_) (fun b o hc e=>⟨o,k b o hc e⟩) (fun b xs e=>?_) (fun b o u e=>?_) (fun b ps e=>⟨#[],?_⟩) (fun m hm=>?_) (fun b u e=>?_) I.bare
 ·rw [qd (Nat.ne_of_lt (Nat.lt_of_lt_of_le (Heap.lt_size e) hT))]; exact n
 ·rw [qd (qh e hn)]; exact e
 ·rw [qd (qh e hn)]; exact e
 ·rw [qd (qh e hn),e]; simp
 ·obtain ⟨o,es,ep,ho,r⟩:=hm
  exact ⟨o,es,ep,k _ o (fun z=>(hf _ z).2.1 rfl) ho,r⟩
 ·by_cases hb:b=T
  ·subst hb
   rw [qc] at e
   cases e
   exact new
  ·rw [qd hb] at e
   refine (I.hok b u e).stay (fun c v hc q=>k c v ?_ q) (fun c q=>by rw [qd (qh q hn)]; exact q) fun c xs q=>by rw [qd (qh q hn)]; exact q
   rcases hc with z | z
   ·rw [z]; exact nit b u e
   ·exact nit c _ z
end
section
variable {X:Cx}
theorem qja {tg:Expr} {pins:List (Addr × Obj)} {σ : St} {H:Hp} {s:Shared} {R:It->Hp->Prop} {J:It} {tn:Nat->Heap->Prop} {tk:Nat} (I:Inv X pins σ H s) (o:Obj)
  (T:Turn X.prog X.w X.K tg J [s.heap.objs.size] s.heap.objs.size tn) (st:tn 0 (s.heap.push o)) (q:R J H):PIE X pins σ tg R (.ref s.heap.objs.size) { s with heap:=s.heap.push o,toks:=tk }:=by
 refine ⟨s.heap.objs.size,[s.heap.objs.size],tn,J,H,rfl,I.kept fun b ob e=>Heap.get?_push_of_some _ e,T,st,fun b hb=>?_,q⟩
 have e:b=s.heap.objs.size:=by simpa using hb
 subst e
 exact I.fpOk (Nat.le_refl _) (I.hok.fresh (Nat.le_refl _))
end
section
variable {X:Cx} {tg:Expr}
end
section
variable {X:Cx} {tg:Expr}
end
def Its (x:Str):It:=⟨fun i _=>i<x.cps.size,fun i H v H'=>H'=H/\∃ c,x.cps[i]? = some c/\v=.str ⟨#[c]⟩,fun i _=>x.cps.size<=i⟩
theorem qfC {P:Program} {w:World} {K:PySem.W.Frag} {tg:Expr} (it:Addr) (x:Str) (t:Tok) (ty:String) (hty:ty = "str_ascii_iterator" \/ ty = "str_iterator") :
  Turn P w K tg (Its x) [it] it (fun i h=>h.IsStrIter it ty x t i) where
 mem:=by simp
 obj:=fun i h st b hb=>by
  have e:b=it:=by simpa using hb
  subst e
  obtain ⟨o,e,c,d⟩:=st
  exact ⟨o,e,fun v z=>by rw [d] at z; cases z⟩
 keep:=fun i h h' st k=>let ⟨o,ho,r⟩:=st; ⟨o,k it (by simp) o ho,r⟩
 item:=by
  intro X hP hw hK hc i pins s σ H E I hf st hg
  subst hP hw hK
  obtain ⟨f0,f1,f2,f3,f4,f5⟩:=hf it (by simp)
  have W:Walks X.prog X.w X.A it [it] [it] x.cps.size (SignAt x) (fun i h=>h.IsStrIter it ty x t i):=by
   rcases hty with e | e
   ·rw [e]; exact Walks.strAscii (I.ok.hd hc) it x t
   ·rw [e]; exact Walks.strWide (I.ok.hd hc) it x t
  have hno:["enumerate","zip","dict_itemiterator","dict_reverseitemiterator","odict_iterator","itertools.zip_longest","itertools.pairwise"].contains ty=false:=by
   rcases hty with e | e
   ·rw [e]; decide
   ·rw [e]; decide
  refine W.item i s _ _ hg st fun v h' tk hv st' kk=>?_
  obtain ⟨c,u,hcx,rfl⟩:=hv
  have I1:Inv X pins σ H { s with heap:=h',toks:=tk }:=I.turned (fun b o hb e=>kk b o (by simpa using hb) e) f0 f1 f3 f4 f5
  obtain ⟨oi,e,cc,dd⟩:=id st'
  exact ⟨_,rfl,qhP (s:={ s with heap:=h',toks:=tk }) e cc dd hno ⟨.str ⟨#[c]⟩,H,I1,⟨u,rfl⟩,⟨rfl,c,hcx,rfl⟩,st',fun b hb=>(hf b hb).1⟩⟩
 done:=by
  intro X hP hw hK hc i pins s σ H E I hf st hg
  subst hP hw hK
  obtain ⟨f0,f1,f2,f3,f4,f5⟩:=hf it (by simp)
  have hx:x.cps[i]? = none:=Array.getElem?_eq_none hg
  rcases hty with e | e
  ·rw [e] at st
   exact wpAny_pyNext_ascii_end (I.ok.hd hc) st hx fun h' eb=>⟨rfl,I.turned (t':=s.toks) (fun b o hb e=>eb b o hb e) f0 f1 f3 f4 f5⟩
  ·rw [e] at st
   exact wpAny_pyNext_wide_end (I.ok.hd hc) st hx fun h' eb=>⟨rfl,I.turned (t':=s.toks) (fun b o hb e=>eb b o hb e) f0 f1 f3 f4 f5⟩
 self:=fun A i s Q E st h=>by
  rcases hty with e | e
  ·rw [e] at st; exact wpAny_pyIter_striter_ascii st h
  ·rw [e] at st; exact wpAny_pyIter_striter_wide st h
def qop (te:TE):TI:=fun σ H R=>te σ H fun v H1=>∃ x,v=.str x/\R (Its x) H1
theorem qm9 {X:Cx} {tg e:Expr} {te:TE} (he:PE X e te):PI X tg e (qop te):=by
 intro pins s σ H R I h
 refine thn (he pins s σ H _ I h) fun v s1 ⟨y,H1,I1,r1,x,ex,q⟩=>?_
 subst ex
 obtain ⟨t,rfl⟩:=r1
 cases ha:x.cps.all (· < 128)
 ·exact wpAny_pyIter_wide ha (qja (tk:=s1.toks) I1 _ (qfC _ x t "str_iterator" (.inr rfl)) ⟨_,Heap.get?_push_size _ rfl,rfl,rfl⟩ q)
 ·exact wpAny_pyIter_ascii ha (qja (tk:=s1.toks) I1 _ (qfC _ x t "str_ascii_iterator" (.inl rfl)) ⟨_,Heap.get?_push_size _ rfl,rfl,rfl⟩ q)
section
variable {prog:Program} {w:World} {A:Around} {E:Value->Shared->Prop} {s:Shared}
end
section
variable {X:Cx} {pins:List (Addr × Obj)} {σ : St} {H:Hp} {s:Shared} {d:Addr} {o:Obj}
end
section
variable {P:Program} {w:World} {K:PySem.W.Frag} {tg:Expr} {d:Addr} {o:Obj} {es:Array DictEntry} {ep:Nat}
end
section
variable {X:Cx} {tg e:Expr} {td:TE} {apos cpos:Pos}
end
def Ite (K:PySem.W.Frag) (a:Addr):It :=
 ⟨fun i H=>∃ (xs:List V) (x:V),SqL K H a xs/\xs[i]? = some x,fun i H v H'=>∃ T x,v=.ref T/\H T=none/\H'=upd H T (.tup [.int (i:Nat),x])/\∀ xs,SqL K H a xs->xs[i]? = some x,fun i H=>∃ xs:List V,SqL K H a xs/\xs.length<=i⟩
theorem qjb {P:Program} {w:World} {K:PySem.W.Frag} {elts:List Expr} {kk:Nat} {tpos:Pos} (a e it:Addr) :
  Turn P w K (.Tuple elts kk tpos) (Ite K a) [e,it] e (fun i h=>(∃ old,IsEnum h e it ((i:Nat):Int) old)/\h.IsListIter it a i/\e≠it) where
 mem:=by simp
 obj:=fun i h st b hb=>by
  obtain ⟨⟨old,he⟩,⟨o,ho,hc,hd⟩,_⟩:=st
  have e':b=e \/ b=it:=by simpa using hb
  rcases e' with z | z
  ·rw [z]; exact ⟨_,he,fun v q=>nomatch q⟩
  ·rw [z]; exact ⟨o,ho,fun v q=>by rw [hd] at q; cases q⟩
 keep:=fun i h h' st k=>let ⟨⟨old,he⟩,hi,hne⟩:=st; ⟨⟨old,k e (by simp) _ he⟩,hi.at fun o q=>k it (by simp) o q,hne⟩
 item:=by
  intro X hP hw hK hc i pins s σ H E I hf st hg
  subst hP hw hK
  obtain ⟨⟨old,he⟩,hit,hne⟩:=st
  obtain ⟨xs,x,hq,hx⟩:=hg
  obtain ⟨its,rv,p,hz⟩:=I.list hq
  obtain ⟨u,hu,ru⟩:=rv.get hx
  have hel:e<s.heap.objs.size:=Heap.lt_size he
  have hil:it<s.heap.objs.size:=by obtain ⟨_,q,_⟩:=hit; exact Heap.lt_size q
  refine wpAny_pyNext_enum_item he hit p.isList (x:=u) (by simpa using hu) hne fun h' ho hit' hT hsz hk=>?_
  refine ⟨_,rfl,wpAny_letOwnedTupleGo_enum (s:={ s with heap:=h',toks:=s.toks+1 }) ho fun h'' he' sb=>?_⟩
  have hT2:h''.get? s.heap.objs.size=some { cls:=.type "tuple",data:=.seq #[.int i s.toks,u] }:=(sb.2 _ (Nat.ne_of_gt hel)).trans hT
  have new:zm X.prog X.w (upd H s.heap.objs.size (.tup [.int (i:Nat),x])) h'' s.heap.objs.size (.tup [.int (i:Nat),x]) :=
   ⟨by show 2<=sizeLine; decide,[.int i s.toks,u],.cons ⟨_,rfl⟩ (.cons ru .nil),⟨_,hT2,rfl,_,rfl⟩⟩
  have I1:Inv X pins σ (upd H s.heap.objs.size (.tup [.int (i:Nat),x])) { s with heap:=h'',toks:=s.toks+1 } :=
   I.turnedNew (ch:=[e,it]) (fun b ob hb q=>(sb.2 b (fun z=>hb (by simp [z]))).trans (hk b ob (fun z=>hb (by simp [z])) (fun z=>hb (by simp [z])) q)) hf (Nat.le_refl _) new
  refine ⟨.ref s.heap.objs.size,_,I1,rfl,⟨_,x,rfl,I.hok.fresh (Nat.le_refl _),rfl,fun ys hy=>by rw [I.list_inj hy hq]; exact hx⟩,⟨⟨u,?_⟩,hit'.at fun o q=>(sb.2 it (Ne.symm hne)).trans q,hne⟩,fun b hb=>?_⟩
  ·have e1:((i+1:Nat):Int)=(i:Int)+1:=by omega
   rw [e1]; exact he'
  ·have hb':b<s.heap.objs.size:=by
    have e':b=e \/ b=it:=by simpa using hb
    rcases e' with z | z
    ·rw [z]; exact hel
    ·rw [z]; exact hil
   rw [qd (Nat.ne_of_lt hb')]
   exact (hf b hb).1
 done:=by
  intro X hP hw hK hc i pins s σ H E I hf st hg
  subst hP hw hK
  obtain ⟨⟨old,he⟩,hit,hne⟩:=st
  obtain ⟨xs,hq,hx⟩:=hg
  obtain ⟨its,rv,p,hz⟩:=I.list hq
  obtain ⟨f0,f1,f2,f3,f4,f5⟩:=hf it (by simp)
  have hl:=rv.length
  exact wpAny_pyNext_enum_end (I.ok.hd hc) he hit p.isList (by simp; omega) fun h' eb=>⟨rfl,I.turned (t':=s.toks) (fun b o hb q=>eb b o hb q) f0 f1 f3 f4 f5⟩
 self:=fun A i s Q E st h=>let ⟨⟨_,he⟩,_⟩:=st; wpAny_pyIter_enum he h
def qnX (K:PySem.W.Frag) (ta:TA):TI:=fun σ H R=>ta σ H fun vs H1=>∃ a xs,vs=[.ref a]/\SqL K H1 a xs/\R (Ite K a) H1
theorem ql8 {X:Cx} {e:Expr} {ta:TA} {p pos tpos:Pos} {elts:List Expr} {kk:Nat} (hg:Gl X "enumerate") (hm:X.mg "enumerate" = none) (ha:PA X [e] ta) (hs:starEach [e] X.env=[(false,eval e X.env)]:=by rfl) :
  PI X (.Tuple elts kk tpos) (.Call (.Name "enumerate" p) [e] [] pos) (qnX X.K ta):=by
 intro pins s σ H R I h
 refine Call_ (JH I hg hm boot_enumerate (PyProof.Rows.callWith_type1 (thn (ha pos pins s σ H _ I h) fun us s1 ⟨vs,H1,I1,r1,q1⟩=>?_) hs rfl))
 obtain ⟨a,xs,ex,hq,q⟩:=q1
 subst ex
 cases r1 with
 | cons r rr=>
  cases rr
  cases r
  obtain ⟨its,rv,p',hz⟩:=I1.list hq
  refine call_enumerate_list p'.isList fun h' he hit hsz hk=>wpAny_pyIter_enum he ?_
  have I2:Inv X pins σ H1 { s1 with heap:=h' }:=I1.kept (t':=s1.toks) hk
  refine ⟨s1.heap.objs.size+1,[s1.heap.objs.size+1,s1.heap.objs.size],_,_,H1,rfl,I2,qjb a (s1.heap.objs.size+1) s1.heap.objs.size,⟨⟨.none,he⟩,hit,Nat.succ_ne_self _⟩,fun b hb=>?_,q⟩
  have e':b=s1.heap.objs.size+1 \/ b=s1.heap.objs.size:=by simpa using hb
  have hle:s1.heap.objs.size<=b:=by
   rcases e' with z | z
   ·rw [z]; exact Nat.le_add_right _ _
   ·rw [z]; exact Nat.le_refl _
  exact I1.fpOk hle (I1.hok.fresh hle)
theorem qjc:bootBuiltins "zip" = some (.type "zip"):=by decide +kernel
def Itz (K:PySem.W.Frag) (a b:Addr):It :=
 ⟨fun i H=>∃ (xs ys:List V) (x y:V),SqL K H a xs/\SqL K H b ys/\xs[i]? = some x/\ys[i]? = some y,
  fun i H v H'=>∃ T x y,v=.ref T/\H T=none/\H'=upd H T (.tup [x,y])/\(∀ xs,SqL K H a xs->xs[i]? = some x)/\∀ ys,SqL K H b ys->ys[i]? = some y,
  fun i H=>∃ xs ys:List V,SqL K H a xs/\SqL K H b ys/\(xs.length<=i \/ ys.length<=i)⟩
theorem qkH {P:Program} {w:World} {K:PySem.W.Frag} {elts:List Expr} {kk:Nat} {tpos:Pos} {a b z TI TO i1 i2:Addr} (D:ZipApart z TI TO i1 i2 a b) :
  Turn P w K (.Tuple elts kk tpos) (Itz K a b) [z,TI,TO,i1,i2] z (fun i h=>IsZip h z TI TO .none/\IsPair h TI (.ref i1) (.ref i2)/\(∃ x y,IsPair h TO x y)/\h.IsListIter i1 a i/\h.IsListIter i2 b i) where
 mem:=by simp
 obj:=fun i h st c hc=>by
  obtain ⟨hz,hTI,⟨x,y,hTO⟩,⟨o1,e1,_,d1⟩,⟨o2,e2,_,d2⟩⟩:=st
  have e':c=z \/ c=TI \/ c=TO \/ c=i1 \/ c=i2:=by simpa using hc
  rcases e' with q | q | q | q | q
  ·rw [q]; exact ⟨_,hz,fun v q=>nomatch q⟩
  ·rw [q]; exact ⟨_,hTI,fun v q=>nomatch q⟩
  ·rw [q]; exact ⟨_,hTO,fun v q=>nomatch q⟩
  ·rw [q]; exact ⟨o1,e1,fun v q=>by rw [d1] at q; cases q⟩
  ·rw [q]; exact ⟨o2,e2,fun v q=>by rw [d2] at q; cases q⟩
 keep:=fun i h h' st k=>by
  obtain ⟨hz,hTI,⟨x,y,hTO⟩,h1,h2⟩:=st
  exact ⟨k z (by simp) _ hz,k TI (by simp) _ hTI,⟨x,y,k TO (by simp) _ hTO⟩,h1.at fun o q=>k i1 (by simp) o q,h2.at fun o q=>k i2 (by simp) o q⟩
 item:=by
  intro X hP hw hK hc i pins s σ H E I hf st hg
  subst hP hw hK
  obtain ⟨hz,hTI,⟨x0,y0,hTO⟩,h1,h2⟩:=st
  obtain ⟨xs,ys,x,y,hqx,hqy,hx,hy⟩:=hg
  obtain ⟨its,rv,p,_⟩:=I.list hqx
  obtain ⟨its2,rv2,p2,_⟩:=I.list hqy
  obtain ⟨u,hu,ru⟩:=rv.get hx
  obtain ⟨u2,hu2,ru2⟩:=rv2.get hy
  have hzl:z<s.heap.objs.size:=Heap.lt_size hz
  refine wpAny_pyNext_zip_item D hz hTI hTO h1 h2 p.isList p2.isList (x:=u) (y:=u2) (by simpa using hu) (by simpa using hu2) fun h' z' TO' h1' h2' hT hsz hk=>?_
  refine ⟨_,rfl,wpAny_letOwnedTupleGo_zip (s:={ s with heap:=h' }) z' fun h'' z'' sb=>?_⟩
  have hT2:h''.get? s.heap.objs.size=some { cls:=.type "tuple",data:=.seq #[u,u2] }:=(sb.2 _ (Nat.ne_of_gt hzl)).trans hT
  have new:zm X.prog X.w (upd H s.heap.objs.size (.tup [x,y])) h'' s.heap.objs.size (.tup [x,y]) :=
   ⟨by show 2<=sizeLine; decide,[u,u2],.cons ru (.cons ru2 .nil),⟨_,hT2,rfl,_,rfl⟩⟩
  have I1:Inv X pins σ (upd H s.heap.objs.size (.tup [x,y])) { s with heap:=h'' } :=
   I.turnedNew (t':=s.toks) (ch:=[z,TI,TO,i1,i2]) (fun c o hb q=>(sb.2 c (fun q'=>hb (by simp [q']))).trans (hk c o (fun q'=>hb (by simp [q'])) (fun q'=>hb (by simp [q'])) (fun q'=>hb (by simp [q'])) (fun q'=>hb (by simp [q'])) q)) hf (Nat.le_refl _) new
  refine ⟨.ref s.heap.objs.size,_,I1,rfl,⟨_,x,y,rfl,I.hok.fresh (Nat.le_refl _),rfl,fun l hl=>by rw [I.list_inj hl hqx]; exact hx,fun l hl=>by rw [I.list_inj hl hqy]; exact hy⟩,⟨z'',?_,⟨u,u2,?_⟩,?_,?_⟩,fun c hcm=>?_⟩
  ·exact (sb.2 _ D.TIz).trans (hk _ _ D.TIz D.TITO D.TIi1 D.TIi2 hTI)
  ·exact (sb.2 _ D.TOz).trans TO'
  ·exact h1'.at fun o q=>(sb.2 _ D.i1z).trans q
  ·exact h2'.at fun o q=>(sb.2 _ D.i2z).trans q
  ·have hlt:c<s.heap.objs.size:=by
    have e':c=z \/ c=TI \/ c=TO \/ c=i1 \/ c=i2:=by simpa using hcm
    rcases e' with q | q | q | q | q
    ·rw [q]; exact hzl
    ·rw [q]; exact Heap.lt_size hTI
    ·rw [q]; exact Heap.lt_size hTO
    ·rw [q]; obtain ⟨_,e1,_⟩:=h1; exact Heap.lt_size e1
    ·rw [q]; obtain ⟨_,e2,_⟩:=h2; exact Heap.lt_size e2
   rw [qd (Nat.ne_of_lt hlt)]
   exact (hf c hcm).1
 done:=by
  intro X hP hw hK hc i pins s σ H E I hf st hg
  subst hP hw hK
  obtain ⟨hz,hTI,⟨x0,y0,hTO⟩,h1,h2⟩:=st
  obtain ⟨xs,ys,hqx,hqy,hend⟩:=hg
  obtain ⟨its,rv,p,_⟩:=I.list hqx
  obtain ⟨its2,rv2,p2,_⟩:=I.list hqy
  have l1:=rv.length
  have l2:=rv2.length
  have he:its.toArray[i]? = none \/ its2.toArray[i]? = none:=by
   rcases hend with q | q
   ·exact .inl (by simp; omega)
   ·exact .inr (by simp; omega)
  exact wpAny_pyNext_zip_end (I.ok.hd hc) D hz hTI hTO h1 h2 p.isList p2.isList he fun h' hk=>⟨rfl,I.turnedL (t':=s.toks) (ch:=[z,TI,TO,i1,i2]) (fun c o hb q=>
   hk c o (fun q'=>hb (by simp [q'])) (fun q'=>hb (by simp [q'])) (fun q'=>hb (by simp [q'])) (fun q'=>hb (by simp [q'])) q) hf⟩
 self:=fun A i s Q E st h=>wpAny_pyIter_zip st.1 h
def qoq (K:PySem.W.Frag) (ta:TA):TI:=fun σ H R=>ta σ H fun vs H1=>∃ a b xs ys,vs=[.ref a,.ref b]/\SqL K H1 a xs/\SqL K H1 b ys/\R (Itz K a b) H1
theorem qna {X:Cx} {e e2:Expr} {ta:TA} {p pos tpos:Pos} {elts:List Expr} {kk:Nat} (hg:Gl X "zip") (hm:X.mg "zip" = none) (ha:PA X [e,e2] ta)
  (hs:starEach [e,e2] X.env=(false,eval e X.env)::starEach [e2] X.env:=by rfl) (hpl:(backTo pos (starEach [e2] X.env)).any (·.1)=false:=by rfl) :
  PI X (.Tuple elts kk tpos) (.Call (.Name "zip" p) [e,e2] [] pos) (qoq X.K ta):=by
 intro pins s σ H R I h
 refine Call_ (JH I hg hm qjc (PyProof.Rows.callWith_type1 (thn (ha pos pins s σ H _ I h) fun us s1 ⟨vs,H1,I1,r1,q1⟩=>?_) hs hpl))
 obtain ⟨a,b,xs,ys,ex,hqx,hqy,q⟩:=q1
 subst ex
 cases r1 with
 | cons r rr=>
  cases rr with
  | cons r' rr=>
   cases rr
   cases r
   cases r'
   obtain ⟨its,rv,p1,_⟩:=I1.list hqx
   obtain ⟨its2,rv2,p2,_⟩:=I1.list hqy
   have la:a<s1.heap.objs.size:=p1.lt
   have lb:b<s1.heap.objs.size:=p2.lt
   refine call_zip_2 p1.isList p2.isList fun h' hz hTI hTO h1 h2 hsz hk=>wpAny_pyIter_zip hz ?_
   have I2:Inv X pins σ H1 { s1 with heap:=h' }:=I1.kept (t':=s1.toks) hk
   refine ⟨s1.heap.objs.size+4,[s1.heap.objs.size+4,s1.heap.objs.size+2,s1.heap.objs.size+3,s1.heap.objs.size,s1.heap.objs.size+1],_,_,H1,rfl,I2,qkH (PySem.W.ktu_apart s1.heap.objs.size a b la lb),⟨hz,hTI,⟨_,_,hTO⟩,h1,h2⟩,fun c hcm=>?_,q⟩
   have e':c=s1.heap.objs.size+4 \/ c=s1.heap.objs.size+2 \/ c=s1.heap.objs.size+3 \/ c=s1.heap.objs.size \/ c=s1.heap.objs.size+1:=by simpa using hcm
   have hle:s1.heap.objs.size<=c:=by
    rcases e' with z | z | z | z | z
    ·rw [z]; exact Nat.le_add_right _ _
    ·rw [z]; exact Nat.le_add_right _ _
    ·rw [z]; exact Nat.le_add_right _ _
    ·rw [z]; exact Nat.le_refl _
    ·rw [z]; exact Nat.le_add_right _ _
   exact I1.fpOk hle (I1.hok.fresh hle)
end L2
section
namespace Bits
open PySem PyProof.Rows
end Bits
end
section
namespace TL
open PySem PySem.Builtin PySem.Builtin.Str PySem.StrLaws
end TL
end
namespace L2
open PySem PySem.Spec PyProof.Rows
theorem qet:∀ l:List (Str × Tok),qE ((l.map (·.1)).map V.str) (strValues l)
 | []=>.nil
 | p::r=>.cons ⟨p.2,rfl⟩ (qet r)
def qcN (ys:List Str):Hp->VK->Prop:=fun H Q=>∀ p,H p=none->Q (.ref p) (upd H p (.lst (ys.map V.str)))
section
variable {X:Cx} {pins:List (Addr × Obj)} {σ : St} {H:Hp} {s:Shared} {Q:VK}
theorem qeu {l:List (Str × Tok)} {ys:List Str} {k:Nat} (I:Inv X pins σ H s) (e:l.map (·.1)=ys) (hz:ys.length<=sizeLine) (h:qcN ys H Q) :
  EP X pins σ Q (.ref s.heap.objs.size) { s with toks:=k,heap:=s.heap.push { cls:=.type "list",data:=.seq (strValues l).toArray } }:=by
 have hp:=I.hok.fresh (Nat.le_refl _)
 refine ⟨.ref s.heap.objs.size,upd H s.heap.objs.size (.lst (ys.map V.str)),I.laid (fun b u q=>Heap.get?_push_of_some _ q) (Nat.le_refl _) ⟨by rw [List.length_map]; exact hz,strValues l,_,?_,Heap.get?_push_size _ rfl⟩,rfl,h _ hp⟩
 rw [<- e]
 exact qet l
end
section
variable {X:Cx}
theorem qkI (x:Str):(Txt.words x).length<=x.length+1:=by
 have e1:=StrLaws.words_weight x
 omega
theorem qkJ:MtR X "str.split" (fun x xs H Q=>∃ a,x=.str a/\xs=[]/\a.length+2<=sizeLine/\qcN (Txt.words a) H Q):=by
 intro pins s σ H x xs v us Q I rx rs h
 obtain ⟨a,rfl,rfl,hz,h⟩:=h
 obtain ⟨t,rfl⟩:=rx
 cases rs
 have hl:(Txt.words a).length<=sizeLine:=Nat.le_trans (qkI a) (by omega)
 have hn:(Builtin.Str.spaceWords a (a.length+1)).length<=sizeLine:=by
  have e1:=(StrLaws.sw_weight a).1
  have e2:=StrLaws.len_le_wsum (Builtin.Str.spaceWords a (a.length+1))
  omega
 refine call_meets F.slot_str_split (typeIs_str _ _ _) F.entry_str_split (F.args_str_split_1 _) (meets_str_split_space a t (by omega) hn) ?_
 cases hw:Builtin.Str.spaceWords a (a.length+1) == [(0,a.length)]
 ·simp only [Bool.false_eq_true,if_false]
  rw [strsFrom_eq]
  exact qeu (ys:=Txt.words a) I ((numbered_texts _ _).trans (if_neg (ne_true_of_eq_false hw)).symm) hl h
 ·simp only [if_true]
  exact qeu (l:=[(a,t)]) (ys:=Txt.words a) (k:=s.toks) I (if_pos hw).symm hl h
theorem mt1 {id:String} {g:Str->Str->V} (rule:∀ (a b:Str) (t u:Tok) (s:Shared) (Q:Value->Shared->Prop),(∀ (v:Value) (k:Nat),RelV (g a b) v->Q v { s with toks:=k }) ->
  wpAny (model X.prog X.w) X.A (call (.builtin id) [.str a t,.str b u]) Q X.xe s):MtR X id (fun x xs H Q=>∃ a b,x=.str a/\xs=[.str b]/\Q (g a b) H):=by
 intro pins s σ H x xs v us Q I rx rs h
 obtain ⟨a,b,rfl,rfl,h⟩:=h
 obtain ⟨t,rfl⟩:=rx
 cases rs with
 | cons r1 rs=>
  cases rs
  obtain ⟨u,rfl⟩:=r1
  exact rule a b t u s _ fun v k r=>⟨g a b,H,I.tok k,r,h⟩
theorem qe2:MtR X "str.startswith" (fun x xs H Q=>∃ a b,x=.str a/\xs=[.str b]/\Q (.bl (Txt.startswith a b)) H) :=
 mt1 (g:=fun a b=>.bl (Txt.startswith a b)) fun _ _ _ _ s _ h=>PySem.SC.startswith (h _ s.toks rfl)
end
section
variable {X:Cx} {o e:Expr} {to te:TE}
def tM0 (r:V->List V->Hp->VK->Prop) (to:TE):TE:=fun σ H Q=>to σ H fun x H1=>(∃ a,x=.str a)/\r x [] H1 Q
def tM1 (r:V->List V->Hp->VK->Prop) (to te:TE):TE:=fun σ H Q=>to σ H fun x H1=>(∃ a,x=.str a)/\te σ H1 fun y H2=>r x [y] H2 Q
theorem qnY {id:String} {name:Str} {apos pos:Pos} {r:V->List V->Hp->VK->Prop} (slot:Slot "str" name id) (ty:typeOf (.builtin id)=pure (.type "method_descriptor")) (rule:MtR X id r) (ho:PE X o to)
  (hbase:attributeBase o name X.env (eval o X.env)=eval o X.env:=by rfl) (hline:(apos.endLine == pos.line)=true:=by rfl):PE X (.Call (.Attribute o name apos) [] [] pos) (tM0 r to):=by
 intro pins s σ H Q I h
 refine PySem.Call_method0 hbase hline (thn (ho pins s σ H _ I h) fun v s1 ⟨x,H1,I1,r1,q1⟩=>?_)
 obtain ⟨⟨a,rfl⟩,q1⟩:=q1
 obtain ⟨t,rfl⟩:=_root_.id r1
 exact ⟨"str",_,F.plainAttrs_str,slot,ty,typeIs_str _ _ _,(fun _ e=>nomatch e),Calls.callWith_builtin rfl (PySem.evalArgs_none (rule pins s1 σ H1 _ [] _ [] Q I1 r1 .nil q1))⟩
theorem qnZ {id:String} {name:Str} {apos pos:Pos} {r:V->List V->Hp->VK->Prop} (slot:Slot "str" name id) (ty:typeOf (.builtin id)=pure (.type "method_descriptor")) (rule:MtR X id r) (ho:PE X o to) (he:PE X e te)
  (hs:starEach [e] X.env=[(false,eval e X.env)]:=by rfl) (hbase:attributeBase o name X.env (eval o X.env)=eval o X.env:=by rfl) (hline:(apos.endLine == pos.line)=true:=by rfl) :
  PE X (.Call (.Attribute o name apos) [e] [] pos) (tM1 r to te):=by
 intro pins s σ H Q I h
 refine PySem.Call_method1 hbase hs hline (thn (ho pins s σ H _ I h) fun v s1 ⟨x,H1,I1,r1,q1⟩=>?_)
 obtain ⟨⟨a,rfl⟩,q1⟩:=q1
 obtain ⟨t,rfl⟩:=_root_.id r1
 refine ⟨"str",_,F.plainAttrs_str,slot,ty,typeIs_str _ _ _,(fun _ e=>nomatch e),Calls.callWith_builtin rfl (Calls.evalArgs_plain (Calls.spliced_cons ?_))⟩
 exact thn (he pins s1 σ H1 _ I1 q1) fun u s2 ⟨y,H2,I2,r2,q2⟩=>Calls.spliced_nil (rule pins s2 σ H2 _ [y] _ [u] Q I2 r1 (.cons r2 .nil) q2)
theorem qkK {apos pos:Pos} (ho:PE X o to) (hbase:attributeBase o "split" X.env (eval o X.env)=eval o X.env:=by rfl) (hline:(apos.endLine == pos.line)=true:=by rfl) :
  PE X (.Call (.Attribute o "split" apos) [] [] pos) (tM0 (fun x xs H Q=>∃ a,x=.str a/\xs=[]/\a.length+2<=sizeLine/\qcN (Txt.words a) H Q) to) :=
 qnY F.slot_str_split F.type_str_split qkJ ho hbase hline
end
end L2
namespace L2
open PySem PySem.Spec PyProof.Rows
section
variable {X:Cx}
end
theorem IsPart.raw {v:Value} {o:Option Int} (p:IsPart v o):∃ l:Option (Int × Tok),v=partValue l/\l.map (·.1)=o:=by
 cases p with
 | none=>exact ⟨none,rfl,rfl⟩
 | int i t=>exact ⟨some (i,t),rfl,rfl⟩
def qdb (n d:Nat):Option Int->Int
 | none=>(d:Int)
 | some i=>max 0 (min (if i<0 then i+(n:Int) else i) (n:Int))
theorem qfD (n d:Nat) (o:Option Int):qdb n d o=((HT.sIx n d o:Nat):Int):=by
 cases o with
 | none=>rfl
 | some v=>
  show max (0:Int) (min (if v<0 then v+(n:Int) else v) (n:Int))=(((if v<0 then (v+(n:Int)).toNat else min v.toNat n):Nat):Int)
  by_cases hv:v<0
  ·simp only [if_pos hv]
   omega
  ·simp only [if_neg hv]
   omega
theorem qjd (a b:Option Int) (n:Nat):Builtin.Str.strSliceIndices a b 1 n=sliceRange (qdb n 0 a) (qdb n n b) 1:=by
 have h1:((1:Int) > 0)=True:=by simp
 cases a <;> cases b <;> first
  | rfl
  | (simp only [Builtin.Str.strSliceIndices,qdb,h1,if_true]; rfl)
  | simp [Builtin.Str.strSliceIndices,qdb]
theorem qor (a b:Option Int) (n:Nat):Builtin.Str.strSliceIndices a b 1 n=(List.range (HT.sIx n n b - HT.sIx n 0 a)).map (fun k=>HT.sIx n 0 a+k):=by
 rw [qjd,qfD,qfD]
 generalize HT.sIx n 0 a=p
 generalize HT.sIx n n b=q
 simp only [sliceRange,show ((1:Int) > 0)=True from by simp,if_true]
 by_cases hlt:(p:Int)<q
 ·have e3:(((q:Int) - p+1 - 1) / 1).toNat=q - p:=by first | omega | (simp; done) | (simp; omega)
  simp only [hlt,if_true,e3]
  refine List.map_congr_left fun k _=>?_
  omega
 ·have:q - p=0:=by omega
  simp [hlt,this]
def qfE (z:Str) (lo hi:Option Int):Str :=
 ⟨((z.cps.toList.drop (HT.sIx z.length 0 lo)).take (HT.sIx z.length z.length hi - HT.sIx z.length 0 lo)).toArray⟩
theorem qbi (z:Str) (lo hi:Option Int):PySem.StrLaws.sliceText z lo hi=qfE z lo hi:=by
 have h1:HT.sIx z.length 0 lo<=z.length:=HT.qi4 _ _ (Nat.zero_le _) _
 have h2:HT.sIx z.length z.length hi<=z.length:=HT.qi4 _ _ (Nat.le_refl _) _
 have hp:HT.sIx z.length 0 lo<=max (HT.sIx z.length 0 lo) (HT.sIx z.length z.length hi):=Nat.le_max_left _ _
 have hq:max (HT.sIx z.length 0 lo) (HT.sIx z.length z.length hi)<=z.length:=Nat.max_le.mpr ⟨h1,h2⟩
 have hd:max (HT.sIx z.length 0 lo) (HT.sIx z.length z.length hi) - HT.sIx z.length 0 lo=HT.sIx z.length z.length hi - HT.sIx z.length 0 lo:=by omega
 have e:Builtin.Str.strSliceIndices lo hi 1 z.length =
   Builtin.Str.strSliceIndices (some ((HT.sIx z.length 0 lo:Nat):Int)) (some ((max (HT.sIx z.length 0 lo) (HT.sIx z.length z.length hi):Nat):Int)) 1 z.length:=by
  rw [PySem.StrLaws.strSliceIndices_plain hp hq,hd,qor]
 have e2:PySem.StrLaws.sliceText z lo hi =
   PySem.StrLaws.sliceText z (some ((HT.sIx z.length 0 lo:Nat):Int)) (some ((max (HT.sIx z.length 0 lo) (HT.sIx z.length z.length hi):Nat):Int)):=by
  unfold PySem.StrLaws.sliceText
  rw [e]
 rw [e2,PySem.StrLaws.sliceText_nat z hp hq,hd]
 rfl
theorem qgN (z:Str) (lo hi:Option Int):(qfE z lo hi).length<=z.length:=by
 show (((z.cps.toList.drop (HT.sIx z.length 0 lo)).take (HT.sIx z.length z.length hi - HT.sIx z.length 0 lo)).toArray).size<=z.cps.size
 rw [List.size_toArray,List.length_take,List.length_drop,Array.length_toList]
 omega
def qos:V->Option Int->Option Int->Hp->VK->Prop:=fun x lo hi H Q=>∃ z,x=.str z/\z.length<=sizeLine/\Q (.str (qfE z lo hi)) H
theorem qnb {X:Cx}:SlR X qos:=by
 intro pins s σ H x v vl vu lo hi sl Q I rx hs pl pu h
 obtain ⟨z,rfl,hz,q⟩:=h
 obtain ⟨t,rfl⟩:=rx
 obtain ⟨os,hos,hcs,hds⟩:=hs
 obtain ⟨l,rfl,rfl⟩:=IsPart.raw pl
 obtain ⟨u,rfl,rfl⟩:=IsPart.raw pu
 refine ⟨"str",_,F.slot_str_getitem.lookup,typeIs_str _ _ _,?_⟩
 refine wpAny_getItem_str_slice (l:=l) (u:=u) (st:=none) ⟨os,hos,hcs,hds⟩ rfl ?_
 have hl:(PySem.StrLaws.sliceText z (l.map (·.1)) (u.map (·.1))).length<=sizeLine:=by
  rw [qbi]
  exact Nat.le_trans (qgN z _ _) hz
 rw [<- qbi] at q
 unfold PySem.StrLaws.sliceText at q hl
 show Made.post (if ((1:Int) == 1&&(Builtin.Str.strSliceIndices (l.map (·.1)) (u.map (·.1)) 1 z.length).length == z.length)=true then Made.val (.str z t)
  else Made.str ⟨((Builtin.Str.strSliceIndices (l.map (·.1)) (u.map (·.1)) 1 z.length).filterMap (z.cps[·]?)).toArray⟩) (EP X pins σ Q) s
 by_cases c:((1:Int) == 1&&(Builtin.Str.strSliceIndices (l.map (·.1)) (u.map (·.1)) 1 z.length).length == z.length)=true
 ·rw [if_pos c] at q ⊢
  exact ⟨.str z,H,I,⟨t,rfl⟩,q⟩
 ·rw [if_neg c] at q hl ⊢
  exact ⟨hl,.str _,H,I.tok _,⟨_,rfl⟩,q⟩
end L2
namespace Att
open PySem PySem.W PySem.Calls PyProof.Rows
section
variable {prog:Program} {w:World} {A:Around} {E:Value->Shared->Prop} {s:Shared} {K:Frag}
end
end Att
namespace L2
open PySem PySem.Spec PyProof.Rows
end L2
namespace L2
open PySem PySem.Spec PyProof.Rows
end L2
namespace L2
open PySem PySem.Spec PyProof.Rows
def inClass (s:Stmt) (j:Nat):Stmt:=match s with
 | .ClassDef _ _ _ body _ _ _ _ _ _ _=>body.getD j (.Pass ⟨0,0,0,0⟩)
 | _=>.Pass ⟨0,0,0,0⟩
def ql (s:Stmt):Arguments:=match s with
 | .FunctionDef _ a _ _ _ _ _ _ _ _=>a
 | _=>{ posonlyargs:=[],args:=[],vararg:=none,kwonlyargs:=[],kw_defaults:=[],kwarg:=none,defaults:=[] }
def qk (s:Stmt):List Stmt:=match s with
 | .FunctionDef _ _ b _ _ _ _ _ _ _=>b
 | _=>[]
def qe (s:Stmt):Scope:=match s with
 | .FunctionDef _ _ _ _ _ _ sc _ _ _=>sc
 | _=>{ kind:=.function,names:=[],isGenerator:=false,isCoroutine:=false }
abbrev CX0:CXT:=fun _ _ _ _ _ _=>False
abbrev E0:XK:=fun _ _ _=>False
theorem qO {X:Cx}:j9 CX0 X E0:=fun _ _ _ _ _ _ _ h=>h.elim
structure Fun (K:PySem.W.Frag) (x qual:Str) (st:Stmt) (f:Addr) (fd:FuncData):Prop where
 ex:∃ (oc:Value) (od:Option Addr) (kV doc pm:Value) (an:Option Addr) (cdv ct:Value) (osl:Array (Option Value)),
  fd=PySem.W.fnOf x qual (ql st) (qk st) (qe st) .none kV doc pm an cdv ct/\K.lookup f=some ⟨oc,od,.func fd,osl⟩/\PySem.W.codeIn K cdv qual=true
 kp:PySem.W.keepIn K (.ref f)=true
section
variable {P:Program} {w:World} {K:PySem.W.Frag} {mg:Str->Option Value} {base:Heap}
theorem Fun.ok {x qual:Str} {st:Stmt} {f:Addr} {fd:FuncData} {N ps:List Str} {k:Nat} {sp:Sp} (F:Fun K x qual st f fd) (S:qm N ps (qe st)) (len:∀ vs H Q E,sp vs H Q E->vs.length=ps.length)
  (hbody:∀ (cdv:Value) (A:Around) (outer:List Env) (s:Shared) (H:Hp) (vs:List V) (Q:VK) (E:XK),qN k (A.deeper (envOfC qual (qe st) s.heap.objs.size f cdv))->sp vs H Q E ->
   ∃ t,PSs (zc CX0 P w K mg base N qual (qe st) f cdv A outer s H E).nox (qk st) t/\t { nx:=fun _ H'=>Q .non H',rt:=Q } (start N vs) H):qw P w K mg base CX0 (k+1) f fd ps sp:=by
 obtain ⟨oc,od,kV,doc,pm,an,cdv,ct,osl,rfl,lk,hcd⟩:=F.ex
 refine qlx lk hcd S len fun A outer s H vs Q E hr hsp=>?_
 obtain ⟨t,h,q⟩:=hbody cdv A outer s H vs Q E hr hsp
 exact ⟨t,h.nox,q⟩
theorem Fun.binds {x qual:Str} {st:Stmt} {f:Addr} {fd:FuncData} {ps:List Str} (F:Fun K x qual st f fd)
  (h:∀ (kV doc pm:Value) (an:Option Addr) (cdv ct:Value) (us:List Value),us.length=ps.length->bindArgs (PySem.W.fnOf x qual (ql st) (qk st) (qe st) .none kV doc pm an cdv ct) ⟨us,[]⟩=pure (ps.zip us)):Binds K fd ps []:=by
 obtain ⟨oc,od,kV,doc,pm,an,cdv,ct,osl,rfl,lk,hcd⟩:=F.ex
 exact .all (h kV doc pm an cdv ct)
theorem qt {x qual:Str} {st:Stmt} {f:Addr} {oc:Value} {od an:Option Addr} {osl:Array (Option Value)} {kV doc pm cdv ct:Value} (l:K.lookup f=some ⟨oc,od,.func (PySem.W.fnOf x qual (ql st) (qk st) (qe st) .none kV doc pm an cdv ct),osl⟩)
  (c:PySem.W.codeIn K cdv qual=true) (k:PySem.W.keepIn K (.ref f)=true):Fun K x qual st f (PySem.W.fnOf x qual (ql st) (qk st) (qe st) .none kV doc pm an cdv ct):=⟨⟨oc,od,kV,doc,pm,an,cdv,ct,osl,rfl,l,c⟩,k⟩
end
theorem qn0 {A:Around} {k:Nat} (hr:qN k A):A.units+1<cLine:=Nat.lt_of_le_of_lt (Nat.add_le_add_left (by decide:1<=64) _) hr.units
theorem QS {n:Nat} (h:n<=1000):n<sizeLine:=Nat.lt_of_le_of_lt h (by decide)
section
variable {X:Cx}
theorem pv (i:Nat) {x:Str} {pos:Pos} (hN:X.N[i]? = some x:=by rfl) (hv:Vis X.env.scope x:=by first | exact Or.inl rfl | exact Or.inr (Or.inl rfl) | exact Or.inr (Or.inr rfl)) (hd:(x == ("__debug__" : Str))=false:=by decide)
  (hcd:(x == ("__classdict__" : Str))=false:=by decide):PE X (.Name x pos) (zM i):=qmN hN hv hd hcd
end
theorem zx {A B:Prop} (h:B):if false=true then A else B:=by
 rw [if_neg Bool.false_ne_true]
 exact h
theorem zP {A B:Prop} (h:A):if true=true then A else B:=by
 rw [if_pos rfl]
 exact h
theorem zN {c A B:Prop} [Decidable c] (h1:c->A) (h2:¬ c->B):if c then A else B:=by
 by_cases h:c
 ·rw [if_pos h]
  exact h1 h
 ·rw [if_neg h]
  exact h2 h
def qF (H H':Hp):Prop:=∀ b o,H b=some o->H' b=some o
theorem qF.refl (H:Hp):qF H H:=fun _ _ h=>h
theorem qF.trans {H H1 H2:Hp} (a:qF H H1) (b:qF H1 H2):qF H H2:=fun c o h=>b c o (a c o h)
theorem qF.free {H H':Hp} (e:qF H H') {l:Addr} (h:H' l=Option.none):H l=Option.none:=by
 cases q:H l with
 | none=>rfl
 | some o=>
  rw [e l o q] at h
  cases h
theorem qF.seq {K:PySem.W.Frag} {H H':Hp} {a:Addr} {xs:List V} (e:qF H H') (h:SqL K H a xs):SqL K H' a xs:=by
 rcases h with (h | ⟨o,h⟩) | h
 ·exact .inl (.inl (e _ _ h))
 ·exact .inl (.inr ⟨o,e _ _ h⟩)
 ·exact .inr h
section
variable {κ : Type} [DecidableEq κ]
end
end L2
end
section
namespace L2
open PySem PySem.Spec PyProof.Rows
open LX (Fly)
def XOb (e C:Addr) (vs:Array Value) (dx:Option Addr):HO:=.ext fun h=>∃ sl,h.get? e=some ⟨.ref C,dx,.fields vs,sl⟩
def XDi (dx:Addr) (fs:List (Str × V)):HO:=.ext fun h=>∃ mA,h.Ns1 dx mA/\(∀ f,jT (fs.lookup f) (mA f))/\PySem.Within mA (fs.map (·.1))
theorem qfF {P:Program} {w:World} {H:Hp} {h:Heap} {e C:Addr} {vs:Array Value} {dx:Option Addr} {sl:Array (Option Value)} (q:h.get? e=some ⟨.ref C,dx,.fields vs,sl⟩):zm P w H h e (XOb e C vs dx):=⟨⟨sl,q⟩,⟨_,q⟩,fun _ _ ⟨sl,z⟩ k=>⟨sl,k _ z⟩⟩
theorem qje {P:Program} {w:World} {H:Hp} {h:Heap} {dx:Addr} {fs:List (Str × V)} {mA:Str->Option Value} (n:h.Ns1 dx mA) (r:∀ f,jT (fs.lookup f) (mA f)) (wi:PySem.Within mA (fs.map (·.1))):zm P w H h dx (XDi dx fs):=by
 obtain ⟨o,es,ep,ho,c⟩:=id n
 refine ⟨⟨mA,n,r,wi⟩,⟨o,ho⟩,fun h1 h2 z k=>?_⟩
 obtain ⟨mB,⟨o1,es1,ep1,ho1,c1⟩,r1,w1⟩:=z
 exact ⟨mB,⟨o1,es1,ep1,k _ ho1,c1⟩,r1,w1⟩
theorem HOk.xob {P:Program} {w:World} {H:Hp} {h:Heap} {e C:Addr} {vs:Array Value} {dx:Option Addr} (x:HOk P w H h) (q:H e=some (XOb e C vs dx)):∃ sl,h.get? e=some ⟨.ref C,dx,.fields vs,sl⟩:=(x _ _ q).1
theorem HOk.xdi {P:Program} {w:World} {H:Hp} {h:Heap} {dx:Addr} {fs:List (Str × V)} (x:HOk P w H h) (q:H dx=some (XDi dx fs)):∃ mA,h.Ns1 dx mA/\(∀ f,jT (fs.lookup f) (mA f))/\PySem.Within mA (fs.map (·.1)):=(x _ _ q).1
def Zp (H:Hp) (a:Addr):Hp:=fun b=>if b=a then none else H b
theorem Qu {H:Hp} {a b:Addr} (h:b≠a):Zp H a b=H b:=by unfold Zp; rw [if_neg h]
theorem qcO {H:Hp} {a:Addr}:Zp H a a=none:=by unfold Zp; rw [if_pos rfl]
def CXR (P:Program) (w:World):CXT:=fun outer H s E e s'=>∃ (a C dx:Addr) (H':Hp) (B:Heap),e=.ref a/\s'.os=s.os/\AllBare s'.gens/\Un (frs outer) [] H H' s.heap s'.heap/\HOk P w H' s'.heap/\Fly B outer a C dx .none s'.heap /\
 (∀ b o,s.heap.get? b=some o->b∉frs outer->∃ o',B.get? b=some o')/\(∀ b u,H' b=some u->∃ o',B.get? b=some o')/\H' a=none/\E (.ref C) (some dx) H'
theorem qhZ {fs:List Addr} {H H':Hp} {h h1 h2 B:Heap} (u:Un fs [] H H' h h1) (s1:B.StaysIn h1) (s2:B.StaysIn h2) (hB:∀ b o,h.get? b=some o->b∉fs->∃ o',B.get? b=some o') (up:h1.UpToSlots h2)
  (hf:∀ b∈fs,∀ o,h1.get? b=some o->∀ vs,o.data≠.fields vs):Un fs [] H H' h h2 where
 keep:=fun b o q n hb hx=>by
  obtain ⟨o',e⟩:=hB b o q hb
  have e1:=s1 b o' e
  rw [u.keep b o q n hb hx] at e1
  cases e1
  exact s2 b _ e
 slot:=fun b o q n hb hx=>by
  obtain ⟨sl,e⟩:=u.slot b o q n hb hx
  obtain ⟨sl2,e2⟩:=up b _ e (hf b hb _ e)
  exact ⟨sl2,e2⟩
 free:=u.free
 there:=fun b o q hx=>by
  by_cases hb:b∈fs
  ·obtain ⟨o1,e1⟩:=u.there b o q hx
   obtain ⟨sl2,e2⟩:=up b _ e1 (hf b hb _ e1)
   exact ⟨_,e2⟩
  ·obtain ⟨o',e⟩:=hB b o q hb
   exact ⟨o',s2 b o' e⟩
 tups:=u.tups
 frzs:=u.frzs
 tbls:=u.tbls
theorem qfG {P:Program} {w:World} {H:Hp} {h1 h2 B:Heap} (x:HOk P w H h1) (s1:B.StaysIn h1) (s2:B.StaysIn h2) (hB:∀ b u,H b=some u->∃ o',B.get? b=some o'):HOk P w H h2:=fun a o e=>
 (x a o e).stay (fun c u hc q=>by
  have hc':∃ o',B.get? c=some o':=by
   rcases hc with rfl | hc
   ·exact hB _ _ e
   ·exact hB _ _ hc
  obtain ⟨o',eo⟩:=hc'
  have:=s1 c o' eo
  rw [q] at this
  cases this
  exact s2 c _ eo) (fun _ q=>q) fun _ _ q=>q
theorem ZI {h base:Heap} {l:List Env} (hl:h.FunFrames base l):∀ b∈frs l,∀ o,h.get? b=some o->∀ vs,o.data≠.fields vs:=fun b hb o q=>by
 obtain ⟨_,o',ho',hn⟩:=hl.mem hb
 rw [q] at ho'
 cases ho'
 exact hn
section
variable {P:Program} {w:World} {K:PySem.W.Frag} {mg:Str->Option Value} {base:Heap} {N:List Str} {qual:Str} {scope:Scope} {f:Addr} {cd:Value} {A:Around} {outer:List Env} {s:Shared} {H:Hp} {E:XK}
theorem jU:j9 (CXR P w) (zc (CXR P w) P w K mg base N qual scope f cd A outer s H E) E:=by
 intro pins σ H1 s1 e s2 I hx
 obtain ⟨a,C,dx,H',B,rfl,hos,hb,un,hok,fly,c1,c2,hn,hE⟩:=hx
 have J:=I.call' (ch:=[]) hos un hok hb (fun b z=>absurd z (by simp))
 have c1':∀ b o,s.heap.get? b=some o->b∉frs outer->∃ o',B.get? b=some o':=fun b o q hb=>by
  obtain ⟨o1,q1⟩:=I.base.there b o q (by simp [zc])
  refine c1 b o1 q1 fun hm=>?_
  rcases List.mem_cons.mp (I.stkSub b hm) with z | z
  ·have lt:=Heap.lt_size q
   rw [z] at lt
   exact absurd lt (Nat.lt_irrefl _)
  ·exact hb z
 show wpAny (model P w) (A.deeper (envOfC qual scope s.heap.objs.size f cd)) (leaving (envOfC qual scope s.heap.objs.size f cd) (.ref a)) (fun _ s''=>CXR P w outer H s E (.ref a) s'') (fun e' s''=>CXR P w outer H s E e' s'') s2
 refine LX.qhL (env:=envOfC qual scope s.heap.objs.size f cd) (outer:=outer) (L:=s.heap.objs.size) J.ok.frames rfl fly fun h' fly' up=>?_
 have u1:Un (frs outer) [] H H' s.heap s2.heap:=J.base
 exact ⟨a,C,dx,H',B,rfl,J.os,J.bare,qhZ u1 fly.st fly'.st c1' up (ZI (fly.ff.2.2)),qfG J.hok fly.st fly'.st c2,fly',c1',c2,hn,hE⟩
theorem qcz {h b B:Heap}:∀ {l:List Env},h.FunFrames b l->(∀ a∈frs l,B.get? a=none)->h.FunFrames B l
 | [],_,_=>trivial
 | env::r,⟨hk,⟨L,o,hf,hn,ho,hd⟩,hr⟩,hB=>⟨hk,⟨L,o,hf,hB L (by unfold frs; rw [List.filterMap_cons,hf]; exact List.mem_cons_self),ho,hd⟩,qcz hr fun a ha=>hB a (by
  unfold frs
  rw [List.filterMap_cons,hf]
  exact List.mem_cons_of_mem _ ha)⟩
theorem ql9 {pins:List (Addr × Obj)} {σ : St} {H1:Hp} {s1:Shared} {a C dx:Addr} {vs:Array Value}
  (I:Inv (zc (CXR P w) P w K mg base N qual scope f cd A outer s H E) pins σ H1 s1) (ha:H1 a=some (XOb a C vs (some dx))) (hv:vs[1]? = some .none) (hnew:s.heap.objs.size<=a) (hE:E (.ref C) (some dx) (Zp H1 a)) :
  (zc (CXR P w) P w K mg base N qual scope f cd A outer s H E).xe (.ref a) s1:=by
 obtain ⟨sl,hob⟩:=I.hok.xob ha
 have nfr:∀ b∈frs (zc (CXR P w) P w K mg base N qual scope f cd A outer s H E).stack,b≠a:=fun b hb z=>by
  have:=I.stkFree b hb
  rw [z,ha] at this
  cases this
 let l:=a::frs (zc (CXR P w) P w K mg base N qual scope f cd A outer s H E).stack
 let B:=PySem.W.hideAll s1.heap l
 have stB:B.StaysIn s1.heap:=fun b o q=>PySem.W.of_hideAll l q
 have inB:∀ b o,s1.heap.get? b=some o->b≠a->b∉frs (zc (CXR P w) P w K mg base N qual scope f cd A outer s H E).stack->B.get? b=some o:=fun b o q h1 h2=>PySem.W.hideAll_get l q (by
  intro z
  rcases List.mem_cons.mp z with z | z
  ·exact h1 z
  ·exact h2 z)
 have c1':∀ b o,s.heap.get? b=some o->b∉frs outer->∃ o',B.get? b=some o':=fun b o q hb=>by
  obtain ⟨o1,q1⟩:=I.base.there b o q (by simp [zc])
  refine ⟨o1,inB b o1 q1 (Nat.ne_of_lt (Nat.lt_of_lt_of_le (Heap.lt_size q) hnew)) fun hm=>?_⟩
  rcases List.mem_cons.mp (I.stkSub b hm) with z | z
  ·have lt:=Heap.lt_size q
   rw [z] at lt
   exact absurd lt (Nat.lt_irrefl _)
  ·exact hb z
 have c2:∀ b u,Zp H1 a b=some u->∃ o',B.get? b=some o':=fun b u q=>by
  have hba:b≠a:=fun z=>by subst z; rw [qcO] at q; cases q
  rw [Qu hba] at q
  obtain ⟨o,ho⟩:∃ o,s1.heap.get? b=some o:=by
   have lt:=I.hok.lt q
   cases hq:s1.heap.get? b with
   | some o=>exact ⟨o,rfl⟩
   | none=>
    exfalso
    have x:=I.hok b u q
    cases u with
    | lst xs=>obtain ⟨_,_,_,_,e⟩:=x; rw [hq] at e; cases e
    | tup xs=>obtain ⟨_,_,_,ob,e,_⟩:=x; rw [hq] at e; cases e
    | dK kvs=>obtain ⟨_,_,_,_,o,_,_,e,_⟩:=x; rw [hq] at e; cases e
    | dT kvs=>obtain ⟨_,_,_,_,o,_,_,e,_⟩:=x; rw [hq] at e; cases e
    | set S n=>obtain ⟨o,_,_,_,e,_⟩:=x; rw [hq] at e; cases e
    | ins C dx fs=>obtain ⟨_,_,_,e,_⟩:=x; rw [hq] at e; cases e
    | own y=>obtain ⟨_,e⟩:=x; rw [hq] at e; cases e
    | xd fs=>obtain ⟨_,⟨_,_,_,e,_⟩,_⟩:=x; rw [hq] at e; cases e
    | rng lo hi=>obtain ⟨_,_,_,e⟩:=x; rw [hq] at e; cases e
    | frz ob u=>obtain ⟨e,_⟩:=x; rw [hq] at e; cases e
    | tbl ps=>have e:s1.heap.get? b=some _:=x; rw [hq] at e; cases e
    | met f y=>have e:s1.heap.get? b=some _:=x; rw [hq] at e; cases e
    | ext φ=>obtain ⟨_,⟨_,e⟩,_⟩:=x; rw [hq] at e; cases e
  exact ⟨o,inB b o ho hba fun hm=>by rw [I.stkFree b hm] at q; cases q⟩
 have ok1:HOk P w (Zp H1 a) s1.heap:=fun b u q=>by
  have hba:b≠a:=fun z=>by subst z; rw [qcO] at q; cases q
  rw [Qu hba] at q
  refine (I.hok b u q).stay (fun c v _ z=>z) (fun c z=>?_) fun c xs z=>?_
  ·rw [Qu (fun y=>by subst y; rw [ha] at z; cases z)]; exact z
  ·rw [Qu (fun y=>by subst y; rw [ha] at z; cases z)]; exact z
 have un1:Un (frs outer) [] H (Zp H1 a) s.heap s1.heap:=by
  have u0:Un (frs outer) [] H H1 s.heap s1.heap:=I.base
  refine ⟨u0.keep,u0.slot,fun b o q n hx=>?_,u0.there,fun b xs q=>?_,fun b o u q=>?_,fun b ps q=>?_⟩
  ·rw [Qu (Nat.ne_of_lt (Nat.lt_of_lt_of_le (Heap.lt_size q) hnew))]; exact u0.free b o q n hx
  ·have z:=u0.tups b xs q
   rw [Qu (fun y=>by subst y; rw [ha] at z; cases z)]; exact z
  ·have z:=u0.frzs b o u q
   rw [Qu (fun y=>by subst y; rw [ha] at z; cases z)]; exact z
  ·obtain ⟨m,z⟩:=u0.tbls b ps q
   exact ⟨m,by rw [Qu (fun y=>by subst y; rw [ha] at z; cases z)]; exact z⟩
 have noB:B.get? a=none:=PySem.W.hideAll_none l List.mem_cons_self
 have ffB:s1.heap.FunFrames B (envOfC qual scope s.heap.objs.size f cd::outer):=qcz I.stack fun b hb=>PySem.W.hideAll_none l (List.mem_cons_of_mem _ hb)
 show wpAny (model P w) (A.deeper (envOfC qual scope s.heap.objs.size f cd)) (leaving (envOfC qual scope s.heap.objs.size f cd) (.ref a)) (fun _ s''=>CXR P w outer H s E (.ref a) s'') (fun e' s''=>CXR P w outer H s E e' s'') s1
 refine LX.qgF (env:=envOfC qual scope s.heap.objs.size f cd) (outer:=outer) (L:=s.heap.objs.size) (C:=C) (dx:=dx) (vs:=vs) I.ok.frames ffB rfl hob rfl rfl rfl hv stB noB fun h' fly' up=>?_
 exact ⟨a,C,dx,Zp H1 a,B,rfl,I.os,I.bare,qhZ un1 stB fly'.st c1' up (ZI ffB.2.2),qfG ok1 stB fly'.st c2,fly',c1',c2,qcO,hE⟩
end
end L2
end
section
namespace L2
open PySem PySem.Spec PyProof.Rows
open LX (Fly Under XC QI)
def ZJ (K:PySem.W.Frag) (C:Addr):Bool:=match K.lookup C with
 | some ⟨.type ty,_,.cls cd,sl⟩=>ty == "type" && QI cd.mro&&cd.hasDict && !cd.hasDel&&cd.mro.head? == some (.ref C)&&(match sl.toList with
  | [_,_,_,_,k4,_]=>k4 == some (.builtin "Exception.__new__")
  | _=>false)
 | _=>false
theorem qaR:∀ {l:List Value},QI l=true->Under l
 | [.type a,.type b,.type c],e=>by
  simp only [QI,Bool.and_eq_true,beq_iff_eq] at e
  obtain ⟨⟨rfl,rfl⟩,rfl⟩:=e
  exact ⟨by decide,by decide,by decide,by decide⟩
 | .ref c::r,e=>by
  have u:=qaR (l:=r) e
  exact ⟨by rw [List.contains_cons,u.b1]; exact Bool.or_true _,by rw [List.contains_cons,u.b2]; exact Bool.or_true _,by rw [List.contains_cons,u.b3]; rfl,by rw [List.contains_cons,u.b4]; rfl⟩
structure jD (K:PySem.W.Frag) (C:Addr):Prop where
 obj:ZJ K C=true
 sa:PySem.W.findIn K (.ref C) "__setattr__" = some (some (.builtin "object.__setattr__"))
 ga:PySem.W.findIn K (.ref C) "__getattribute__" = some (some (.builtin "BaseException.__getattribute__"))
 gh:PySem.W.findIn K (.ref C) "__getattr__" = some none
theorem jD.out {K:PySem.W.Frag} {C:Addr} (c:jD K C):∃ (cd:ClassData) (bm:List Value),PySem.W.clsIn K C=some cd/\QI cd.mro=true/\cd.hasDict=true/\cd.mro=.ref C::bm/\QI bm=true/\∃ nm q N bs hdct sn sub ab col dd k0 k1 k2 k3 k5,
  K.lookup C=some (excClassObj nm q C N bs bm hdct sn sub ab col dd k0 k1 k2 k3 k5 "Exception.__new__"):=by
 have e:=c.obj
 unfold ZJ at e
 split at e
 ·rename_i ty od cd sl ho
  simp only [Bool.and_eq_true,Bool.not_eq_true',beq_iff_eq] at e
  obtain ⟨⟨⟨⟨⟨e1,e2⟩,e3⟩,e4⟩,e5⟩,e6⟩:=e
  subst e1
  obtain ⟨sl⟩:=sl
  dsimp only at e6
  split at e6
  ·rename_i k0 k1 k2 k3 k4 k5
   have e6:=beq_iff_eq.mp e6
   subst e6
   obtain ⟨nm,bs,mro,ns,q,hd,sn,sub,ab,col,del⟩:=cd
   cases mro with
   | nil=>cases e5
   | cons m bm=>
    have e5:m=.ref C:=Option.some.inj e5
    subst e5
    have e4:del=false:=e4
    subst e4
    exact ⟨_,bm,by unfold PySem.W.clsIn; rw [ho],e2,e3,rfl,e2,nm,q,ns,bs,hd,sn,sub,ab,col,od,k0,k1,k2,k3,k5,ho⟩
  ·cases e6
 ·cases e
section
variable {X:Cx} {pins:List (Addr × Obj)} {σ : St} {H:Hp} {s:Shared} {e C:Addr} {f:Str} {A:Around} {E:Value->Shared->Prop} {vs:Array Value}
theorem qkL {y:V} {u:Value} {Q:Unit->Shared->Prop} (I:Inv X pins σ H s) (he:H e=some (XOb e C vs none)) (c:jD X.K C) (n:qx X.K C f) (ry:RelV y u)
  (h:∀ dx s',H dx=none->dx≠e->Inv X pins σ (upd (upd H dx (XDi dx [(f,y)])) e (XOb e C vs (some dx))) s'->Q () s'):wpAny (model X.prog X.w) A (setAttr (.ref e) f u) Q E s:=by
 obtain ⟨cd,bm,hc,hm,hd,_⟩:=c.out
 obtain ⟨sl,ho⟩:=I.hok.xob he
 refine LX.qmH I.kIn ho hc hm hd c.sa n fun h' tk q1 q2 q3=>h s.heap.objs.size _ (I.hok.fresh (Nat.le_refl _)) (Nat.ne_of_gt (Heap.lt_size ho)) ?_
 have hn:H s.heap.objs.size=none:=I.hok.fresh (Nat.le_refl _)
 have nde:s.heap.objs.size≠e:=Nat.ne_of_gt (Heap.lt_size ho)
 have e1:zm X.prog X.w (upd (upd H s.heap.objs.size (XDi s.heap.objs.size [(f,y)])) e (XOb e C vs (some s.heap.objs.size))) h' s.heap.objs.size (XDi s.heap.objs.size [(f,y)]):=by
  refine qje q2 (fun g=>?_) fun g hg=>?_
  ·show jT (([(f,y)]:List (Str × V)).lookup g) (if g=f then some u else none)
   rw [List.lookup_cons]
   by_cases z:g=f
   ·subst z; rw [if_pos rfl,beq_self_eq_true]; exact ry
   ·rw [if_neg z,beq_eq_false_iff_ne.mpr z]; exact True.intro
  ·by_cases z:g=f
   ·subst z; exact List.mem_cons_self
   ·exact absurd (if_neg z) hg
 have un:Un X.fs [] H (upd (upd H s.heap.objs.size (XDi s.heap.objs.size [(f,y)])) e (XOb e C vs (some s.heap.objs.size))) s.heap h':=by
  have lt:∀ b o,s.heap.get? b=some o->b≠s.heap.objs.size:=fun b o q=>Nat.ne_of_lt (Heap.lt_size q)
  have ne:∀ b,H b=none->b≠e:=fun b q z=>by subst z; rw [he] at q; cases q
  have nx:∀ b u,H b=some u->(∀ φ,u≠.ext φ)->b≠e:=fun b u q hu z=>by subst z; rw [he] at q; cases q; exact hu _ rfl
  refine ⟨fun b o q n1 _ _=>q3 b o (ne b n1) q,fun b o q n1 _ _=>⟨o.slots,q3 b o (ne b n1) q⟩,fun b o q n1 _=>?_,fun b o q _=>?_,fun b xs q=>?_,fun b o w' q=>?_,fun b ps q=>⟨#[],?_⟩⟩
  ·rw [qd (ne b n1),qd (lt b o q)]; exact n1
  ·by_cases z:b=e
   ·subst z; exact ⟨_,q1⟩
   ·exact ⟨o,q3 b o z q⟩
  ·rw [qd (nx b _ q (fun φ z=>by cases z)),qd (qh q hn)]; exact q
  ·rw [qd (nx b _ q (fun φ z=>by cases z)),qd (qh q hn)]; exact q
  ·rw [qd (nx b _ q (fun φ z=>by cases z)),qd (qh q hn),q]; simp
 refine I.un un fun b w' q=>?_
 by_cases z:b=e
 ·subst z
  rw [qc] at q
  cases q
  exact qfF q1
 ·rw [qd z] at q
  by_cases z2:b=s.heap.objs.size
  ·subst z2
   rw [qc] at q
   cases q
   exact e1
  ·rw [qd z2] at q
   refine (I.hok b w' q).stay (fun c u' hc' r=>q3 c u' ?_ r) (fun c r=>?_) fun c xs r=>?_
   ·rcases hc' with rfl | hc'
    ·exact z
    ·intro y'; subst y'; rw [he] at hc'; cases hc'
   ·rw [qd (fun y'=>by subst y'; rw [he] at r; cases r),qd (qh r hn)]; exact r
   ·rw [qd (fun y'=>by subst y'; rw [he] at r; cases r),qd (qh r hn)]; exact r
theorem qkM {y:V} {u:Value} {dx:Addr} {fs:List (Str × V)} {Q:Unit->Shared->Prop} (I:Inv X pins σ H s) (he:H e=some (XOb e C vs (some dx))) (hdx:H dx=some (XDi dx fs)) (hl:fs.length<1000) (c:jD X.K C) (n:qx X.K C f) (ry:RelV y u)
  (h:∀ s',Inv X pins σ (upd H dx (XDi dx (zb f y fs))) s'->Q () s'):wpAny (model X.prog X.w) A (setAttr (.ref e) f u) Q E s:=by
 obtain ⟨cd,bm,hc,hm,hd,_⟩:=c.out
 obtain ⟨sl,ho⟩:=I.hok.xob he
 obtain ⟨mA,hn,r,wi⟩:=I.hok.xdi hdx
 refine LX.qmI I.kIn ho hn wi (by rw [List.length_map]; omega) hc hm hd c.sa n fun h' tk q1 q2=>h _ ?_
 refine I.write (x:=dx) (e:=dx) (by rw [hdx]; exact True.intro) (.inl rfl) (fun b o hb q=>(q2.2 b hb).trans q) (let ⟨o,_,_,z,_⟩:=q1; ⟨o,z⟩) ?_
 refine qje q1 (fun g=>?_) fun g hg=>?_
 ·show jT ((zb f y fs).lookup g) (if g=f then some u else mA g)
  rw [J9]
  by_cases z:g=f
  ·rw [if_pos z,if_pos z]; exact ry
  ·rw [if_neg z,if_neg z]; exact r g
 ·by_cases z:g=f
  ·rw [z]; exact (Jl f y fs).1
  ·refine (Jl f y fs).2 g (wi g fun q=>hg ?_)
   show (if g=f then some u else mA g)=none
   rw [if_neg z]; exact q
theorem qma {b:Bool} {v:V} {dx:Addr} {fs:List (Str × V)} {Q:Value->Shared->Prop} (I:Inv X pins σ H s) (he:H e=some (XOb e C vs (some dx))) (hdx:H dx=some (XDi dx fs)) (c:jD X.K C) (n:qx X.K C f) (l:fs.lookup f=some v)
  (h:∀ u s',Inv X pins σ H s'->RelV v u->Q u s'):wpAny (model X.prog X.w) A (getAttr (.ref e) f b) Q E s:=by
 obtain ⟨cd,bm,hc,hm,hd,em,hbm,_⟩:=c.out
 obtain ⟨sl,ho⟩:=I.hok.xob he
 obtain ⟨mA,hn,r,wi⟩:=I.hok.xdi hdx
 obtain ⟨u,hu,ru⟩:=jT.some_of (v:=v) (o:=mA f) (by rw [<- l]; exact r f)
 obtain ⟨od,hod,hlook⟩:=qem hn
 have J:PySem.W.InstAt s.heap e ⟨.ref C,some dx,.fields vs,sl⟩ C (some od):=⟨ho,rfl,rfl,hod⟩
 refine LX.qnP I.kIn J c.ga c.gh ?_ (PySem.W.findObj_own (by show (PySem.W.clsIn X.K C).any _=true; rw [hc]; exact hd) n rfl (by rw [hlook,hu])) (qen ru) (h u _ (I.tok _) ru)
 unfold PySem.W.mroIn
 rw [hc,Option.bind_some,if_neg (by rw [LX.qhc hm]; decide),(qaR hm).b2]
end
def qnc (K:PySem.W.Frag) (ta tv:TE) (f:Str):TS:=fun D σ H=>tv σ H fun y H1=>ta σ H1 fun x H2=>∃ e C vs,x=.ref e/\H2 e=some (XOb e C vs none)/\jD K C/\qx K C f /\
 ∀ dx,H2 dx=none->dx≠e->D.nx σ (upd (upd H2 dx (XDi dx [(f,y)])) e (XOb e C vs (some dx)))
def qnd (K:PySem.W.Frag) (ta tv:TE) (f:Str):TS:=fun D σ H=>tv σ H fun y H1=>ta σ H1 fun x H2=>∃ e C vs dx fs,x=.ref e/\H2 e=some (XOb e C vs (some dx))/\H2 dx=some (XDi dx fs)/\fs.length<1000/\jD K C/\qx K C f /\
 D.nx σ (upd H2 dx (XDi dx (zb f y fs)))
def qh0 (K:PySem.W.Frag) (ta:TE) (f:Str):TE:=fun σ H Q=>ta σ H fun x H1=>∃ e C vs dx fs v,x=.ref e/\H1 e=some (XOb e C vs (some dx))/\H1 dx=some (XDi dx fs)/\jD K C/\qx K C f/\fs.lookup f=some v/\Q v H1
section
variable {X:Cx} {o e value:Expr} {f:Str} {pos pos':Pos} {ta tv:TE}
theorem qkN (ha:PE X o ta) (hv:PE X value tv) (hs:swapsWith value (some (.Attribute o f pos')) pos.line X.env=pure false):PS X (.Assign [.Attribute o f pos'] value pos) (qnc X.K ta tv f):=by
 intro pins s σ H D I h
 refine plainObj_wpAny_Assign_Attribute (thn (hv pins s σ H _ I h) fun u s1 ⟨y,H1,I1,ry,q⟩=>thn (ha pins s1 σ H1 _ I1 q) fun ov s2 ⟨x,H2,I2,rx,a,C,vs,ex,ea,c,n,q2⟩=>?_) hs
 subst ex
 obtain rfl:ov=Value.ref a:=rx
 exact qkL I2 ea c n ry fun dx s3 z1 z2 I3=>⟨σ,_,I3,q2 dx z1 z2⟩
theorem qkO (ha:PE X o ta) (hv:PE X value tv) (hs:swapsWith value (some (.Attribute o f pos')) pos.line X.env=pure false):PS X (.Assign [.Attribute o f pos'] value pos) (qnd X.K ta tv f):=by
 intro pins s σ H D I h
 refine plainObj_wpAny_Assign_Attribute (thn (hv pins s σ H _ I h) fun u s1 ⟨y,H1,I1,ry,q⟩=>thn (ha pins s1 σ H1 _ I1 q) fun ov s2 ⟨x,H2,I2,rx,a,C,vs,dx,fs,ex,ea,ed,hl,c,n,q2⟩=>?_) hs
 subst ex
 obtain rfl:ov=Value.ref a:=rx
 exact qkM I2 ea ed hl c n ry fun s3 I3=>⟨σ,_,I3,q2⟩
theorem qmb (he:PE X e ta) (hb:attributeBase e f X.env (eval e X.env)=eval e X.env):PE X (.Attribute e f pos) (qh0 X.K ta f):=by
 intro pins s σ H Q I h
 refine qhg hb (thn (he pins s σ H _ I h) fun u s1 ⟨x,H1,I1,rx,a,C,vs,dx,fs,v,ex,ea,ed,c,n,l,q⟩=>?_)
 subst ex
 obtain rfl:u=Value.ref a:=rx
 exact qma I1 ea ed c n l fun u' s2 I2 ru=>⟨v,H1,I2,ru,q⟩
end
end L2
end
section
namespace L2
open PySem PySem.Spec PyProof.Rows
open LX (Fly Under XC QI)
structure qlB (K:PySem.W.Frag) (C:Addr) (m:Str) (f:Addr):Prop where
 ga:PySem.W.specialIn K (.ref C) "__getattribute__" = some (some (.builtin "type.__getattribute__"))
 rd:PySem.W.readsIn K C (.type "type")=true
 at_:PySem.W.findCls K (.ref C) (.type "type") m=some (.val (.ref f))
 kp:PySem.W.keepIn K (.ref f)=true
section
variable {X:Cx} {CX:CXT} {k:Nat} {f C:Addr} {fd:FuncData} {ps:List Str} {sp:Sp} {dvs:List V} {ds:List Value} {E:XK} {x m:Str} {p pos apos:Pos} {e:Expr} {es:List Expr} {t:TA}
theorem qh1 {pl:Sem Bool} (hg:Gl X x) (hm:X.mg x=some (.ref C)) (c:qlB X.K C m f) (F:qw X.prog X.w X.K X.mg X.base CX k f fd ps sp) (hr:qN k X.A) (hb:Binds X.K fd ps ds) (hd:qE dvs ds) (hx:j9 CX X E) (ha:PA X (e::es) t)
  (hdb:(x == ("__debug__" : Str))=false:=by decide)
  (hst:starEach (e::es) X.env=(false,eval e X.env)::starEach es X.env:=by rfl) (hpl:(backTo pos (starEach es X.env)).any (·.1)=false:=by rfl)
  (ht:eval (.Call (.Attribute (.Name x p) m apos) (e::es) [] pos) X.env=(do
   let ov <- eval (.Name x p) X.env
   standAt apos.atName
   let (f,first) <- holding [ov] (getMethod ov m pl)
   callWith pos f first (backTo pos (starEach (e::es) X.env)) (backToKw pos (keywordEach [] X.env))):=by rfl) :
  PE X (.Call (.Attribute (.Name x p) m apos) (e::es) [] pos) (Jz sp dvs E t):=by
 intro pins s σ H Q I h
 refine PySem.W.methodCall_KW (pl:=pl) (Zs I hg hm ?_ hdb) ht
 refine PySem.W.method_cls I.kIn c.ga (PySem.W.cls_value I.kIn c.rd c.at_ rfl ?_)
 refine PySem.W.callWith_K (first:=[]) (h₀:=X.base) I.ok.mod.kin c.kp (thn (ha pos pins _ σ H _ (I.tok _) h) fun us s2 ⟨vs,H2,I2,r,q2⟩=>⟨I2.kIn,?_⟩) hst hpl
 exact qbB F hr hb hd hx I2 r q2
end
abbrev xv (t:Addr):Array Value:=#[.ref t,.none,.none,.none,.bool false,.none]
def qbJ (C:Addr) (sp:Sp) (E:XK) (t:TA):TS:=fun _ σ H=>t σ H fun vs H1=>vs.length<=1000/\∀ a ta,H1 a=none->sp (.ref a::vs) (upd H1 a (XOb a C (xv ta) none)) (fun v H2=>v=.non/\∃ dx,H2 a=some (XOb a C (xv ta) (some dx))/\E (.ref C) (some dx) (Zp H2 a)) E0
structure XMk (K:PySem.W.Frag) (C f:Addr):Prop where
 cls:jD K C
 init:PySem.W.findIn K (.ref C) "__init__" = some (some (.ref f))
 fn:PySem.W.isFn K (.ref f)=true
 kp:PySem.W.keepIn K (.ref C)=true
theorem jD.xc {K:PySem.W.Frag} {C:Addr} (c:jD K C):∃ nm q N bs bm hdct sn sub ab col dd k0 k1 k2 k3 k5,Under bm/\QI bm=true/\∀ h,K.In h->XC h nm q C N bs bm hdct sn sub ab col dd k0 k1 k2 k3 k5:=by
 obtain ⟨cd,bm,_,_,_,_,hbm,nm,q,N,bs,hdct,sn,sub,ab,col,dd,k0,k1,k2,k3,k5,lk⟩:=c.out
 exact ⟨nm,q,N,bs,bm,hdct,sn,sub,ab,col,dd,k0,k1,k2,k3,k5,qaR hbm,hbm,fun h X=>X _ _ lk⟩
theorem qn1 {K:PySem.W.Frag} {f:Addr} (h:PySem.W.isFn K (.ref f)=true):∃ o,K.lookup f=some o/\o.cls=.type "function":=by
 have e:PySem.W.typeIn K (.ref f)=some (.type "function"):=beq_iff_eq.mp h
 obtain ⟨o,ho,hc⟩:=Option.map_eq_some_iff.mp e
 exact ⟨o,ho,hc⟩
section
variable {P:Program} {w:World} {K:PySem.W.Frag} {mg:Str->Option Value} {base:Heap} {N:List Str} {qual:Str} {scope:Scope} {f:Addr} {cd:Value} {A:Around} {outer:List Env} {s0:Shared} {H0:Hp} {E:XK}
variable {k:Nat} {fI C:Addr} {fd:FuncData} {ps:List Str} {sp:Sp} {x:Str} {np cpos pos:Pos} {es:List Expr} {t:TA}
theorem qev {pins:List (Addr × Obj)} {σ : St} {H:Hp} {s:Shared} {us:List Value} {vs:List V}
  (M:XMk K C fI) (F:qw P w K mg base CX0 k fI fd ps sp) (hr:qN (k+1) (zc (CXR P w) P w K mg base N qual scope f cd A outer s0 H0 E).A) (hb:Binds K fd ps [])
  (I:Inv (zc (CXR P w) P w K mg base N qual scope f cd A outer s0 H0 E) pins σ H s) (r:qE vs us) (hl:vs.length<=1000)
  (h:∀ a ta,H a=none->sp (.ref a::vs) (upd H a (XOb a C (xv ta) none)) (fun v H2=>v=.non/\∃ dx,H2 a=some (XOb a C (xv ta) (some dx))/\E (.ref C) (some dx) (Zp H2 a)) E0) :
  wpAny (model P w) (zc (CXR P w) P w K mg base N qual scope f cd A outer s0 H0 E).A (call (.ref C) us)
   (fun v s1=>∃ (a ta dx:Addr) (H2:Hp),v=.ref a/\Inv (zc (CXR P w) P w K mg base N qual scope f cd A outer s0 H0 E) pins σ H2 s1/\s0.heap.objs.size<=a/\H2 a=some (XOb a C (xv ta) (some dx))/\E (.ref C) (some dx) (Zp H2 a))
   (zc (CXR P w) P w K mg base N qual scope f cd A outer s0 H0 E).xe s:=by
 obtain ⟨nm,q,N',bs,bm,hdct,sn,sub,ab,col,dd,k0,k1,k2,k3,k5,U,_,hC⟩:=M.cls.xc
 obtain ⟨oI,hoI,hcI⟩:=qn1 M.fn
 have KX:K.In s.heap:=I.kIn
 obtain ⟨hh,g,d,tk,os⟩:=s
 refine LX.x_call U (hC _ KX) (PySem.W.looks_findIn KX M.init) (KX _ _ hoI) hcI (by rw [<- r.length,sizeLine_eq]; omega) fun h' a hsz hm=>?_
 obtain ⟨ta,ht,_,_⟩:=hm.there
 have hq:=h a ta (I.hok.fresh hsz)
 have I2:Inv (zc (CXR P w) P w K mg base N qual scope f cd A outer s0 H0 E) pins σ (upd H a (XOb a C (xv ta) none)) ⟨h',g,d,tk,os⟩:=I.laid (t':=tk) hm.keeps hsz (qfF ht)
 have r2:qE (V.ref a::vs) (Value.ref a::us):=.cons rfl r
 have hl2:(Value.ref a::us++[]).length=ps.length:=by
  rw [List.append_nil,<- r2.length]
  exact F.len _ _ _ _ hq
 refine wpAny_call (codeAny_mono (F.run _ _ _ _ ⟨Value.ref a::us,[]⟩ (Value.ref a::us) _ _ _ (hr.make C us []) (I2.env0.make C us []) ?_ r2 hq) fun res s' hq'=>?_)
 ·have:=hb ⟨h',g,d,tk,os⟩ (Value.ref a::us) I2.kIn hl2
  rw [List.append_nil] at this
  exact this
 ·cases res with
  | error e=>exact False.elim hq'
  | ok fl=>
   cases fl with
   | ret u=>
    obtain ⟨v,H',I3,rv,ev,dx,z1,z2⟩:=I2.after hq'
    subst ev
    exact ⟨rv,a,ta,dx,H',rfl,I3,Nat.le_trans I.sz hsz,z1,z2⟩
   | next=>exact False.elim hq'
   | brk=>exact False.elim hq'
   | cont=>exact False.elim hq'
theorem qew {pins:List (Addr × Obj)} {σ : St} {s:Shared} {xe:Sem Value} {D:Flow->Shared->Prop} {env:Env} (M:XMk K C fI) (hh:(zc (CXR P w) P w K mg base N qual scope f cd A outer s0 H0 E).A.handled=none)
  (h:wpAny (model P w) (zc (CXR P w) P w K mg base N qual scope f cd A outer s0 H0 E).A xe
   (fun v s1=>∃ (a ta dx:Addr) (H2:Hp),v=.ref a/\Inv (zc (CXR P w) P w K mg base N qual scope f cd A outer s0 H0 E) pins σ H2 s1/\s0.heap.objs.size<=a/\H2 a=some (XOb a C (xv ta) (some dx))/\E (.ref C) (some dx) (Zp H2 a))
   (zc (CXR P w) P w K mg base N qual scope f cd A outer s0 H0 E).xe s) :
  wpAny (model P w) (zc (CXR P w) P w K mg base N qual scope f cd A outer s0 H0 E).A (raiseStmt env (some xe) none) D (zc (CXR P w) P w K mg base N qual scope f cd A outer s0 H0 E).xe s:=by
 obtain ⟨nm,q,N',bs,bm,hdct,sn,sub,ab,col,dd,k0,k1,k2,k3,k5,U,_,hC⟩:=M.cls.xc
 refine LX.x_raise (C:=C) (nm:=nm) (q:=q) (N:=N') (bs:=bs) (hdct:=hdct) (sn:=sn) (sub:=sub) (ab:=ab) (col:=col) (dd:=dd) (k0:=k0) (k1:=k1) (k2:=k2) (k3:=k3) (k5:=k5) U hh (thn h fun v s1 ⟨a,ta,dx,H2,ev,I2,hsz,z1,z2⟩=>?_)
 obtain ⟨sl,ho⟩:=I2.hok.xob z1
 exact ⟨a,ta,some dx,sl,ev,hC _ I2.kIn,ho,ql9 I2 z1 rfl hsz z2⟩
theorem qkP {e:Expr} (M:XMk K C fI) (F:qw P w K mg base CX0 k fI fd ps sp) (hr:qN (k+1) (zc (CXR P w) P w K mg base N qual scope f cd A outer s0 H0 E).A) (hb:Binds K fd ps [])
  (hg:Gl (zc (CXR P w) P w K mg base N qual scope f cd A outer s0 H0 E) x) (hm:mg x=some (.ref C)) (ha:PA (zc (CXR P w) P w K mg base N qual scope f cd A outer s0 H0 E) (e::es) t)
  (hdb:(x == ("__debug__" : Str))=false:=by decide)
  (he:starEach (e::es) (zc (CXR P w) P w K mg base N qual scope f cd A outer s0 H0 E).env=(false,eval e (zc (CXR P w) P w K mg base N qual scope f cd A outer s0 H0 E).env)::starEach es (zc (CXR P w) P w K mg base N qual scope f cd A outer s0 H0 E).env:=by rfl)
  (hpl:(backTo cpos (starEach es (zc (CXR P w) P w K mg base N qual scope f cd A outer s0 H0 E).env)).any (·.1)=false:=by rfl) :
  PS (zc (CXR P w) P w K mg base N qual scope f cd A outer s0 H0 E) (.Raise (some (.Call (.Name x np) (e::es) [] cpos)) none pos) (qbJ C sp E t):=by
 intro pins s σ H D I h
 rw [arm_exec_Raise]
 refine wpAny_bind (wpAny_standAt ?_)
 show wpAny _ _ (raiseStmt _ (some (do let v <- eval (.Call (.Name x np) (e::es) [] cpos) (zc (CXR P w) P w K mg base N qual scope f cd A outer s0 H0 E).env; standAt pos; pure v)) none) _ _ _
 refine qew (pins:=pins) (σ:=σ) M hr.hd (wpAny_bind (thn ?_ fun v s1 z=>wpAny_bind (wpAny_standAt (wpAny_pure z))))
 refine wpAny_Call_Name_kw (Zs I hg hm ?_ hdb)
 refine PySem.W.callWith_K (h₀:=base) I.ok.mod.kin M.kp (thn (ha cpos pins s σ H _ I h) fun us s1 ⟨vs,H1,I1,r,q1,q2⟩=>⟨I1.kIn,?_⟩) he hpl
 exact qev M F hr hb I1 r q1 q2
theorem qjf (M:XMk K C fI) (F:qw P w K mg base CX0 k fI fd ps sp) (hr:qN (k+1) (zc (CXR P w) P w K mg base N qual scope f cd A outer s0 H0 E).A) (hb:Binds K fd ps [])
  (hg:Gl (zc (CXR P w) P w K mg base N qual scope f cd A outer s0 H0 E) x) (hm:mg x=some (.ref C)) (hdb:(x == ("__debug__" : Str))=false:=by decide) :
  PS (zc (CXR P w) P w K mg base N qual scope f cd A outer s0 H0 E) (.Raise (some (.Call (.Name x np) [] [] cpos)) none pos) (qbJ C sp E jV):=by
 intro pins s σ H D I h
 obtain ⟨h1,h2⟩:=h
 rw [arm_exec_Raise]
 refine wpAny_bind (wpAny_standAt ?_)
 show wpAny _ _ (raiseStmt _ (some (do let v <- eval (.Call (.Name x np) [] [] cpos) (zc (CXR P w) P w K mg base N qual scope f cd A outer s0 H0 E).env; standAt pos; pure v)) none) _ _ _
 refine qew (pins:=pins) (σ:=σ) M hr.hd (wpAny_bind (thn ?_ fun v s1 z=>wpAny_bind (wpAny_standAt (wpAny_pure z))))
 refine wpAny_Call_Name_kw (Zs I hg hm ?_ hdb)
 exact PySem.W.callWith_K0 I.kIn M.kp (qev (us:=[]) M F hr hb I .nil h1 h2)
end
end L2
end
section
namespace L2
open PySem PySem.Spec PyProof.Rows
open LX (Fly Under XC QI)
abbrev Cx.tr (X:Cx) (E:Value->Shared->Prop) (pn:List (Addr × Obj)):Cx:={ X with xe:=E,pn:=pn }
abbrev Cx.sut (X:Cx) (e:Addr):Cx:={ X with A:=X.A.mark (some (.ref e)),calm:=false,xe:=fun _ _=>False }
section
variable {X:Cx} {pins:List (Addr × Obj)} {σ : St} {H:Hp} {s:Shared}
theorem Cx.Ok.tr (ok:X.Ok) (E:Value->Shared->Prop) (pn:List (Addr × Obj)):(X.tr E pn).Ok :=
 ⟨ok.mod,ok.kind,ok.glob,ok.blt,ok.above,ok.inj,ok.has,ok.cab,ok.hd,ok.frames,ok.stk,ok.exf,ok.bs,ok.bsz,ok.noex,ok.exfs,ok.funs,ok.frf⟩
theorem Cx.Ok.untr {E:Value->Shared->Prop} {pn:List (Addr × Obj)} (ok:(X.tr E pn).Ok):X.Ok :=
 ⟨ok.mod,ok.kind,ok.glob,ok.blt,ok.above,ok.inj,ok.has,ok.cab,ok.hd,ok.frames,ok.stk,ok.exf,ok.bs,ok.bsz,ok.noex,ok.exfs,ok.funs,ok.frf⟩
theorem Inv.tr (I:Inv X pins σ H s) (E:Value->Shared->Prop):Inv (X.tr E (X.pn++pins)) [] σ H s:=⟨I.ok.tr _ _,I.os,I.bare,I.base,I.loc,I.cell,I.free,I.freeC,by rw [List.append_nil]; exact I.pin,I.hok,I.len⟩
theorem Inv.untr {E:Value->Shared->Prop} {more:List (Addr × Obj)} (I:Inv (X.tr E (X.pn++pins)) more σ H s):Inv X pins σ H s:=⟨I.ok.untr,I.os,I.bare,I.base,I.loc,I.cell,I.free,I.freeC,fun p hp=>I.pin p (List.mem_append_left _ hp),I.hok,I.len⟩
theorem SP.untr {E:Value->Shared->Prop} {D:Ends} {f:Flow} {s':Shared} (h:SP (X.tr E (X.pn++pins)) [] D f s'):SP X pins D f s':=by
 cases f with
 | next=>obtain ⟨σ',H',I,q⟩:=h; exact ⟨σ',H',I.untr,q⟩
 | brk=>obtain ⟨σ',H',I,q⟩:=h; exact ⟨σ',H',I.untr,q⟩
 | cont=>obtain ⟨σ',H',I,q⟩:=h; exact ⟨σ',H',I.untr,q⟩
 | ret u=>obtain ⟨v,σ',H',I,r,q⟩:=h; exact ⟨v,σ',H',I.untr,r,q⟩
theorem Inv.sut (I:Inv X pins σ H s) (e:Addr):Inv (X.sut e) pins σ H s :=
 ⟨⟨I.ok.mod,I.ok.kind,I.ok.glob,I.ok.blt,I.ok.above,I.ok.inj,I.ok.has,I.ok.cab,fun z=>(by cases z),I.ok.frames,I.ok.stk,I.ok.exf,I.ok.bs,I.ok.bsz,I.ok.noex,I.ok.exfs,I.ok.funs,I.ok.frf⟩,
  I.os,I.bare,I.base,I.loc,I.cell,I.free,I.freeC,I.pin,I.hok,I.len⟩
theorem Inv.unsut {e:Addr} (hd:X.calm=true->X.A.handled=none) (I:Inv (X.sut e) pins σ H s):Inv X pins σ H s :=
 ⟨⟨I.ok.mod,I.ok.kind,I.ok.glob,I.ok.blt,I.ok.above,I.ok.inj,I.ok.has,I.ok.cab,hd,I.ok.frames,I.ok.stk,I.ok.exf,I.ok.bs,I.ok.bsz,I.ok.noex,I.ok.exfs,I.ok.funs,I.ok.frf⟩,
  I.os,I.bare,I.base,I.loc,I.cell,I.free,I.freeC,I.pin,I.hok,I.len⟩
theorem Inv.track {a:Addr} {o:HO} (I:Inv X pins σ H s) (hn:H a=none) (h0:X.s_0.heap.get? a=none) (hL:a≠X.env.locals) (hc:∀ x c,X.env.cells.lookup x=some c->c≠a) (hp:∀ p∈X.pn++pins,p.1≠a)
  (new:zm X.prog X.w (upd H a o) s.heap a o):Inv X pins σ (upd H a o) s:=by
 refine ⟨I.ok,I.os,I.bare,⟨I.base.keep,I.base.slot,fun b ob q n hx=>?_,I.base.there,fun b xs q=>?_,fun b ob u q=>?_,fun b ps q=>?_⟩,I.loc,I.cell,?_,fun x c q=>?_,fun p z=>?_,fun b u q=>?_,I.len⟩
 ·rw [qd (fun z=>by subst z; rw [h0] at q; cases q)]; exact I.base.free b ob q n hx
 ·have z:=I.base.tups b xs q
  rw [qd (qh z hn)]; exact z
 ·have z:=I.base.frzs b ob u q
  rw [qd (qh z hn)]; exact z
 ·obtain ⟨m,z⟩:=I.base.tbls b ps q
  exact ⟨m,by rw [qd (qh z hn)]; exact z⟩
 ·rw [qd (Ne.symm hL)]; exact I.free
 ·rw [qd (hc x c q)]; exact I.freeC x c q
 ·obtain ⟨e1,e2,e3⟩:=I.pin p z
  exact ⟨e1,by rw [qd (hp p z)]; exact e2,e3⟩
 ·by_cases z:b=a
  ·subst z; rw [qc] at q; cases q; exact new
  ·rw [qd z] at q
   refine (I.hok b u q).stay (fun c v _ r=>r) (fun c r=>?_) fun c xs r=>?_
   ·rw [qd (qh r hn)]; exact r
   ·rw [qd (qh r hn)]; exact r
end
def subB (K:PySem.W.Frag) (C S:Addr):Prop:=∃ cd,PySem.W.clsIn K C=some cd/\cd.mro.contains (.ref S)=true
def qot (K:PySem.W.Frag) (S:Addr) (i len:Nat) (tb:XK->TS) (ts:TS):TS:=fun D σ H=>tb (fun c dx H'=>∃ C d,c=.ref C/\dx=some d/\jD K C/\subB K C S /\
 ∀ a xs,H' a=none->ts { nx:=fun _ _=>False,rt:=D.rt } ((List.replicate len none).set i (some (.ref a))) (upd H' a (XOb a C xs (some d)))) D σ H
theorem qdc {X:Cx} {pins:List (Addr × Obj)} {σ : St} {H:Hp} {s:Shared} (I:Inv X pins σ H s):Inv X pins (List.replicate X.N.length none) H s:=I.weak (by rw [List.length_replicate,I.len]) fun i v e=>by
 rw [List.getElem?_replicate] at e
 split at e <;> cases e
theorem Inv.gone {X:Cx} {pins:List (Addr × Obj)} {H:Hp} {s:Shared} {h':Heap} {m':Str->Option Value} {t':Nat} (I:Inv X pins (List.replicate X.N.length none) H s) (hn:h'.Ns X.env.locals m') (sb:Heap.SameBut X.env.locals s.heap h') :
  Inv X pins (List.replicate X.N.length none) H { s with heap:=h',toks:=t' }:=by
 have k:∀ b o,b≠X.env.locals->s.heap.get? b=some o->h'.get? b=some o:=fun b o z e=>(sb.2 b z).trans e
 have nL:∀ b o,X.s_0.heap.get? b=some o->b≠X.env.locals:=fun b o e=>Nat.ne_of_lt (Nat.lt_of_lt_of_le (Heap.lt_size e) I.ok.above)
 refine ⟨I.ok,I.os,I.bare,⟨fun b o e n hb hx=>k b o (nL b o e) (I.base.keep b o e n hb hx),fun b o e n hb hx=>?_,I.base.free,fun b o e hx=>?_,I.base.tups,I.base.frzs,I.base.tbls⟩,⟨m',hn,fun i x v _ e _=>?_⟩,fun x c e=>?_,I.free,I.freeC,fun p hp=>?_,fun b u e=>?_,I.len⟩
 ·obtain ⟨sl,q⟩:=I.base.slot b o e n hb hx
  exact ⟨sl,k b _ (nL b o e) q⟩
 ·obtain ⟨o',q⟩:=I.base.there b o e hx
  exact ⟨o',k b _ (nL b o e) q⟩
 ·rw [List.getElem?_replicate] at e
  split at e <;> cases e
 ·obtain ⟨v,o,ho,hd⟩:=I.cell x c e
  exact ⟨v,o,k c o (I.cne x c e) ho,hd⟩
 ·obtain ⟨e1,e2,e3,e4⟩:=I.pin p hp
  exact ⟨k _ _ e3 e1,e2,e3,e4⟩
 ·have nb:∀ c u',H c=some u'->c≠X.env.locals:=fun c u' q z=>by subst z; rw [I.free] at q; cases q
  refine (I.hok b u e).stay (fun c v hc r=>k c v ?_ r) (fun _ q=>q) fun _ _ q=>q
  rcases hc with rfl | hc
  ·exact nb _ _ e
  ·exact nb _ _ hc
theorem qne {X:Cx} {rx n:Str} {i:Nat} {S:Addr} {body:List Stmt} {b0:Stmt} {suite:List Stmt} {tb:XK->TS} {ts:TS} {np hpos pos:Pos} (hex:X.ex=[]) (hst:X.stack=X.env::X.outer) (hfr:X.env.frame=some X.env.locals)
  (hN:X.N.Nodup) (hi:X.N[i]? = some n) (hl:X.env.scope.names.lookup n=some .local) (hg:Gl X rx) (hm:X.mg rx=some (.ref S)) (cS:jD X.K S)
  (hb:∀ (xe:Value->Shared->Prop) (pn:List (Addr × Obj)) (E1:XK),j9 (CXR X.prog X.w) (X.tr xe pn) E1->PSs (X.tr xe pn) body (tb E1)) (hs:∀ e,PSs (X.sut e) (b0::suite) ts) (hdb:(rx == ("__debug__" : Str))=false:=by decide) :
  PS X (.Try body [.ExceptHandler (some (.Name rx np)) (some n) (b0::suite) hpos] [] [] pos) (qot X.K S i X.N.length tb ts):=by
 intro pins s σ H D I h
 refine wpAny_Try_except ?_
 let xe:Value->Shared->Prop:=fun e s1=>wpAny (model X.prog X.w) X.A (noteFrame e X.env) (fun _ s2=>wpAny (model X.prog X.w) X.A (setFlight e none) (fun _ s3=>
  wpAny (model X.prog X.w) X.A (handleBy e X.env [.ExceptHandler (some (.Name rx np)) (some n) (b0::suite) hpos]) (SP X pins D) X.xe s3) X.xe s2) X.xe s1
 refine wpAny_mono (hb xe (X.pn++pins) _ ?_ [] s σ H D (I.tr xe) h) (fun f s1 q=>?_) fun e s1 q=>q
 ·intro pins' σ1 H1 s1 e s2 I1 hx
  obtain ⟨a,C,dx,H',B,rfl,hos,hbare,un,hok,fly,c1,c2,hna,C',d',eC,ed,cC,sC,suit⟩:=hx
  cases eC
  cases ed
  have fly:Fly B (X.env::X.outer) a C dx .none s2.heap:=by rw [<- hst]; exact fly
  have frs_eq:frs X.stack=frs (X.env::X.outer):=by rw [hst]
  show wpAny (model X.prog X.w) X.A (noteFrame (.ref a) X.env) _ _ s2
  have Afr:X.A.frames=some (X.env::X.outer):=by rw [<- hst]; exact I.ok.frames
  have nof:∀ b∈frs X.stack,∀ o,s2.heap.get? b=some o->∀ vs,o.data≠.fields vs:=by rw [frs_eq]; exact ZI fly.ff
  have at_:∀ h2,Fly B (X.env::X.outer) a C dx .none h2->s2.heap.UpToSlots h2->Inv X pins σ1 H' { s2 with heap:=h2 }:=fun h2 fly2 up=>
   (I1.call' (s':={ s2 with heap:=h2 }) (ch:=[]) hos (qhZ un fly.st fly2.st c1 up nof) (qfG hok fly.st fly2.st c2) hbare fun b z=>absurd z (by simp)).untr
  refine wpAny_mono (LX.qiO (Q:=fun _ s3=>∃ h2,s3={ s2 with heap:=h2 }/\Fly B (X.env::X.outer) a C dx .none h2/\s2.heap.UpToSlots h2) (E:=X.xe) Afr hfr fly fun h2 f2 u2=>⟨h2,rfl,f2,u2⟩) (fun _ s3 z=>?_) fun _ _ z=>z
  refine thn z fun _ s4 ⟨h2,e4,fly2,up2⟩=>?_
  subst e4
  have J2:=at_ h2 fly2 up2
  obtain ⟨oe,vs,T,oT,tsr,⟨hoe,hcl,hdi,hda,_⟩,_⟩:=fly2.tr
  obtain ⟨nmS,qS,NS,bsS,bmS,hdS,snS,subS,abS,colS,ddS,j0,j1,j2,j3,j5,US,_,hS⟩:=cS.xc
  obtain ⟨cdC,bmC,hcdC,_,_,emC,_,nmC,qC,NC,bsC,hdC,snC,subC,abC,colC,ddC,k0,k1,k2,k3,k5,lkC⟩:=cC.out
  refine wpAny_handleBy_cons (codeAny_handlers_test (Zs (X:=X.sut a) (J2.sut a) hg hm ?_ hdb)) (by intro q; cases q)
  obtain ⟨hp,g,dd,tk,os⟩:=s2
  refine LX.qiP US (J2.kIn _ _ lkC) (hS _ J2.kIn) ?_ hoe hcl ?_
  ·obtain ⟨cd,e1,e2⟩:=sC
   rw [hcdC] at e1
   cases e1
   rw [emC] at e2
   exact e2
  show codeAny _ _ _ _ _
  refine codeAny_handlers_suite_as (LX.Jw (s:=⟨h2,g,dd,tk,os⟩) fly2 fun h3 fly3 up3=>?_)
  have J3:Inv X pins σ1 H' ⟨h3,g,dd,tk,os⟩:=at_ h3 fly3 (up2.trans up3)
  obtain ⟨oe,vs,T,oT,tsr,⟨hoe,hcl,hdi,hda,_⟩,_⟩:=fly3.tr
  obtain ⟨oec,oed,oedt,oes⟩:=oe
  cases hcl
  cases hdi
  cases hda
  have notIn:∀ b o,s1.heap.get? b=some o->b≠a:=fun b o q z=>by
   subst z
   by_cases hb:b∈frs X.stack
   ·obtain ⟨ob,qb⟩:∃ ob,hp.get? b=some ob:=un.there b o q (by simp)
    obtain ⟨oe2,vs2,_,_,_,⟨z1,_,_,z4,_⟩,_⟩:=fly.tr
    exact nof b hb oe2 z1 vs2 z4
   ·obtain ⟨o',eo⟩:=c1 b o q hb
    rw [fly.nw] at eo
    cases eo
  have K3:Inv X pins (List.replicate X.N.length none) (upd H' a (XOb a C vs (some dx))) ⟨h3,g,dd,tk,os⟩:=by
   refine (qdc J3).track hna ?_ ?_ ?_ ?_ (qfF hoe)
   ·cases q0:X.s_0.heap.get? a with
    | none=>rfl
    | some o=>
     obtain ⟨o1,q1⟩:=I1.base.there a o q0 (by show a∉X.ex; rw [hex]; simp)
     exact absurd rfl (notIn a o1 q1)
   ·intro z
    obtain ⟨m,⟨o,_,_,ho,_⟩,_⟩:=I1.loc
    exact notIn _ o ho z.symm
   ·intro x c q z
    obtain ⟨v,o,ho,_⟩:=I1.cell x c q
    exact notIn _ o ho z
   ·intro p hp' z
    exact notIn _ _ (I1.pin p (List.mem_append_left _ hp')).1 z
  have rdy:=suit a vs hna
  refine qaJ (X:=X.sut a) (K3.sut a) hN hi (.inl hl) (v:=V.ref a) rfl (fun s5 I5=>?_) (.inr hl)
  refine wpAny_mono (hs a pins s5 _ _ _ I5 rdy) (fun f s6 q=>?_) fun _ _ z=>z.elim
  show wpAny (model X.prog X.w) X.A (do bindName X.env n .none; unbindBehindTheSuite X.env n hpos) (fun _ s7=>SP X pins D f s7) X.xe s6
  cases f with
  | next=>obtain ⟨_,_,_,z⟩:=q; exact z.elim
  | brk=>obtain ⟨_,_,_,z⟩:=q; exact z.elim
  | cont=>obtain ⟨_,_,_,z⟩:=q; exact z.elim
  | ret u=>
   obtain ⟨v,σ6,H6,I6,rv,q6⟩:=q
   have I6':Inv X pins (List.replicate X.N.length none) H6 s6:=qdc (I6.unsut I.ok.hd)
   obtain ⟨m,hn,_⟩:=id I6'.loc
   refine wpAny_nameGoes (m:=m) hl hn (by rw [I.ok.kind]; rfl) fun h7 m7 hn7 sb7=>⟨v,List.replicate X.N.length none,H6,?_,rv,q6⟩
   exact I6'.gone hn7 sb7
 ·cases f with
  | next=>exact wpAny_execs_nil q.untr
  | ret v=>exact q.untr
  | brk=>exact q.untr
  | cont=>exact q.untr
end L2
end
section
section
namespace L2
open PySem PySem.Spec PyProof.Rows
open PySem.W (WData Codec OpenSpec Well WellAll ReadsW ReadsAllW)
mutual
inductive Dw (K:PySem.W.Frag) (H:Hp):V->WData->Prop
 | non:Dw K H .non .none
 | bl (b:Bool):Dw K H (.bl b) (.bool b)
 | int (i:Int):Dw K H (.int i) (.int i)
 | str (x:Str):Dw K H (.str x) (.str x)
 | byt (b:Array UInt8):Dw K H (.byt b) (.bytes b.toList)
 | lst {a:Addr} {xs:List V} {ds:List WData}:SqL K H a xs->Zj K H xs ds->Dw K H (.ref a) (.list ds)
 | tup {a:Addr} {xs:List V} {ds:List WData}:SqT K H a xs->Zj K H xs ds->Dw K H (.ref a) (.tuple ds)
inductive Zj (K:PySem.W.Frag) (H:Hp):List V->List WData->Prop
 | nil:Zj K H [] []
 | cons {v:V} {vs:List V} {d:WData} {ds:List WData}:Dw K H v d->Zj K H vs ds->Zj K H (v::vs) (d::ds)
end
theorem qhm {K:PySem.W.Frag} {H:Hp}:∀ ns:List Int,Zj K H (ns.map V.int) (ns.map WData.int)
 | []=>.nil
 | n::r=>.cons (.int n) (qhm r)
theorem qdL {K:PySem.W.Frag} {H:Hp}:∀ (ns:List Int) (xs:List V),Zj K H xs (ns.map WData.int)->xs=ns.map V.int
 | [],xs,h=>by
  cases h
  rfl
 | n::r,xs,h=>by
  cases h with
  | cons h1 h2=>
   cases h1
   rw [qdL r _ h2] <;> rfl
section
variable {P:Program} {w:World} {K:PySem.W.Frag} {H:Hp} {h:Heap} {R:PySem.W.WRecords} {cl:Str->Option Addr}
theorem qnf {a:Addr} {xs:List V} (hok:HOk P w H h) (KX:K.In h) (q:SqL K H a xs):∃ (its:List Value) (o:Obj) (n:Nat),qE xs its/\h.get? a=some o/\o.cls=.type "list" /\ o.data=.seq its.toArray n:=by
 rcases q with q | ⟨o,its,n,e,hc,_,hd,_,hv⟩
 ·obtain ⟨_,its,n,hv,e⟩:=(show zm P w H h a (.lst xs) from q.ok hok)
  exact ⟨its,_,n,hv,e,rfl,rfl⟩
 ·exact ⟨its.toList,o,n,hv,KX _ _ e,hc,by simp [hd]⟩
theorem qng {a:Addr} {xs:List V} (hok:HOk P w H h) (KX:K.In h) (q:SqT K H a xs):∃ (its:List Value) (o:Obj) (n:Nat),qE xs its/\h.get? a=some o/\o.cls=.type "tuple" /\ o.data=.seq its.toArray n:=by
 rcases q with q | ⟨o,its,n,e,hc,hd,_,hv⟩
 ·obtain ⟨_,its,hv,o,e,hc,n,hd⟩:=(show zm P w H h a (.tup xs) from q.ok hok)
  exact ⟨its,o,n,hv,e,hc,hd⟩
 ·exact ⟨its.toList,o,n,hv,KX _ _ e,hc,by simp [hd]⟩
mutual
theorem Dw.reads (hok:HOk P w H h) (KX:K.In h):∀ (d:WData) (v:V) (u:Value),Dw K H v d->RelV v u->∃ as,ReadsW R cl h u d as
 | .none,_,_,x,r=>by
  cases x
  cases r
  exact ⟨_,ReadsW.none⟩
 | .bool b,_,_,x,r=>by
  cases x
  cases r
  exact ⟨_,ReadsW.bool b⟩
 | .int i,_,_,x,r=>by
  cases x
  obtain ⟨t,rfl⟩:=r
  exact ⟨_,ReadsW.int i t⟩
 | .str s,_,_,x,r=>by
  cases x
  obtain ⟨t,rfl⟩:=r
  exact ⟨_,ReadsW.str s t⟩
 | .bytes b,_,_,x,r=>by
  cases x
  obtain ⟨t,rfl⟩:=r
  exact ⟨_,ReadsW.bytes _ t⟩
 | .list ds,_,_,x,r=>by
  cases x with
  | lst hs ha=>
   cases r
   obtain ⟨its,o,n,rv,ho,hc,hd⟩:=qnf hok KX hs
   obtain ⟨as,hr⟩:=Dw.readsAll hok KX ds _ its ha rv
   exact ⟨_,ReadsW.list ho hc hd hr⟩
 | .tuple ds,_,_,x,r=>by
  cases x with
  | tup hs ha=>
   cases r
   obtain ⟨its,o,n,rv,ho,hc,hd⟩:=qng hok KX hs
   obtain ⟨as,hr⟩:=Dw.readsAll hok KX ds _ its ha rv
   exact ⟨_,ReadsW.tuple ho hc hd hr⟩
 | .float _,_,_,x,_=>by cases x
 | .dict _,_,_,x,_=>by cases x
 | .bytearray _,_,_,x,_=>by cases x
 | .set _,_,_,x,_=>by cases x
 | .frozenset _,_,_,x,_=>by cases x
 | .obj _ _,_,_,x,_=>by cases x
theorem Dw.readsAll (hok:HOk P w H h) (KX:K.In h):∀ (ds:List WData) (vs:List V) (us:List Value),Zj K H vs ds->qE vs us->∃ as,ReadsAllW R cl h us ds as
 | [],_,_,x,r=>by
  cases x
  cases r
  exact ⟨_,ReadsAllW.nil⟩
 | d::ds,_,_,x,r=>by
  cases x with
  | cons h1 h2=>
   cases r with
   | cons r1 r2=>
    obtain ⟨as,q1⟩:=Dw.reads hok KX d _ _ h1 r1
    obtain ⟨bs,q2⟩:=Dw.readsAll hok KX ds _ _ h2 r2
    exact ⟨_,ReadsAllW.cons q1 q2⟩
end
end
mutual
def plW:WData->Bool
 | .none=>true
 | .bool _=>true
 | .int _=>true
 | .str _=>true
 | .bytes _=>true
 | .list xs=>Jt xs
 | .tuple xs=>Jt xs
 | _=>false
def Jt:List WData->Bool
 | []=>true
 | x::r=>plW x&&Jt r
end
theorem qfH {α : Type} {f:α -> WData} (h:∀ a,plW (f a)=true):∀ l:List α,Jt (l.map f)=true
 | []=>rfl
 | x::r=>by
  show (plW (f x)&&Jt (r.map f))=true
  rw [h x,qfH h r] <;> rfl
theorem Jn:∀ (c:Codec) (a:c.denote),plW (c.enc a)=true
 | .unit,_=>rfl
 | .bool,_=>rfl
 | .int _ _,_=>rfl
 | .nat _ _,_=>rfl
 | .u8,_=>rfl
 | .bytes _ _,_=>rfl
 | .text _ _ _ _,_=>rfl
 | .list _ _ c,a=>qfH (fun x=>Jn c x) a
 | .pair c d,a=>by
  show (plW (c.enc a.1)&&(plW (d.enc a.2)&&true))=true
  rw [Jn c a.1,Jn d a.2] <;> rfl
 | .triple c d e,a=>by
  show (plW (c.enc a.1)&&(plW (d.enc a.2.1)&&(plW (e.enc a.2.2)&&true)))=true
  rw [Jn c a.1,Jn d a.2.1,Jn e a.2.2] <;> rfl
 | .option c,none=>rfl
 | .option c,some x=>Jn c x
theorem qex:∀ (cs:List Codec) (a:Codec.denoteAll cs),Jt (Codec.encAll cs a)=true
 | [],_=>rfl
 | c::cs,a=>by
  show (plW (c.enc a.1)&&Jt (Codec.encAll cs a.2))=true
  rw [Jn c a.1,qex cs a.2] <;> rfl
theorem qaS:∀ {xs:List WData} {d:WData},d∈xs->d.weight<=WData.weightAll xs
 | [],d,h=>absurd h (by simp)
 | x::r,d,h=>by
  show d.weight<=x.weight+1+WData.weightAll r
  rcases List.mem_cons.mp h with e | m
  ·rw [e]
   omega
  ·have z:=qaS m
   omega
def toV:Value->V
 | .none=>.non
 | .bool b=>.bl b
 | .int i _=>.int i
 | .str x _=>.str x
 | .bytes b _=>.byt b
 | .ref a=>.ref a
 | _=>.non
def OkU (A:List Addr):Value->Prop
 | .none=>True
 | .bool _=>True
 | .int _ _=>True
 | .str _ _=>True
 | .bytes _ _=>True
 | .ref a=>a∈A
 | _=>False
theorem OkU.mono {A B:List Addr} (h:∀ a∈A,a∈B):∀ {u:Value},OkU A u->OkU B u:=fun {u} x=>by
 cases u with
 | ref a=>exact h a x
 | none=>trivial
 | bool b=>trivial
 | int i t=>trivial
 | str s t=>trivial
 | bytes b t=>trivial
 | _=>exact False.elim x
theorem qkQ {A:List Addr} {u:Value} (x:OkU A u):RelV (toV u) u:=by
 cases u with
 | ref a=>rfl
 | none=>rfl
 | bool b=>rfl
 | int i t=>exact ⟨t,rfl⟩
 | str s t=>exact ⟨t,rfl⟩
 | bytes b t=>exact ⟨t,rfl⟩
 | _=>exact False.elim x
theorem ZZ {A:List Addr}:∀ {vs:List Value},(∀ u∈vs,OkU A u)->qE (vs.map toV) vs
 | [],_=>.nil
 | u::r,h=>.cons (qkQ (h u (List.mem_cons_self ..))) (ZZ fun x hx=>h x (List.mem_cons_of_mem _ hx))
def Zk (h:Heap) (A:List Addr) (a:Addr):Prop:=∃ vs:List Value,vs.length<=sizeLine/\(∀ u∈vs,OkU A u) /\
 (h.get? a=some { cls:=.type "list",data:=.seq vs.toArray } \/ h.get? a=some { cls:=.type "tuple",data:=.seq vs.toArray })
theorem Zk.mono {h:Heap} {A B:List Addr} {a:Addr} (k:∀ a∈A,a∈B) (x:Zk h A a):Zk h B a:=by
 obtain ⟨vs,h1,h2,h3⟩:=x
 exact ⟨vs,h1,fun u hu=>(h2 u hu).mono k,h3⟩
theorem Jc {P:Params} {h:Heap}:∀ {vs:List Value} {ds:List WData},WellAll P h vs ds->vs.length=ds.length
 | _,_,.nil=>rfl
 | _,_,.cons _ b=>by
  show _+1=_+1
  rw [Jc b]
theorem qey {P:Params} {h:Heap} {v:Value} {ds:List WData} (x:Well P h v (.list ds)):∃ (a:Addr) (vs:List Value),v=.ref a/\h.get? a=some { cls:=.type "list",data:=.seq vs.toArray }/\WellAll P h vs ds:=by
 cases x with
 | list ho hall=>exact ⟨_,_,rfl,ho,hall⟩
theorem qdd {P:Params} {h:Heap} {v:Value} {ds:List WData} (x:Well P h v (.tuple ds)):∃ (a:Addr) (vs:List Value),v=.ref a/\h.get? a=some { cls:=.type "tuple",data:=.seq vs.toArray }/\WellAll P h vs ds:=by
 cases x with
 | tuple ho hall=>exact ⟨_,_,rfl,ho,hall⟩
theorem qez {P:Params} {h:Heap} {us:List Value} {d:WData} {ds:List WData} (x:WellAll P h us (d::ds)):∃ (v:Value) (vs:List Value),us=v::vs/\Well P h v d/\WellAll P h vs ds:=by
 cases x with
 | cons a b=>exact ⟨_,_,rfl,a,b⟩
theorem qhn {n:Nat} (h:n<=1048576):n<=sizeLine:=Nat.le_trans h (by decide)
section
variable {P:Params} {h:Heap}
mutual
theorem qkR:∀ (d:WData) (v:Value),Well P h v d->plW d=true->d.weight<=1048576->∃ A:List Addr,OkU A v/\∀ a∈A,Zk h A a
 | .none,_,x,_,_=>by
  cases x
  exact ⟨[],trivial,fun a m=>absurd m (by simp)⟩
 | .bool b,_,x,_,_=>by
  cases x
  exact ⟨[],trivial,fun a m=>absurd m (by simp)⟩
 | .int i,_,x,_,_=>by
  cases x
  exact ⟨[],trivial,fun a m=>absurd m (by simp)⟩
 | .str s,_,x,_,_=>by
  cases x
  exact ⟨[],trivial,fun a m=>absurd m (by simp)⟩
 | .bytes b,_,x,_,_=>by
  cases x
  exact ⟨[],trivial,fun a m=>absurd m (by simp)⟩
 | .list ds,_,x,p,z=>by
  obtain ⟨a,vs,rfl,ho,hall⟩:=qey x
  have z2:WData.weightAll ds<=1048576:=z
  obtain ⟨A,h1,h2⟩:=qaT ds _ hall p fun d hd=>Nat.le_trans (qaS hd) z2
  have k:∀ b∈A,b∈a::A:=fun b hb=>List.mem_cons_of_mem _ hb
  refine ⟨a::A,List.mem_cons_self ..,fun b hb=>?_⟩
  rcases List.mem_cons.mp hb with e | m
  ·rw [e]
   exact ⟨vs,qhn (by rw [Jc hall]; exact Nat.le_trans (PySem.W.length_le_weightAllW ds) z2),fun u hu=>(h1 u hu).mono k,.inl ho⟩
  ·exact (h2 b m).mono k
 | .tuple ds,_,x,p,z=>by
  obtain ⟨a,vs,rfl,ho,hall⟩:=qdd x
  have z2:WData.weightAll ds<=1048576:=z
  obtain ⟨A,h1,h2⟩:=qaT ds _ hall p fun d hd=>Nat.le_trans (qaS hd) z2
  have k:∀ b∈A,b∈a::A:=fun b hb=>List.mem_cons_of_mem _ hb
  refine ⟨a::A,List.mem_cons_self ..,fun b hb=>?_⟩
  rcases List.mem_cons.mp hb with e | m
  ·rw [e]
   exact ⟨vs,qhn (by rw [Jc hall]; exact Nat.le_trans (PySem.W.length_le_weightAllW ds) z2),fun u hu=>(h1 u hu).mono k,.inr ho⟩
  ·exact (h2 b m).mono k
 | .float _,_,_,p,_=>Bool.noConfusion (show false=true from p)
 | .dict _,_,_,p,_=>Bool.noConfusion (show false=true from p)
 | .bytearray _,_,_,p,_=>Bool.noConfusion (show false=true from p)
 | .set _,_,_,p,_=>Bool.noConfusion (show false=true from p)
 | .frozenset _,_,_,p,_=>Bool.noConfusion (show false=true from p)
 | .obj _ _,_,_,p,_=>Bool.noConfusion (show false=true from p)
theorem qaT:∀ (ds:List WData) (vs:List Value),WellAll P h vs ds->Jt ds=true->(∀ d∈ds,d.weight<=1048576)->∃ A:List Addr,(∀ u∈vs,OkU A u)/\∀ a∈A,Zk h A a
 | [],_,x,_,_=>by
  cases x
  exact ⟨[],fun u m=>absurd m (by simp),fun a m=>absurd m (by simp)⟩
 | d::ds,_,x,p,z=>by
  obtain ⟨v,vs,rfl,x1,x2⟩:=qez x
  have q:plW d=true/\Jt ds=true:=Bool.and_eq_true_iff.mp p
  obtain ⟨A,a1,a2⟩:=qkR d v x1 q.1 (z d (List.mem_cons_self ..))
  obtain ⟨B,b1,b2⟩:=qaT ds vs x2 q.2 fun e he=>z e (List.mem_cons_of_mem _ he)
  have kA:∀ b∈A,b∈A++B:=fun b hb=>List.mem_append.mpr (.inl hb)
  have kB:∀ b∈B,b∈A++B:=fun b hb=>List.mem_append.mpr (.inr hb)
  refine ⟨A++B,fun u hu=>?_,fun b hb=>?_⟩
  ·rcases List.mem_cons.mp hu with e | m
   ·rw [e]
    exact a1.mono kA
   ·exact (b1 u m).mono kB
  ·rcases List.mem_append.mp hb with m | m
   ·exact (a2 b m).mono kA
   ·exact (b2 b m).mono kB
end
end
def qh2 (o:Obj):Option HO:=match o.data with
 | .seq vs _=>if (o.cls == Value.type "list")=true then some (.frz o (.lst (vs.toList.map toV))) else some (.frz o (.tup (vs.toList.map toV)))
 | _=>none
def Qp (K:PySem.W.Frag) (h:Heap) (A:List Addr):Hp:=fun b=>if b∈A then (if (K.lookup b).isNone=true then (h.get? b).bind qh2 else none) else none
def qde (H:Hp):Prop:=∀ b,H b=none \/ ∃ o u,H b=some (.frz o u)
theorem qfI (vs:List Value):qh2 { cls:=.type "list",data:=.seq vs.toArray }=some (.frz { cls:=.type "list",data:=.seq vs.toArray } (.lst (vs.map toV))):=by
 show (if (Value.type "list" == Value.type "list")=true then some (HO.frz { cls:=.type "list",data:=.seq vs.toArray } (.lst (vs.toArray.toList.map toV))) else some (HO.frz { cls:=.type "list",data:=.seq vs.toArray } (.tup (vs.toArray.toList.map toV))))=_
 rw [if_pos (beq_self_eq_true _)]
theorem qfJ (vs:List Value):qh2 { cls:=.type "tuple",data:=.seq vs.toArray }=some (.frz { cls:=.type "tuple",data:=.seq vs.toArray } (.tup (vs.map toV))):=by
 show (if (Value.type "tuple" == Value.type "list")=true then some (HO.frz { cls:=.type "tuple",data:=.seq vs.toArray } (.lst (vs.toArray.toList.map toV))) else some (HO.frz { cls:=.type "tuple",data:=.seq vs.toArray } (.tup (vs.toArray.toList.map toV))))=_
 rw [if_neg (by decide)]
section
variable {P:Program} {w:World} {K:PySem.W.Frag} {h:Heap} {A:List Addr}
theorem qch {b:Addr} {o:Obj} (hb:b∈A) (hk:K.lookup b=none) (e:h.get? b=some o):Qp K h A b=qh2 o:=by
 unfold Qp
 rw [if_pos hb,hk,if_pos (show (none:Option Obj).isNone=true from rfl),e] <;> rfl
theorem qmc {b:Addr} {u:HO} (q:Qp K h A b=some u):b∈A/\K.lookup b=none:=by
 unfold Qp at q
 by_cases hb:b∈A
 ·rw [if_pos hb] at q
  cases hk:K.lookup b with
  | none=>exact ⟨hb,rfl⟩
  | some o=>
   rw [hk,if_neg (by simp)] at q
   cases q
 ·rw [if_neg hb] at q
  cases q
theorem qci (ar:∀ a∈A,Zk h A a) {b:Addr} {u:HO} (q:Qp K h A b=some u):K.lookup b=none/\∃ vs:List Value,vs.length<=sizeLine/\(∀ u∈vs,OkU A u) /\
  ((h.get? b=some { cls:=.type "list",data:=.seq vs.toArray }/\u=.frz { cls:=.type "list",data:=.seq vs.toArray } (.lst (vs.map toV))) \/
   (h.get? b=some { cls:=.type "tuple",data:=.seq vs.toArray }/\u=.frz { cls:=.type "tuple",data:=.seq vs.toArray } (.tup (vs.map toV)))):=by
 obtain ⟨hb,hk⟩:=qmc q
 obtain ⟨vs,h1,h2,h3⟩:=ar b hb
 refine ⟨hk,vs,h1,h2,?_⟩
 rcases h3 with e | e
 ·rw [qch hb hk e,qfI] at q
  exact .inl ⟨e,(Option.some.inj q).symm⟩
 ·rw [qch hb hk e,qfJ] at q
  exact .inr ⟨e,(Option.some.inj q).symm⟩
theorem qjg (ar:∀ a∈A,Zk h A a):qde (Qp K h A):=fun b=>by
 cases q:Qp K h A b with
 | none=>exact .inl rfl
 | some u=>
  obtain ⟨_,vs,_,_,⟨_,e⟩ | ⟨_,e⟩⟩:=qci ar q
  ·exact .inr ⟨_,_,by rw [e]⟩
  ·exact .inr ⟨_,_,by rw [e]⟩
theorem qmd (ar:∀ a∈A,Zk h A a):HOk P w (Qp K h A) h:=fun b u q=>by
 obtain ⟨_,vs,h1,h2,⟨e,rfl⟩ | ⟨e,rfl⟩⟩:=qci ar q
 ·exact ⟨e,by rw [List.length_map]; exact h1,vs,_,ZZ h2,e⟩
 ·exact ⟨e,by rw [List.length_map]; exact h1,vs,ZZ h2,_,e,rfl,_,rfl⟩
theorem qcj {c c':Value} {vs us:List Value} (e:(some { cls:=c,data:=.seq vs.toArray }:Option Obj)=some { cls:=c',data:=.seq us.toArray }):c=c'/\vs=us:=by
 have e1:=Option.some.inj e
 have e2:c=c':=congrArg Obj.cls e1
 have e3:Data.seq vs.toArray=Data.seq us.toArray:=congrArg Obj.data e1
 injection e3 with e4
 refine ⟨e2,?_⟩
 have e5:=congrArg Array.toList e4
 simpa using e5
theorem qou (KX:K.In h) (ar:∀ a∈A,Zk h A a) {a:Addr} {vs:List Value} (ha:a∈A) (e:h.get? a=some { cls:=.type "list",data:=.seq vs.toArray }):(∀ u∈vs,OkU A u)/\SqL K (Qp K h A) a (vs.map toV):=by
 obtain ⟨us,h1,h2,h3⟩:=ar a ha
 have hu:us=vs:=by
  rcases h3 with q | q
  ·rw [e] at q
   exact (qcj q).2.symm
  ·rw [e] at q
   exact absurd (Value.type.inj (qcj q).1) (by decide)
 subst hu
 refine ⟨h2,?_⟩
 cases hk:K.lookup a with
 | none=>exact .inl (.inr ⟨_,by rw [qch ha hk e,qfI]⟩)
 | some o=>
  have e2:=KX a o hk
  rw [e] at e2
  obtain rfl:=Option.some.inj e2
  exact .inr ⟨_,us.toArray,_,hk,rfl,rfl,rfl,by rw [List.size_toArray]; exact h1,by simpa using ZZ h2⟩
theorem qov (KX:K.In h) (ar:∀ a∈A,Zk h A a) {a:Addr} {vs:List Value} (ha:a∈A) (e:h.get? a=some { cls:=.type "tuple",data:=.seq vs.toArray }):(∀ u∈vs,OkU A u)/\SqT K (Qp K h A) a (vs.map toV):=by
 obtain ⟨us,h1,h2,h3⟩:=ar a ha
 have hu:us=vs:=by
  rcases h3 with q | q
  ·rw [e] at q
   exact absurd (Value.type.inj (qcj q).1) (by decide)
  ·rw [e] at q
   exact (qcj q).2.symm
 subst hu
 refine ⟨h2,?_⟩
 cases hk:K.lookup a with
 | none=>exact .inl (.inr ⟨_,by rw [qch ha hk e,qfJ]⟩)
 | some o=>
  have e2:=KX a o hk
  rw [e] at e2
  obtain rfl:=Option.some.inj e2
  exact .inr ⟨_,us.toArray,_,hk,rfl,rfl,by rw [List.size_toArray]; exact h1,by simpa using ZZ h2⟩
mutual
theorem qnh {Pm:Params} (KX:K.In h) (ar:∀ a∈A,Zk h A a):∀ (d:WData) (v:Value),Well Pm h v d->plW d=true->OkU A v->Dw K (Qp K h A) (toV v) d
 | .none,_,x,_,_=>by
  cases x
  exact .non
 | .bool b,_,x,_,_=>by
  cases x
  exact .bl b
 | .int i,_,x,_,_=>by
  cases x
  exact .int i
 | .str s,_,x,_,_=>by
  cases x
  exact .str s
 | .bytes b,_,x,_,_=>by
  cases x
  have z:=Dw.byt (K:=K) (H:=Qp K h A) b.toArray
  exact z
 | .list ds,_,x,p,hu=>by
  obtain ⟨a,vs,rfl,ho,hall⟩:=qey x
  obtain ⟨h2,hs⟩:=qou KX ar hu ho
  exact .lst hs (qdf KX ar ds _ hall p h2)
 | .tuple ds,_,x,p,hu=>by
  obtain ⟨a,vs,rfl,ho,hall⟩:=qdd x
  obtain ⟨h2,hs⟩:=qov KX ar hu ho
  exact .tup hs (qdf KX ar ds _ hall p h2)
 | .float _,_,_,p,_=>Bool.noConfusion (show false=true from p)
 | .dict _,_,_,p,_=>Bool.noConfusion (show false=true from p)
 | .bytearray _,_,_,p,_=>Bool.noConfusion (show false=true from p)
 | .set _,_,_,p,_=>Bool.noConfusion (show false=true from p)
 | .frozenset _,_,_,p,_=>Bool.noConfusion (show false=true from p)
 | .obj _ _,_,_,p,_=>Bool.noConfusion (show false=true from p)
theorem qdf {Pm:Params} (KX:K.In h) (ar:∀ a∈A,Zk h A a):∀ (ds:List WData) (vs:List Value),WellAll Pm h vs ds->Jt ds=true->(∀ u∈vs,OkU A u)->Zj K (Qp K h A) (vs.map toV) ds
 | [],_,x,_,_=>by
  cases x
  exact .nil
 | d::ds,_,x,p,hu=>by
  obtain ⟨v,vs,rfl,x1,x2⟩:=qez x
  have q:plW d=true/\Jt ds=true:=Bool.and_eq_true_iff.mp p
  exact .cons (qnh KX ar d v x1 q.1 (hu _ (List.mem_cons_self ..))) (qdf KX ar ds vs x2 q.2 fun u m=>hu u (List.mem_cons_of_mem _ m))
end
end
theorem qjh {P:Program} {w:World} {K:PySem.W.Frag} {mg mb:Str->Option Value} {CX:CXT} {k:Nat} {fa:Addr} {fd:FuncData} {ps:List Str} {sp:Sp} {s₁ : Shared} {vals:List Value} {ds:List WData} {R:PySem.W.WRecords} {cl:Str->Option Addr} {d0:WData}
  (KX:K.In s₁.heap) (hns:s₁.heap.Ns mainGlobals mg) (hb:s₁.heap.Ns builtinsNs mb) (hbb:∀ x:Str,x ≠ "__name__" -> mb x=bootBuiltins x) (hlim:s₁.heap.NoLimit) (hg:s₁.gens = #[])
  (hwl:WellAll w.params s₁.heap vals ds) (hpl:Jt ds=true) (hwt:∀ d∈ds,d.weight<=1048576) (hr:qN k callerA)
  (F:∀ base:Heap,K.In base->base.Ns mainGlobals mg->qw P w K mg base CX k fa fd ps sp) (hbind:∀ (s:Shared) (us:List Value),us.length=ps.length->BindsTo s fd ⟨us,[]⟩ (ps.zip us)) (hlen:ds.length=ps.length)
  (hsp:∀ (H:Hp) (xs:List V),qde H->Zj K H xs ds->sp xs H (fun v H'=>Dw K H' v d0) fun _ _ _=>False)
  (hCX:∀ H e s',CX [] H s₁ (fun _ _ _=>False) e s'->False) :
  codeAny (model P w) callerA (.call (.ref fa) ⟨vals,[]⟩) (fun r s'=>∃ u as,r=.ok (.ret u)/\ReadsW R cl s'.heap u d0 as/\OldK s₁.heap s'.heap/\s'.os=s₁.os/\AllBare s'.gens) s₁:=by
 obtain ⟨A,ho,ar⟩:=qaT ds vals hwl hpl hwt
 have hO:qde (Qp K s₁.heap A):=qjg ar
 have hok:HOk P w (Qp K s₁.heap A) s₁.heap:=qmd ar
 have hS:=qdf KX ar ds vals hwl hpl ho
 have hV:=ZZ ho
 have hK:∀ b u,Qp K s₁.heap A b=some u->K.lookup b=none:=fun b u q=>(qci ar q).1
 have noA:∀ {b:Addr} {o:Obj} {es:Array DictEntry} {ep:Nat},s₁.heap.get? b=some o->o.data=.dict es ep->Qp K s₁.heap A b=none:=fun {b o es ep} e d=>by
  cases q:Qp K s₁.heap A b with
  | none=>rfl
  | some u=>
   obtain ⟨_,vs,_,_,⟨e2,_⟩ | ⟨e2,_⟩⟩:=qci ar q
   ·rw [e2] at e
    cases e
    have d':Data.seq vs.toArray _=Data.dict es ep:=d
    cases d'
   ·rw [e2] at e
    cases e
    have d':Data.seq vs.toArray _=Data.dict es ep:=d
    cases d'
 generalize Qp K s₁.heap A=H at hO hok hS hK noA
 have base_of:∀ {b:Addr} {o:Obj},s₁.heap.get? b=some o->H b=none->(qaI s₁.heap H).get? b=some o:=fun e n=>qkq e n
 have nsK:∀ {b:Addr} {m:Str->Option Value},s₁.heap.Ns b m->(qaI s₁.heap H).Ns b m:=fun {b m} ⟨o,es,ep,e,d,r⟩=>⟨o,es,ep,base_of e (noA e d),d,r⟩
 have nK:∀ b o,K.lookup b=some o->H b=none:=fun b o e=>by
  cases q:H b with
  | none=>rfl
  | some u=>
   rw [hK b u q] at e
   cases e
 have hKb:K.In (qaI s₁.heap H):=fun b o e=>base_of (KX b o e) (nK b o e)
 have hM:Mod K mg (qaI s₁.heap H):=⟨hKb,nsK hns,⟨mb,nsK hb,hbb⟩,let ⟨mc,h1,h2⟩:=hlim; ⟨mc,nsK h1,h2⟩⟩
 have e0:qcL P w K mg (qaI s₁.heap H) callerA [] s₁ H:=⟨rfl,hM,fun b o e=>qlS e,Nat.le_of_eq (qiS _ _),trivial,fun b hb=>absurd (show b∈([]:List Addr) from hb) (by simp),hok,.of_eq hg⟩
 have hl:vals.length=ps.length:=by rw [Jc hwl]; exact hlen
 refine codeAny_mono ((F _ hKb (nsK hns)).run callerA [] s₁ H ⟨vals,[]⟩ vals (vals.map toV) _ _ hr e0 (hbind s₁ vals hl) hV (hsp H _ hO hS)) fun r s' x=>?_
 cases r with
 | error e=>exact (hCX H e s' x).elim
 | ok fl=>
  cases fl with
  | next=>exact False.elim x
  | brk=>exact False.elim x
  | cont=>exact False.elim x
  | ret u=>
   obtain ⟨v,H',os,bare,un,hok',r',q⟩:=x
   have kept:∀ b o,s₁.heap.get? b=some o->s'.heap.get? b=some o:=fun b o e=>by
    cases q2:H b with
    | none=>exact un.keep b o e q2 (by intro z; exact absurd (show b∈([]:List Addr) from z) (by simp)) (by simp)
    | some u2=>
     rcases hO b with z | ⟨ob,u3,z⟩
     ·rw [q2] at z
      cases z
     ·have z2:=un.frzs b ob _ z
      obtain ⟨e1,_⟩:=hok b _ z
      obtain ⟨e2,_⟩:=hok' b _ z2
      rw [e] at e1
      cases e1
      exact e2
   have KX':K.In s'.heap:=fun b o e=>kept b o (KX b o e)
   obtain ⟨as,hrd⟩:=Dw.reads (R:=R) (cl:=cl) hok' KX' d0 v u q r'
   exact ⟨u,as,rfl,hrd,OldK.of_keep kept,os,bare⟩
theorem qdM {ds:List WData} (h:WData.layableAll ds=true):∀ d∈ds,d.weight<=1048576:=fun d hd=>
 (PySem.W.layableW_iff.mp (List.all_eq_true.mp h d hd)).2.2
theorem qdg:∀ (cs:List Codec) (a:Codec.denoteAll cs),(Codec.encAll cs a).length=cs.length
 | [],_=>rfl
 | c::cs,a=>by
  show (Codec.encAll cs a.2).length+1=cs.length+1
  rw [qdg cs a.2]
theorem qji {r:OpenSpec} {k:Nat} {q:Program} {loose:List Str} {XP:(Str->Option Value)->Heap->Prop} {YP:World->Heap->Prop} {d:DefRec} {K:Params->PySem.W.Frag} {CX:World->CXT} {ps:List Str} {sp:World->Sp}
  (hwell:r.wellSaid=true) (hdf:d.params.defaults=[]) (hlen:r.args.length=ps.length) (hr:qN k callerA)
  (hY:∀ (w:World) (h:Heap),YP w h->(K w.params).In h)
  (F:∀ (w:World) (mg:Str->Option Value) (fa:Addr) (h:Heap),YP w h->(K w.params).In h->h.Ns mainGlobals mg->mg d.name=some (.ref fa) ->
   ∃ fd:FuncData,(∀ (s:Shared) (us:List Value),us.length=ps.length->BindsTo s fd ⟨us,[]⟩ (ps.zip us)) /\
    ∀ base:Heap,(K w.params).In base->base.Ns mainGlobals mg->qw r.prog w (K w.params) mg base (CX w) k fa fd ps (sp w))
  (hsp:∀ (w:World) (H:Hp) (xs:List V) (a:Codec.denoteAll r.args),qde H->Codec.withinAll r.args a=true->Codec.app r.args r.asked a=true->Zj (K w.params) H xs (Codec.encAll r.args a) ->
   sp w xs H (fun v H'=>Dw (K w.params) H' v (r.ret.enc (Codec.app r.args r.f a))) fun _ _ _=>False)
  (hCX:∀ (w:World) (H:Hp) (s:Shared) (e:Value) (s':Shared),CX w [] H s (fun _ _ _=>False) e s'->False) :
  PySem.W.WalkOS q loose XP YP r d [] (fun f vs=>PySem.call f vs):=by
 intro w s_0 s₁ mg mb G Y fa o pm cd doc dV kV ho hd hcd hD hmg hg args vals as hpre hlay hrd hwl hlo
 obtain ⟨a,e1,e2⟩:=PySem.W.os_pre_some hpre
 obtain ⟨e3,hwi⟩:=Codec.encAll_of_decAll r.args args a e1
 subst e3
 have KX:=hY w _ Y
 obtain ⟨fd,hb,hF⟩:=F w mg fa _ Y KX G.T.g hmg
 refine PySem.W.enter_call (codeAny_mono (qjh (R:=[]) (cl:=classAt s_0.heap) (d0:=r.ret.enc (Codec.app r.args r.f a)) KX G.T.g G.T.b G.T.builtins G.T.nolimit hg hwl (qex _ _) (qdM hlay) hr hF hb (by rw [qdg]; exact hlen)
  (fun H xs hO hS=>hsp w H xs a hO hwi e2 hS) fun H e s'=>hCX w H s₁ e s') fun r' s' hq=>?_)
 obtain ⟨u,as',rfl,h1,h2,h3,h4⟩:=hq
 exact ⟨.inl ⟨u,_,as',rfl,fun _=>rfl,h1,(OpenSpec.post_iff hwell hwi _ _).mpr rfl,fun z=>Bool.noConfusion (show false=true from z)⟩,h2,h3,h4⟩
theorem qh3 {r:OpenSpec} {k:Nat} {q:Program} {loose:List Str} {XP:(Str->Option Value)->Heap->Prop} {YP:World->Heap->Prop} {d:DefRec} {K:Params->PySem.W.Frag} {CX:CXT} {ps:List Str} {sp:PySem.W.Frag->Sp}
  (hwell:r.wellSaid=true) (hdf:d.params.defaults=[]) (hlen:r.args.length=ps.length) (hr:qN k callerA)
  (hY:∀ (w:World) (h:Heap),YP w h->(K w.params).In h)
  (F:∀ (w:World) (mg:Str->Option Value) (fa:Addr) (h:Heap),YP w h->(K w.params).In h->h.Ns mainGlobals mg->mg d.name=some (.ref fa) ->
   ∃ fd:FuncData,(∀ (s:Shared) (us:List Value),us.length=ps.length->BindsTo s fd ⟨us,[]⟩ (ps.zip us)) /\
    ∀ base:Heap,(K w.params).In base->base.Ns mainGlobals mg->qw r.prog w (K w.params) mg base CX k fa fd ps (sp (K w.params)))
  (hsp:∀ (K:PySem.W.Frag) (H:Hp) (xs:List V) (a:Codec.denoteAll r.args),qde H->Codec.withinAll r.args a=true->Codec.app r.args r.asked a=true->Zj K H xs (Codec.encAll r.args a) ->
   sp K xs H (fun v H'=>Dw K H' v (r.ret.enc (Codec.app r.args r.f a))) fun _ _ _=>False)
  (hCX:∀ (H:Hp) (s:Shared) (e:Value) (s':Shared),CX [] H s (fun _ _ _=>False) e s'->False) :
  PySem.W.WalkOS q loose XP YP r d [] (fun f vs=>PySem.call f vs) :=
 qji (K:=K) (CX:=fun _=>CX) (sp:=fun w=>sp (K w.params)) hwell hdf hlen hr hY F (fun w H xs a h1 h2 h3 h4=>hsp (K w.params) H xs a h1 h2 h3 h4) fun _ H s e s'=>hCX H s e s'
end L2
end
end
section
set_option autoImplicit false
namespace RM
open Vastoa
def kd:Tok->Tok
 | .name _=>.name []
 | .num _=>.num []
 | .piece _=>.piece []
 | t=>t
def held:Tok->Text
 | .name x=>x
 | .num x=>x
 | .piece x=>x
 | .word x=>x
 | _=>[]
inductive Part where
 | EXPR | FORM | FUNCTION | FIELDS | PARAMS | GIVEN | MPARAMS | BINDS | BOUND | OR | MOR | AND | MAND | NOT | CMP | MCMP | UPD | MUPD | JOIN | MJOIN
 | SUM | MSUM | PROD | MPROD | NEG | APP | ARGS | ARG | SEL | DOTS | MDOTS | DFLT | ATOM | PIECES | LIST | MLIST
deriving DecidableEq
inductive Act where
 | begin | take | label | fresh | enter | leave
 | fin (k:Kind)
deriving DecidableEq
inductive Sym where
 | p (x:Part)
 | t (k:Tok)
 | a (x:Act)
deriving DecidableEq
abbrev jk:Tok:=.name []
abbrev qfK:Tok:=.num []
abbrev JQ:Tok:=.piece []
abbrev qfh:Tok:=.sign [46,46]
open Part Act Sym in
def qD (x:Part) (k:Tok):List Sym:=match x with
 | EXPR=>[a enter,p FORM,a leave]
 | FORM=>
  if k=.word wFn then [t (.word wFn),p FUNCTION]
  else if k=.word wLet then [t (.word wLet),a begin,t jk,p BOUND,p BINDS,t (.word wIn),p EXPR,a (fin .letIn)]
  else if k=.word wIf then [t (.word wIf),a begin,p EXPR,t (.word wThen),p EXPR,t (.word wElse),p EXPR,a (fin .cond)]
  else if k=.word wMust then [t (.word wMust),a begin,p EXPR,t sSemi,p EXPR,a (fin .must)]
  else [p OR]
 | FUNCTION=>
  if k=jk then [t jk,a begin,a label,t sColon,p EXPR,a (fin .fn)]
  else [t sBrace,a begin,p FIELDS]
 | FIELDS=>if k=sUnbrace then [t sUnbrace,t sColon,p EXPR,a (fin .fields)] else [p PARAMS]
 | PARAMS=>
  if k=qfh then [t qfh,t sUnbrace,t sColon,p EXPR,a (fin .openFields)]
  else [t jk,a fresh,a begin,a label,p GIVEN,a (fin .param),p MPARAMS]
 | GIVEN=>if k=sAsk then [t sAsk,p EXPR] else []
 | MPARAMS=>if k=sComma then [t sComma,p PARAMS] else [t sUnbrace,t sColon,p EXPR,a (fin .fields)]
 | BINDS=>if k=jk then [t jk,p BOUND,p BINDS] else []
 | BOUND=>[a fresh,a label,t sIs,p EXPR,t sSemi]
 | OR=>[p AND,p MOR]
 | MOR=>if k=.word wOr then [t (.word wOr),a take,p AND,a (fin (.op .or)),p MOR] else []
 | AND=>[p NOT,p MAND]
 | MAND=>if k=.word wAnd then [t (.word wAnd),a take,p NOT,a (fin (.op .and)),p MAND] else []
 | NOT=>if k=.word wNot then [t (.word wNot),a begin,p NOT,a (fin .not)] else [p CMP]
 | CMP=>[p UPD,p MCMP]
 | MCMP=>
  if k=.sign [61,61] then [t (.sign [61,61]),a take,p UPD,a (fin (.op .eq))]
  else if k=.sign [33,61] then [t (.sign [33,61]),a take,p UPD,a (fin (.op .ne))]
  else if k=.sign [60] then [t (.sign [60]),a take,p UPD,a (fin (.op .lt))]
  else if k=.sign [60,61] then [t (.sign [60,61]),a take,p UPD,a (fin (.op .le))]
  else if k=.word wHas then [t (.word wHas),a take,t jk,a label,a (fin .has)]
  else []
 | UPD=>[p JOIN,p MUPD]
 | MUPD=>if k=.sign [47,47] then [t (.sign [47,47]),a take,p UPD,a (fin (.op .upd))] else []
 | JOIN=>[p SUM,p MJOIN]
 | MJOIN=>if k=.sign [43,43] then [t (.sign [43,43]),a take,p JOIN,a (fin (.op .join))] else []
 | SUM=>[p PROD,p MSUM]
 | MSUM=>
  if k=.sign [43] then [t (.sign [43]),a take,p PROD,a (fin (.op .add)),p MSUM]
  else if k=sMinus then [t sMinus,a take,p PROD,a (fin (.op .sub)),p MSUM]
  else []
 | PROD=>[p NEG,p MPROD]
 | MPROD=>if k=.sign [42] then [t (.sign [42]),a take,p NEG,a (fin (.op .mul)),p MPROD] else []
 | NEG=>if k=sMinus then [t sMinus,a begin,p NEG,a (fin .neg)] else [p APP]
 | APP=>[p SEL,p ARGS]
 | ARGS=>if begins k then [p ARG,p ARGS] else []
 | ARG=>[a take,p SEL,a (fin .app)]
 | SEL=>[p ATOM,p DOTS]
 | DOTS=>if k=sDot then [t sDot,a take,t jk,a label,p MDOTS,p DFLT,a (fin .get)] else []
 | MDOTS=>if k=sDot then [t sDot,t jk,a label,p MDOTS] else []
 | DFLT=>if k=sAsk then [t sAsk,p ATOM] else []
 | ATOM=>
  if k=jk then [t jk,a begin,a label,a (fin .name)]
  else if k=qfK then [t qfK,a begin,a label,a (fin .num)]
  else if k=.word wTrue then [t (.word wTrue),a begin,a (fin .yes)]
  else if k=.word wFalse then [t (.word wFalse),a begin,a (fin .no)]
  else if k=.word wNone then [t (.word wNone),a begin,a (fin .none)]
  else if k=.quote then [t .quote,a begin,p PIECES,t .unquote,a (fin .text)]
  else if k=.sign [40] then [t (.sign [40]),p EXPR,t sClose]
  else if k=.sign [91] then [t (.sign [91]),a begin,p LIST,a (fin .list)]
  else if k=sBrace then [t sBrace,a begin,p BINDS,t sUnbrace,a (fin .record)]
  else [t (.word wRec),t sBrace,a begin,p BINDS,t sUnbrace,a (fin .recur)]
 | PIECES=>
  if k=JQ then [t JQ,a begin,a label,a (fin .piece),p PIECES]
  else if k=.hole then [t .hole,p EXPR,t .unhole,p PIECES]
  else []
 | LIST=>if k=sListClose then [t sListClose] else [p EXPR,p MLIST,t sListClose]
 | MLIST=>if k=sComma then [t sComma,p EXPR,p MLIST] else []
structure Bg where
 first:Nat
 labels:List Text
 names:List Text
structure MS where
 ts:Marks
 pv:Mark
 lv:Nat
 W:List Sym
 B:List Tree
 G:List Bg
def qaU (x:Act) (ts:Marks) (pv:Mark) (lv:Nat) (W:List Sym) (B:List Tree) (G:List Bg):Option (Except Fault MS):=match x with
 | .begin=>some (.ok ⟨ts,pv,lv,W,B,⟨B.length,[],[]⟩::G⟩)
 | .take=>if B.length=0 then none else some (.ok ⟨ts,pv,lv,W,B,⟨B.length - 1,[],[]⟩::G⟩)
 | .label=>match G with
  | []=>none
  | g::r=>some (.ok ⟨ts,pv,lv,W,B,⟨g.first,g.labels++[held pv.tok],g.names⟩::r⟩)
 | .fresh=>match G with
  | []=>none
  | g::r=>if held pv.tok∈g.names then some (.error ⟨5,pv.place⟩) else some (.ok ⟨ts,pv,lv,W,B,⟨g.first,g.labels,g.names++[held pv.tok]⟩::r⟩)
 | .enter=>match ts with
  | []=>none
  | m::_=>if lv=40 then some (.error ⟨4,m.place⟩) else some (.ok ⟨ts,pv,lv+1,W,B,G⟩)
 | .leave=>if lv=0 then none else some (.ok ⟨ts,pv,lv - 1,W,B,G⟩)
 | .fin k=>match G with
  | []=>none
  | g::r=>if g.first<=B.length then some (.ok ⟨ts,pv,lv,W,B.take g.first++[.node k g.labels (B.drop g.first)],r⟩) else none
def step (s:MS):Option (Except Fault MS):=match s.W with
 | []=>none
 | .p x::W=>match s.ts with
  | []=>none
  | m::_=>some (.ok { s with W:=qD x (kd m.tok)++W })
 | .t k::W=>match s.ts with
  | []=>none
  | m::r=>if kd m.tok=k then some (.ok ⟨r,m,s.lv,W,s.B,s.G⟩) else some (.error ⟨3,m.place⟩)
 | .a x::W=>qaU x s.ts s.pv s.lv W s.B s.G
inductive Run (Q:MS->Prop) (E:Fault->Prop):MS->Prop
 | done {s:MS}:Q s->Run Q E s
 | next {s s':MS}:step s=some (.ok s')->Run Q E s'->Run Q E s
 | fail {s:MS} {x:Fault}:step s=some (.error x)->E x->Run Q E s
inductive qdN (Q:MS->Prop) (E:Fault->Prop):Nat->MS->Prop
 | done {s:MS}:Q s->qdN Q E 0 s
 | next {n:Nat} {s s':MS}:step s=some (.ok s')->qdN Q E n s'->qdN Q E (n+1) s
 | fail {n:Nat} {s:MS} {x:Fault}:step s=some (.error x)->E x->qdN Q E (n+1) s
theorem Run.count {Q:MS->Prop} {E:Fault->Prop} {s:MS} (h:Run Q E s):∃ n,qdN Q E n s:=by
 induction h with
 | done q=>exact ⟨0,.done q⟩
 | next e _ ih=>obtain ⟨n,h⟩:=ih; exact ⟨n+1,.next e h⟩
 | fail e q=>exact ⟨1,.fail e q⟩
mutual
def good:Tree->Bool
 | .node k ls l=>qJ l&&(match k with
  | .piece=>ls.length == 1&&l.isEmpty
  | .num=>ls.length == 1&&l.isEmpty
  | .yes=>ls.isEmpty&&l.isEmpty
  | .no=>ls.isEmpty&&l.isEmpty
  | .none=>ls.isEmpty&&l.isEmpty
  | .name=>ls.length == 1&&l.isEmpty
  | .text=>ls.isEmpty
  | .list=>ls.isEmpty
  | .record=>ls.length == l.length
  | .recur=>ls.length == l.length
  | .get=>l.length == 1||l.length == 2
  | .app=>ls.isEmpty&&l.length == 2
  | .neg=>ls.isEmpty&&l.length == 1
  | .not=>ls.isEmpty&&l.length == 1
  | .has=>ls.length == 1&&l.length == 1
  | .fn=>ls.length == 1&&l.length == 1
  | .fields=>ls.isEmpty && !l.isEmpty
  | .openFields=>ls.isEmpty && !l.isEmpty
  | .param=>ls.length == 1&&(l.length == 0||l.length == 1)
  | .letIn=>ls.length+1 == l.length
  | .cond=>ls.isEmpty&&l.length == 3
  | .must=>ls.isEmpty&&l.length == 2
  | .op _=>ls.isEmpty&&l.length == 2)
def qJ:List Tree->Bool
 | []=>true
 | t::r=>good t&&qJ r
end
theorem Z0:∀ (a b:List Tree),qJ (a++b)=(qJ a&&qJ b)
 | [],b=>by simp [qJ]
 | t::r,b=>by simp [qJ,Z0 r b,Bool.and_assoc]
end RM
end
section
set_option autoImplicit false
namespace RM
open Vastoa
def Ends (ts:Marks):Prop:=∃ (pre:Marks) (q:Nat),ts=pre++[⟨q,.fin⟩]/\∀ m∈pre,m.tok≠.fin
theorem Ends.cons {ts:Marks} (h:Ends ts):∃ m r,ts=m::r/\(m.tok≠.fin->Ends r)/\(m.tok=.fin->r=[]):=by
 obtain ⟨pre,q,rfl,hp⟩:=h
 cases pre with
 | nil=>exact ⟨⟨q,.fin⟩,[],rfl,fun h=>absurd rfl h,fun _=>rfl⟩
 | cons m r=>exact ⟨m,r++[⟨q,.fin⟩],rfl,fun _=>⟨r,q,rfl,fun x hx=>hp x (List.mem_cons_of_mem _ hx)⟩,fun h=>absurd h (hp m List.mem_cons_self)⟩
def jb:Tok->Bool
 | .word _=>true
 | .sign _=>true
 | .quote=>true
 | .unquote=>true
 | .hole=>true
 | .unhole=>true
 | _=>false
theorem qv {k t:Tok} (h:jb k=true):kd t=k ↔ t=k:=by
 cases t <;> cases k <;> simp_all [kd,jb]
theorem Zf {k:Tok} (h:jb k=true):k≠.fin:=by rintro rfl; cases h
theorem qck {t:Tok}:kd t=jk ↔ ∃ x,t=.name x:=by cases t <;> simp [kd,jk]
theorem qni {t:Tok}:kd t=qfK ↔ ∃ x,t=.num x:=by cases t <;> simp [kd,qfK]
theorem qkS {t:Tok}:kd t=JQ ↔ ∃ x,t=.piece x:=by cases t <;> simp [kd,JQ]
theorem qjj {t:Tok}:kd t=.fin ↔ t=.fin:=by cases t <;> simp [kd]
theorem qjk (t:Tok):begins (kd t)=begins t:=by cases t <;> rfl
section
variable {Q:MS->Prop} {E:Fault->Prop} {ts:Marks} {pv:Mark} {lv:Nat} {W:List Sym} {B:List Tree} {G:List Bg}
theorem zL {x:Part} (he:Ends ts) (h:Run Q E ⟨ts,pv,lv,qD x (kd (next ts))++W,B,G⟩):Run Q E ⟨ts,pv,lv,.p x::W,B,G⟩:=by
 obtain ⟨m,r,rfl,_⟩:=he.cons
 exact .next rfl h
theorem qdh {k:Tok} (he:Ends ts) (hk:k≠.fin)
  (h:∀ m,kd (next ts)=k->m.tok=next ts->m.place=here ts->Ends (ts.drop 1)->(ts.drop 1).length<ts.length->Run Q E ⟨ts.drop 1,m,lv,W,B,G⟩)
  (hx:kd (next ts)≠k->E ⟨3,here ts⟩):Run Q E ⟨ts,pv,lv,.t k::W,B,G⟩:=by
 obtain ⟨m,r,rfl,he',_⟩:=he.cons
 by_cases e:kd m.tok=k
 ·have hm:m.tok≠.fin:=fun z=>hk (by rw [<- e,z]; rfl)
  refine .next (s':=⟨r,m,lv,W,B,G⟩) ?_ (h m e rfl rfl (he' hm) (by simp))
  show (if kd m.tok=k then _ else _)=_
  rw [if_pos e]
 ·refine .fail (x:=⟨3,m.place⟩) ?_ (hx e)
  show (if kd m.tok=k then _ else _)=_
  rw [if_neg e]
theorem zg {k:Tok} (he:Ends ts) (hk:k≠.fin) (e:kd (next ts)=k)
  (h:∀ m,m.tok=next ts->m.place=here ts->Ends (ts.drop 1)->(ts.drop 1).length<ts.length->Run Q E ⟨ts.drop 1,m,lv,W,B,G⟩):Run Q E ⟨ts,pv,lv,.t k::W,B,G⟩ :=
 qdh he hk (fun m _=>h m) fun z=>absurd e z
theorem zG (h:Run Q E ⟨ts,pv,lv,W,B,⟨B.length,[],[]⟩::G⟩):Run Q E ⟨ts,pv,lv,.a .begin::W,B,G⟩:=.next rfl h
theorem Z1 {t:Tree} (h:Run Q E ⟨ts,pv,lv,W,B++[t],⟨B.length,[],[]⟩::G⟩):Run Q E ⟨ts,pv,lv,.a .take::W,B++[t],G⟩:=by
 refine .next (s':=⟨ts,pv,lv,W,B++[t],⟨B.length,[],[]⟩::G⟩) ?_ h
 show (if (B++[t]).length=0 then none else some (Except.ok (⟨ts,pv,lv,W,B++[t],⟨(B++[t]).length - 1,[],[]⟩::G⟩:MS)))=_
 rw [if_neg (by simp)]
 simp
theorem Qa {g:Bg} (h:Run Q E ⟨ts,pv,lv,W,B,⟨g.first,g.labels++[held pv.tok],g.names⟩::G⟩):Run Q E ⟨ts,pv,lv,.a .label::W,B,g::G⟩:=.next rfl h
theorem qeA {g:Bg} (h:held pv.tok∉g.names->Run Q E ⟨ts,pv,lv,W,B,⟨g.first,g.labels,g.names++[held pv.tok]⟩::G⟩) (hx:held pv.tok∈g.names->E ⟨5,pv.place⟩) :
  Run Q E ⟨ts,pv,lv,.a .fresh::W,B,g::G⟩:=by
 by_cases e:held pv.tok∈g.names
 ·refine .fail (x:=⟨5,pv.place⟩) ?_ (hx e)
  show (if held pv.tok∈g.names then _ else _)=_
  rw [if_pos e]
 ·refine .next (s':=⟨ts,pv,lv,W,B,⟨g.first,g.labels,g.names++[held pv.tok]⟩::G⟩) ?_ (h e)
  show (if held pv.tok∈g.names then _ else _)=_
  rw [if_neg e]
theorem qeB (he:Ends ts) (h:lv≠40->Run Q E ⟨ts,pv,lv+1,W,B,G⟩) (hx:lv=40->E ⟨4,here ts⟩):Run Q E ⟨ts,pv,lv,.a .enter::W,B,G⟩:=by
 obtain ⟨m,r,rfl,_⟩:=he.cons
 by_cases e:lv=40
 ·refine .fail (x:=⟨4,m.place⟩) ?_ (hx e)
  show (if lv=40 then _ else _)=_
  rw [if_pos e]
 ·refine .next (s':=⟨m::r,pv,lv+1,W,B,G⟩) ?_ (h e)
  show (if lv=40 then _ else _)=_
  rw [if_neg e]
theorem qjl (h:Run Q E ⟨ts,pv,lv,W,B,G⟩):Run Q E ⟨ts,pv,lv+1,.a .leave::W,B,G⟩:=by
 refine .next (s':=⟨ts,pv,lv,W,B,G⟩) ?_ h
 show (if lv+1=0 then none else _)=_
 rw [if_neg (by omega)]
 rfl
theorem zX {k:Kind} {ls ns:List Text} {l:List Tree} (h:Run Q E ⟨ts,pv,lv,W,B++[.node k ls l],G⟩):Run Q E ⟨ts,pv,lv,.a (.fin k)::W,B++l,⟨B.length,ls,ns⟩::G⟩:=by
 refine .next (s':=⟨ts,pv,lv,W,B++[.node k ls l],G⟩) ?_ h
 show (if B.length<=(B++l).length then _ else _)=_
 rw [if_pos (by simp)]
 simp
theorem Zq {k:Kind} {ls ns:List Text} (h:Run Q E ⟨ts,pv,lv,W,B++[.node k ls []],G⟩):Run Q E ⟨ts,pv,lv,.a (.fin k)::W,B,⟨B.length,ls,ns⟩::G⟩:=by
 have:=zX (k:=k) (ls:=ls) (ns:=ns) (l:=[]) h
 rwa [List.append_nil] at this
end
def zi (x:Part) (lv:Nat) (f:Read Tree):Prop :=
 ∀ (Q:MS->Prop) (E:Fault->Prop) (ts:Marks) (pv:Mark) (W:List Sym) (B:List Tree) (G:List Bg),Ends ts ->
  (∀ e ts' pv',f ts=.ok (e,ts')->Ends ts'->ts'.length<ts.length->good e=true->Run Q E ⟨ts',pv',lv,W,B++[e],G⟩) ->
  (∀ y,f ts=.error y->E y)->Run Q E ⟨ts,pv,lv,.p x::W,B,G⟩
def qkT (x:Part) (lv:Nat) (f:Nat->Tree->Read Tree):Prop :=
 ∀ (n:Nat) (Q:MS->Prop) (E:Fault->Prop) (a:Tree) (ts:Marks) (pv:Mark) (W:List Sym) (B:List Tree) (G:List Bg),Ends ts->ts.length<n->good a=true ->
  (∀ e ts' pv',f n a ts=.ok (e,ts')->Ends ts'->ts'.length<=ts.length->good e=true->Run Q E ⟨ts',pv',lv,W,B++[e],G⟩) ->
  (∀ y,f n a ts=.error y->E y)->Run Q E ⟨ts,pv,lv,.p x::W,B++[a],G⟩
theorem qdO:∀ (ops:List (Tok × Op)),(∀ p∈ops,jb p.1=true)->∀ (z:Tok),(ops.find? fun p=>decide (p.1=kd z))=ops.find? fun p=>decide (p.1=z)
 | [],_,_=>rfl
 | p::r,hb,z=>by
  have hp:=hb p List.mem_cons_self
  have e1:decide (p.1=kd z)=decide (p.1=z):=decide_eq_decide.mpr ⟨fun q=>((qv hp).mp q.symm).symm,fun q=>((qv hp).mpr q.symm).symm⟩
  rw [List.find?_cons,List.find?_cons,e1,qdO r (fun q hq=>hb q (List.mem_cons_of_mem _ hq)) z]
theorem qaV {x y:Part} {lv:Nat} {ops:List (Tok × Op)} {under:Read Tree} (hy:zi y lv under) (hb:∀ p∈ops,jb p.1=true)
  (hc:∀ k,qD x k=match ops.find? fun p=>p.1=k with
   | some p=>[.t p.1,.a .take,.p y,.a (.fin (.op p.2)),.p x]
   | none=>[]):qkT x lv (leftMore ops under):=by
 intro n
 induction n with
 | zero=>intro Q E a ts pv W B G _ h; exact absurd h (Nat.not_lt_zero _)
 | succ n ih=>
  intro Q E a ts pv W B G he hn ga hok hx
  refine zL he ?_
  rw [hc]
  have ek:=qdO ops hb (next ts)
  rw [ek]
  cases ef:ops.find? fun p=>decide (p.1=next ts) with
  | none=>
   refine hok a ts pv ?_ he (Nat.le_refl _) ga
   show (match ops.find? fun p=>decide (p.1=next ts) with | some p=>_ | none=>_)=_
   rw [ef]
  | some p=>
   have hp:=hb p (List.mem_of_find?_eq_some ef)
   have e1:p.1=next ts:=of_decide_eq_true (List.find?_some (p:=fun p:Tok × Op=>decide (p.1=next ts)) ef)
   have ev:leftMore ops under (n+1) a ts=(under (ts.drop 1)).bind fun b=>leftMore ops under n (.node (.op p.2) [] [a,b.1]) b.2:=by
    show (match ops.find? fun p=>decide (p.1=next ts) with | some p=>_ | none=>_)=_
    rw [ef]
   rw [ev] at hok hx
   refine zg he (Zf hp) ((qv hp).mpr e1.symm) fun m _ _ he1 hl=>?_
   refine Z1 (hy _ _ _ _ _ _ _ he1 (fun b ts2 pv2 eb he2 hl2 gb=>?_) fun z ez=>hx z (by rw [ez]; rfl))
   rw [eb] at hok hx
   have e3:B++[a]++[b]=B++[a,b]:=by simp
   rw [e3]
   refine zX (ih _ _ _ _ _ _ _ _ he2 (by omega) (by simp [good,qJ,ga,gb]) (fun e ts' pv' h1 h2 h3 h4=>hok e ts' pv' h1 h2 (by omega) h4) fun z ez=>hx z ez)
theorem qaW {x y w:Part} {lv:Nat} {ops:List (Tok × Op)} {under:Read Tree} (hy:zi y lv under) (hm:qkT w lv (leftMore ops under)) (hc:∀ k,qD x k=[.p y,.p w]):zi x lv (left ops under):=by
 intro Q E ts pv W B G he hok hx
 refine zL he ?_
 rw [hc]
 have ev:left ops under ts=(under ts).bind fun a=>leftMore ops under (a.2.length+1) a.1 a.2:=rfl
 rw [ev] at hok hx
 refine hy _ _ _ _ _ _ _ he (fun a ts1 pv1 ea he1 hl1 ga=>?_) fun z ez=>hx z (by rw [ez]; rfl)
 rw [ea] at hok hx
 exact hm _ _ _ _ _ _ _ _ _ he1 (Nat.lt_succ_self _) ga (fun e ts' pv' h1 h2 h3 h4=>hok e ts' pv' h1 h2 (by omega) h4) fun z ez=>hx z ez
theorem qeC {x y w:Part} {lv:Nat} {t:Tok} {o:Op} {under:Read Tree} (hy:zi y lv under) (ht:jb t=true) (hc:∀ k,qD x k=[.p y,.p w])
  (hw:∀ k,qD w k=if k=t then [.t t,.a .take,.p x,.a (.fin (.op o))] else []):zi x lv (fun ts=>right t o under (ts.length+1) ts):=by
 have all:∀ (n:Nat) (Q:MS->Prop) (E:Fault->Prop) (ts:Marks) (pv:Mark) (W:List Sym) (B:List Tree) (G:List Bg),Ends ts->ts.length<n ->
  (∀ e ts' pv',right t o under n ts=.ok (e,ts')->Ends ts'->ts'.length<ts.length->good e=true->Run Q E ⟨ts',pv',lv,W,B++[e],G⟩) ->
  (∀ y,right t o under n ts=.error y->E y)->Run Q E ⟨ts,pv,lv,.p x::W,B,G⟩:=by
  intro n
  induction n with
  | zero=>intro Q E ts pv W B G _ h; exact absurd h (Nat.not_lt_zero _)
  | succ n ih=>
   intro Q E ts pv W B G he hn hok hx
   refine zL he ?_
   rw [hc]
   have ev:right t o under (n+1) ts=(under ts).bind fun a=>if next a.2=t then also (fun b=>.node (.op o) [] [a.1,b]) (right t o under n (a.2.drop 1)) else .ok a:=rfl
   rw [ev] at hok hx
   refine hy _ _ _ _ _ _ _ he (fun a ts1 pv1 ea he1 hl1 ga=>?_) fun z ez=>hx z (by rw [ez]; rfl)
   rw [ea] at hok hx
   refine zL he1 ?_
   rw [hw]
   by_cases e1:next ts1=t
   ·rw [if_pos ((qv ht).mpr e1)]
    have ev2:(Except.ok (a,ts1):Except Fault (Tree × Marks)).bind (fun a=>if next a.2=t then also (fun b=>.node (.op o) [] [a.1,b]) (right t o under n (a.2.drop 1)) else .ok a)=also (fun b=>.node (.op o) [] [a,b]) (right t o under n (ts1.drop 1)):=by
     show (if next ts1=t then _ else _)=_
     rw [if_pos e1]
    rw [ev2] at hok hx
    refine zg he1 (Zf ht) ((qv ht).mpr e1) fun m _ _ he2 hl2=>?_
    refine Z1 (ih _ _ _ _ _ _ _ he2 (by omega) (fun b ts3 pv3 eb he3 hl3 gb=>?_) fun z ez=>hx z (by rw [ez]; rfl))
    rw [eb] at hok hx
    have e3:B++[a]++[b]=B++[a,b]:=by simp
    rw [e3]
    exact zX (hok _ _ _ rfl he3 (by omega) (by simp [good,qJ,ga,gb]))
   ·rw [if_neg fun z=>e1 ((qv ht).mp z)]
    refine hok a ts1 _ ?_ he1 hl1 ga
    show (if next ts1=t then _ else _)=_
    rw [if_neg e1]
 intro Q E ts pv W B G he hok hx
 exact all _ _ _ _ _ _ _ _ he (Nat.lt_succ_self _) hok hx
theorem qbK {x y:Part} {lv:Nat} {t:Tok} {k:Kind} {under:Read Tree} (hy:zi y lv under) (ht:jb t=true) (hg:∀ e,good e=true->good (.node k [] [e])=true)
  (hc:∀ z,qD x z=if z=t then [.t t,.a .begin,.p x,.a (.fin k)] else [.p y]):zi x lv (fun ts=>prefixed t k under (ts.length+1) ts):=by
 have all:∀ (n:Nat) (Q:MS->Prop) (E:Fault->Prop) (ts:Marks) (pv:Mark) (W:List Sym) (B:List Tree) (G:List Bg),Ends ts->ts.length<n ->
  (∀ e ts' pv',prefixed t k under n ts=.ok (e,ts')->Ends ts'->ts'.length<ts.length->good e=true->Run Q E ⟨ts',pv',lv,W,B++[e],G⟩) ->
  (∀ y,prefixed t k under n ts=.error y->E y)->Run Q E ⟨ts,pv,lv,.p x::W,B,G⟩:=by
  intro n
  induction n with
  | zero=>intro Q E ts pv W B G _ h; exact absurd h (Nat.not_lt_zero _)
  | succ n ih=>
   intro Q E ts pv W B G he hn hok hx
   refine zL he ?_
   rw [hc]
   by_cases e1:next ts=t
   ·rw [if_pos ((qv ht).mpr e1)]
    have ev:prefixed t k under (n+1) ts=also (fun e=>.node k [] [e]) (prefixed t k under n (ts.drop 1)):=by
     show (if next ts=t then _ else _)=_
     rw [if_pos e1]
    rw [ev] at hok hx
    refine zg he (Zf ht) ((qv ht).mpr e1) fun m _ _ he1 hl1=>zG ?_
    refine ih _ _ _ _ _ _ _ he1 (by omega) (fun b ts3 pv3 eb he3 hl3 gb=>?_) fun z ez=>hx z (by rw [ez]; rfl)
    rw [eb] at hok hx
    exact zX (l:=[b]) (hok _ _ _ rfl he3 (by omega) (hg b gb))
   ·rw [if_neg fun z=>e1 ((qv ht).mp z)]
    have ev:prefixed t k under (n+1) ts=under ts:=by
     show (if next ts=t then _ else _)=_
     rw [if_neg e1]
    rw [ev] at hok hx
    exact hy _ _ _ _ _ _ _ he hok hx
 intro Q E ts pv W B G he hok hx
 exact all _ _ _ _ _ _ _ _ he (Nat.lt_succ_self _) hok hx
end RM
end
section
set_option autoImplicit false
namespace RM
open Vastoa
section
variable {Q:MS->Prop} {E:Fault->Prop} {ts:Marks} {pv:Mark} {lv:Nat} {W:List Sym} {B:List Tree} {G:List Bg} {sub:Read Tree}
theorem qeD {t:Tok} (h:next ts=t):expect t ts=.ok ((),ts.drop 1):=by unfold expect; rw [if_pos h]
theorem qeE {t:Tok} (h:next ts≠t):expect t ts=.error ⟨3,here ts⟩:=by unfold expect; rw [if_neg h]; rfl
theorem ZK {t:Tok} (he:Ends ts) (ht:jb t=true)
  (h:∀ m,expect t ts=.ok ((),ts.drop 1)->Ends (ts.drop 1)->(ts.drop 1).length<ts.length->Run Q E ⟨ts.drop 1,m,lv,W,B,G⟩)
  (hx:expect t ts=.error ⟨3,here ts⟩->E ⟨3,here ts⟩):Run Q E ⟨ts,pv,lv,.t t::W,B,G⟩ :=
 qdh he (Zf ht) (fun m e _ _ h1 h2=>h m (qeD ((qv ht).mp e)) h1 h2) fun e=>hx (qeE fun z=>e ((qv ht).mpr z))
theorem Q0 {t:Tok} (hs:zi .EXPR lv sub) (he:Ends ts) (ht:jb t=true)
  (hok:∀ e ts' pv',closedBy t sub ts=.ok (e,ts')->Ends ts'->ts'.length<ts.length->good e=true->Run Q E ⟨ts',pv',lv,W,B++[e],G⟩)
  (hx:∀ y,closedBy t sub ts=.error y->E y):Run Q E ⟨ts,pv,lv,.p .EXPR::.t t::W,B,G⟩:=by
 have ev:closedBy t sub ts=(sub ts).bind fun e=>(expect t e.2).bind fun u=>.ok (e.1,u.2):=rfl
 rw [ev] at hok hx
 refine hs _ _ _ _ _ _ _ he (fun a ts1 pv1 ea he1 hl1 ga=>?_) fun z ez=>hx z (by rw [ez]; rfl)
 rw [ea] at hok hx
 refine ZK he1 ht (fun m e1 he2 hl2=>hok a _ _ ?_ he2 (by omega) ga) fun e1=>hx _ ?_
 ·show (expect t ts1).bind _=_
  rw [e1]; rfl
 ·show (expect t ts1).bind _=_
  rw [e1]; rfl
theorem qcP {t:Tok} (h:kd t≠jk):∀ x,t≠.name x:=fun x e=>h (by rw [e]; rfl)
theorem JR (he:Ends ts)
  (h:∀ m x,next ts=.name x->m.tok=.name x->m.place=here ts->Ends (ts.drop 1)->(ts.drop 1).length<ts.length->Run Q E ⟨ts.drop 1,m,lv,W,B,G⟩)
  (hx:(∀ x,next ts≠.name x)->E ⟨3,here ts⟩):Run Q E ⟨ts,pv,lv,.t jk::W,B,G⟩ :=
 qdh he (by intro z; cases z) (fun m e e2 e3 h1 h2=>by
  obtain ⟨x,ex⟩:=qck.mp e
  exact h m x ex (e2.trans ex) e3 h1 h2) fun e=>hx (qcP e)
theorem qaX {x:Text} (h:next ts=.name x):nameTok ts=.ok (x,ts.drop 1):=by unfold nameTok; rw [h]
theorem qaY (h:∀ x,next ts≠.name x):nameTok ts=.error ⟨3,here ts⟩:=by
 unfold nameTok
 cases e:next ts with
 | name x=>exact absurd e (h x)
 | _=>rfl
theorem qh4 (hs:zi .EXPR lv sub):∀ (n:Nat) (ts:Marks) (pv:Mark) (W:List Sym) (B:List Tree) (G:List Bg),Ends ts->ts.length<n ->
  (∀ l ts' pv',pieces sub n ts=.ok (l,ts')->Ends ts'->ts'.length<ts.length->qJ l=true->Run Q E ⟨ts',pv',lv,W,B++l,G⟩) ->
  (∀ y,pieces sub n ts=.error y->E y)->Run Q E ⟨ts,pv,lv,.p .PIECES::.t .unquote::W,B,G⟩:=by
 intro n
 induction n with
 | zero=>intro ts pv W B G _ h; exact absurd h (Nat.not_lt_zero _)
 | succ n ih=>
  intro ts pv W B G he hn hok hx
  refine zL he ?_
  show Run Q E ⟨ts,pv,lv,(if kd (next ts)=JQ then [.t JQ,.a .begin,.a .label,.a (.fin .piece),.p .PIECES] else if kd (next ts)=.hole then [.t .hole,.p .EXPR,.t .unhole,.p .PIECES] else [])++.t .unquote::W,B,G⟩
  by_cases e1:kd (next ts)=JQ
  ·rw [if_pos e1]
   obtain ⟨x,ex⟩:=qkS.mp e1
   have ev:pieces sub (n+1) ts=also (fun l=>.node .piece [x] []::l) (pieces sub n (ts.drop 1)):=by
    show (match next ts with | .unquote=>_ | .piece x=>_ | .hole=>_ | _=>_)=_
    rw [ex]
   rw [ev] at hok hx
   refine zg he (by intro z; cases z) e1 fun m em _ he1 hl1=>zG (Qa (Zq ?_))
   have eh:held m.tok=x:=by rw [em,ex]; rfl
   rw [eh]
   refine ih _ _ _ _ _ he1 (by omega) (fun l ts2 pv2 el he2 hl2 gl=>?_) fun z ez=>hx z (by rw [ez]; rfl)
   rw [el] at hok hx
   have:=hok (.node .piece [x] []::l) ts2 pv2 rfl he2 (by omega) (by simp [qJ,good,gl])
   rw [List.append_assoc]
   exact this
  ·rw [if_neg e1]
   by_cases e2:kd (next ts)=.hole
   ·rw [if_pos e2]
    have ex:next ts=.hole:=(qv (k:=.hole) rfl).mp e2
    have ev:pieces sub (n+1) ts=(closedBy .unhole sub (ts.drop 1)).bind fun e=>also (fun l=>e.1::l) (pieces sub n e.2):=by
     show (match next ts with | .unquote=>_ | .piece x=>_ | .hole=>_ | _=>_)=_
     rw [ex]
    rw [ev] at hok hx
    refine zg he (by intro z; cases z) e2 fun m em _ he1 hl1=>Q0 hs he1 rfl (fun a ts2 pv2 ea he2 hl2 ga=>?_) fun z ez=>hx z (by rw [ez]; rfl)
    rw [ea] at hok hx
    refine ih _ _ _ _ _ he2 (by omega) (fun l ts3 pv3 el he3 hl3 gl=>?_) fun z ez=>hx z (by show also _ (pieces sub n ts2)=_; rw [ez]; rfl)
    have:=hok (a::l) ts3 pv3 (by show also _ (pieces sub n ts2)=_; rw [el]; rfl) he3 (by omega) (by simp [qJ,ga,gl])
    rw [List.append_assoc]
    exact this
   ·rw [if_neg e2]
    refine qdh he (by intro z; cases z) (fun m e em _ he1 hl1=>?_) fun e=>hx _ ?_
    ·have ex:next ts=.unquote:=(qv (k:=.unquote) rfl).mp e
     have:=hok [] (ts.drop 1) m (by show (match next ts with | .unquote=>_ | .piece x=>_ | .hole=>_ | _=>_)=_; rw [ex]) he1 hl1 rfl
     rwa [List.append_nil] at this
    ·show (match next ts with | .unquote=>_ | .piece x=>_ | .hole=>_ | _=>_)=_
     cases ex:next ts with
     | unquote=>rw [ex] at e; exact absurd rfl e
     | piece x=>rw [ex] at e1; exact absurd rfl e1
     | hole=>rw [ex] at e2; exact absurd rfl e2
     | _=>rfl
theorem qjm (hs:zi .EXPR lv sub):∀ (n:Nat) (ts:Marks) (pv:Mark) (W:List Sym) (B:List Tree) (G:List Bg),Ends ts->ts.length<n ->
  (∀ l ts' pv',elements sub n ts=.ok (l,ts')->Ends ts'->ts'.length<ts.length->qJ l=true->Run Q E ⟨ts',pv',lv,W,B++l,G⟩) ->
  (∀ y,elements sub n ts=.error y->E y)->Run Q E ⟨ts,pv,lv,.p .EXPR::.p .MLIST::.t sListClose::W,B,G⟩:=by
 intro n
 induction n with
 | zero=>intro ts pv W B G _ h; exact absurd h (Nat.not_lt_zero _)
 | succ n ih=>
  intro ts pv W B G he hn hok hx
  have ev:elements sub (n+1) ts=(sub ts).bind fun e=>
   if next e.2=sComma then also (fun l=>e.1::l) (elements sub n (e.2.drop 1)) else (expect sListClose e.2).bind fun u=>.ok ([e.1],u.2):=rfl
  rw [ev] at hok hx
  refine hs _ _ _ _ _ _ _ he (fun a ts1 pv1 ea he1 hl1 ga=>?_) fun z ez=>hx z (by rw [ez]; rfl)
  rw [ea] at hok hx
  refine zL he1 ?_
  show Run Q E ⟨ts1,pv1,lv,(if kd (next ts1)=sComma then [.t sComma,.p .EXPR,.p .MLIST] else [])++.t sListClose::W,B++[a],G⟩
  by_cases e1:next ts1=sComma
  ·rw [if_pos ((qv (k:=sComma) rfl).mpr e1)]
   have ev2:(Except.ok (a,ts1):Except Fault (Tree × Marks)).bind (fun e=>if next e.2=sComma then also (fun l=>e.1::l) (elements sub n (e.2.drop 1)) else (expect sListClose e.2).bind fun u=>.ok ([e.1],u.2)) =
    also (fun l=>a::l) (elements sub n (ts1.drop 1)):=by
    show (if next ts1=sComma then _ else _)=_
    rw [if_pos e1]
   rw [ev2] at hok hx
   refine zg he1 (by intro z; cases z) ((qv (k:=sComma) rfl).mpr e1) fun m em _ he2 hl2=>?_
   refine ih _ _ _ _ _ he2 (by omega) (fun l ts3 pv3 el he3 hl3 gl=>?_) fun z ez=>hx z (by rw [ez]; rfl)
   have:=hok (a::l) ts3 pv3 (by rw [el]; rfl) he3 (by omega) (by simp [qJ,ga,gl])
   rw [List.append_assoc]
   exact this
  ·rw [if_neg fun z=>e1 ((qv (k:=sComma) rfl).mp z)]
   have ev2:(Except.ok (a,ts1):Except Fault (Tree × Marks)).bind (fun e=>if next e.2=sComma then also (fun l=>e.1::l) (elements sub n (e.2.drop 1)) else (expect sListClose e.2).bind fun u=>.ok ([e.1],u.2)) =
    (expect sListClose ts1).bind fun u=>.ok ([a],u.2):=by
    show (if next ts1=sComma then _ else _)=_
    rw [if_neg e1]
   rw [ev2] at hok hx
   refine ZK he1 rfl (fun m e3 he2 hl2=>hok [a] _ _ (by rw [e3]; rfl) he2 (by omega) (by simp [qJ,ga])) fun e3=>hx _ (by rw [e3]; rfl)
def Met (g:Bg) (seen:List Text):Prop:=∀ x,x∈g.names ↔ seen.contains x=true
theorem Met.more {g:Bg} {seen:List Text} {x:Text} (h:Met g seen) (f:Nat) (ls:List Text):Met ⟨f,ls,g.names++[x]⟩ (x::seen):=fun y=>by
 show y∈g.names++[x] ↔ _
 rw [List.mem_append,h y,List.contains_cons]
 simp
 constructor
 ·rintro (h | h)
  ·exact .inr h
  ·exact .inl h
 ·rintro (h | h)
  ·exact .inr h
  ·exact .inl h
def qdP (Q:MS->Prop) (E:Fault->Prop) (sub:Read Tree) (lv n:Nat) (V:List Sym):Prop :=
 ∀ (seen:List Text) (g:Bg) (ts:Marks) (pv:Mark) (W:List Sym) (B:List Tree) (G:List Bg),Ends ts->ts.length<n->Met g seen->(V≠[.p .BINDS]->∃ x,next ts=.name x) ->
  (∀ l ts' pv' ns,binds sub n seen ts=.ok (l,ts')->Ends ts'->ts'.length<=ts.length->qJ (l.map fun x=>x.2)=true->(V≠[.p .BINDS]->l≠[])->Run Q E ⟨ts',pv',lv,W,B++l.map (fun x=>x.2),⟨g.first,g.labels++l.map (fun x=>x.1),ns⟩::G⟩) ->
  (∀ y,binds sub n seen ts=.error y->E y)->Run Q E ⟨ts,pv,lv,V++W,B,g::G⟩
theorem qeF (hs:zi .EXPR lv sub) {n:Nat} (ih:qdP Q E sub lv n [.p .BINDS]):qdP Q E sub lv (n+1) [.t jk,.p .BOUND,.p .BINDS]:=by
 intro seen g ts pv W B G he hn hm hv hok hx
 obtain ⟨x,ex⟩:=hv (by intro z; cases z)
 have ev:binds sub (n+1) seen ts=if seen.contains x then .error ⟨5,here ts⟩
   else (expect sIs (ts.drop 1)).bind fun u=>(closedBy sSemi sub u.2).bind fun e=>also (fun l=>(x,e.1)::l) (binds sub n (x::seen) e.2):=by
  show (match next ts with | .name x=>_ | _=>_)=_
  rw [ex]
 rw [ev] at hok hx
 refine zg he (by intro z; cases z) (by rw [ex]; rfl) fun m em ep he1 hl1=>?_
 have eh:held m.tok=x:=by rw [em,ex]; rfl
 refine zL he1 ?_
 show Run Q E ⟨ts.drop 1,m,lv,.a .fresh::.a .label::.t sIs::.p .EXPR::.t sSemi::.p .BINDS::W,B,g::G⟩
 refine qeA (fun hn1=>?_) fun hn1=>?_
 ·rw [eh] at hn1 ⊢
  have hns:¬ seen.contains x=true:=fun z=>hn1 ((hm x).mpr z)
  rw [if_neg hns] at hok hx
  refine Qa ?_
  rw [eh]
  refine ZK he1 rfl (fun m2 e2 he2 hl2=>?_) fun e2=>hx _ (by rw [e2]; rfl)
  rw [e2] at hok hx
  refine Q0 hs he2 rfl (fun a ts3 pv3 ea he3 hl3 ga=>?_) fun z ez=>hx z (by show (closedBy sSemi sub ((ts.drop 1).drop 1)).bind _=_; rw [ez]; rfl)
  refine ih (x::seen) _ ts3 pv3 W (B++[a]) G he3 (by omega) (hm.more _ _) (fun z=>absurd rfl z) (fun l ts4 pv4 ns el he4 hl4 gl _=>?_) fun z ez=>hx z ?_
  ·have:=hok ((x,a)::l) ts4 pv4 ns (by show (closedBy sSemi sub ((ts.drop 1).drop 1)).bind _=_; rw [ea]; show also _ (binds sub n (x::seen) ts3)=_; rw [el]; rfl) he4 (by omega) (by simp only [List.map_cons,qJ,ga,gl,Bool.and_self]) (fun _ z=>by cases z)
   simp only [List.map_cons,List.append_assoc,List.singleton_append] at this ⊢
   exact this
  ·show (closedBy sSemi sub ((ts.drop 1).drop 1)).bind _=_
   rw [ea]
   show also _ (binds sub n (x::seen) ts3)=_
   rw [ez]; rfl
 ·rw [eh] at hn1
  rw [if_pos ((hm x).mp hn1)] at hx
  rw [ep]
  exact hx _ rfl
theorem qeG (hs:zi .EXPR lv sub):∀ n,qdP Q E sub lv n [.p .BINDS]:=by
 intro n
 induction n with
 | zero=>intro seen g ts pv W B G _ h; exact absurd h (Nat.not_lt_zero _)
 | succ n ih=>
  intro seen g ts pv W B G he hn hm _ hok hx
  refine zL (W:=W) he ?_
  show Run Q E ⟨ts,pv,lv,(if kd (next ts)=jk then [.t jk,.p .BOUND,.p .BINDS] else [])++W,B,g::G⟩
  by_cases e1:kd (next ts)=jk
  ·rw [if_pos e1]
   exact qeF hs ih seen g ts pv W B G he hn hm (fun _=>qck.mp e1) (fun l ts' pv' ns h1 h2 h3 h4 _=>hok l ts' pv' ns h1 h2 h3 h4 fun z=>absurd rfl z) hx
  ·rw [if_neg e1]
   have ev:binds sub (n+1) seen ts=.ok ([],ts):=by
    show (match next ts with | .name x=>_ | _=>_)=_
    cases ex:next ts with
    | name x=>exact absurd ex (qcP e1 x)
    | _=>rfl
   have:=hok [] ts pv g.names ev he (Nat.le_refl _) rfl fun z=>absurd rfl z
   simp only [List.map_nil,List.append_nil] at this
   exact this
theorem qdi {k:Kind} (hk:k=.record \/ k=.recur) (hs:zi .EXPR lv sub) (he:Ends ts)
  (hok:∀ e ts' pv',fieldsOf k sub ts=.ok (e,ts')->Ends ts'->ts'.length<ts.length->good e=true->Run Q E ⟨ts',pv',lv,W,B++[e],G⟩)
  (hx:∀ y,fieldsOf k sub ts=.error y->E y):Run Q E ⟨ts,pv,lv,.a .begin::.p .BINDS::.t sUnbrace::.a (.fin k)::W,B,G⟩:=by
 have ev:fieldsOf k sub ts=(binds sub (ts.length+1) [] ts).bind fun l=>(expect sUnbrace l.2).bind fun u=>.ok (.node k (l.1.map fun x=>x.1) (l.1.map fun x=>x.2),u.2):=rfl
 rw [ev] at hok hx
 refine zG (qeG hs (ts.length+1) [] ⟨B.length,[],[]⟩ ts pv _ B G he (Nat.lt_succ_self _) (fun x=>by simp) (fun z=>absurd rfl z) (fun l ts1 pv1 ns el he1 hl1 gl _=>?_) fun z ez=>hx z (by rw [ez]; rfl))
 rw [el] at hok hx
 refine ZK he1 rfl (fun m e2 he2 hl2=>zX (hok _ _ _ (by show (expect sUnbrace ts1).bind _=_; rw [e2]; rfl) he2 (by omega) ?_)) fun e2=>hx _ (by show (expect sUnbrace ts1).bind _=_; rw [e2]; rfl)
 rcases hk with rfl | rfl <;> simp [good,gl]
end
end RM
end
section
set_option autoImplicit false
namespace RM
open Vastoa
section
variable {lv:Nat} {sub:Read Tree}
theorem qfL (hs:zi .EXPR lv sub):zi .ATOM lv (atom sub):=by
 intro Q E ts pv W B G he hok hx
 refine zL he ?_
 simp only [qD]
 by_cases e1:kd (next ts)=jk
 ·rw [if_pos e1]
  obtain ⟨x,ex⟩:=qck.mp e1
  refine zg he (by intro z; cases z) e1 fun m em _ he1 hl1=>zG (Qa (Zq (hok _ _ _ ?_ he1 hl1 rfl)))
  have eh:held m.tok=x:=by rw [em,ex]; rfl
  rw [eh]
  unfold atom; rw [ex]; rfl
 rw [if_neg e1]
 by_cases e2:kd (next ts)=qfK
 ·rw [if_pos e2]
  obtain ⟨x,ex⟩:=qni.mp e2
  refine zg he (by intro z; cases z) e2 fun m em _ he1 hl1=>zG (Qa (Zq (hok _ _ _ ?_ he1 hl1 rfl)))
  have eh:held m.tok=x:=by rw [em,ex]; rfl
  rw [eh]
  unfold atom; rw [ex]; rfl
 rw [if_neg e2]
 by_cases e3:kd (next ts)=.word wTrue
 ·rw [if_pos e3]
  have ex:=(qv (k:=.word wTrue) rfl).mp e3
  refine zg he (by intro z; cases z) e3 fun m em _ he1 hl1=>zG (Zq (hok _ _ _ ?_ he1 hl1 rfl))
  unfold atom; rw [ex]; rfl
 rw [if_neg e3]
 by_cases e4:kd (next ts)=.word wFalse
 ·rw [if_pos e4]
  have ex:=(qv (k:=.word wFalse) rfl).mp e4
  refine zg he (by intro z; cases z) e4 fun m em _ he1 hl1=>zG (Zq (hok _ _ _ ?_ he1 hl1 rfl))
  unfold atom; rw [ex]; rfl
 rw [if_neg e4]
 by_cases e5:kd (next ts)=.word wNone
 ·rw [if_pos e5]
  have ex:=(qv (k:=.word wNone) rfl).mp e5
  refine zg he (by intro z; cases z) e5 fun m em _ he1 hl1=>zG (Zq (hok _ _ _ ?_ he1 hl1 rfl))
  unfold atom; rw [ex]; rfl
 rw [if_neg e5]
 by_cases e6:kd (next ts)=.quote
 ·rw [if_pos e6]
  have ex:=(qv (k:=.quote) rfl).mp e6
  have ev:atom sub ts=also (fun l=>.node .text [] l) (pieces sub ((ts.drop 1).length+1) (ts.drop 1)):=by unfold atom; rw [ex]
  rw [ev] at hok hx
  refine zg he (by intro z; cases z) e6 fun m em _ he1 hl1=>zG ?_
  refine qh4 hs _ _ _ _ _ _ he1 (Nat.lt_succ_self _) (fun l ts2 pv2 el he2 hl2 gl=>zX (hok _ _ _ (by rw [el]; rfl) he2 (by omega) (by simp [good,gl]))) fun z ez=>hx z (by rw [ez]; rfl)
 rw [if_neg e6]
 by_cases e7:kd (next ts)=.sign [40]
 ·rw [if_pos e7]
  have ex:=(qv (k:=.sign [40]) rfl).mp e7
  have ev:atom sub ts=closedBy sClose sub (ts.drop 1):=by unfold atom; rw [ex]; rfl
  rw [ev] at hok hx
  refine zg he (by intro z; cases z) e7 fun m em _ he1 hl1=>?_
  exact Q0 hs he1 rfl (fun a ts2 pv2 ea he2 hl2 ga=>hok _ _ _ ea he2 (by omega) ga) hx
 rw [if_neg e7]
 by_cases e8:kd (next ts)=.sign [91]
 ·rw [if_pos e8]
  have ex:=(qv (k:=.sign [91]) rfl).mp e8
  have ev:atom sub ts=if next (ts.drop 1)=sListClose then .ok (.node .list [] [],(ts.drop 1).drop 1) else also (fun l=>.node .list [] l) (elements sub ((ts.drop 1).length+1) (ts.drop 1)):=by unfold atom; rw [ex]; rfl
  rw [ev] at hok hx
  refine zg he (by intro z; cases z) e8 fun m em _ he1 hl1=>zG (zL he1 ?_)
  simp only [qD]
  by_cases e9:next (ts.drop 1)=sListClose
  ·rw [if_pos ((qv (k:=sListClose) rfl).mpr e9)]
   rw [if_pos e9] at hok
   refine zg he1 (by intro z; cases z) ((qv (k:=sListClose) rfl).mpr e9) fun m2 _ _ he2 hl2=>Zq (hok _ _ _ rfl he2 (by omega) rfl)
  ·rw [if_neg fun z=>e9 ((qv (k:=sListClose) rfl).mp z)]
   rw [if_neg e9] at hok hx
   exact qjm hs _ _ _ _ _ _ he1 (Nat.lt_succ_self _) (fun l ts2 pv2 el he2 hl2 gl=>zX (hok _ _ _ (by rw [el]; rfl) he2 (by omega) (by simp [good,gl]))) fun z ez=>hx z (by rw [ez]; rfl)
 rw [if_neg e8]
 by_cases e9:kd (next ts)=sBrace
 ·rw [if_pos e9]
  have ex:=(qv (k:=sBrace) rfl).mp e9
  have ev:atom sub ts=fieldsOf .record sub (ts.drop 1):=by unfold atom; rw [ex]; rfl
  rw [ev] at hok hx
  refine zg he (by intro z; cases z) e9 fun m em _ he1 hl1=>?_
  exact qdi (.inl rfl) hs he1 (fun a ts2 pv2 ea he2 hl2 ga=>hok _ _ _ ea he2 (by omega) ga) hx
 rw [if_neg e9]
 refine qdh he (by intro z; cases z) (fun m e em _ he1 hl1=>?_) fun e=>hx _ ?_
 ·have ex:=(qv (k:=.word wRec) rfl).mp e
  have ev:atom sub ts=(expect sBrace (ts.drop 1)).bind fun u=>fieldsOf .recur sub u.2:=by unfold atom; rw [ex]; rfl
  rw [ev] at hok hx
  refine ZK he1 rfl (fun m2 e3 he2 hl2=>?_) fun e3=>hx _ (by rw [e3]; rfl)
  rw [e3] at hok hx
  exact qdi (.inr rfl) hs he2 (fun a ts2 pv2 ea he2 hl2 ga=>hok _ _ _ ea he2 (by omega) ga) hx
 ·unfold atom
  cases ex:next ts with
  | name x=>rw [ex] at e1; exact absurd rfl e1
  | num x=>rw [ex] at e2; exact absurd rfl e2
  | quote=>rw [ex] at e6; exact absurd rfl e6
  | word x=>
   rw [ex] at e3 e4 e5 e
   show (if x=wTrue then _ else if x=wFalse then _ else if x=wNone then _ else if x=wRec then _ else _)=_
   rw [if_neg (by rintro rfl; exact e3 rfl),if_neg (by rintro rfl; exact e4 rfl),if_neg (by rintro rfl; exact e5 rfl),if_neg (by rintro rfl; exact e rfl)]
   rfl
  | sign x=>
   rw [ex] at e7 e8 e9
   show (if x=[40] then _ else if x=[91] then _ else if x=[123] then _ else _)=_
   rw [if_neg (by rintro rfl; exact e7 rfl),if_neg (by rintro rfl; exact e8 rfl),if_neg (by rintro rfl; exact e9 rfl)]
   rfl
  | _=>rfl
theorem qjn {Q:MS->Prop} {E:Fault->Prop}:∀ (n:Nat) (g:Bg) (ts:Marks) (pv:Mark) (W:List Sym) (B:List Tree) (G:List Bg),Ends ts->ts.length<n ->
  (∀ l ts' pv',path n ts=.ok (l,ts')->Ends ts'->ts'.length<=ts.length->Run Q E ⟨ts',pv',lv,W,B,⟨g.first,g.labels++l,g.names⟩::G⟩) ->
  (∀ y,path n ts=.error y->E y)->Run Q E ⟨ts,pv,lv,.p .MDOTS::W,B,g::G⟩:=by
 intro n
 induction n with
 | zero=>intro g ts pv W B G _ h; exact absurd h (Nat.not_lt_zero _)
 | succ n ih=>
  intro g ts pv W B G he hn hok hx
  refine zL he ?_
  simp only [qD]
  by_cases e1:next ts=sDot
  ·rw [if_pos ((qv (k:=sDot) rfl).mpr e1)]
   have ev:path (n+1) ts=(nameTok (ts.drop 1)).bind fun x=>also (fun l=>x.1::l) (path n x.2):=by
    show (if next ts=sDot then _ else _)=_
    rw [if_pos e1]
   rw [ev] at hok hx
   refine zg he (by intro z; cases z) ((qv (k:=sDot) rfl).mpr e1) fun m em _ he1 hl1=>?_
   refine JR he1 (fun m2 x ex em2 _ he2 hl2=>?_) fun hno=>hx _ (by rw [qaY hno]; rfl)
   rw [qaX ex] at hok hx
   refine Qa ?_
   have eh:held m2.tok=x:=by rw [em2]; rfl
   rw [eh]
   refine ih _ _ _ _ _ _ he2 (by omega) (fun l ts3 pv3 el he3 hl3=>?_) fun z ez=>hx z (by show also _ (path n ((ts.drop 1).drop 1))=_; rw [ez]; rfl)
   have:=hok (x::l) ts3 pv3 (by show also _ (path n ((ts.drop 1).drop 1))=_; rw [el]; rfl) he3 (by omega)
   simp only [List.append_assoc,List.singleton_append] at this ⊢
   exact this
  ·rw [if_neg fun z=>e1 ((qv (k:=sDot) rfl).mp z)]
   have ev:path (n+1) ts=.ok ([],ts):=by
    show (if next ts=sDot then _ else _)=_
    rw [if_neg e1]
   have:=hok [] ts pv ev he (Nat.le_refl _)
   rw [List.append_nil] at this
   exact this
theorem qho (hs:zi .EXPR lv sub):zi .SEL lv (sel sub):=by
 intro Q E ts pv W B G he hok hx
 refine zL he ?_
 simp only [qD]
 have ev:sel sub ts=(atom sub ts).bind fun a=>(path (a.2.length+1) a.2).bind fun p=>
  if p.1.isEmpty then .ok (a.1,p.2) else if next p.2=sAsk then also (fun d=>.node .get p.1 [a.1,d]) (atom sub (p.2.drop 1)) else .ok (.node .get p.1 [a.1],p.2):=rfl
 rw [ev] at hok hx
 refine qfL hs _ _ _ _ _ _ _ he (fun a ts1 pv1 ea he1 hl1 ga=>?_) fun z ez=>hx z (by rw [ez]; rfl)
 rw [ea] at hok hx
 replace hok:∀ e ts' pv',((path (ts1.length+1) ts1).bind fun p=>
  if p.1.isEmpty then .ok (a,p.2) else if next p.2=sAsk then also (fun d=>.node .get p.1 [a,d]) (atom sub (p.2.drop 1)) else .ok (.node .get p.1 [a],p.2))=.ok (e,ts')->Ends ts'->ts'.length<ts.length->good e=true->Run Q E ⟨ts',pv',lv,W,B++[e],G⟩:=hok
 replace hx:∀ y,((path (ts1.length+1) ts1).bind fun p=>
  if p.1.isEmpty then .ok (a,p.2) else if next p.2=sAsk then also (fun d=>.node .get p.1 [a,d]) (atom sub (p.2.drop 1)) else .ok (.node .get p.1 [a],p.2))=.error y->E y:=hx
 refine zL he1 ?_
 simp only [qD]
 by_cases e1:next ts1=sDot
 ·rw [if_pos ((qv (k:=sDot) rfl).mpr e1)]
  have ev1:path (ts1.length+1) ts1=(nameTok (ts1.drop 1)).bind fun x=>also (fun l=>x.1::l) (path ts1.length x.2):=by
   show (if next ts1=sDot then _ else _)=_
   rw [if_pos e1]
  rw [ev1] at hok hx
  refine zg he1 (by intro z; cases z) ((qv (k:=sDot) rfl).mpr e1) fun m em _ he2 hl2=>Z1 ?_
  refine JR he2 (fun m2 x ex em2 _ he3 hl3=>?_) fun hno=>hx _ (by rw [qaY hno]; rfl)
  rw [qaX ex] at hok hx
  refine Qa ?_
  have eh:held m2.tok=x:=by rw [em2]; rfl
  rw [eh]
  refine qjn ts1.length _ _ _ _ _ _ he3 (by omega) (fun l ts4 pv4 el he4 hl4=>?_) fun z ez=>hx z (by show (also _ (path ts1.length ((ts1.drop 1).drop 1))).bind _=_; rw [ez]; rfl)
  have ev2:((Except.ok (x,(ts1.drop 1).drop 1):Except Fault (Text × Marks)).bind fun x=>also (fun l=>x.1::l) (path ts1.length x.2))=.ok (x::l,ts4):=by
   show also _ (path ts1.length ((ts1.drop 1).drop 1))=_
   rw [el]; rfl
  rw [ev2] at hok hx
  replace hok:∀ e ts' pv',(if next ts4=sAsk then also (fun d=>.node .get (x::l) [a,d]) (atom sub (ts4.drop 1)) else .ok (.node .get (x::l) [a],ts4))=.ok (e,ts')->Ends ts'->ts'.length<ts.length->good e=true->Run Q E ⟨ts',pv',lv,W,B++[e],G⟩:=hok
  replace hx:∀ y,(if next ts4=sAsk then also (fun d=>.node .get (x::l) [a,d]) (atom sub (ts4.drop 1)) else (.ok (.node .get (x::l) [a],ts4):Except Fault (Tree × Marks)))=.error y->E y:=hx
  refine zL he4 ?_
  simp only [qD]
  by_cases e2:next ts4=sAsk
  ·rw [if_pos ((qv (k:=sAsk) rfl).mpr e2)]
   rw [if_pos e2] at hok hx
   refine zg he4 (by intro z; cases z) ((qv (k:=sAsk) rfl).mpr e2) fun m5 _ _ he5 hl5=>?_
   refine qfL hs _ _ _ _ _ _ _ he5 (fun d ts6 pv6 ed he6 hl6 gd=>?_) fun z ez=>hx z (by rw [ez]; rfl)
   have e3:B++[a]++[d]=B++[a,d]:=by simp
   rw [e3]
   exact zX (hok _ _ _ (by rw [ed]; rfl) he6 (by omega) (by simp [good,qJ,ga,gd]))
  ·rw [if_neg fun z=>e2 ((qv (k:=sAsk) rfl).mp z)]
   rw [if_neg e2] at hok
   exact zX (l:=[a]) (hok _ _ _ rfl he4 (by omega) (by simp [good,qJ,ga]))
 ·rw [if_neg fun z=>e1 ((qv (k:=sDot) rfl).mp z)]
  have ev1:path (ts1.length+1) ts1=.ok ([],ts1):=by
   show (if next ts1=sDot then _ else _)=_
   rw [if_neg e1]
  rw [ev1] at hok
  exact hok a ts1 pv1 rfl he1 hl1 ga
theorem qkU (hs:zi .EXPR lv sub):qkT .ARGS lv (arguments sub):=by
 intro n
 induction n with
 | zero=>intro Q E a ts pv W B G _ h; exact absurd h (Nat.not_lt_zero _)
 | succ n ih=>
  intro Q E a ts pv W B G he hn ga hok hx
  refine zL he ?_
  simp only [qD,qjk]
  by_cases e1:begins (next ts)=true
  ·rw [if_pos e1]
   have ev:arguments sub (n+1) a ts=(sel sub ts).bind fun x=>arguments sub n (.node .app [] [a,x.1]) x.2:=by
    show (if begins (next ts)=true then _ else _)=_
    rw [if_pos e1]
   rw [ev] at hok hx
   refine zL he (Z1 (qho hs _ _ _ _ _ _ _ he (fun b ts2 pv2 eb he2 hl2 gb=>?_) fun z ez=>hx z (by rw [ez]; rfl)))
   rw [eb] at hok hx
   have e3:B++[a]++[b]=B++[a,b]:=by simp
   rw [e3]
   exact zX (ih _ _ _ _ _ _ _ _ he2 (by omega) (by simp [good,qJ,ga,gb]) (fun e ts' pv' h1 h2 h3 h4=>hok e ts' pv' h1 h2 (by omega) h4) hx)
  ·rw [if_neg e1]
   refine hok a ts pv ?_ he (Nat.le_refl _) ga
   show (if begins (next ts)=true then _ else _)=_
   rw [if_neg e1]
theorem qme (hs:zi .EXPR lv sub):zi .APP lv (app sub):=by
 intro Q E ts pv W B G he hok hx
 refine zL he ?_
 simp only [qD]
 have ev:app sub ts=(sel sub ts).bind fun f=>arguments sub (f.2.length+1) f.1 f.2:=rfl
 rw [ev] at hok hx
 refine qho hs _ _ _ _ _ _ _ he (fun a ts1 pv1 ea he1 hl1 ga=>?_) fun z ez=>hx z (by rw [ez]; rfl)
 rw [ea] at hok hx
 exact qkU hs _ _ _ _ _ _ _ _ _ he1 (Nat.lt_succ_self _) ga (fun e ts' pv' h1 h2 h3 h4=>hok e ts' pv' h1 h2 (by omega) h4) hx
theorem qhp (hs:zi .EXPR lv sub):zi .NEG lv (neg sub):=qbK (qme hs) rfl (fun e h=>by simp [good,qJ,h]) fun _=>rfl
theorem qfM (hs:zi .EXPR lv sub):zi .PROD lv (prod sub) :=
 qaW (w:=.MPROD) (qhp hs) (qaV (qhp hs) (by simp [jb]) fun k=>by
  by_cases h:k=.sign [42]
  ·subst h; rfl
  ·have h':¬ Tok.sign [42]=k:=fun z=>h z.symm
   simp [qD,h,h']) fun _=>rfl
theorem qmf (hs:zi .EXPR lv sub):zi .SUM lv (sum sub) :=
 qaW (w:=.MSUM) (qfM hs) (qaV (qfM hs) (by simp [jb]) fun k=>by
  by_cases h:k=.sign [43]
  ·subst h; rfl
  ·have h':¬ Tok.sign [43]=k:=fun z=>h z.symm
   by_cases q:k=sMinus
   ·subst q; rfl
   ·have q':¬ Tok.sign [45]=k:=fun z=>q z.symm
    simp [qD,h,h',q,q']) fun _=>rfl
theorem qkV (hs:zi .EXPR lv sub):zi .JOIN lv (join sub):=qeC (w:=.MJOIN) (qmf hs) rfl (fun _=>rfl) fun _=>rfl
theorem qhq (hs:zi .EXPR lv sub):zi .UPD lv (upd sub):=qeC (w:=.MUPD) (qkV hs) rfl (fun _=>rfl) fun _=>rfl
def qdQ (sub:Read Tree) (a:Tree) (ts1:Marks):Except Fault (Tree × Marks):=match compared.find? fun p=>p.1=next ts1 with
 | some p=>also (fun b=>.node (.op p.2) [] [a,b]) (upd sub (ts1.drop 1))
 | none=>if next ts1=.word wHas then also (fun x=>.node .has [x] [a]) (nameTok (ts1.drop 1)) else .ok (a,ts1)
theorem qmg (hs:zi .EXPR lv sub):zi .CMP lv (cmp sub):=by
 intro Q E ts pv W B G he hok hx
 refine zL he ?_
 simp only [qD]
 have ev:cmp sub ts=(upd sub ts).bind fun a=>match compared.find? fun p=>p.1=next a.2 with
  | some p=>also (fun b=>.node (.op p.2) [] [a.1,b]) (upd sub (a.2.drop 1))
  | none=>if next a.2=.word wHas then also (fun x=>.node .has [x] [a.1]) (nameTok (a.2.drop 1)) else .ok a:=rfl
 rw [ev] at hok hx
 refine qhq hs _ _ _ _ _ _ _ he (fun a ts1 pv1 ea he1 hl1 ga=>?_) fun z ez=>hx z (by rw [ez]; rfl)
 rw [ea] at hok hx
 refine zL he1 ?_
 have hch:qD .MCMP (kd (next ts1))=match compared.find? fun p=>decide (p.1=next ts1) with
   | some p=>[.t p.1,.a .take,.p .UPD,.a (.fin (.op p.2))]
   | none=>if next ts1=.word wHas then [.t (.word wHas),.a .take,.t jk,.a .label,.a (.fin .has)] else []:=by
  rw [<- qdO compared (by simp [compared,jb]) (next ts1)]
  have eh:(next ts1=.word wHas)=(kd (next ts1)=.word wHas):=propext (qv (k:=.word wHas) rfl).symm
  simp only [eh]
  generalize kd (next ts1)=k
  by_cases h1:k=.sign [61,61]
  ·subst h1; rfl
  by_cases h2:k=.sign [33,61]
  ·subst h2; rfl
  by_cases h3:k=.sign [60]
  ·subst h3; rfl
  by_cases h4:k=.sign [60,61]
  ·subst h4; rfl
  have h1':¬ Tok.sign [61,61]=k:=fun z=>h1 z.symm
  have h2':¬ Tok.sign [33,61]=k:=fun z=>h2 z.symm
  have h3':¬ Tok.sign [60]=k:=fun z=>h3 z.symm
  have h4':¬ Tok.sign [60,61]=k:=fun z=>h4 z.symm
  simp [qD,compared,h1,h2,h3,h4,h1',h2',h3',h4']
 rw [hch]
 replace hok:∀ e ts' pv',qdQ sub a ts1=.ok (e,ts')->Ends ts'->ts'.length<ts.length->good e=true->Run Q E ⟨ts',pv',lv,W,B++[e],G⟩:=hok
 replace hx:∀ y,qdQ sub a ts1=.error y->E y:=hx
 unfold qdQ at hok hx
 cases ef:compared.find? fun p=>decide (p.1=next ts1) with
 | some p=>
  rw [ef] at hok hx
  have hp:jb p.1=true:=(show ∀ q∈compared,jb q.1=true by simp [compared,jb]) p (List.mem_of_find?_eq_some ef)
  have e1:p.1=next ts1:=of_decide_eq_true (List.find?_some (p:=fun p:Tok × Op=>decide (p.1=next ts1)) ef)
  refine zg he1 (Zf hp) ((qv hp).mpr e1.symm) fun m _ _ he2 hl2=>Z1 ?_
  refine qhq hs _ _ _ _ _ _ _ he2 (fun b ts3 pv3 eb he3 hl3 gb=>?_) fun z ez=>hx z (by show also _ (upd sub (ts1.drop 1))=_; rw [ez]; rfl)
  have e3:B++[a]++[b]=B++[a,b]:=by simp
  rw [e3]
  exact zX (hok _ _ _ (by show also _ (upd sub (ts1.drop 1))=_; rw [eb]; rfl) he3 (by omega) (by simp [good,qJ,ga,gb]))
 | none=>
  rw [ef] at hok hx
  by_cases e1:next ts1=.word wHas
  ·rw [if_pos e1] at hok hx
   show Run Q E ⟨ts1,pv1,lv,(if next ts1=.word wHas then [.t (.word wHas),.a .take,.t jk,.a .label,.a (.fin .has)] else [])++W,B++[a],G⟩
   rw [if_pos e1]
   refine zg he1 (by intro z; cases z) ((qv (k:=.word wHas) rfl).mpr e1) fun m _ _ he2 hl2=>Z1 ?_
   refine JR he2 (fun m2 x ex em2 _ he3 hl3=>?_) fun hno=>hx _ (by rw [qaY hno]; rfl)
   refine Qa ?_
   have eh:held m2.tok=x:=by rw [em2]; rfl
   rw [eh]
   exact zX (l:=[a]) (hok _ _ _ (by rw [qaX ex]; rfl) he3 (by omega) (by simp [good,qJ,ga]))
  ·rw [if_neg e1] at hok
   show Run Q E ⟨ts1,pv1,lv,(if next ts1=.word wHas then [.t (.word wHas),.a .take,.t jk,.a .label,.a (.fin .has)] else [])++W,B++[a],G⟩
   rw [if_neg e1]
   exact hok a ts1 pv1 rfl he1 hl1 ga
theorem qfN (hs:zi .EXPR lv sub):zi .NOT lv (nots sub):=qbK (qmg hs) rfl (fun e h=>by simp [good,qJ,h]) fun _=>rfl
theorem qfO (hs:zi .EXPR lv sub):zi .AND lv (ands sub) :=
 qaW (w:=.MAND) (qfN hs) (qaV (qfN hs) (by simp [jb]) fun k=>by
  by_cases h:k=.word wAnd
  ·subst h; rfl
  ·have h':¬ Tok.word wAnd=k:=fun z=>h z.symm
   simp [qD,h,h']) fun _=>rfl
theorem qmh (hs:zi .EXPR lv sub):zi .OR lv (ors sub) :=
 qaW (w:=.MOR) (qfO hs) (qaV (qfO hs) (by simp [jb]) fun k=>by
  by_cases h:k=.word wOr
  ·subst h; rfl
  ·have h':¬ Tok.word wOr=k:=fun z=>h z.symm
   simp [qD,h,h']) fun _=>rfl
end
end RM
end
section
set_option autoImplicit false
namespace RM
open Vastoa
theorem Qv {A B:Type} (x:A) (f:A->Except Fault B):(Except.ok x:Except Fault A).bind f=f x:=rfl
section
variable {lv:Nat} {sub:Read Tree}
def given (sub:Read Tree) (ts:Marks):Except Fault (List Tree × Marks):=if next (ts.drop 1)=sAsk then also (fun e=>[e]) (sub (ts.drop 2)) else .ok ([],ts.drop 1)
def ZL (sub:Read Tree) (n:Nat) (seen:List Text) (x:Text) (d:List Tree × Marks):Except Fault ((List Tree × Bool) × Marks) :=
 if next d.2=sComma then also (fun l=>(.node .param [x] d.1::l.1,l.2)) (params sub n (x::seen) (d.2.drop 1))
 else (expect sUnbrace d.2).bind fun u=>.ok (([.node .param [x] d.1],false),u.2)
theorem qgO {n:Nat} {seen:List Text} {ts:Marks} {x:Text} (ex:next ts=.name x) :
  params sub (n+1) seen ts=if seen.contains x then .error ⟨5,here ts⟩ else (given sub ts).bind (ZL sub n seen x):=by
 show (match next ts with | .name x=>_ | .sign s=>_ | _=>_)=_
 rw [ex]
 rfl
theorem qfP {ts:Marks}:(ts.drop 1).drop 1=ts.drop 2:=by rw [List.drop_drop]
theorem qh5 {Q:MS->Prop} {E:Fault->Prop} (hs:zi .EXPR lv sub):∀ (n:Nat) (seen:List Text) (g:Bg) (ts:Marks) (pv:Mark) (W:List Sym) (B:List Tree) (G:List Bg),Ends ts->ts.length<n->Met g seen ->
  (∀ l dots ts' pv' ns,params sub n seen ts=.ok ((l,dots),ts')->Ends ts'->ts'.length<ts.length->qJ l=true ->
   Run Q E ⟨ts',pv',lv,.t sColon::.p .EXPR::.a (.fin (if dots then .openFields else .fields))::W,B++l,⟨g.first,g.labels,ns⟩::G⟩) ->
  (∀ y,params sub n seen ts=.error y->E y)->Run Q E ⟨ts,pv,lv,.p .PARAMS::W,B,g::G⟩:=by
 intro n
 induction n with
 | zero=>intro seen g ts pv W B G _ h; exact absurd h (Nat.not_lt_zero _)
 | succ n ih=>
  intro seen g ts pv W B G he hn hm hok hx
  refine zL he ?_
  simp only [qD]
  by_cases e1:kd (next ts)=qfh
  ·rw [if_pos e1]
   have ex:=(qv (k:=qfh) rfl).mp e1
   have ev:params sub (n+1) seen ts=(expect sUnbrace (ts.drop 1)).bind fun u=>.ok (([],true),u.2):=by
    show (match next ts with | .name x=>_ | .sign s=>_ | _=>_)=_
    rw [ex]; rfl
   rw [ev] at hok hx
   refine zg he (by intro z; cases z) e1 fun m _ _ he1 hl1=>?_
   refine ZK he1 rfl (fun m2 e2 he2 hl2=>?_) fun e2=>hx _ (by rw [e2]; rfl)
   have:=hok [] true _ m2 g.names (by rw [e2]; rfl) he2 (by omega) rfl
   rw [List.append_nil] at this
   exact this
  ·rw [if_neg e1]
   refine JR he (fun m x ex em ep he1 hl1=>?_) fun hno=>hx _ ?_
   ·rw [qgO ex] at hok hx
    have eh:held m.tok=x:=by rw [em]; rfl
    refine qeA (fun hn1=>?_) fun hn1=>?_
    ·rw [eh] at hn1 ⊢
     have hns:¬ seen.contains x=true:=fun z=>hn1 ((hm x).mpr z)
     rw [if_neg hns] at hok hx
     refine zG (Qa ?_)
     rw [eh]
     have rest:∀ (d:List Tree) (ts2:Marks) (pv2:Mark),given sub ts=.ok (d,ts2)->Ends ts2->ts2.length<ts.length->qJ d=true->d.length<=1 ->
       Run Q E ⟨ts2,pv2,lv,.a (.fin .param)::.p .MPARAMS::W,B++d,⟨B.length,[]++[x],[]⟩::⟨g.first,g.labels,g.names++[x]⟩::G⟩:=by
      intro d ts2 pv2 ed he2 hl2 gd ld
      rw [ed] at hok hx
      replace hok:∀ l dots ts' pv' ns,ZL sub n seen x (d,ts2)=.ok ((l,dots),ts')->Ends ts'->ts'.length<ts.length->qJ l=true ->
       Run Q E ⟨ts',pv',lv,.t sColon::.p .EXPR::.a (.fin (if dots then .openFields else .fields))::W,B++l,⟨g.first,g.labels,ns⟩::G⟩:=hok
      replace hx:∀ y,ZL sub n seen x (d,ts2)=.error y->E y:=hx
      have gp:good (.node .param [x] d)=true:=by
       match d,ld,gd with
       | [],_,_=>rfl
       | [a],_,ga=>simp [qJ] at ga; simp [good,qJ,ga]
      refine zX (zL he2 ?_)
      simp only [qD]
      by_cases e3:next ts2=sComma
      ·rw [if_pos ((qv (k:=sComma) rfl).mpr e3)]
       have ev:ZL sub n seen x (d,ts2)=also (fun l=>(.node .param [x] d::l.1,l.2)) (params sub n (x::seen) (ts2.drop 1)):=by
        show (if next ts2=sComma then _ else _)=_
        rw [if_pos e3]
       rw [ev] at hok hx
       refine zg he2 (by intro z; cases z) ((qv (k:=sComma) rfl).mpr e3) fun m3 _ _ he3 hl3=>?_
       refine ih (x::seen) _ _ _ _ _ _ he3 (by omega) (hm.more _ _) (fun l dots ts4 pv4 ns el he4 hl4 gl=>?_) fun z ez=>hx z (by rw [ez]; rfl)
       have:=hok (.node .param [x] d::l) dots ts4 pv4 ns (by rw [el]; rfl) he4 (by omega) (by simp [qJ,gp,gl])
       rw [List.append_assoc]
       exact this
      ·rw [if_neg fun z=>e3 ((qv (k:=sComma) rfl).mp z)]
       have ev:ZL sub n seen x (d,ts2)=(expect sUnbrace ts2).bind fun u=>.ok (([.node .param [x] d],false),u.2):=by
        show (if next ts2=sComma then _ else _)=_
        rw [if_neg e3]
       rw [ev] at hok hx
       refine ZK he2 rfl (fun m3 e4 he3 hl3=>?_) fun e4=>hx _ (by rw [e4]; rfl)
       exact hok [.node .param [x] d] false _ m3 _ (by rw [e4]; rfl) he3 (by omega) (by simp [qJ,gp])
     refine zL he1 ?_
     simp only [qD]
     by_cases e2:next (ts.drop 1)=sAsk
     ·rw [if_pos ((qv (k:=sAsk) rfl).mpr e2)]
      have ev:given sub ts=also (fun e=>[e]) (sub (ts.drop 2)):=by unfold given; rw [if_pos e2]
      refine zg he1 (by intro z; cases z) ((qv (k:=sAsk) rfl).mpr e2) fun m3 _ _ he3 hl3=>?_
      refine hs _ _ _ _ _ _ _ he3 (fun a ts4 pv4 ea he4 hl4 ga=>?_) fun z ez=>hx z ?_
      ·exact rest [a] ts4 pv4 (by rw [ev,<- qfP,ea]; rfl) he4 (by omega) (by simp [qJ,ga]) (Nat.le_refl 1)
      ·rw [ev,<- qfP,ez]; rfl
     ·rw [if_neg fun z=>e2 ((qv (k:=sAsk) rfl).mp z)]
      have:=rest [] (ts.drop 1) m (by unfold given; rw [if_neg e2]) he1 hl1 rfl (Nat.zero_le _)
      rw [List.append_nil] at this
      exact this
    ·rw [eh] at hn1
     rw [if_pos ((hm x).mp hn1)] at hx
     rw [ep]
     exact hx _ rfl
   ·show (match next ts with | .name x=>_ | .sign s=>_ | _=>_)=_
    cases ex:next ts with
    | name x=>exact absurd ex (hno x)
    | sign s=>
     rw [ex] at e1
     show (if s=[46,46] then _ else _)=_
     rw [if_neg (by rintro rfl; exact e1 rfl)]
     rfl
    | _=>rfl
def bodyOf (sub:Read Tree) (p:(List Tree × Bool) × Marks):Except Fault (Tree × Marks) :=
 (expect sColon p.2).bind fun v=>also (fun e=>.node (if p.1.2 then .openFields else .fields) [] (p.1.1++[e])) (sub v.2)
theorem qfQ {Q:MS->Prop} {E:Fault->Prop} {ts:Marks} {pv:Mark} {W:List Sym} {B:List Tree} {G:List Bg} {l:List Tree} {dots:Bool} {ns:List Text} (hs:zi .EXPR lv sub) (he:Ends ts) (gl:qJ l=true)
  (hok:∀ e ts' pv',bodyOf sub ((l,dots),ts)=.ok (e,ts')->Ends ts'->ts'.length<ts.length->good e=true->Run Q E ⟨ts',pv',lv,W,B++[e],G⟩)
  (hx:∀ y,bodyOf sub ((l,dots),ts)=.error y->E y):Run Q E ⟨ts,pv,lv,.t sColon::.p .EXPR::.a (.fin (if dots then .openFields else .fields))::W,B++l,⟨B.length,[],ns⟩::G⟩:=by
 have ev:bodyOf sub ((l,dots),ts)=(expect sColon ts).bind fun v=>also (fun e=>.node (if dots then .openFields else .fields) [] (l++[e])) (sub v.2):=rfl
 rw [ev] at hok hx
 refine ZK he rfl (fun m e1 he1 hl1=>?_) fun e1=>hx _ (by rw [e1]; rfl)
 rw [e1] at hok hx
 refine hs _ _ _ _ _ _ _ he1 (fun a ts2 pv2 ea he2 hl2 ga=>?_) fun z ez=>hx z (by rw [Qv]; dsimp only; rw [ez]; rfl)
 rw [List.append_assoc]
 refine zX (hok _ _ _ (by rw [Qv]; dsimp only; rw [ea]; rfl) he2 (by omega) ?_)
 have gg:qJ (l++[a])=true:=by rw [Z0,gl]; simp [qJ,ga]
 cases dots <;> simp [good,gg]
theorem qfR (hs:zi .EXPR lv sub):zi .FUNCTION lv (function sub):=by
 intro Q E ts pv W B G he hok hx
 refine zL he ?_
 simp only [qD]
 by_cases e1:kd (next ts)=jk
 ·rw [if_pos e1]
  obtain ⟨x,ex⟩:=qck.mp e1
  have ev:function sub ts=(expect sColon (ts.drop 1)).bind fun u=>also (fun e=>.node .fn [x] [e]) (sub u.2):=by unfold function; rw [ex]
  rw [ev] at hok hx
  refine zg he (by intro z; cases z) e1 fun m em _ he1 hl1=>zG (Qa ?_)
  have eh:held m.tok=x:=by rw [em,ex]; rfl
  rw [eh]
  refine ZK he1 rfl (fun m2 e2 he2 hl2=>?_) fun e2=>hx _ (by rw [e2]; rfl)
  rw [e2] at hok hx
  refine hs _ _ _ _ _ _ _ he2 (fun a ts3 pv3 ea he3 hl3 ga=>?_) fun z ez=>hx z (by rw [Qv]; dsimp only; rw [ez]; rfl)
  exact zX (l:=[a]) (hok _ _ _ (by rw [Qv]; dsimp only; rw [ea]; rfl) he3 (by omega) (by simp [good,qJ,ga]))
 ·rw [if_neg e1]
  have ev:function sub ts=(expect sBrace ts).bind fun u=>
   (if next u.2=sUnbrace then .ok (([],false),u.2.drop 1) else params sub (u.2.length+1) [] u.2).bind (bodyOf sub):=by
   unfold function
   cases ex:next ts with
   | name x=>exact absurd ex (qcP e1 x)
   | _=>rfl
  rw [ev] at hok hx
  refine ZK he rfl (fun m e2 he1 hl1=>?_) fun e2=>hx _ (by rw [e2]; rfl)
  rw [e2] at hok hx
  replace hok:∀ e ts' pv',((if next (ts.drop 1)=sUnbrace then .ok (([],false),(ts.drop 1).drop 1) else params sub ((ts.drop 1).length+1) [] (ts.drop 1)).bind (bodyOf sub))=.ok (e,ts')->Ends ts'->ts'.length<ts.length->good e=true->Run Q E ⟨ts',pv',lv,W,B++[e],G⟩:=hok
  replace hx:∀ y,((if next (ts.drop 1)=sUnbrace then .ok (([],false),(ts.drop 1).drop 1) else params sub ((ts.drop 1).length+1) [] (ts.drop 1)).bind (bodyOf sub))=.error y->E y:=hx
  refine zG (zL he1 ?_)
  simp only [qD]
  by_cases e3:next (ts.drop 1)=sUnbrace
  ·rw [if_pos ((qv (k:=sUnbrace) rfl).mpr e3)]
   rw [if_pos e3] at hok hx
   refine zg he1 (by intro z; cases z) ((qv (k:=sUnbrace) rfl).mpr e3) fun m3 _ _ he3 hl3=>?_
   have:=qfQ (Q:=Q) (E:=E) (B:=B) (G:=G) (W:=W) (pv:=m3) (l:=[]) (dots:=false) (ns:=[]) hs he3 rfl (fun e ts' pv' h1 h2 h3 h4=>hok e ts' pv' h1 h2 (by omega) h4) hx
   rw [List.append_nil] at this
   exact this
  ·rw [if_neg fun z=>e3 ((qv (k:=sUnbrace) rfl).mp z)]
   rw [if_neg e3] at hok hx
   refine qh5 hs _ [] _ _ _ _ _ _ he1 (Nat.lt_succ_self _) (fun x=>by simp) (fun l dots ts4 pv4 ns el he4 hl4 gl=>?_) fun z ez=>hx z (by rw [ez]; rfl)
   rw [el] at hok hx
   exact qfQ hs he4 gl (fun e ts' pv' h1 h2 h3 h4=>hok e ts' pv' h1 h2 (by omega) h4) hx
theorem qkW (hs:zi .EXPR lv sub):zi .FORM lv (expr sub):=by
 intro Q E ts pv W B G he hok hx
 refine zL he ?_
 simp only [qD]
 by_cases e1:kd (next ts)=.word wFn
 ·rw [if_pos e1]
  have ex:=(qv (k:=.word wFn) rfl).mp e1
  have ev:expr sub ts=function sub (ts.drop 1):=by unfold expr; rw [if_pos ex]
  rw [ev] at hok hx
  refine zg he (by intro z; cases z) e1 fun m _ _ he1 hl1=>?_
  exact qfR hs _ _ _ _ _ _ _ he1 (fun e ts' pv' h1 h2 h3 h4=>hok e ts' pv' h1 h2 (by omega) h4) hx
 rw [if_neg e1]
 have n1:¬ next ts=.word wFn:=fun z=>e1 ((qv (k:=.word wFn) rfl).mpr z)
 by_cases e2:kd (next ts)=.word wLet
 ·rw [if_pos e2]
  have ex:=(qv (k:=.word wLet) rfl).mp e2
  have ev:expr sub ts=letRest sub (ts.drop 1):=by unfold expr; rw [if_neg n1,if_pos ex]
  rw [ev] at hok hx
  refine zg he (by intro z; cases z) e2 fun m _ _ he1 hl1=>zG ?_
  generalize hr:ts.drop 1=r at he1 hl1 hok hx
  have ev2:letRest sub r=(binds sub (r.length+1) [] r).bind fun l=>
   if l.1.isEmpty then wrong l.2 else (expect (.word wIn) l.2).bind fun u=>also (fun e=>.node .letIn (l.1.map fun x=>x.1) ((l.1.map fun x=>x.2)++[e])) (sub u.2):=rfl
  rw [ev2] at hok hx
  by_cases e3:∃ x,next r=.name x
  ·refine qeF (n:=r.length) hs (qeG hs _) [] ⟨B.length,[],[]⟩ r m (.t (.word wIn)::.p .EXPR::.a (.fin .letIn)::W) B G he1 (Nat.lt_succ_self _) (fun x=>by simp) (fun _=>e3) (fun l ts2 pv2 ns el he2 hl2 gl ne=>?_) fun z ez=>hx z (by rw [ez]; rfl)
   rw [el] at hok hx
   have hne:¬ l.isEmpty=true:=fun z=>ne (by intro q; cases q) (List.isEmpty_iff.mp z)
   replace hok:∀ e ts' pv',(if l.isEmpty then wrong ts2 else (expect (.word wIn) ts2).bind fun u=>also (fun e=>.node .letIn (l.map fun x=>x.1) ((l.map fun x=>x.2)++[e])) (sub u.2))=.ok (e,ts')->Ends ts'->ts'.length<ts.length->good e=true->Run Q E ⟨ts',pv',lv,W,B++[e],G⟩:=hok
   replace hx:∀ y,(if l.isEmpty then wrong ts2 else (expect (.word wIn) ts2).bind fun u=>also (fun e=>Tree.node .letIn (l.map fun x=>x.1) ((l.map fun x=>x.2)++[e])) (sub u.2))=.error y->E y:=hx
   rw [if_neg hne] at hok hx
   refine ZK he2 rfl (fun m3 e4 he3 hl3=>?_) fun e4=>hx _ (by rw [e4]; rfl)
   rw [e4] at hok hx
   refine hs _ _ _ _ _ _ _ he3 (fun a ts4 pv4 ea he4 hl4 ga=>?_) fun z ez=>hx z (by rw [Qv]; dsimp only; rw [ez]; rfl)
   rw [List.append_assoc]
   refine zX (hok _ _ _ (by rw [Qv]; dsimp only; rw [ea]; rfl) he4 (by omega) ?_)
   have gg:qJ ((l.map fun x=>x.2)++[a])=true:=by rw [Z0,gl]; simp [qJ,ga]
   simp [good,gg]
  ·have hno:∀ x,next r≠.name x:=fun x z=>e3 ⟨x,z⟩
   refine JR he1 (fun m2 x ex2 _ _ _ _=>absurd ex2 (hno x)) fun _=>hx _ ?_
   have ev3:binds sub (r.length+1) [] r=.ok ([],r):=by
    show (match next r with | .name x=>_ | _=>_)=_
    cases ex2:next r with
    | name x=>exact absurd ex2 (hno x)
    | _=>rfl
   rw [ev3]
   rfl
 rw [if_neg e2]
 have n2:¬ next ts=.word wLet:=fun z=>e2 ((qv (k:=.word wLet) rfl).mpr z)
 by_cases e3:kd (next ts)=.word wIf
 ·rw [if_pos e3]
  have ex:=(qv (k:=.word wIf) rfl).mp e3
  have ev:expr sub ts=(closedBy (.word wThen) sub (ts.drop 1)).bind fun a=>(closedBy (.word wElse) sub a.2).bind fun b=>also (fun c=>.node .cond [] [a.1,b.1,c]) (sub b.2):=by
   unfold expr; rw [if_neg n1,if_neg n2,if_pos ex]
  rw [ev] at hok hx
  refine zg he (by intro z; cases z) e3 fun m _ _ he1 hl1=>zG ?_
  refine Q0 hs he1 rfl (fun a ts2 pv2 ea he2 hl2 ga=>?_) fun z ez=>hx z (by rw [ez]; rfl)
  rw [ea] at hok hx
  refine Q0 hs he2 rfl (fun b ts3 pv3 eb he3 hl3 gb=>?_) fun z ez=>hx z (by show (closedBy (.word wElse) sub ts2).bind _=_; rw [ez]; rfl)
  refine hs _ _ _ _ _ _ _ he3 (fun c ts4 pv4 ec he4 hl4 gc=>?_) fun z ez=>hx z ?_
  ·have e4:B++[a]++[b]++[c]=B++[a,b,c]:=by simp
   rw [e4]
   refine zX (hok _ _ _ ?_ he4 (by omega) (by simp [good,qJ,ga,gb,gc]))
   show (closedBy (.word wElse) sub ts2).bind _=_
   rw [eb]
   rw [Qv]; dsimp only
   rw [ec]; rfl
  ·show (closedBy (.word wElse) sub ts2).bind _=_
   rw [eb]
   rw [Qv]; dsimp only
   rw [ez]; rfl
 rw [if_neg e3]
 have n3:¬ next ts=.word wIf:=fun z=>e3 ((qv (k:=.word wIf) rfl).mpr z)
 by_cases e4:kd (next ts)=.word wMust
 ·rw [if_pos e4]
  have ex:=(qv (k:=.word wMust) rfl).mp e4
  have ev:expr sub ts=(closedBy sSemi sub (ts.drop 1)).bind fun a=>also (fun b=>.node .must [] [a.1,b]) (sub a.2):=by
   unfold expr; rw [if_neg n1,if_neg n2,if_neg n3,if_pos ex]
  rw [ev] at hok hx
  refine zg he (by intro z; cases z) e4 fun m _ _ he1 hl1=>zG ?_
  refine Q0 hs he1 rfl (fun a ts2 pv2 ea he2 hl2 ga=>?_) fun z ez=>hx z (by rw [ez]; rfl)
  rw [ea] at hok hx
  refine hs _ _ _ _ _ _ _ he2 (fun b ts3 pv3 eb he3 hl3 gb=>?_) fun z ez=>hx z (by rw [Qv]; dsimp only; rw [ez]; rfl)
  have e5:B++[a]++[b]=B++[a,b]:=by simp
  rw [e5]
  exact zX (hok _ _ _ (by rw [Qv]; dsimp only; rw [eb]; rfl) he3 (by omega) (by simp [good,qJ,ga,gb]))
 rw [if_neg e4]
 have n4:¬ next ts=.word wMust:=fun z=>e4 ((qv (k:=.word wMust) rfl).mpr z)
 have ev:expr sub ts=ors sub ts:=by unfold expr; rw [if_neg n1,if_neg n2,if_neg n3,if_neg n4]
 rw [ev] at hok hx
 exact qmh hs _ _ _ _ _ _ _ he hok hx
end
theorem qeH:∀ (n lv:Nat),lv+n=40->zi .EXPR lv (level n)
 | 0,lv,h=>by
  intro Q E ts pv W B G he hok hx
  refine zL he (qeB he (fun z=>absurd (by omega) z) fun _=>hx _ rfl)
 | n+1,lv,h=>by
  intro Q E ts pv W B G he hok hx
  have hs:=qeH n (lv+1) (by omega)
  refine zL he (qeB he (fun _=>?_) fun z=>absurd z (by omega))
  have ev:level (n+1) ts=expr (level n) ts:=rfl
  rw [ev] at hok hx
  exact qkW hs _ _ _ _ _ _ _ he (fun e ts' pv' h1 h2 h3 h4=>qjl (hok e ts' pv' h1 h2 h3 h4)) hx
theorem machine {Q:MS->Prop} {E:Fault->Prop} {ts:Marks} {pv:Mark} (he:Ends ts)
  (hok:∀ e u pv',(level DEEP ts).bind (fun e=>(expect .fin e.2).bind fun _=>.ok e.1)=.ok e->good e=true->Q ⟨u,pv',0,[],[e],[]⟩)
  (hx:∀ y,(level DEEP ts).bind (fun e=>(expect .fin e.2).bind fun _=>.ok e.1)=.error y->E y):Run Q E ⟨ts,pv,0,[.p .EXPR,.t .fin],[],[]⟩:=by
 refine qeH 40 0 rfl _ _ _ _ _ _ _ he (fun e ts' pv' h1 h2 h3 h4=>?_) fun z ez=>hx z (by show (level 40 ts).bind _=_; rw [ez]; rfl)
 obtain ⟨m,r,rfl,he',hf⟩:=h2.cons
 by_cases e1:kd m.tok=.fin
 ·have e2:m.tok=.fin:=qjj.mp e1
  refine .next (s':=⟨r,m,0,[],[]++[e],[]⟩) ?_ (.done (hok e r m ?_ h4))
  ·show (if kd m.tok=.fin then _ else _)=_
   rw [if_pos e1]
  ·show (level 40 ts).bind _=_
   rw [h1]
   show (expect .fin (m::r)).bind _=_
   rw [qeD (show next (m::r)=.fin from e2)]
   rfl
 ·have e2:¬ m.tok=.fin:=fun z=>e1 (qjj.mpr z)
  refine .fail (x:=⟨3,m.place⟩) ?_ (hx _ ?_)
  ·show (if kd m.tok=.fin then _ else _)=_
   rw [if_neg e1]
  ·show (level 40 ts).bind _=_
   rw [h1]
   show (expect .fin (m::r)).bind _=_
   rw [qeE (show next (m::r)≠.fin from e2)]
   rfl
end RM
end
section
set_option autoImplicit false
namespace CM
open Vastoa
structure Here (txt:Text) (n:Nat) (lit:Bool) (O:List Bool) (i:Nat) (T:Marks):Prop where
 le:i<=txt.length
 fuel:txt.length<n+i
 eq:tokens txt=(cut n lit O i (txt.drop i)).map (T ++ ·)
theorem start (txt:Text):Here txt (txt.length+1) false [] 0 []:=⟨Nat.zero_le _,by omega,by
 unfold tokens
 rw [List.drop_zero]
 cases cut (txt.length+1) false [] 0 txt <;> rfl⟩
theorem jA {T:Marks} {i:Nat} {t:Tok} {r:Except Fault Marks}:(before i t r).map (T ++ ·)=r.map ((T++[⟨i,t⟩]) ++ ·):=by
 cases r with
 | error f=>rfl
 | ok l=>show Except.ok (T++⟨i,t⟩::l)=Except.ok (T++[⟨i,t⟩]++l); simp
theorem zr {txt:Text} {i c:Nat} (h:txt[i]? = some c):txt.drop i=c::txt.drop (i+1):=by
 obtain ⟨hi,rfl⟩:=List.getElem?_eq_some_iff.mp h
 exact List.drop_eq_getElem_cons hi
theorem qcQ {txt:Text} {i:Nat} (h:txt[i]? = none):txt.drop i=[]:=List.drop_eq_nil_of_le (List.getElem?_eq_none_iff.mp h)
theorem Zl {txt:Text} {i c:Nat} (h:txt[i]? = some c):i<txt.length:=(List.getElem?_eq_some_iff.mp h).1
section
variable {txt:Text} {n i c:Nat} {O:List Bool} {T:Marks}
theorem Here.pos {lit:Bool} (h:Here txt n lit O i T):∃ m,n=m+1:=⟨n - 1,by have:=h.fuel; have:=h.le; omega⟩
theorem qnj (h:Here txt n false O i T) (e:txt[i]? = none):tokens txt=.ok (T++[⟨i,.fin⟩]):=by
 obtain ⟨m,rfl⟩:=h.pos
 rw [h.eq,qcQ e]
 rfl
theorem qkX (h:Here txt n false O i T) (e:txt[i]? = some c) (hb:blank c=true):Here txt (n - 1) false O (i+1) T:=by
 obtain ⟨m,rfl⟩:=h.pos
 have hi:=Zl e
 refine ⟨hi,by have:=h.fuel; omega,?_⟩
 rw [h.eq,zr e]
 show (if blank c then _ else _:Except Fault Marks).map _=_
 rw [if_pos hb]
 rfl
theorem qbj {p:Nat->Bool}:∀ (l:Text) (k:Nat),k<=l.length->(∀ j,j<k->∃ x,l[j]? = some x/\p x=true)->(∀ x,l[k]? = some x->p x=false)->l.takeWhile p=l.take k
 | [],k,h,_,_=>by
  have:k=0:=(by simpa using h); subst this; rfl
 | a::l,0,_,_,h2=>by
  have:=h2 a rfl
  simp [List.takeWhile_cons,this]
 | a::l,k+1,h,h1,h2=>by
  obtain ⟨x,ex,px⟩:=h1 0 (Nat.succ_pos _)
  cases ex
  rw [List.takeWhile_cons,if_pos px,List.take_succ_cons]
  rw [qbj l k (by simpa using h) (fun j hj=>h1 (j+1) (by omega)) fun x hx=>h2 x hx]
theorem qfS {p:Nat->Bool} {k:Nat} (hk:i+k<=txt.length) (h1:∀ j,j<k->∃ x,txt[i+j]? = some x/\p x=true) (h2:∀ x,txt[i+k]? = some x->p x=false):(txt.drop i).takeWhile p=(txt.drop i).take k :=
 qbj _ k (by rw [List.length_drop]; omega) (fun j hj=>by rw [List.getElem?_drop]; exact h1 j hj) fun x hx=>h2 x (by rw [List.getElem?_drop] at hx; exact hx)
theorem qdR {k:Nat} (hk:i+k<=txt.length):((txt.drop i).take k).length=k:=by rw [List.length_take,List.length_drop]; omega
theorem qh6 {k:Nat} (h:Here txt n false O i T) (e:txt[i]? = some 35) (hk:i+k<=txt.length) (h0:0<k) (h1:∀ j,j<k->∃ x,txt[i+j]? = some x/\x≠10) (h2:∀ x,txt[i+k]? = some x->x=10) :
  Here txt (n - 1) false O (i+k) T:=by
 obtain ⟨m,rfl⟩:=h.pos
 have hr:=qfS (p:=fun y=>y != 10) hk (fun j hj=>by obtain ⟨x,a,b⟩:=h1 j hj; exact ⟨x,a,by simpa using b⟩) fun x hx=>by have:=h2 x hx; subst this; rfl
 refine ⟨hk,by have:=h.fuel; omega,?_⟩
 rw [h.eq]
 have ed:=zr e
 have ev:cut (m+1) false O i (txt.drop i)=cut m false O (i+((txt.drop i).takeWhile fun y=>y != 10).length) ((txt.drop i).drop ((txt.drop i).takeWhile fun y=>y != 10).length):=by
  rw [ed]; rfl
 rw [ev,hr,qdR hk,List.drop_drop]
 rfl
theorem qjo {c:Nat} (h:letter c=true):blank c=false/\c≠35:=by
 unfold letter at h; unfold blank
 simp at h ⊢
 omega
theorem qmi {k:Nat} (h:Here txt n false O i T) (e:txt[i]? = some c) (hl:letter c=true) (hk:i+k<=txt.length) (h0:0<k) (h1:∀ j,j<k->∃ x,txt[i+j]? = some x/\inner x=true) (h2:∀ x,txt[i+k]? = some x->inner x=false) :
  (32<k->tokens txt=.error ⟨2,i⟩)/\(k<=32->Here txt (n - 1) false O (i+k) (T++[⟨i,if reserved.contains ((txt.drop i).take k) then .word ((txt.drop i).take k) else .name ((txt.drop i).take k)⟩])):=by
 obtain ⟨m,rfl⟩:=h.pos
 have hr:=qfS hk h1 h2
 have ed:=zr e
 obtain ⟨l1,l2⟩:=qjo hl
 have ev:cut (m+1) false O i (txt.drop i)=if 32<((txt.drop i).takeWhile inner).length then .error ⟨2,i⟩
   else before i (if reserved.contains ((txt.drop i).takeWhile inner) then .word ((txt.drop i).takeWhile inner) else .name ((txt.drop i).takeWhile inner))
    (cut m false O (i+((txt.drop i).takeWhile inner).length) ((txt.drop i).drop ((txt.drop i).takeWhile inner).length)):=by
  rw [ed]
  show (if blank c then _ else if c=35 then _ else if letter c then _ else _)=_
  rw [if_neg (by rw [l1]; decide),if_neg l2,if_pos hl]
 rw [hr,qdR hk,List.drop_drop] at ev
 constructor
 ·intro hb
  rw [h.eq,ev,if_pos hb]
  rfl
 ·intro hb
  refine ⟨hk,by have:=h.fuel; omega,?_⟩
  rw [h.eq,ev,if_neg (by omega),jA]
  rfl
theorem qkY {c:Nat} (h:digit c=true):blank c=false/\c≠35/\letter c=false:=by
 unfold digit at h; unfold blank letter
 simp at h ⊢
 omega
theorem qjp {k:Nat} (h:Here txt n false O i T) (e:txt[i]? = some c) (hl:digit c=true) (hk:i+k<=txt.length) (h0:0<k) (h1:∀ j,j<k->∃ x,txt[i+j]? = some x/\digit x=true) (h2:∀ x,txt[i+k]? = some x->digit x=false) :
  ((30<k \/ (c=48/\1<k))->tokens txt=.error ⟨2,i⟩)/\(¬ (30<k \/ (c=48/\1<k))->Here txt (n - 1) false O (i+k) (T++[⟨i,.num ((txt.drop i).take k)⟩])):=by
 obtain ⟨m,rfl⟩:=h.pos
 have hr:=qfS hk h1 h2
 have ed:=zr e
 obtain ⟨l1,l2,l3⟩:=qkY hl
 have ev:cut (m+1) false O i (txt.drop i)=if 30<((txt.drop i).takeWhile digit).length \/ (c=48/\1<((txt.drop i).takeWhile digit).length) then .error ⟨2,i⟩
   else before i (.num ((txt.drop i).takeWhile digit))
    (cut m false O (i+((txt.drop i).takeWhile digit).length) ((txt.drop i).drop ((txt.drop i).takeWhile digit).length)):=by
  rw [ed]
  show (if blank c then _ else if c=35 then _ else if letter c then _ else if digit c then _ else _)=_
  rw [if_neg (by rw [l1]; decide),if_neg l2,if_neg (by rw [l3]; decide),if_pos hl]
 rw [hr,qdR hk,List.drop_drop] at ev
 constructor
 ·intro hb
  rw [h.eq,ev,if_pos hb]
  rfl
 ·intro hb
  refine ⟨hk,by have:=h.fuel; omega,?_⟩
  rw [h.eq,ev,if_neg hb,jA]
  rfl
theorem qkZ (h:Here txt n false O i T) (e:txt[i]? = some 34):Here txt (n - 1) true O (i+1) (T++[⟨i,.quote⟩]):=by
 obtain ⟨m,rfl⟩:=h.pos
 refine ⟨Zl e,by have:=h.fuel; omega,?_⟩
 rw [h.eq,zr e]
 show (before i .quote (cut m true O (i+1) (txt.drop (i+1)))).map _=_
 rw [jA]
 rfl
theorem qk0 (h:Here txt n false O i T) (e:txt[i]? = some 123):Here txt (n - 1) false (false::O) (i+1) (T++[⟨i,.sign [123]⟩]):=by
 obtain ⟨m,rfl⟩:=h.pos
 refine ⟨Zl e,by have:=h.fuel; omega,?_⟩
 rw [h.eq,zr e]
 show (before i (.sign [123]) (cut m false (false::O) (i+1) (txt.drop (i+1)))).map _=_
 rw [jA]
 rfl
theorem qjq {O':List Bool} (h:Here txt n false (true::O') i T) (e:txt[i]? = some 125):Here txt (n - 1) true O' (i+1) (T++[⟨i,.unhole⟩]):=by
 obtain ⟨m,rfl⟩:=h.pos
 refine ⟨Zl e,by have:=h.fuel; omega,?_⟩
 rw [h.eq,zr e]
 show (before i .unhole (cut m true O' (i+1) (txt.drop (i+1)))).map _=_
 rw [jA]
 rfl
theorem qh7 (h:Here txt n false O i T) (e:txt[i]? = some 125) (hO:O.head? ≠ some true):Here txt (n - 1) false (O.drop 1) (i+1) (T++[⟨i,.sign [125]⟩]):=by
 obtain ⟨m,rfl⟩:=h.pos
 refine ⟨Zl e,by have:=h.fuel; omega,?_⟩
 rw [h.eq,zr e]
 show (if O.head? = some true then _ else before i (.sign [125]) (cut m false (O.drop 1) (i+1) (txt.drop (i+1)))).map _=_
 rw [if_neg hO,jA]
 rfl
def other (c:Nat):Bool:=!(blank c)&&c != 35 && !(letter c) && !(digit c)&&c != 34&&c != 123&&c != 125
theorem qdj {b x:Text} (h:signAt b=some x):x=b.take x.length/\0<x.length/\x.length<=b.length:=by
 unfold signAt at h
 split at h
 ·rename_i hs
  cases h
  have:(b.take 2)∈signs2:=List.contains_iff_mem.mp hs
  have l2:(b.take 2).length=2:=by
   simp only [signs2,List.mem_cons,List.not_mem_nil,or_false] at this
   rcases this with e | e | e | e | e | e <;> rw [e] <;> rfl
  have hb:2<=b.length:=by rw [List.length_take] at l2; omega
  exact ⟨by rw [l2],by omega,by omega⟩
 ·split at h
  ·rename_i hs
   cases h
   have:(b.take 1)∈signs1:=List.contains_iff_mem.mp hs
   have l2:(b.take 1).length=1:=by
    simp only [signs1,List.mem_cons,List.not_mem_nil,or_false] at this
    rcases this with e | e | e | e | e | e | e | e | e | e | e | e | e | e <;> rw [e] <;> rfl
   have hb:1<=b.length:=by rw [List.length_take] at l2; omega
   exact ⟨by rw [l2],by omega,by omega⟩
  ·cases h
theorem qmj (h:Here txt n false O i T) (e:txt[i]? = some c) (ho:other c=true) :
  (signAt (txt.drop i)=none->tokens txt=.error ⟨2,i⟩)/\∀ x,signAt (txt.drop i)=some x->Here txt (n - 1) false O (i+x.length) (T++[⟨i,.sign x⟩]):=by
 obtain ⟨m,rfl⟩:=h.pos
 have ed:=zr e
 have ev:cut (m+1) false O i (txt.drop i)=match signAt (txt.drop i) with
   | some x=>before i (.sign x) (cut m false O (i+x.length) ((txt.drop i).drop x.length))
   | none=>.error ⟨2,i⟩:=by
  rw [ed]
  unfold other at ho
  simp at ho
  obtain ⟨⟨⟨⟨⟨⟨o1,o2⟩,o3⟩,o4⟩,o5⟩,o6⟩,o7⟩:=ho
  show (if blank c then _ else if c=35 then _ else if letter c then _ else if digit c then _ else if c=34 then _ else if c=123 then _ else if c=125 then _ else _)=_
  rw [if_neg (by rw [o1]; decide),if_neg o2,if_neg (by rw [o3]; decide),if_neg (by rw [o4]; decide),if_neg o5,if_neg o6,if_neg o7]
  cases signAt (c::txt.drop (i+1)) <;> rfl
 constructor
 ·intro hs
  rw [h.eq,ev,hs]
  rfl
 ·intro x hs
  obtain ⟨hx,h0,hl⟩:=qdj hs
  have hl':i+x.length<=txt.length:=by rw [List.length_drop] at hl; have:=Zl e; omega
  refine ⟨hl',by have:=h.fuel; omega,?_⟩
  rw [h.eq,ev,hs]
  show (before i (.sign x) (cut m false O (i+x.length) ((txt.drop i).drop x.length))).map _=_
  rw [jA,List.drop_drop]
  rfl
def qcR (txt:Text) (i:Nat) (g:Text) (j:Nat):Prop:=j<=txt.length/\gather i (txt.drop i)=(gather j (txt.drop j)).map fun y=>(g++y.1,y.2.1,y.2.2)
theorem qh8 (h:i<=txt.length):qcR txt i [] i:=⟨h,by cases gather i (txt.drop i) <;> rfl⟩
theorem qjr {i j j' x:Nat} {g:Text} (h:qcR txt i g j) (hj:j'<=txt.length) (e:gather j (txt.drop j)=(gather j' (txt.drop j')).map fun y=>(x::y.1,y.2.1,y.2.2)):qcR txt i (g++[x]) j':=by
 refine ⟨hj,?_⟩
 rw [h.2,e]
 cases gather j' (txt.drop j') with
 | error f=>rfl
 | ok y=>show Except.ok _=Except.ok _; simp
theorem qfT {i j:Nat} {g:Text} {f:Fault} (h:qcR txt i g j) (e:gather j (txt.drop j)=.error f):gather i (txt.drop i)=.error f:=by rw [h.2,e]; rfl
theorem qeI {i j:Nat} {g r:Text} (h:qcR txt i g j) (e:gather j (txt.drop j)=.ok ([],j,r)):gather i (txt.drop i)=.ok (g,j,r):=by
 rw [h.2,e]
 show Except.ok _=Except.ok _
 simp
theorem qh9 {j:Nat} (e:txt[j]? = none):gather j (txt.drop j)=.error ⟨2,j⟩:=by rw [qcQ e]; rfl
theorem qe3 {j c x:Nat} (e:txt[j]? = some 92) (e2:txt[j+1]? = some c) (u:unescape c=some x):gather j (txt.drop j)=(gather (j+2) (txt.drop (j+2))).map fun y=>(x::y.1,y.2.1,y.2.2):=by
 rw [zr e,zr e2]
 show (match unescape c with | some x=>_ | none=>_)=_
 rw [u]
theorem qfU {j c:Nat} (e:txt[j]? = some 92) (e2:txt[j+1]? = some c) (u:unescape c=none):gather j (txt.drop j)=.error ⟨2,j⟩:=by
 rw [zr e,zr e2]
 show (match unescape c with | some x=>_ | none=>_)=_
 rw [u]
theorem qgP {j:Nat} (e:txt[j]? = some 92) (e2:txt[j+1]? = none):gather j (txt.drop j)=.error ⟨2,j⟩:=by
 rw [zr e,qcQ e2]
 rfl
theorem qbL (j c:Nat) (r:Text) (h:c≠92):gather j (c::r)=if c=34 \/ (c=36/\r.head? = some 123) then .ok ([],j,c::r)
  else if c<32/\c≠9/\c≠10 then .error ⟨2,j⟩ else (gather (j+1) r).map fun y=>(c::y.1,y.2.1,y.2.2):=by
 rw [gather]
 ·intro e; exact absurd e h
 ·intro d r' e; exact absurd e h
theorem qaZ {j c:Nat} (e:txt[j]? = some c) (h:c≠92):gather j (txt.drop j)=if c=34 \/ (c=36/\txt[j+1]? = some 123) then .ok ([],j,txt.drop j)
  else if c<32/\c≠9/\c≠10 then .error ⟨2,j⟩ else (gather (j+1) (txt.drop (j+1))).map fun y=>(c::y.1,y.2.1,y.2.2):=by
 have hh:(txt.drop (j+1)).head? = txt[j+1]?:=by rw [List.head?_drop]
 rw [zr e,qbL _ _ _ h,hh]
def JD (m:Nat) (O:List Bool) (j:Nat) (r:Text):Except Fault Marks:=match r with
 | 36::_::r=>before j .hole (cut m false (true::O) (j+2) r)
 | r=>before j .unquote (cut m false O (j+1) (r.drop 1))
theorem qfV {m:Nat} (g:Text) (j:Nat) (r:Text) (e:gather i (txt.drop i)=.ok (g,j,r)):cut (m+1) true O i (txt.drop i) =
  if g.isEmpty then JD m O j r else before i (.piece g) (JD m O j r):=by
 show (gather i (txt.drop i)).bind _=_
 rw [e]
 rfl
def pieceOf (i:Nat) (g:Text):Marks:=if g.isEmpty then [] else [⟨i,.piece g⟩]
theorem qeJ {g:Text} {r:Except Fault Marks}:(if g.isEmpty then r else before i (.piece g) r).map (T ++ ·)=r.map ((T++pieceOf i g) ++ ·):=by
 unfold pieceOf
 by_cases h:g.isEmpty=true
 ·rw [if_pos h,if_pos h,List.append_nil]
 ·rw [if_neg h,if_neg h,jA]
theorem qhr {f:Fault} (h:Here txt n true O i T) (e:gather i (txt.drop i)=.error f):tokens txt=.error f:=by
 obtain ⟨m,rfl⟩:=h.pos
 rw [h.eq]
 show ((gather i (txt.drop i)).bind _).map _=_
 rw [e]
 rfl
theorem qjs {j:Nat} {g:Text} (h:Here txt n true O i T) (hj:i<=j) (e:gather i (txt.drop i)=.ok (g,j,txt.drop j)) (e2:txt[j]? = some 34):Here txt (n - 1) false O (j+1) (T++pieceOf i g++[⟨j,.unquote⟩]):=by
 obtain ⟨m,rfl⟩:=h.pos
 refine ⟨Zl e2,by have:=h.fuel; omega,?_⟩
 rw [h.eq,qfV g j _ e,zr e2]
 show (if g.isEmpty then before j .unquote (cut m false O (j+1) (txt.drop (j+1))) else before i (.piece g) (before j .unquote (cut m false O (j+1) (txt.drop (j+1))))).map _=_
 rw [qeJ,jA]
 rfl
theorem qk1 {j:Nat} {g:Text} (h:Here txt n true O i T) (hj:i<=j) (e:gather i (txt.drop i)=.ok (g,j,txt.drop j)) (e2:txt[j]? = some 36) (e3:txt[j+1]? = some 123):Here txt (n - 1) false (true::O) (j+2) (T++pieceOf i g++[⟨j,.hole⟩]):=by
 obtain ⟨m,rfl⟩:=h.pos
 refine ⟨Zl e3,by have:=h.fuel; omega,?_⟩
 rw [h.eq,qfV g j _ e,zr e2,zr e3]
 show (if g.isEmpty then before j .hole (cut m false (true::O) (j+2) (txt.drop (j+1+1))) else before i (.piece g) (before j .hole (cut m false (true::O) (j+2) (txt.drop (j+1+1))))).map _=_
 rw [qeJ,jA]
 rfl
end
def Jd:Tok->Bool
 | .word x=>reserved.contains x
 | .sign x=>([[123],[125]]++signs2++signs1).contains x
 | _=>true
def qbM (r:Except Fault Marks):Prop:=∀ l,r=.ok l->RM.Ends l/\∀ m∈l,Jd m.tok=true
theorem qbM.before {i:Nat} {t:Tok} {r:Except Fault Marks} (h:qbM r) (ht:Jd t=true) (hf:t≠.fin):qbM (Vastoa.before i t r):=by
 intro l e
 cases r with
 | error f=>cases e
 | ok l'=>
  cases e
  obtain ⟨⟨pre,q,rfl,hp⟩,h2⟩:=h l' rfl
  refine ⟨⟨⟨i,t⟩::pre,q,rfl,fun m hm=>?_⟩,fun m hm=>?_⟩
  ·rcases List.mem_cons.mp hm with rfl | hm
   ·exact hf
   ·exact hp m hm
  ·rcases List.mem_cons.mp hm with rfl | hm
   ·exact ht
   ·exact h2 m hm
theorem ZM (f:Fault):qbM (.error f):=fun l e=>by cases e
theorem qjt {b x:Text} (h:signAt b=some x):Jd (.sign x)=true:=by
 unfold signAt at h
 unfold Jd
 split at h
 ·rename_i hs
  cases h
  have:=List.contains_iff_mem.mp hs
  exact List.contains_iff_mem.mpr (by simp only [List.mem_append]; exact .inl (.inr this))
 ·split at h
  ·rename_i hs
   cases h
   have:=List.contains_iff_mem.mp hs
   exact List.contains_iff_mem.mpr (by simp only [List.mem_append]; exact .inr this)
  ·cases h
theorem jG:∀ (n:Nat) (lit:Bool) (O:List Bool) (i:Nat) (b:Text),qbM (cut n lit O i b)
 | 0,_,_,i,_=>ZM _
 | n+1,true,O,i,b=>by
  show qbM ((gather i b).bind _)
  cases gather i b with
  | error f=>exact ZM f
  | ok g=>
   obtain ⟨g,j,r⟩:=g
   have hr:qbM (match r with
    | 36::_::r=>before j .hole (cut n false (true::O) (j+2) r)
    | r=>before j .unquote (cut n false O (j+1) (r.drop 1))):=by
    split
    ·exact (jG n false _ _ _).before rfl (by intro z; cases z)
    ·exact (jG n false _ _ _).before rfl (by intro z; cases z)
   show qbM (if g.isEmpty then _ else _)
   split
   ·exact hr
   ·exact hr.before rfl (by intro z; cases z)
 | n+1,false,O,i,[]=>fun l e=>by
  cases e
  exact ⟨⟨[],i,rfl,fun m hm=>by cases hm⟩,fun m hm=>by simp at hm; subst hm; rfl⟩
 | n+1,false,O,i,c::r=>by
  unfold cut
  split
  ·exact jG n false _ _ _
  split
  ·exact jG n false _ _ _
  split
  ·dsimp only
   split
   ·exact ZM _
   ·refine (jG n false _ _ _).before ?_ ?_
    ·split
     ·rename_i h; exact h
     ·rfl
    ·split <;> (intro z; cases z)
  split
  ·dsimp only
   split
   ·exact ZM _
   ·exact (jG n false _ _ _).before rfl (by intro z; cases z)
  split
  ·exact (jG n true _ _ _).before rfl (by intro z; cases z)
  split
  ·exact (jG n false _ _ _).before (by decide) (by intro z; cases z)
  split
  ·split
   ·exact (jG n true _ _ _).before rfl (by intro z; cases z)
   ·exact (jG n false _ _ _).before (by decide) (by intro z; cases z)
  split
  ·rename_i x hx
   exact (jG n false _ _ _).before (qjt hx) (by intro z; cases z)
  ·exact ZM _
theorem qgQ {b:Text} {ts:Marks} (h:tokens b=.ok ts):RM.Ends ts/\∀ m∈ts,Jd m.tok=true:=jG _ _ _ _ _ _ h
end CM
end
section
set_option autoImplicit false
namespace RM
open Vastoa
mutual
def tw:Tree->Nat
 | .node _ ls l=>1+ls.length+Qq l
def Qq:List Tree->Nat
 | []=>0
 | t::r=>tw t+Qq r
end
mutual
def lw:Tree->Nat
 | .node _ ls l=>(ls.map List.length).sum+QT l
def QT:List Tree->Nat
 | []=>0
 | t::r=>lw t+QT r
end
theorem qaf:∀ a b:List Tree,Qq (a++b)=Qq a+Qq b
 | [],b=>by simp [Qq]
 | t::r,b=>by simp only [List.cons_append,Qq,qaf r b]; omega
theorem qag:∀ a b:List Tree,QT (a++b)=QT a+QT b
 | [],b=>by simp [QT]
 | t::r,b=>by simp only [List.cons_append,QT,qag r b]; omega
theorem qfW:∀ l:List Tree,l.length<=Qq l
 | []=>Nat.le_refl _
 | .node k ls l::r=>by have:=qfW r; simp only [List.length_cons,Qq,tw]; omega
theorem qia (B:List Tree) (n:Nat):Qq (B.take n)+Qq (B.drop n)=Qq B:=by rw [<- qaf,List.take_append_drop]
theorem qib (B:List Tree) (n:Nat):QT (B.take n)+QT (B.drop n)=QT B:=by rw [<- qag,List.take_append_drop]
def pw:Part->Nat
 | .EXPR=>12 | .FORM=>10 | .FUNCTION=>1 | .FIELDS=>1 | .PARAMS=>1 | .GIVEN=>1 | .MPARAMS=>1 | .BINDS=>1 | .BOUND=>16 | .OR=>10 | .MOR=>1 | .AND=>9 | .MAND=>1 | .NOT=>8 | .CMP=>8 | .MCMP=>1
 | .UPD=>7 | .MUPD=>1 | .JOIN=>6 | .MJOIN=>1 | .SUM=>5 | .MSUM=>1 | .PROD=>4 | .MPROD=>1 | .NEG=>3 | .APP=>3 | .ARGS=>1 | .ARG=>4 | .SEL=>2 | .DOTS=>1 | .MDOTS=>1 | .DFLT=>1 | .ATOM=>1
 | .PIECES=>1 | .LIST=>14 | .MLIST=>1
def sw:Sym->Nat
 | .p x=>pw x
 | _=>1
def ww:List Sym->Nat
 | []=>0
 | s::r=>sw s+ww r
theorem qeK:∀ a b:List Sym,ww (a++b)=ww a+ww b
 | [],b=>by simp [ww]
 | s::a,b=>by simp only [List.cons_append,ww,qeK a b]; omega
def ZN:List Sym->Nat
 | .t _::_=>2
 | .p .ARG::_=>1
 | .p .SEL::_=>1
 | .p .ATOM::_=>1
 | .a .take::.p .SEL::_=>1
 | _=>0
def gw:List Bg->Nat
 | []=>0
 | g::r=>1+g.labels.length+g.names.length+gw r
def glw:List Bg->Nat
 | []=>0
 | g::r=>(g.labels.map List.length).sum+glw r
def hw:Marks->Nat
 | []=>0
 | m::r=>(held m.tok).length+hw r
def jr:Bool->List Sym->Bool
 | _,[]=>true
 | _,.t _::W=>jr true W
 | f,.a .label::W=>f&&jr false W
 | f,.a _::W=>jr f W
 | f,.p .BOUND::W=>f&&jr false W
 | _,.p _::W=>jr false W
theorem qbN:∀ (W:List Sym),jr false W=true->jr true W=true
 | [],_=>rfl
 | .t _::W,h=>h
 | .a x::W,h=>by
  cases x with
  | label=>simp [jr] at h
  | _=>simp only [jr] at h ⊢; exact qbN W h
 | .p x::W,h=>by cases x <;> simp [jr] at h ⊢ <;> exact h
theorem qk2 {f:Bool} {W:List Sym} (h:jr false W=true):jr f W=true:=by
 cases f with
 | false=>exact h
 | true=>exact qbN W h
theorem QU:∀ (f:Bool) (C W:List Sym),jr f C=true->jr false W=true->jr f (C++W)=true
 | f,[],W,_,h=>qk2 h
 | f,.t _::C,W,h,hW=>by simp only [jr,List.cons_append] at h ⊢; exact QU true C W h hW
 | f,.a x::C,W,h,hW=>by
  cases x with
  | label=>simp only [jr,List.cons_append,Bool.and_eq_true] at h ⊢; exact ⟨h.1,QU false C W h.2 hW⟩
  | _=>simp only [jr,List.cons_append] at h ⊢; exact QU f C W h hW
 | f,.p x::C,W,h,hW=>by
  cases x with
  | BOUND=>simp only [jr,List.cons_append,Bool.and_eq_true] at h ⊢; exact ⟨h.1,QU false C W h.2 hW⟩
  | _=>simp only [jr,List.cons_append] at h ⊢; exact QU false C W h hW
theorem qgR (x:Part) (k:Tok):jr (decide (x=.BOUND)) (qD x k)=true:=by
 cases x <;> simp only [qD] <;> (repeat' split) <;> rfl
structure Fits (n c:Nat) (s:MS):Prop where
 size:ww s.W+Qq s.B+gw s.G+32 * s.ts.length<=32 * n+13+16 * ZN s.W
 lab:∃ f,jr f s.W=true/\QT s.B+glw s.G+hw s.ts+(if f then (held s.pv.tok).length else 0)<=c
theorem qgS (x:Part) (k:Tok) (W:List Sym):ww (qD x k)+16 * ZN (.p x::W)<=pw x+16 * ZN (qD x k++W):=by
 cases x <;> simp only [qD] <;> (repeat' split) <;> simp [ww,sw,pw,ZN]
theorem qlC:∀ W:List Sym,W.length<=ww W
 | []=>Nat.le_refl _
 | s::r=>by
  have:=qlC r
  have h1:1<=sw s:=by
   cases s with
   | p x=>cases x <;> simp [sw,pw]
   | t k=>exact Nat.le_refl _
   | a x=>exact Nat.le_refl _
  simp only [List.length_cons,ww]
  omega
theorem qhs (W:List Sym):ZN W<=2:=by unfold ZN; split <;> omega
theorem qju {f:Bool} {x:Part} {k:Tok} {W:List Sym} (h:jr f (.p x::W)=true):jr f (qD x k++W)=true:=by
 have hc:=qgR x k
 by_cases hx:x=.BOUND
 ·subst hx
  simp only [jr,Bool.and_eq_true] at h
  obtain ⟨rfl,h⟩:=h
  exact QU true _ W hc h
 ·rw [decide_eq_false hx] at hc
  have hW:jr false W=true:=by
   cases x <;> first | exact absurd rfl hx | (simp only [jr] at h; exact h)
  cases f with
  | false=>exact QU false _ W hc hW
  | true=>exact qbN _ (QU false _ W hc hW)
theorem Fits.step {n c:Nat} {s s':MS} (h:Fits n c s) (e:step s=some (.ok s')):Fits n c s':=by
 obtain ⟨ts,pv,lv,W,B,G⟩:=s
 obtain ⟨h,f,hl,hc⟩:=h
 dsimp only at h hl hc
 cases W with
 | nil=>cases e
 | cons y W=>
  cases y with
  | p x=>
   cases ts with
   | nil=>cases e
   | cons m r=>
    cases e
    have c1:=qgS x (kd m.tok) W
    have w1:ww (.p x::W)=pw x+ww W:=rfl
    refine ⟨?_,f,qju hl,hc⟩
    dsimp only
    rw [qeK]
    omega
  | t k=>
   cases ts with
   | nil=>cases e
   | cons m r=>
    have e:(if kd m.tok=k then some (.ok ⟨r,m,lv,W,B,G⟩) else some (.error ⟨3,m.place⟩):Option (Except Fault MS))=some (Except.ok s'):=e
    split at e
    ·cases e
     have w1:ww (.t k::W)=1+ww W:=rfl
     have o1:ZN (.t k::W)=2:=rfl
     refine ⟨?_,true,hl,?_⟩
     ·dsimp only
      rw [List.length_cons] at h
      omega
     ·simp only [hw] at hc
      simp only [if_true]
      split at hc <;> omega
    ·cases e
  | a x=>
   have w1:ww (.a x::W)=1+ww W:=rfl
   have o1:ZN (.a x::W)<=ZN W:=by
    cases x with
    | take=>
     cases W with
     | nil=>exact Nat.le_refl _
     | cons z W=>
      cases z with
      | p q=>cases q <;> simp [ZN]
      | t q=>simp [ZN]
      | a q=>simp [ZN]
    | _=>simp [ZN]
   have e:qaU x ts pv lv W B G=some (.ok s'):=e
   cases x with
   | begin=>cases e; refine ⟨?_,f,hl,?_⟩ <;> dsimp only [gw,glw] <;> simp only [List.length_nil,List.map_nil,List.sum_nil] <;> omega
   | take=>
    have e:(if B.length=0 then none else some (.ok ⟨ts,pv,lv,W,B,⟨B.length - 1,[],[]⟩::G⟩):Option (Except Fault MS))=some (Except.ok s'):=e
    split at e
    ·cases e
    ·cases e; refine ⟨?_,f,hl,?_⟩ <;> dsimp only [gw,glw] <;> simp only [List.length_nil,List.map_nil,List.sum_nil] <;> omega
   | label=>
    cases G with
    | nil=>cases e
    | cons g G=>
     cases e
     simp only [jr,Bool.and_eq_true] at hl
     obtain ⟨rfl,hl⟩:=hl
     refine ⟨?_,false,hl,?_⟩
     ·dsimp only [gw] at h ⊢; simp only [List.length_append,List.length_cons,List.length_nil]; omega
     ·dsimp only [glw] at hc ⊢
      simp only [List.map_append,List.map_cons,List.map_nil,List.sum_append,List.sum_cons,List.sum_nil,if_true] at hc ⊢
      simp only [Bool.false_eq_true,if_false]
      omega
   | fresh=>
    cases G with
    | nil=>cases e
    | cons g G=>
     have e:(if held pv.tok∈g.names then some (.error ⟨5,pv.place⟩) else some (.ok ⟨ts,pv,lv,W,B,⟨g.first,g.labels,g.names++[held pv.tok]⟩::G⟩):Option (Except Fault MS))=some (Except.ok s'):=e
     split at e
     ·cases e
     ·cases e; refine ⟨?_,f,hl,hc⟩; dsimp only [gw] at h ⊢; simp only [List.length_append,List.length_cons,List.length_nil]; omega
   | enter=>
    cases ts with
    | nil=>cases e
    | cons m r=>
     have e:(if lv=40 then some (.error ⟨4,m.place⟩) else some (.ok ⟨m::r,pv,lv+1,W,B,G⟩):Option (Except Fault MS))=some (Except.ok s'):=e
     split at e
     ·cases e
     ·cases e; refine ⟨?_,f,hl,hc⟩; dsimp only; omega
   | leave=>
    have e:(if lv=0 then none else some (.ok ⟨ts,pv,lv - 1,W,B,G⟩):Option (Except Fault MS))=some (Except.ok s'):=e
    split at e
    ·cases e
    ·cases e; refine ⟨?_,f,hl,hc⟩; dsimp only; omega
   | fin k=>
    cases G with
    | nil=>cases e
    | cons g G=>
     have e:(if g.first<=B.length then some (.ok ⟨ts,pv,lv,W,B.take g.first++[.node k g.labels (B.drop g.first)],G⟩) else none:Option (Except Fault MS))=some (Except.ok s'):=e
     split at e
     ·cases e
      have s1:=qia B g.first
      have s2:=qib B g.first
      refine ⟨?_,f,hl,?_⟩
      ·dsimp only [gw] at h ⊢
       rw [qaf]
       simp only [Qq,tw]
       omega
      ·dsimp only [glw] at hc ⊢
       rw [qag]
       simp only [QT,lw]
       omega
     ·cases e
theorem Fits.small {n c:Nat} {s:MS} (h:Fits n c s) (hn:n<=5000):s.W.length<=200000/\s.B.length<=200000/\gw s.G<=200000:=by
 have h0:=h.size
 have h1:=qlC s.W
 have h2:=qhs s.W
 have h3:=qfW s.B
 omega
theorem Fits.tree {n c:Nat} {s:MS} (h:Fits n c s) (hn:n<=5000):Qq s.B<=200000/\QT s.B<=c:=by
 have h0:=h.size
 have h2:=qhs s.W
 obtain ⟨f,_,h3⟩:=h.lab
 constructor <;> omega
theorem qjv:∀ G:List Bg,G.length<=gw G
 | []=>Nat.le_refl _
 | g::r=>by have:=qjv r; simp only [List.length_cons,gw]; omega
theorem qfX:∀ {G:List Bg} {g:Bg},g∈G->g.labels.length+g.names.length<=gw G
 | g'::r,g,h=>by
  rcases List.mem_cons.mp h with rfl | h
  ·simp only [gw]; omega
  ·have:=qfX h; simp only [gw]; omega
theorem qic (ts:Marks) (pv:Mark):Fits ts.length (hw ts) ⟨ts,pv,0,[.p .EXPR,.t .fin],[],[]⟩:=by
 refine ⟨?_,false,rfl,?_⟩
 ·simp [ww,sw,pw,gw,ZN,Qq]; omega
 ·simp [QT,glw]
end RM
end
section
set_option autoImplicit false
namespace CM
open Vastoa
def Holds (n:Nat) (r:Except Fault Marks):Prop:=∀ l,r=.ok l->RM.hw l<=n
theorem Holds.before {i n m:Nat} {t:Tok} {r:Except Fault Marks} (h:Holds n r) (ht:(RM.held t).length+n<=m):Holds m (Vastoa.before i t r):=by
 intro l e
 cases r with
 | error f=>cases e
 | ok l'=>
  cases e
  have:=h l' rfl
  show (RM.held t).length+RM.hw l'<=m
  omega
theorem Holds.le {n m:Nat} {r:Except Fault Marks} (h:Holds n r) (hm:n<=m):Holds m r:=fun l e=>Nat.le_trans (h l e) hm
theorem qjw:∀ (b:Text) (i:Nat) (g:Text) (j:Nat) (r:Text),gather i b=.ok (g,j,r)->g.length+r.length<=b.length:=by
 intro b
 induction hb:b.length using Nat.strongRecOn generalizing b with
 | ind n ih=>
  intro i g j r e
  subst hb
  match b,e with
  | [],e=>cases e
  | c::b',e=>
   by_cases h92:c=92
   ·subst h92
    match b',e with
    | [],e=>cases e
    | d::b2,e=>
     have e:(match unescape d with
      | some x=>(gather (i+2) b2).map fun y=>(x::y.1,y.2.1,y.2.2)
      | none=>.error ⟨2,i⟩:Except Fault (Text × Nat × Text))=.ok (g,j,r):=e
     cases hu:unescape d with
     | none=>rw [hu] at e; cases e
     | some x=>
      rw [hu] at e
      cases hg:gather (i+2) b2 with
      | error f=>rw [hg] at e; cases e
      | ok y=>
       rw [hg] at e
       cases e
       have:=ih b2.length (by simp; omega) b2 rfl (i+2) y.1 y.2.1 y.2.2 hg
       simp; omega
   ·rw [qbL i c b' h92] at e
    split at e
    ·cases e; simp
    ·split at e
     ·cases e
     ·cases hg:gather (i+1) b' with
      | error f=>rw [hg] at e; cases e
      | ok y=>
       rw [hg] at e
       cases e
       have:=ih b'.length (by simp) b' rfl (i+1) y.1 y.2.1 y.2.2 hg
       simp; omega
theorem qbO (p:Nat->Bool) (b:Text):(b.takeWhile p).length<=b.length:=by
 induction b with
 | nil=>exact Nat.le_refl _
 | cons c b ih=>rw [List.takeWhile_cons]; split <;> simp <;> omega
theorem jH:∀ (n:Nat) (lit:Bool) (O:List Bool) (i:Nat) (b:Text),Holds b.length (cut n lit O i b)
 | 0,_,_,_,_=>fun l e=>by cases e
 | n+1,true,O,i,b=>by
  show Holds _ ((gather i b).bind _)
  cases hg:gather i b with
  | error f=>exact fun l e=>by cases e
  | ok g=>
   obtain ⟨g,j,r⟩:=g
   have hl:=qjw b i g j r hg
   have hr:Holds r.length (JD n O j r):=by
    unfold JD
    split
    ·exact (jH n false _ _ _).before (by simp [RM.held]; omega)
    ·exact (jH n false _ _ _).before (by simp [RM.held])
   show Holds b.length (if g.isEmpty then JD n O j r else Vastoa.before i (.piece g) (JD n O j r))
   split
   ·exact hr.le (by omega)
   ·exact hr.before (t:=.piece g) (by show g.length+r.length<=_; omega)
 | n+1,false,O,i,[]=>fun l e=>by cases e; exact Nat.le_refl _
 | n+1,false,O,i,c::r=>by
  unfold cut
  split
  ·exact (jH n false _ _ _).le (by simp)
  split
  ·exact (jH n false _ _ _).le (by rw [List.length_drop]; omega)
  split
  ·dsimp only
   split
   ·exact fun l e=>by cases e
   ·refine (jH n false _ _ _).before ?_
    have:=qbO inner (c::r)
    rw [List.length_drop]
    split <;> (show ((c::r).takeWhile inner).length+_<=_; omega)
  split
  ·dsimp only
   split
   ·exact fun l e=>by cases e
   ·refine (jH n false _ _ _).before ?_
    have:=qbO digit (c::r)
    rw [List.length_drop]
    show ((c::r).takeWhile digit).length+_<=_
    omega
  split
  ·exact (jH n true _ _ _).before (by simp [RM.held])
  split
  ·exact (jH n false _ _ _).before (by simp [RM.held])
  split
  ·split
   ·exact (jH n true _ _ _).before (by simp [RM.held])
   ·exact (jH n false _ _ _).before (by simp [RM.held])
  split
  ·exact (jH n false _ _ _).before (by rw [List.length_drop]; show 0+_<=_; omega)
  ·exact fun l e=>by cases e
theorem qgT {b:Text} {ts:Marks} (h:tokens b=.ok ts):RM.hw ts<=b.length:=jH _ _ _ _ _ _ h
end CM
end
section
namespace L2
open PySem PySem.Spec PyProof.Rows
section
variable (P:Program) (w:World) (K:PySem.W.Frag) (mg:Str->Option Value) (base:Heap) (CX:CXT) (k:Nat)
def FnAt (x:Str) (ps:List Str) (sp:Sp):Prop:=∃ f fd,mg x=some (.ref f)/\qw P w K mg base CX k f fd ps sp/\PySem.W.keepIn K (.ref f)=true/\Binds K fd ps []
def jl (C:Addr) (m:Str) (ps:List Str) (sp:Sp):Prop:=∃ f fd,qhT K C m f/\qw P w K mg base CX k f fd ps sp/\Binds K fd ps []
def qcS (C:Addr) (x:Str) (ps:List Str) (sp:Sp):Prop:=∃ f fd,mg x=some (.ref C)/\Mk K C f/\qw P w K mg base CX k f fd ps sp/\Binds K fd ps []
def QL (C:Addr) (x:Str) (ps:List Str) (sp:Sp):Prop:=∃ f fd,mg x=some (.ref C)/\XMk K C f/\qw P w K mg base CX0 k f fd ps sp/\Binds K fd ps []
end
section
variable {X:Cx} {CX:CXT} {k:Nat} {C:Addr} {ps:List Str} {sp:Sp} {E:XK} {x m:Str} {p pos apos:Pos} {e o:Expr} {es:List Expr} {ta:TE} {t:TA}
theorem qV (G:FnAt X.prog X.w X.K X.mg X.base CX k x ps sp) (hr:qN k X.A) (hx:j9 CX X E) (ha:PA X (e::es) t) (hg:Gl X x:=by rfl)
  (hdb:(x == ("__debug__" : Str))=false:=by decide) (he:starEach (e::es) X.env=(false,eval e X.env)::starEach es X.env:=by rfl) (hpl:(backTo pos (starEach es X.env)).any (·.1)=false:=by rfl) :
  PE X (.Call (.Name x p) (e::es) [] pos) (Jz sp [] E t):=by
 obtain ⟨f,fd,h1,h2,h3,h4⟩:=G
 exact qlY h2 hr hg h1 h3 h4 .nil hx ha hdb he hpl
theorem zj {pl:Sem Bool} (G:jl X.prog X.w X.K X.mg X.base CX k C m ps sp) (c:Cls X.K C) (hr:qN k X.A) (hx:j9 CX X E) (he:PE X o ta) (ha:PA X (e::es) t)
  (hst:starEach (e::es) X.env=(false,eval e X.env)::starEach es X.env:=by rfl) (hpl:(backTo pos (starEach es X.env)).any (·.1)=false:=by rfl)
  (ht:eval (.Call (.Attribute o m apos) (e::es) [] pos) X.env=(do
   let ov <- eval o X.env
   standAt apos.atName
   let (f,first) <- holding [ov] (getMethod ov m pl)
   callWith pos f first (backTo pos (starEach (e::es) X.env)) (backToKw pos (keywordEach [] X.env))):=by rfl) :
  PE X (.Call (.Attribute o m apos) (e::es) [] pos) (qc9 C m sp [] E ta t):=by
 obtain ⟨f,fd,h1,h2,h3⟩:=G
 exact qlZ he c h1 h2 hr h3 .nil hx ha hst hpl ht
theorem jq {pl:Sem Bool} (G:jl X.prog X.w X.K X.mg X.base CX k C m ps sp) (c:Cls X.K C) (hr:qN k X.A) (hx:j9 CX X E) (he:PE X o ta)
  (ht:eval (.Call (.Attribute o m apos) [] [] pos) X.env=(do
   let ov <- eval o X.env
   standAt apos.atName
   let (f,first) <- holding [ov] (getMethod ov m pl)
   callWith pos f first (backTo pos (starEach [] X.env)) (backToKw pos (keywordEach [] X.env))):=by rfl) :
  PE X (.Call (.Attribute o m apos) [] [] pos) (qc9 C m sp [] E ta jV):=by
 obtain ⟨f,fd,h1,h2,h3⟩:=G
 exact qkz he c h1 h2 hr h3 .nil hx ht
theorem Zr (G:qcS X.prog X.w X.K X.mg X.base CX k C x ps sp) (hr:qN (k+1) X.A) (hx:j9 CX X E) (ha:PA X (e::es) t) (hg:Gl X x:=by rfl)
  (hdb:(x == ("__debug__" : Str))=false:=by decide) (he:starEach (e::es) X.env=(false,eval e X.env)::starEach es X.env:=by rfl) (hpl:(backTo pos (starEach es X.env)).any (·.1)=false:=by rfl) :
  PE X (.Call (.Name x p) (e::es) [] pos) (qlw C sp [] E t):=by
 obtain ⟨f,fd,h1,h2,h3,h4⟩:=G
 exact ql0 h2 h3 hr hg h1 h4 .nil hx ha hdb he hpl
def GlV (mg:Str->Option Value) (x:Str) (v:V):Prop:=∃ u,mg x=some u/\RelV v u
theorem qL {v:V} (h:GlV X.mg x v) (hg:Gl X x:=by rfl) (hd:(x == ("__debug__" : Str))=false:=by decide):PE X (.Name x pos) (tC v):=by
 obtain ⟨u,h1,h2⟩:=h
 exact qlT hg h1 h2 hd
end
section
variable {P:Program} {w:World} {K:PySem.W.Frag} {mg:Str->Option Value} {base:Heap} {N:List Str} {qual:Str} {scope:Scope} {f:Addr} {cd:Value} {A:Around} {outer:List Env} {s0:Shared} {H0:Hp} {E:XK}
variable {k:Nat} {C:Addr} {ps:List Str} {sp:Sp} {x:Str} {np cpos pos:Pos} {es:List Expr} {t:TA}
theorem Qb {e:Expr} (G:QL P w K mg base k C x ps sp) (hr:qN (k+1) (zc (CXR P w) P w K mg base N qual scope f cd A outer s0 H0 E).A)
  (ha:PA (zc (CXR P w) P w K mg base N qual scope f cd A outer s0 H0 E) (e::es) t) (hg:Gl (zc (CXR P w) P w K mg base N qual scope f cd A outer s0 H0 E) x:=by rfl)
  (hdb:(x == ("__debug__" : Str))=false:=by decide)
  (he:starEach (e::es) (zc (CXR P w) P w K mg base N qual scope f cd A outer s0 H0 E).env=(false,eval e (zc (CXR P w) P w K mg base N qual scope f cd A outer s0 H0 E).env)::starEach es (zc (CXR P w) P w K mg base N qual scope f cd A outer s0 H0 E).env:=by rfl)
  (hpl:(backTo cpos (starEach es (zc (CXR P w) P w K mg base N qual scope f cd A outer s0 H0 E).env)).any (·.1)=false:=by rfl) :
  PS (zc (CXR P w) P w K mg base N qual scope f cd A outer s0 H0 E) (.Raise (some (.Call (.Name x np) (e::es) [] cpos)) none pos) (qbJ C sp E t):=by
 obtain ⟨g,fd,h1,h2,h3,h4⟩:=G
 exact qkP h2 h3 hr h4 hg h1 ha hdb he hpl
theorem ZO (G:QL P w K mg base k C x ps sp) (hr:qN (k+1) (zc (CXR P w) P w K mg base N qual scope f cd A outer s0 H0 E).A)
  (hg:Gl (zc (CXR P w) P w K mg base N qual scope f cd A outer s0 H0 E) x:=by rfl) (hdb:(x == ("__debug__" : Str))=false:=by decide) :
  PS (zc (CXR P w) P w K mg base N qual scope f cd A outer s0 H0 E) (.Raise (some (.Call (.Name x np) [] [] cpos)) none pos) (qbJ C sp E jV):=by
 obtain ⟨g,fd,h1,h2,h3,h4⟩:=G
 exact qjf h2 h3 hr h4 hg h1 hdb
theorem Fun.okR {y qual:Str} {st:Stmt} {f:Addr} {fd:FuncData} {N ps:List Str} {k:Nat} {sp:Sp} (F:Fun K y qual st f fd) (S:qm N ps (qe st)) (len:∀ vs H Q E,sp vs H Q E->vs.length=ps.length)
  (hbody:∀ (cdv:Value) (A:Around) (outer:List Env) (s:Shared) (H:Hp) (vs:List V) (Q:VK) (E:XK),qN k (A.deeper (envOfC qual (qe st) s.heap.objs.size f cdv))->sp vs H Q E ->
   ∃ t,PSs (zc (CXR P w) P w K mg base N qual (qe st) f cdv A outer s H E) (qk st) t/\t { nx:=fun _ H'=>Q .non H',rt:=Q } (start N vs) H):qw P w K mg base (CXR P w) (k+1) f fd ps sp:=by
 obtain ⟨oc,od,kV,doc,pm,an,cdv,ct,osl,rfl,lk,hcd⟩:=F.ex
 exact qlx lk hcd S len fun A outer s H vs Q E hr hsp=>hbody cdv A outer s H vs Q E hr hsp
end
end L2
end
section
namespace L2
open PySem PySem.Spec PyProof.Rows
def qah (K:PySem.W.Frag) (a:Addr) (xs:List V):Prop:=∃ (o:Obj) (its:Array Value) (n:Nat),K.lookup a=some o/\o.cls=.type "tuple" /\ o.data=.seq its n/\its.size<=sizeLine/\qE xs its.toList
theorem qah.sq {K:PySem.W.Frag} {a:Addr} {xs:List V} (h:qah K a xs) (H:Hp):SqT K H a xs:=.inr h
def QM (P:Program) (w:World) (K:PySem.W.Frag) (a:Addr) (kvs:List (Key × V)):Prop:=(a == sysModules)=false/\∃ vs,KV kvs vs/\∀ h,K.In h->h.DictOf (zW P w) a vs
section
variable {X:Cx} {pins:List (Addr × Obj)} {σ : St} {H:Hp} {s:Shared} {a:Addr} {y v:V} {u r:Value} {o:Option V} {A:Around} {E:Value->Shared->Prop} {kvs:List (Key × V)} {k:Key}
theorem qjx {Q:Value->Shared->Prop} (I:Inv X pins σ H s) (d:QM X.prog X.w X.K a kvs) (l:zz kvs k=some v) (ry:RelV (kV k) u) (h:∀ w' s',Inv X pins σ H s'->RelV v w'->Q w' s') :
  wpAny (model X.prog X.w) A (getItem (.ref a) u) Q E s:=by
 obtain ⟨hd,vs,rel,dd⟩:=d
 have dd:=dd _ I.kIn
 obtain ⟨w',hw,rw'⟩:=jT.some_of (v:=v) (o:=valueAt vs k) (by rw [<- l]; exact rel.val k)
 exact wpAny_getItem_of (qaQ ry) dd.mapOf hw (h w' _ (I.tok _) rw')
theorem k_in {Q:Value->Shared->Prop} (I:Inv X pins σ H s) (d:QM X.prog X.w X.K a kvs) (ry:RelV (kV k) u) (h:∀ s',Inv X pins σ H s'->Q (.bool (zz kvs k).isSome) s') :
  wpAny (model X.prog X.w) A (compareOp .In u (.ref a)) Q E s:=by
 obtain ⟨hd,vs,rel,dd⟩:=d
 have dd:=dd _ I.kIn
 refine wpAny_in_of (qaQ ry) hd dd.mapOf ?_
 rw [<- (rel.val k).isSome_eq]
 exact h _ (I.tok _)
theorem qnk {Q:Value->Shared->Prop} (I:Inv X pins σ H s) (d:QM X.prog X.w X.K a kvs) (ry:RelV (kV k) u) (h:∀ w' s',Inv X pins σ H s'->RelV ((zz kvs k).getD .non) w'->Q w' s') :
  wpAny (model X.prog X.w) A (call (.builtin "dict.get") [.ref a,u]) Q E s:=by
 obtain ⟨hd,vs,rel,dd⟩:=d
 have dd:=dd _ I.kIn
 refine call_meetsIn PySem.F.slot_dict_get dd.typeIs PySem.F.entry_dict_get (PySem.F.args_dict_get_2 _ _) (meets_dict_get (zW X.prog X.w) a (qaQ ry) hd) ⟨_,dd.mapOf,h _ _ (I.tok _) ?_⟩
 exact (rel.val k).getD rfl
theorem qcT (I:Inv X pins σ H s) (d:QM X.prog X.w X.K a kvs):s.TypeIs (.ref a) "dict" /\ (∀ b,Value.ref a=.ref b->∃ ob,s.heap.get? b=some ob/\ob.dict=none):=by
 obtain ⟨hd,vs,rel,dd⟩:=d
 have dd:=dd _ I.kIn
 refine ⟨dd.typeIs,fun b q=>?_⟩
 cases q
 obtain ⟨ob,_,_,h1,h2,_⟩:=dd
 exact ⟨ob,h1,h2.2.1⟩
end
def qlD (P:Program) (w:World) (K:PySem.W.Frag) (td ty:TE):TE:=fun σ H Q=>td σ H fun x H1=>ty σ H1 fun y H2=>∃ a kvs k v,x=.ref a/\QM P w K a kvs/\y=kV k/\zz kvs k=some v/\Q v H2
def qow (P:Program) (w:World) (K:PySem.W.Frag) (ty td:TE):TE:=fun σ H Q=>ty σ H fun y H1=>td σ H1 fun x H2=>∃ a kvs k,x=.ref a/\QM P w K a kvs/\y=kV k/\Q (.bl (zz kvs k).isSome) H2
def qnl (P:Program) (w:World) (K:PySem.W.Frag) (td ty:TE):TE:=fun σ H Q=>td σ H fun x H1=>∃ a kvs,x=.ref a/\QM P w K a kvs/\ty σ H1 fun y H2=>∃ k,y=kV k/\Q ((zz kvs k).getD .non) H2
section
variable {X:Cx} {o i e:Expr} {pos apos cpos:Pos} {td ty:TE}
theorem Zu (ho:PE X o td) (hi:PE X i ty) (hs:qm6 i):PE X (.Subscript o i pos) (qlD X.prog X.w X.K td ty):=by
 intro pins s σ H Q I h
 refine ql6 PySem.F.slot_dict_getitem.lookup hs (thn (ho pins s σ H _ I h) fun u s1 ⟨x,H1,I1,rx,q1⟩=>thn (hi pins s1 σ H1 _ I1 q1) fun iv s2 ⟨y,H2,I2,ry,a,kvs,k,v,ex,d,ey,l,q2⟩=>?_)
 subst ex ey
 obtain rfl:u=Value.ref a:=rx
 exact ⟨(qcT I2 d).1,qjx I2 d l ry fun w' s3 I3 rw'=>⟨v,H2,I3,rw',q2⟩⟩
theorem qnm (hi:PE X i ty) (ho:PE X o td):PC X .In i o (qow X.prog X.w X.K ty td):=by
 intro pins s σ H Q I h
 refine thn (hi pins s σ H _ I h) fun iv s1 ⟨y,H1,I1,ry,q1⟩=>thn (ho pins s1 σ H1 _ I1 q1) fun u s2 ⟨x,H2,I2,rx,a,kvs,k,ex,d,ey,q2⟩=>?_
 subst ex ey
 obtain rfl:u=Value.ref a:=rx
 exact k_in I2 d ry fun s3 I3=>⟨.bl (zz kvs k).isSome,H2,I3,rfl,q2⟩
theorem qk3 (ho:PE X o td) (he:PE X e ty) (m:M1 X o "get" apos e cpos):PE X (.Call (.Attribute o "get" apos) [e] [] cpos) (qnl X.prog X.w X.K td ty):=by
 intro pins s σ H Q I h
 refine wpAny_Call_method m.base m.few m.line PySem.F.plainAttrs_dict PySem.F.slot_dict_get PySem.F.type_dict_get (thn (ho pins s σ H _ I h) fun u s1 ⟨x,H1,I1,rx,a,kvs,ex,d,q1⟩=>?_)
 subst ex
 obtain rfl:u=Value.ref a:=rx
 obtain ⟨t1,t2⟩:=qcT I1 d
 refine ⟨t1,t2,?_⟩
 rw [m.trees]
 refine Calls.callWith_builtin rfl (Calls.evalArgs_plain (Calls.spliced_cons (thn (he pins s1 σ H1 _ I1 q1) fun iv s2 ⟨y,H2,I2,ry,k,ey,q2⟩=>Calls.spliced_nil ?_)))
 subst ey
 exact qnk I2 d ry fun w' s3 I3 rw'=>⟨_,H2,I3,rw',q2⟩
end
theorem qnn {x:Str} {g:TG} {tt:TT} {te:TE} {vs:List Nat} {σ : St} {H1:Hp} {D:Addr} {Qd:Hp->Prop} (Pv:Nat->Hp->Prop) (h0:Pv 0 (upd H1 D (.lst [])))
  (hs:∀ i c H,x.cps[i]? = some c->Pv i H->g (.str ⟨#[c]⟩) (wipe σ vs) H fun σ2 H2=>wipe σ2 vs=wipe σ vs/\tt σ2 H2 fun b H3=>
   if b=true then te σ2 H3 fun y H4=>∃ acc,H4 D=some (.lst acc)/\acc.length<sizeLine/\Pv (i+1) (upd H4 D (.lst (acc++[y]))) else Pv (i+1) H3) (hd:∀ H,Pv x.cps.size H->Qd H) :
  ∃ W:Nat->Nat->Hp->Prop,(∃ m,W 0 m (upd H1 D (.lst [])))/\∀ i m H,W i m H ->
   ((Its x).stop i H/\Qd H) \/ ((Its x).go i H/\∃ Nx:Hp->Prop,(∀ H',Nx H'->∃ m',m'<m/\W (i+1) m' H')/\∀ v H',(Its x).yld i H v H'->g v (wipe σ vs) H' fun σ2 H2=>wipe σ2 vs=wipe σ vs/\tt σ2 H2 fun b H3=>
    if b=true then te σ2 H3 fun y H4=>∃ acc,H4 D=some (.lst acc)/\acc.length<sizeLine/\Nx (upd H4 D (.lst (acc++[y]))) else Nx H3):=by
 refine ⟨fun i m H=>m=x.cps.size - i/\i<=x.cps.size/\Pv i H,⟨x.cps.size,by simp,Nat.zero_le _,h0⟩,?_⟩
 rintro i m H ⟨rfl,hi,p⟩
 by_cases hlt:i<x.cps.size
 ·refine .inr ⟨hlt,Pv (i+1),fun H' p'=>⟨x.cps.size - (i+1),by omega,rfl,hlt,p'⟩,fun v H' y=>?_⟩
  obtain ⟨e,c,hc,rfl⟩:=y
  subst e
  exact hs i c _ hc p
 ·have e:i=x.cps.size:=by omega
  subst e
  exact .inl ⟨Nat.le_refl _,hd H p⟩
end L2
end
section
namespace L2
open PySem PySem.Spec PyProof.Rows
section
variable {X:Cx} {a b:Expr} {ta tb:TE} {es:List Expr} {t:TA} {pos tp:Pos}
theorem qp {H:Hp} {p:Addr} {o:HO} (h:H p=none):qF H (upd H p o):=fun b u e=>by rw [qd (qh e h)]; exact e
theorem qmk {op:CmpOp} {r:R2} {R:V->Hp->VK->Prop} (ho:OpR X (compareOp op) r) (ha:PE X a ta) (hb:PE X b tb) (hm:behindInMarks op b=false) (i:∀ σ x H Q,R x H Q->tb σ H fun y H2=>r x y H2 Q) :
  PE X (.Compare a [op] [b] pos) (fun σ H Q=>ta σ H fun x H1=>R x H1 Q):=by
 intro pins s σ H Q I h
 refine wpAny_Compare1 (thn (ha pins s σ H _ I h) fun v s1 ⟨x,H1,I1,r1,q1⟩=>thn (hb pins s1 σ H1 _ I1 (i _ _ _ _ q1)) fun u s2 ⟨y,H2,I2,r2,q2⟩=>?_) hm
 exact ho pins s2 σ H2 x y v u Q I2 r1 r2 q2
theorem qht {op:CmpOp} {r:R2} {R:V->Hp->VK->Prop} (ho:OpR X (compareOp op) r) (ha:PE X a ta) (hb:PE X b tb) (hm:behindInMarks op b=false) (i:∀ σ x H Q,R x H Q->tb σ H fun y H2=>r x y H2 Q) :
  PT X (.Compare a [op] [b] pos) (qc3 fun σ H Q=>ta σ H fun x H1=>R x H1 Q):=by
 intro pins s σ H Q I h
 refine wpAny_isTrue_Compare1 (thn (ha pins s σ H _ I h) fun v s1 ⟨x,H1,I1,r1,q1⟩=>thn (hb pins s1 σ H1 _ I1 (i _ _ _ _ q1)) fun u s2 ⟨y,H2,I2,r2,q2⟩=>
  thn (ho pins s2 σ H2 x y v u _ I2 r1 r2 q2) fun c s3 ⟨z,H3,I3,r3,k,e,q3⟩=>?_) hm
 subst e
 cases r3
 exact wpAny_truthy_bool ⟨H3,I3,q3⟩
def qdS (neg:Bool) (xs:List V):V->Hp->VK->Prop:=fun x H Q=>Qo x=true/\∀ H',qF H H'->Q (.bl (if neg then !inV x xs else inV x xs)) H'
def qid (neg:Bool) (xs:List V) (ta:TE):TE:=fun σ H Q=>ta σ H fun x H1=>qdS neg xs x H1 Q
theorem qdT {neg:Bool} {xs:List V} {K:PySem.W.Frag} (ht:∀ σ H Q,t σ H Q=Q xs H) (hx:xs.all Qo=true) (hl:xs.length<=1000) (σ : St) (x:V) (H:Hp) (Q:VK) (q:qdS neg xs x H Q):qmY t σ H fun y H2=>rIn K neg x y H2 Q:=by
 show t σ H _
 rw [ht]
 exact ⟨Nat.le_of_lt (QS hl),fun p hp=>⟨p,xs,rfl,.inr (SqT.of qc),q.1,hx,q.2 _ (qp hp)⟩⟩
variable {tr:Nat} {xs:List V}
theorem qjy (ha:PE X a ta) (hes:PA X es t) (ht:∀ σ H Q,t σ H Q=Q xs H:=by intro _ _ _; rfl) (hx:xs.all Qo=true:=by rfl) (hl:xs.length<=1000:=by decide)
  (hmk:behindInMarks .In (.Tuple es tr tp)=false:=by with_unfolding_all rfl):PE X (.Compare a [.In] [.Tuple es tr tp] pos) (qid false xs ta):=qmk (R:=qdS false xs) (ta:=ta) Zt ha (qft hes) hmk (qdT ht hx hl)
theorem qjz (ha:PE X a ta) (hes:PA X es t) (ht:∀ σ H Q,t σ H Q=Q xs H:=by intro _ _ _; rfl) (hx:xs.all Qo=true:=by rfl) (hl:xs.length<=1000:=by decide)
  (hmk:behindInMarks .In (.Tuple es tr tp)=false:=by with_unfolding_all rfl):PT X (.Compare a [.In] [.Tuple es tr tp] pos) (qc3 (qid false xs ta)):=qht (R:=qdS false xs) (ta:=ta) Zt ha (qft hes) hmk (qdT ht hx hl)
theorem qeL (ha:PE X a ta) (hes:PA X es t) (ht:∀ σ H Q,t σ H Q=Q xs H:=by intro _ _ _; rfl) (hx:xs.all Qo=true:=by rfl) (hl:xs.length<=1000:=by decide)
  (hmk:behindInMarks .NotIn (.Tuple es tr tp)=false:=by with_unfolding_all rfl):PT X (.Compare a [.NotIn] [.Tuple es tr tp] pos) (qc3 (qid true xs ta)):=qht (R:=qdS true xs) (ta:=ta) qfw ha (qft hes) hmk (qdT ht hx hl)
end
end L2
namespace L2
open PySem PySem.Spec PyProof.Rows
def nt (l:List Nat):List V:=l.map fun n:Nat=>V.int (n:Int)
theorem zt (l:List Nat):(nt l).length=l.length:=List.length_map _
def ntD (l:List Nat):PyData:=.list (l.map fun n:Nat=>.int (n:Int))
theorem qjA {K:PySem.W.Frag} {H:Hp}:∀ l:List Nat,qaP K H (nt l) (l.map fun n:Nat=>.int (n:Int))
 | []=>.nil
 | n::r=>.cons (.int _) (qjA r)
theorem qlE {K:PySem.W.Frag} {H:Hp} {p:Addr} {l:List Nat} (h:SqL K H p (nt l)):Dp K H (.ref p) (ntD l):=.lst h (qjA l)
theorem qjB:∀ l:List Nat,PyData.canLayAll0 (l.map fun n:Nat=>.int (n:Int))=true
 | []=>by simp [PyData.canLayAll0]
 | n::r=>by simp [PyData.canLayAll0,PyData.canLay0,qjB r]
theorem qfY:∀ l:List Nat,PyData.depthAll (l.map fun n:Nat=>.int (n:Int))=0
 | []=>by simp [PyData.depthAll]
 | n::r=>by simp [PyData.depthAll,PyData.depth,qfY r]
theorem qeM (l:List Nat):SeqAt.shaped (ntD l)=true:=by
 unfold SeqAt.shaped ntD
 simp [PyData.canLay0,qjB,PyData.depth,qfY]
theorem qdk:∀ l m:List Nat,PyData.eqvAll (l.map fun n:Nat=>.int (n:Int)) (m.map fun n:Nat=>.int (n:Int))=decide (l=m)
 | [],[]=>by simp [PyData.eqvAll]
 | [],_::_=>by simp [PyData.eqvAll]
 | _::_,[]=>by simp [PyData.eqvAll]
 | a::l,b::m=>by
  simp only [List.map_cons,PyData.eqvAll,PyData.eqv,qdk l m,List.cons.injEq]
  by_cases h:a=b
  ·subst h; simp
  ·have:¬ ((a:Int)=b):=by omega
   simp [h,this]
theorem qno (l m:List Nat):PyData.eqv (ntD l) (ntD m)=decide (l=m):=by
 unfold ntD
 simp only [PyData.eqv]
 exact qdk l m
theorem qjC {K:PySem.W.Frag} {H:Hp} {p q:Addr} {l m:List Nat} {Q:VK} (h1:SqL K H p (nt l)) (h2:SqL K H q (nt m)) (h:Q (.bl (decide (l=m))) H):qm2 K (.ref p) (.ref q) H Q :=
 ⟨_,_,qlE h1,qlE h2,qeM l,qeM m,by rw [qno]; exact h⟩
end L2
end
section
set_option maxHeartbeats 400000
namespace L2
open PySem PySem.Spec PyProof.Rows
open Sem (wp)
section
variable {P:Program} {w:World} {A:Around} {R:Result->Shared->Prop} {it:Addr} {fp wr:List Addr} {n:Nat} {Pz:Nat->Value->Prop} {St:Nat->Heap->Prop} {kw:List (Str × Value)}
theorem qcl:(toString "max" ++ toString ".loop" : String) = "max.loop":=by decide
theorem qml (W:Walks P w A.in1 it fp wr n Pz St) (bt:Nat->Nat->Bool) (cmp:CmpOf P w A.in1 .Gt Pz bt) (b:Addr) (bf:b∉fp):∀ (k j:Nat) (s:Shared) (u:Value) (c:Nat),n - (j+1)=k->j+1<=n->St (j+1) s.heap->Pz (argBest bt j) u ->
  s.heap.get? b=some { cls:=.type "list",dict:=none,data:=.seq #[u,u] c,slots:=#[] } ->
  (∀ v h' tk,Pz (argBest bt (n - 1)) v->(∀ x o,x∉wr->x≠b->s.heap.get? x=some o->h'.get? x=some o)->R (.ok (.ret v)) { s with heap:=h',toks:=tk }) ->
  codeAny (model P w) A (.builtin "max.loop" ⟨[.ref it,.none,.ref b],kw⟩) R s:=by
 have bw:b∉wr:=fun z=>bf (W.sub _ z)
 intro k
 induction k with
 | zero=>
  intro j s u c e1 e2 st hu hb fin
  have en:j+1=n:=by omega
  refine codeAny_builtin F.entry_max_loop ?_
  rw [Around.under_plainId F.plain_max_loop _]
  refine wpAny_bind (wpAny_seqItems hb rfl ?_)
  refine wpAny_bind (wpAny_tryCatch (W.done s _ _ (en ▸ st) fun h1 tk kk=>?_))
  refine wpAny_bind (wpAny_updateSeq (kk b _ bw hb) rfl (wpAny_bind (wpAny_letGo (wpAny_pure ?_))))
  exact fin u _ tk (by rw [<- en]; exact hu) fun x o xw xb e=>(Heap.get?_update_other _ _ (Ne.symm xb)).trans (kk x o xw e)
 | succ k ih=>
  intro j s u c e1 e2 st hu hb fin
  have lt:j+1<n:=by omega
  refine codeAny_builtin F.entry_max_loop ?_
  rw [Around.under_plainId F.plain_max_loop _]
  refine wpAny_bind (wpAny_seqItems hb rfl ?_)
  refine wpAny_bind (wpAny_tryCatch (W.item (j+1) s _ _ lt st fun v h1 tk hv st1 kk=>?_))
  have hb1:=kk b _ bw hb
  refine wpAny_bind (wpAny_pure ?_)
  refine wpAny_bind (wpAny_tryCatch (wpAny_holding (wpAny_bind (cmp (j+1) (argBest bt j) v u _ _ _ hv hu ?_))))
  refine wpAny_bind (wpAny_holding (wpAny_truthy_bool (wpAny_bind (wpAny_letGo (wpAny_pure ?_)))))
  cases hc:bt (j+1) (argBest bt j) with
  | true=>
   simp only [if_true]
   refine wpAny_bind (wpAny_updateSeq hb1 rfl (wpAny_bind (wpAny_letGo ?_)))
   rw [qcl]
   refine wpAny_pure ⟨plainId_quiet F.plain_max_loop _,ih (j+1) _ v _ (by omega) lt (W.frame _ _ _ st1 fun x xf o e=>?_) (by simp only [argBest,hc,if_true]; exact hv) (Heap.get?_update_self _ hb1 rfl) fun v' h2 tk2 hv' kk2=>?_⟩
   ·exact (Heap.get?_update_other _ _ (fun z:b=x=>bf (by rw [z]; exact xf))).trans e
   ·exact fin v' h2 tk2 hv' fun x o xw xb e=>kk2 x o xw xb ((Heap.get?_update_other _ _ (Ne.symm xb)).trans (kk x o xw e))
  | false=>
   simp only [Bool.false_eq_true,if_false]
   refine wpAny_bind (wpAny_letGo ?_)
   rw [qcl]
   refine wpAny_pure ⟨plainId_quiet F.plain_max_loop _,ih (j+1) _ u c (by omega) lt st1 (by simp only [argBest,hc,Bool.false_eq_true,if_false]; exact hu) hb1 fun v' h2 tk2 hv' kk2=>?_⟩
   exact fin v' h2 tk2 hv' fun x o xw xb e=>kk2 x o xw xb (kk x o xw e)
theorem qk4 (W:Walks P w A.in1 it fp wr n Pz St) (bt:Nat->Nat->Bool) (cmp:CmpOf P w A.in1 .Gt Pz bt) (b:Addr) (bf:b∉fp) {s:Shared} {c:Nat} {x0:Str} {d:Value} {r:List (Str × Value)} (st:St 0 s.heap)
  (hb:s.heap.get? b=some { cls:=.type "list",dict:=none,data:=.seq #[] c,slots:=#[] })
  (fin:∀ v h' tk,(0<n->Pz (argBest bt (n - 1)) v)->(n=0->v=d)->(∀ x o,x∉wr->x≠b->s.heap.get? x=some o->h'.get? x=some o)->R (.ok (.ret v)) { s with heap:=h',toks:=tk }) :
  codeAny (model P w) A (.builtin "max.loop" ⟨[.ref it,.none,.ref b],(x0,d)::r⟩) R s:=by
 have bw:b∉wr:=fun z=>bf (W.sub _ z)
 refine codeAny_builtin F.entry_max_loop ?_
 rw [Around.under_plainId F.plain_max_loop _]
 refine wpAny_bind (wpAny_seqItems hb rfl ?_)
 by_cases h0:n=0
 ·subst h0
  refine wpAny_bind (wpAny_tryCatch (W.done s _ _ st fun h1 tk kk=>?_))
  refine wpAny_bind (wpAny_rule (wpAny_pure ?_))
  exact fin d h1 tk (fun z=>absurd z (Nat.lt_irrefl _)) (fun _=>rfl) fun x o xw _ e=>kk x o xw e
 ·have hn:0<n:=Nat.pos_of_ne_zero h0
  refine wpAny_bind (wpAny_tryCatch (W.item 0 s _ _ hn st fun v h1 tk hv st1 kk=>?_))
  have hb1:=kk b _ bw hb
  refine wpAny_bind (wpAny_pure ?_)
  refine wpAny_bind (wpAny_updateSeq hb1 rfl ?_)
  rw [qcl]
  refine wpAny_pure ⟨plainId_quiet F.plain_max_loop _,qml W bt cmp b bf _ 0 _ v _ rfl hn (W.frame _ _ _ st1 fun x xf o e=>?_) hv (Heap.get?_update_self _ hb1 rfl) fun v' h2 tk2 hv' kk2=>?_⟩
  ·exact (Heap.get?_update_other _ _ (fun z:b=x=>bf (by rw [z]; exact xf))).trans e
  ·exact fin v' h2 tk2 (fun _=>hv') (fun z=>absurd z h0) fun x o xw xb e=>kk2 x o xw xb ((Heap.get?_update_other _ _ (Ne.symm xb)).trans (kk x o xw e))
end
theorem qjD (d:Value):Builtin.Builtins.bindParams "max" ["key","default"] 0 ⟨[],[(Str.ofString "default",d)]⟩=pure [none,some d]:=by rfl
theorem qjE (a d:Value):argsOk "max" ⟨[a],[("default",d)]⟩:=by unfold argsOk; kernel_rfl
section
variable {P:Program} {w:World} {A:Around} {E:Value->Shared->Prop} {s:Shared} {l:Addr} {xs:Array (Int × Tok)} {d:Value}
theorem qmm {Q:Value->Shared->Prop} (hh:A.handled=none) (hl:s.heap.IsList l (intItems xs))
  (h:∀ v h' tk,(0<xs.size->(intItems xs)[argBest (fun i j=>decide (numAt xs i > numAt xs j)) (xs.size - 1)]? = some v)->(xs.size=0->v=d)->(∀ b o,s.heap.get? b=some o->h'.get? b=some o)->Q v { s with heap:=h',toks:=tk }) :
  wpAny (model P w) A (call (.builtin "max") [.ref l] [("default",d)]) Q E s:=by
 refine kmk_tree F.kind_max F.plain_max F.entry_max (qjE _ _) ?_
 show wpAny _ A.in1 (Builtin.Builtins.bindParams "max" ["key","default"] 0 ⟨[],[("default",d)]⟩ >>= _) _ _ s
 refine wpAny_bind (wpAny_of_eq (qjD d) ?_)
 refine wpAny_bind (wpAny_pure ?_)
 refine wpAny_bind (iter_intList hl fun s2 e st hfp hlI=>?_)
 subst e
 refine wpAny_bind (wpAny_newObj_type ?_)
 rw [qcl]
 have hW:=Walks.list (prog:=P) (w:=w) (A:=A.in1) hh s.heap.objs.size l hlI (intItems xs)
 refine wpAny_pure ⟨plainId_quiet F.plain_max_loop _,qk4 hW _ (CmpOf.ints_gt (numAt xs) (fun _ _=>intItems_at)) _ (fun hm=>Nat.lt_irrefl _ (hfp _ hm)) (hW.frame _ _ _ st fun b _ o e=>Heap.get?_push_of_some _ e) (Heap.get?_push_size _ rfl) fun v h' tk h1 h2 hk=>?_⟩
 refine h v h' tk (fun z=>by simpa [intItems] using h1 (by simpa [intItems] using z)) (fun z=>h2 (by simpa [intItems] using z)) (old_kept fun b o hb e=>hk b o hb (Nat.ne_of_lt (Heap.lt_size e)) (Heap.get?_push_of_some _ e))
end
end L2
end
section
set_option maxHeartbeats 400000
namespace L2
open PySem PySem.Spec PyProof.Rows
section
variable {X:Cx}
theorem qnp {A:Around} {E:Value->Shared->Prop} {s:Shared} {l:Addr} {its:List Value} {ns:List Int} {d:Int} {td:Tok} {Q:Value->Shared->Prop} (hh:A.handled=none) (hl:s.heap.IsList l its.toArray) (hi:IntsAre its ns)
  (h:∀ h' tk m t',(∀ b o,s.heap.get? b=some o->h'.get? b=some o)->(ns=[]->m=d)->(ns≠[]->m∈ns/\∀ y,y∈ns->y<=m)->Q (.int m t') { s with heap:=h',toks:=tk }):wpAny (model X.prog X.w) A (call (.builtin "max") [.ref l] [("default",.int d td)]) Q E s:=by
 obtain ⟨xs,e⟩:=hi.allInts.items
 have hn:numsOf (intItems xs).toList=ns:=by rw [<- e]; exact hi.numsOf
 rw [nums_intItems] at hn
 subst hn
 rw [e] at hl
 have em:(xs.toList.map (·.1))=[] ↔ xs.size=0:=by simp
 refine qmm hh hl fun v h' tk h1 h2 hk=>?_
 by_cases h0:xs.size=0
 ·rw [h2 h0]
  exact h h' tk d td hk (fun _=>rfl) fun z=>absurd (em.mpr h0) z
 ·obtain ⟨t,rfl⟩:=intItems_at (h1 (Nat.pos_of_ne_zero h0))
  obtain ⟨g1,g2⟩:=argBest_gt (numAt xs) (xs.size - 1)
  refine h h' tk _ t hk (fun z=>absurd (em.mp z) h0) fun _=>⟨?_,fun y hy=>?_⟩
  ·rw [numAt_eq]; exact PySem.getD_mem (by rw [List.length_map,Array.length_toList]; omega)
  ·obtain ⟨j,hj,rfl⟩:=mem_getD hy
   rw [List.length_map,Array.length_toList] at hj
   rw [<- numAt_eq]; exact g2 j (by omega)
def qn2 (K:PySem.W.Frag) (d:Int) (te:TE):TE:=fun σ H Q=>te σ H fun x H1=>∃ a ns,x=.ref a/\SqL K H1 a (ns.map V.int)/\∀ m,(ns=[]->m=d)->(ns≠[]->m∈ns/\∀ y,y∈ns->y<=m)->Q (.int m) H1
theorem qmn {e:Expr} {te:TE} {d:Int} {j:Nat} {p pos kp dp:Pos} (hc:X.calm=true) (hg:Gl X "max") (hm:X.mg "max" = none) (he:PE X e te) (hst:starEach [e] X.env=[(false,eval e X.env)]:=by rfl)
  (h1:backTo pos (starEach [e] X.env)=(false,eval e X.env)::backTo pos (starEach [] X.env):=by rfl) (h2:(backTo pos (starEach [e] X.env)).any (·.1)=false:=by rfl) :
  PE X (.Call (.Name "max" p) [e] [⟨some "default",.Constant (.int d) j dp,kp⟩] pos) (qn2 X.K d te):=by
 intro pins s σ H Q I h
 refine wpAny_Call_Name_kw (JH I hg hm boot_max ?_ (by decide) (by decide))
 refine callWith_kw (thn (qa he qg hst pos pins s σ H (fun vs H1=>match vs with
  | [x]=>∃ a ns,x=.ref a/\SqL X.K H1 a (ns.map V.int)/\∀ m,(ns=[]->m=d)->(ns≠[]->m∈ns/\∀ y,y∈ns->y<=m)->Q (.int m) H1
  | _=>False) I h) fun us s1 ⟨vs,H1,I1,r,q⟩=>?_) h1 h2 rfl rfl
 match vs,r,q with
 | [x],r,⟨a,ns,ex,hs,q⟩=>
  subst ex
  rw [qE.ref1 r]
  refine kws_cons (wpAny_Constant_int (kws_nil ?_))
  have I2:=I1.tok (s1.toks+1)
  obtain ⟨its,rv,hl,_⟩:=I2.list hs
  exact qnp (I2.ok.hd hc) hl.isList rv.ints fun h' tk m t' hk g1 g2=>⟨.int m,H1,I2.kept hk,⟨_,rfl⟩,q m g1 g2⟩
end
theorem qcU {α β : Type} {f g:α -> Option β}:∀ {l:List α},(∀ x,x∈l->f x=g x)->l.filterMap f=l.filterMap g
 | [],_=>rfl
 | a::l,h=>by
  rw [List.filterMap_cons,List.filterMap_cons,h a List.mem_cons_self,qcU fun x hx=>h x (List.mem_cons_of_mem _ hx)]
theorem qdl {α : Type}:∀ l:List α,List.filterMap (fun k=>l[k]?) (List.range l.length)=l
 | []=>rfl
 | a::l=>by
  rw [List.length_cons,List.range_succ_eq_map,List.filterMap_cons]
  simp only [List.getElem?_cons_zero,List.filterMap_map]
  congr 1
  refine Eq.trans (qcU fun k _=>?_) (qdl l)
  simp
theorem qk5 (its:List Value):slicePick its.toArray none none (some (-1))=its.reverse.toArray:=by
 unfold slicePick
 congr 1
 have e1:sliceBounds none none (some (-1)) its.toArray.size=((its.length:Int) - 1,-1,-1):=by simp [sliceBounds]
 rw [e1]
 unfold sliceRange
 simp only [show ¬ ((-1:Int) > 0) by decide,if_false]
 have e2:(if ((its.length:Int) - 1) > -1 then (((its.length:Int) - 1) - -1 - -1 - 1) / - -1 else 0).toNat=its.length:=by
  by_cases h:its.length=0
  ·simp [h]
  ·rw [if_pos (by omega),show (- -1:Int)=1 from rfl,Int.ediv_one]; omega
 rw [e2]
 refine List.ext_getElem? fun i=>?_
 rw [List.filterMap_map]
 have all:∀ k,k<its.length->((fun x:Nat=>its.toArray[x]?) ∘ fun k:Nat=>(((its.length:Int) - 1) + -1 * (k:Int)).toNat) k=its[its.length - 1 - k]?:=fun k hk=>by
  show its.toArray[(((its.length:Int) - 1) + -1 * (k:Int)).toNat]? = _
  rw [show (((its.length:Int) - 1) + -1 * (k:Int)).toNat=its.length - 1 - k by omega]
  simp
 have lst:List.filterMap ((fun x:Nat=>its.toArray[x]?) ∘ fun k:Nat=>(((its.length:Int) - 1) + -1 * (k:Int)).toNat) (List.range its.length)=its.reverse:=by
  rw [show List.filterMap ((fun x:Nat=>its.toArray[x]?) ∘ fun k:Nat=>(((its.length:Int) - 1) + -1 * (k:Int)).toNat) (List.range its.length)=List.filterMap (fun k=>its.reverse[k]?) (List.range its.reverse.length) from ?_]
  ·exact qdl its.reverse
  ·rw [List.length_reverse]
   refine qcU fun k hk=>?_
   have hk:=List.mem_range.mp hk
   rw [all k hk,List.getElem?_reverse hk]
 rw [lst]
def qox (K:PySem.W.Frag) (te:TE):TE:=fun σ H Q=>te σ H fun x H1=>∃ a xs,x=.ref a/\SqL K H1 a xs/\∀ p,H1 p=none->Q (.ref p) (upd H1 p (.lst xs.reverse))
theorem qfZ {X:Cx} {e:Expr} {te:TE} {j:Nat} {p1 p2 p3 pos:Pos} (he:PE X e te):PE X (.Subscript e (.Slice none none (some (.UnaryOp .USub (.Constant (.int 1) j p1) p3)) p2) pos) (qox X.K te):=by
 intro pins s σ H Q I h
 refine Subscript_ (thn (he pins s σ H _ I h) fun v s1 ⟨x,H1,I1,r1,a,xs,ex,hs,q1⟩=>?_)
 subst ex
 cases r1
 refine wpAny_Slice ?_
 rw [evalPart_none]
 refine wpAny_pure (wpAny_pure (thn (QZ (Ja Ze qr) pins s1 σ H1 (fun o H'=>o=some (-1)/\H'=H1) I1 ⟨1,rfl,-1,rfl,rfl,rfl⟩) fun vs s3 ⟨o,H3,I3,pu,eo,eH⟩=>?_))
 subst eo eH
 have I4:Inv X pins σ H3 { s3 with heap:=s3.heap.push { cls:=.type "slice",data:=.fields #[.none,.none,vs] } }:=I3.kept (t':=s3.toks) fun b ob q=>Heap.get?_push_of_some _ q
 obtain ⟨its,r,ht,hz⟩:=I4.list hs
 have hlen:=r.length
 refine tail_any (ops:=[.ref a,.ref s3.heap.objs.size]) ht.isList.typeIs slot_list_getitem.lookup ?_ (by with_unfolding_all rfl)
 refine wpAny_getItem_list_slice ht.isList (Heap.IsSliceOf.new ..) .none .none pu (by simp) ?_ (by rw [List.size_toArray] <;> omega)
 rw [qk5]
 refine ⟨.ref _,_,I4.laid (t':=s3.toks) (o:=.lst xs.reverse) (fun b ob q=>Heap.get?_push_of_some _ q) (Nat.le_refl _) ?_,rfl,q1 _ (I4.hok.fresh (Nat.le_refl _))⟩
 exact ⟨by rw [List.length_reverse]; exact hz,_,0,r.reverse,Heap.get?_push_size _ rfl⟩
end L2
end
section
namespace RT
open PySem PySem.Spec PyProof.Rows L2
def JS:List Str:=[Str.ofString "and",Str.ofString "else",Str.ofString "false",Str.ofString "fn",Str.ofString "has",Str.ofString "if",Str.ofString "in",Str.ofString "let",Str.ofString "must",Str.ofString "none",Str.ofString "not",Str.ofString "or",Str.ofString "rec",Str.ofString "then",Str.ofString "true",Str.ofString "with"]
def Zg:List Str:=[Str.ofString "++",Str.ofString "//",Str.ofString "==",Str.ofString "!=",Str.ofString "<=",Str.ofString "..",Str.ofString "(",Str.ofString ")",Str.ofString "[",Str.ofString "]",Str.ofString "=",Str.ofString ";",Str.ofString ",",Str.ofString ".",Str.ofString ":",Str.ofString "?",Str.ofString "+",Str.ofString "-",Str.ofString "*",Str.ofString "<"]
def qdm:List Str:=[Str.ofString "name",Str.ofString "number",Str.ofString "true",Str.ofString "false",Str.ofString "none",Str.ofString "rec",Str.ofString "quote",Str.ofString "(",Str.ofString "[",Str.ofString "{"]
def qai:List (Key × V):=[(Sum.inl 34,.int 34),(Sum.inl 92,.int 92),(Sum.inl 110,.int 10),(Sum.inl 116,.int 9),(Sum.inl 36,.int 36)]
def Q1:List (Str × List Str):=[(Str.ofString "EXPR",[Str.ofString "@enter FORM @leave"]),
 (Str.ofString "FORM",[Str.ofString "fn FUNCTION",Str.ofString "let @begin name BOUND BINDS in EXPR @let",Str.ofString "if @begin EXPR then EXPR else EXPR @if",Str.ofString "must @begin EXPR ; EXPR @must",Str.ofString "OR"]),
 (Str.ofString "FUNCTION",[Str.ofString "name @begin @label : EXPR @fn",Str.ofString "{ @begin FIELDS"]),
 (Str.ofString "FIELDS",[Str.ofString "} : EXPR @fields",Str.ofString "PARAMS"]),
 (Str.ofString "PARAMS",[Str.ofString ".. } : EXPR @fields..",Str.ofString "name @fresh @begin @label GIVEN @param MORE-PARAMS"]),
 (Str.ofString "GIVEN",[Str.ofString "? EXPR",Str.ofString ""]),
 (Str.ofString "MORE-PARAMS",[Str.ofString ", PARAMS",Str.ofString "} : EXPR @fields"]),
 (Str.ofString "BINDS",[Str.ofString "name BOUND BINDS",Str.ofString ""]),
 (Str.ofString "BOUND",[Str.ofString "@fresh @label = EXPR ;"]),
 (Str.ofString "OR",[Str.ofString "AND MORE-OR"]),
 (Str.ofString "MORE-OR",[Str.ofString "or @take AND @or MORE-OR",Str.ofString ""]),
 (Str.ofString "AND",[Str.ofString "NOT MORE-AND"]),
 (Str.ofString "MORE-AND",[Str.ofString "and @take NOT @and MORE-AND",Str.ofString ""]),
 (Str.ofString "NOT",[Str.ofString "not @begin NOT @not",Str.ofString "CMP"]),
 (Str.ofString "CMP",[Str.ofString "UPD MORE-CMP"]),
 (Str.ofString "MORE-CMP",[Str.ofString "== @take UPD @==",Str.ofString "!= @take UPD @!=",Str.ofString "< @take UPD @<",Str.ofString "<= @take UPD @<=",Str.ofString "has @take name @label @has",Str.ofString ""]),
 (Str.ofString "UPD",[Str.ofString "JOIN MORE-UPD"]),
 (Str.ofString "MORE-UPD",[Str.ofString "// @take UPD @//",Str.ofString ""]),
 (Str.ofString "JOIN",[Str.ofString "SUM MORE-JOIN"]),
 (Str.ofString "MORE-JOIN",[Str.ofString "++ @take JOIN @++",Str.ofString ""]),
 (Str.ofString "SUM",[Str.ofString "PROD MORE-SUM"]),
 (Str.ofString "MORE-SUM",[Str.ofString "+ @take PROD @+ MORE-SUM",Str.ofString "- @take PROD @- MORE-SUM",Str.ofString ""]),
 (Str.ofString "PROD",[Str.ofString "NEG MORE-PROD"]),
 (Str.ofString "MORE-PROD",[Str.ofString "* @take NEG @* MORE-PROD",Str.ofString ""]),
 (Str.ofString "NEG",[Str.ofString "- @begin NEG @neg",Str.ofString "APP"]),
 (Str.ofString "APP",[Str.ofString "SEL ARGUMENTS"]),
 (Str.ofString "ARGUMENTS",[Str.ofString "ARGUMENT ARGUMENTS",Str.ofString ""]),
 (Str.ofString "ARGUMENT",[Str.ofString "@take SEL @app"]),
 (Str.ofString "SEL",[Str.ofString "ATOM DOTS"]),
 (Str.ofString "DOTS",[Str.ofString ". @take name @label MORE-DOTS DEFAULT @get",Str.ofString ""]),
 (Str.ofString "MORE-DOTS",[Str.ofString ". name @label MORE-DOTS",Str.ofString ""]),
 (Str.ofString "DEFAULT",[Str.ofString "? ATOM",Str.ofString ""]),
 (Str.ofString "ATOM",[Str.ofString "name @begin @label @name",Str.ofString "number @begin @label @num",Str.ofString "true @begin @yes",Str.ofString "false @begin @no",Str.ofString "none @begin @none",Str.ofString "quote @begin PIECES unquote @text",Str.ofString "( EXPR )",Str.ofString "[ @begin LIST @list",Str.ofString "{ @begin BINDS } @record",Str.ofString "rec { @begin BINDS } @recur"]),
 (Str.ofString "PIECES",[Str.ofString "piece @begin @label @piece PIECES",Str.ofString "hole EXPR unhole PIECES",Str.ofString ""]),
 (Str.ofString "LIST",[Str.ofString "]",Str.ofString "EXPR MORE-LIST ]"]),
 (Str.ofString "MORE-LIST",[Str.ofString ", EXPR MORE-LIST",Str.ofString ""])]
def tokF (x0 x1 x2:V):List (Str × V):=[("kind",x0),("place",x1),("held",x2)]
theorem qeN (x0 x1 x2:V):(tokF x0 x1 x2).lookup ("kind" : Str)=some x0:=rfl
theorem qa0 (x0 x1 x2:V):(tokF x0 x1 x2).lookup ("place" : Str)=some x1:=rfl
theorem qeO (x0 x1 x2:V):(tokF x0 x1 x2).lookup ("held" : Str)=some x2:=rfl
def jI (x0 x1 x2 x3 x4 x5:V):List (Str × V):=[("text",x0),("place",x1),("tokens",x2),("opened",x3),("in_literal",x4),("ended",x5)]
theorem Jo (x0 x1 x2 x3 x4 x5:V):(jI x0 x1 x2 x3 x4 x5).lookup ("text" : Str)=some x0:=rfl
theorem qM (x0 x1 x2 x3 x4 x5:V):(jI x0 x1 x2 x3 x4 x5).lookup ("place" : Str)=some x1:=rfl
theorem qaj (x0 x1 x2 x3 x4 x5:V):(jI x0 x1 x2 x3 x4 x5).lookup ("tokens" : Str)=some x2:=rfl
theorem Je (x0 x1 x2 x3 x4 x5:V):(jI x0 x1 x2 x3 x4 x5).lookup ("opened" : Str)=some x3:=rfl
theorem qdn (x0 x1 x2 x3 x4 x5:V):(jI x0 x1 x2 x3 x4 x5).lookup ("in_literal" : Str)=some x4:=rfl
theorem qdo (x0 x1 x2 x3 x4 x5:V):(jI x0 x1 x2 x3 x4 x5).lookup ("ended" : Str)=some x5:=rfl
theorem zI (x0 x1 x2 x3 x4 x5:V):(jI x0 x1 x2 x3 x4 x5).lookup ("byte_at" : Str)=none:=rfl
theorem ze (x0 x1 x2 x3 x4 x5:V):(jI x0 x1 x2 x3 x4 x5).lookup ("add_token" : Str)=none:=rfl
theorem qbm (x0 x1 x2 x3 x4 x5:V):(jI x0 x1 x2 x3 x4 x5).lookup ("cut_outside" : Str)=none:=rfl
theorem qa1 (x0 x1 x2 x3 x4 x5:V):(jI x0 x1 x2 x3 x4 x5).lookup ("pass_comment" : Str)=none:=rfl
theorem qcV (x0 x1 x2 x3 x4 x5:V):(jI x0 x1 x2 x3 x4 x5).lookup ("cut_name" : Str)=none:=rfl
theorem qbP (x0 x1 x2 x3 x4 x5:V):(jI x0 x1 x2 x3 x4 x5).lookup ("cut_number" : Str)=none:=rfl
theorem J0 (x0 x1 x2 x3 x4 x5:V):(jI x0 x1 x2 x3 x4 x5).lookup ("cut_right_brace" : Str)=none:=rfl
theorem qcW (x0 x1 x2 x3 x4 x5:V):(jI x0 x1 x2 x3 x4 x5).lookup ("cut_sign" : Str)=none:=rfl
theorem qbn (x0 x1 x2 x3 x4 x5:V):(jI x0 x1 x2 x3 x4 x5).lookup ("cut_literal" : Str)=none:=rfl
theorem qct (x0 x1 x2 x3 x4 x5:V):(jI x0 x1 x2 x3 x4 x5).lookup ("cut_piece" : Str)=none:=rfl
theorem qas (x0 x1 x2 x3 x4 x5:V):(jI x0 x1 x2 x3 x4 x5).lookup ("is_piece_over" : Str)=none:=rfl
theorem qbo (x0 x1 x2 x3 x4 x5:V):(jI x0 x1 x2 x3 x4 x5).lookup ("gather_byte" : Str)=none:=rfl
def qbQ (x0 x1 x2 x3:V):List (Str × V):=[("kind",x0),("labels",x1),("kids",x2),("depth",x3)]
theorem jM (x0 x1 x2 x3:V):(qbQ x0 x1 x2 x3).lookup ("kind" : Str)=some x0:=rfl
theorem qak (x0 x1 x2 x3:V):(qbQ x0 x1 x2 x3).lookup ("labels" : Str)=some x1:=rfl
theorem QV (x0 x1 x2 x3:V):(qbQ x0 x1 x2 x3).lookup ("kids" : Str)=some x2:=rfl
theorem qdp (x0 x1 x2 x3:V):(qbQ x0 x1 x2 x3).lookup ("depth" : Str)=some x3:=rfl
def qdU (x0 x1 x2:V):List (Str × V):=[("first",x0),("labels",x1),("names",x2)]
theorem qie (x0 x1 x2:V):(qdU x0 x1 x2).lookup ("first" : Str)=some x0:=rfl
theorem qcA (x0 x1 x2:V):(qdU x0 x1 x2).lookup ("labels" : Str)=some x1:=rfl
theorem qif (x0 x1 x2:V):(qdU x0 x1 x2).lookup ("names" : Str)=some x2:=rfl
def Zc (x0 x1 x2 x3 x4 x5:V):List (Str × V):=[("tokens",x0),("at",x1),("level",x2),("waiting",x3),("built",x4),("begun",x5)]
theorem Zh (x0 x1 x2 x3 x4 x5:V):(Zc x0 x1 x2 x3 x4 x5).lookup ("tokens" : Str)=some x0:=rfl
theorem JE (x0 x1 x2 x3 x4 x5:V):(Zc x0 x1 x2 x3 x4 x5).lookup ("at" : Str)=some x1:=rfl
theorem qa2 (x0 x1 x2 x3 x4 x5:V):(Zc x0 x1 x2 x3 x4 x5).lookup ("level" : Str)=some x2:=rfl
theorem JT (x0 x1 x2 x3 x4 x5:V):(Zc x0 x1 x2 x3 x4 x5).lookup ("waiting" : Str)=some x3:=rfl
theorem Q2 (x0 x1 x2 x3 x4 x5:V):(Zc x0 x1 x2 x3 x4 x5).lookup ("built" : Str)=some x4:=rfl
theorem ZP (x0 x1 x2 x3 x4 x5:V):(Zc x0 x1 x2 x3 x4 x5).lookup ("begun" : Str)=some x5:=rfl
theorem qbR (x0 x1 x2 x3 x4 x5:V):(Zc x0 x1 x2 x3 x4 x5).lookup ("step" : Str)=none:=rfl
theorem qbS (x0 x1 x2 x3 x4 x5:V):(Zc x0 x1 x2 x3 x4 x5).lookup ("read_token" : Str)=none:=rfl
theorem qgU (x0 x1 x2 x3 x4 x5:V):(Zc x0 x1 x2 x3 x4 x5).lookup ("act" : Str)=none:=rfl
theorem qbp (x0 x1 x2 x3 x4 x5:V):(Zc x0 x1 x2 x3 x4 x5).lookup ("enter_level" : Str)=none:=rfl
theorem qcX (x0 x1 x2 x3 x4 x5:V):(Zc x0 x1 x2 x3 x4 x5).lookup ("end_node" : Str)=none:=rfl
structure Ad where
 Token:Addr
 Cutter:Addr
 Node:Addr
 Begun:Addr
 Reader:Addr
 Refusal:Addr
 TextTooLong:Addr
 WrongToken:Addr
 WrongSyntax:Addr
 LevelTooDeep:Addr
 NameTwice:Addr
 TreeTooDeep:Addr
 WORDS:Addr
 SIGNS:Addr
 ATOM_BEGINNINGS:Addr
 ESCAPES:Addr
 GRAMMAR:Addr
 gram:Str->Addr
structure Tx (P:Program) (w:World) (K:PySem.W.Frag) (mg:Str->Option Value) (a:Ad):Prop where
 c_Token:Cls K a.Token
 n_Token_kind:qx K a.Token "kind"
 n_Token_place:qx K a.Token "place"
 n_Token_held:qx K a.Token "held"
 c_Cutter:Cls K a.Cutter
 n_Cutter_text:qx K a.Cutter "text"
 n_Cutter_place:qx K a.Cutter "place"
 n_Cutter_tokens:qx K a.Cutter "tokens"
 n_Cutter_opened:qx K a.Cutter "opened"
 n_Cutter_in_literal:qx K a.Cutter "in_literal"
 n_Cutter_ended:qx K a.Cutter "ended"
 c_Node:Cls K a.Node
 n_Node_kind:qx K a.Node "kind"
 n_Node_labels:qx K a.Node "labels"
 n_Node_kids:qx K a.Node "kids"
 n_Node_depth:qx K a.Node "depth"
 c_Begun:Cls K a.Begun
 n_Begun_first:qx K a.Begun "first"
 n_Begun_labels:qx K a.Begun "labels"
 n_Begun_names:qx K a.Begun "names"
 c_Reader:Cls K a.Reader
 n_Reader_tokens:qx K a.Reader "tokens"
 n_Reader_at:qx K a.Reader "at"
 n_Reader_level:qx K a.Reader "level"
 n_Reader_waiting:qx K a.Reader "waiting"
 n_Reader_built:qx K a.Reader "built"
 n_Reader_begun:qx K a.Reader "begun"
 x_Refusal:jD K a.Refusal
 n_Refusal_number:qx K a.Refusal "number"
 n_Refusal_place:qx K a.Refusal "place"
 u_Refusal:subB K a.Refusal a.Refusal
 x_TextTooLong:jD K a.TextTooLong
 n_TextTooLong_number:qx K a.TextTooLong "number"
 n_TextTooLong_place:qx K a.TextTooLong "place"
 u_TextTooLong:subB K a.TextTooLong a.Refusal
 x_WrongToken:jD K a.WrongToken
 n_WrongToken_number:qx K a.WrongToken "number"
 n_WrongToken_place:qx K a.WrongToken "place"
 u_WrongToken:subB K a.WrongToken a.Refusal
 x_WrongSyntax:jD K a.WrongSyntax
 n_WrongSyntax_number:qx K a.WrongSyntax "number"
 n_WrongSyntax_place:qx K a.WrongSyntax "place"
 u_WrongSyntax:subB K a.WrongSyntax a.Refusal
 x_LevelTooDeep:jD K a.LevelTooDeep
 n_LevelTooDeep_number:qx K a.LevelTooDeep "number"
 n_LevelTooDeep_place:qx K a.LevelTooDeep "place"
 u_LevelTooDeep:subB K a.LevelTooDeep a.Refusal
 x_NameTwice:jD K a.NameTwice
 n_NameTwice_number:qx K a.NameTwice "number"
 n_NameTwice_place:qx K a.NameTwice "place"
 u_NameTwice:subB K a.NameTwice a.Refusal
 x_TreeTooDeep:jD K a.TreeTooDeep
 n_TreeTooDeep_number:qx K a.TreeTooDeep "number"
 n_TreeTooDeep_place:qx K a.TreeTooDeep "place"
 u_TreeTooDeep:subB K a.TreeTooDeep a.Refusal
 g_TAB:GlV mg "TAB" (.int (9))
 g_LINE_FEED:GlV mg "LINE_FEED" (.int (10))
 g_RETURN:GlV mg "RETURN" (.int (13))
 g_BLANK:GlV mg "BLANK" (.int (32))
 g_QUOTE:GlV mg "QUOTE" (.int (34))
 g_HASH:GlV mg "HASH" (.int (35))
 g_DOLLAR:GlV mg "DOLLAR" (.int (36))
 g_MINUS:GlV mg "MINUS" (.int (45))
 g_ZERO:GlV mg "ZERO" (.int (48))
 g_BACKSLASH:GlV mg "BACKSLASH" (.int (92))
 g_UNDERSCORE:GlV mg "UNDERSCORE" (.int (95))
 g_LEFT_BRACE:GlV mg "LEFT_BRACE" (.int (123))
 g_RIGHT_BRACE:GlV mg "RIGHT_BRACE" (.int (125))
 g_MOST_NAME_BYTES:GlV mg "MOST_NAME_BYTES" (.int (32))
 g_MOST_DIGITS:GlV mg "MOST_DIGITS" (.int (30))
 g_NOTHING:GlV mg "NOTHING" (.int (-1))
 g_MOST_TEXT_BYTES:GlV mg "MOST_TEXT_BYTES" (.int (2048))
 g_MOST_LEVELS:GlV mg "MOST_LEVELS" (.int (40))
 g_MOST_DEPTH:GlV mg "MOST_DEPTH" (.int (40))
 g_WORDS:GlV mg "WORDS" (.ref a.WORDS)
 t_WORDS:qah K a.WORDS (JS.map V.str)
 g_SIGNS:GlV mg "SIGNS" (.ref a.SIGNS)
 t_SIGNS:qah K a.SIGNS (Zg.map V.str)
 g_ATOM_BEGINNINGS:GlV mg "ATOM_BEGINNINGS" (.ref a.ATOM_BEGINNINGS)
 t_ATOM_BEGINNINGS:qah K a.ATOM_BEGINNINGS (qdm.map V.str)
 g_ESCAPES:GlV mg "ESCAPES" (.ref a.ESCAPES)
 d_ESCAPES:QM P w K a.ESCAPES qai
 g_GRAMMAR:GlV mg "GRAMMAR" (.ref a.GRAMMAR)
 d_GRAMMAR:QM P w K a.GRAMMAR (Q1.map fun r=>(Sum.inr r.1,V.ref (a.gram r.1)))
 t_gram:∀ r∈Q1,qah K (a.gram r.1) (r.2.map V.str)
 b_len:mg "len" = none
 b_ord:mg "ord" = none
 b_max:mg "max" = none
 b_tuple:mg "tuple" = none
end RT
end
section
namespace L2
open PySem PySem.Spec PyProof.Rows
def ClsAt (P:Program) (w:World) (K:PySem.W.Frag) (mg:Str->Option Value) (base:Heap) (k:Nat) (C:Addr) (x m:Str) (ps:List Str) (sp:Sp):Prop :=
 ∃ f fd,mg x=some (.ref C)/\qlB K C m f/\qw P w K mg base CX0 k f fd ps sp/\Binds K fd ps []
theorem Zv {X:Cx} {k:Nat} {C:Addr} {ps:List Str} {sp:Sp} {x m:Str} {p pos apos:Pos} {e:Expr} {es:List Expr} {t:TA} {pl:Sem Bool} (G:ClsAt X.prog X.w X.K X.mg X.base k C x m ps sp) (hr:qN k X.A) (ha:PA X (e::es) t) (hg:Gl X x:=by rfl)
  (hdb:(x == ("__debug__" : Str))=false:=by decide)
  (hst:starEach (e::es) X.env=(false,eval e X.env)::starEach es X.env:=by rfl) (hpl:(backTo pos (starEach es X.env)).any (·.1)=false:=by rfl)
  (ht:eval (.Call (.Attribute (.Name x p) m apos) (e::es) [] pos) X.env=(do
   let ov <- eval (.Name x p) X.env
   standAt apos.atName
   let (f,first) <- holding [ov] (getMethod ov m pl)
   callWith pos f first (backTo pos (starEach (e::es) X.env)) (backToKw pos (keywordEach [] X.env))):=by rfl) :
  PE X (.Call (.Attribute (.Name x p) m apos) (e::es) [] pos) (Jz sp [] E0 t):=by
 obtain ⟨f,fd,h1,h2,h3,h4⟩:=G
 exact qh1 hg h1 h2 h3 hr h4 .nil qO ha hdb hst hpl ht
end L2
namespace RT
open PySem PySem.Spec PyProof.Rows L2
def top (i:Nat):Stmt:=PySem.Challenge.pw_recipetexts_s05_part.main.body.getD i (.Pass ⟨0,0,0,0⟩)
abbrev jP:Stmt:=inClass (top 1) 0
abbrev jc:Stmt:=inClass (top 2) 0
abbrev jm:Stmt:=inClass (top 3) 0
abbrev jd:Stmt:=inClass (top 4) 0
abbrev zY:Stmt:=inClass (top 5) 0
abbrev jx:Stmt:=inClass (top 6) 0
abbrev je:Stmt:=inClass (top 7) 0
abbrev jf:Stmt:=inClass (top 8) 0
abbrev zZ:Stmt:=inClass (top 9) 0
abbrev Qw:Stmt:=inClass (top 12) 0
abbrev jX:Stmt:=top 13
abbrev Z2:Stmt:=top 16
abbrev Zw:Stmt:=top 17
abbrev Q3:Stmt:=top 32
abbrev qdV:Stmt:=top 39
abbrev jY:Stmt:=top 40
abbrev Qx:Stmt:=top 41
abbrev Zx:Stmt:=top 42
abbrev Z3:Stmt:=top 43
abbrev Q4:Stmt:=top 44
abbrev Qy:Stmt:=top 45
abbrev Q5:Stmt:=top 46
abbrev Q6:Stmt:=top 47
abbrev Qz:Stmt:=top 48
abbrev Qh:Stmt:=top 49
abbrev QA:Stmt:=top 50
abbrev Zy:Stmt:=top 51
abbrev Zz:Stmt:=top 52
abbrev ZA:Stmt:=top 53
abbrev ZB:Stmt:=top 54
abbrev ZC:Stmt:=top 55
abbrev Z4:Stmt:=top 56
abbrev Qi:Stmt:=top 57
abbrev QB:Stmt:=top 58
abbrev ZD:Stmt:=top 59
abbrev Z5:Stmt:=top 60
abbrev Q7:Stmt:=top 61
abbrev jQ:Stmt:=top 62
abbrev ZE:Stmt:=top 64
abbrev jZ:Stmt:=top 65
abbrev j4:Stmt:=top 66
abbrev Qj:Stmt:=inClass (top 74) 0
abbrev QC:Stmt:=top 75
abbrev Q8:Stmt:=top 76
abbrev Qk:Stmt:=top 77
abbrev jR:Stmt:=top 78
abbrev j6:Stmt:=inClass (top 79) 0
abbrev jy:Stmt:=inClass (top 79) 1
abbrev jg:Stmt:=inClass (top 79) 2
abbrev zQ:Stmt:=inClass (top 79) 3
abbrev zJ:Stmt:=inClass (top 79) 4
abbrev jn:Stmt:=inClass (top 79) 5
abbrev z5:Stmt:=inClass (top 79) 6
abbrev zu:Stmt:=inClass (top 79) 7
abbrev jo:Stmt:=inClass (top 79) 8
abbrev zR:Stmt:=inClass (top 79) 9
abbrev jh:Stmt:=inClass (top 79) 10
abbrev zE:Stmt:=inClass (top 79) 11
abbrev zS:Stmt:=inClass (top 79) 12
abbrev qcm:Stmt:=top 80
abbrev Ql:Stmt:=inClass (top 86) 0
abbrev qat:Stmt:=top 87
abbrev Z6:Stmt:=top 88
abbrev QD:Stmt:=top 89
abbrev j7:Stmt:=inClass (top 90) 0
abbrev j8:Stmt:=inClass (top 90) 1
abbrev z6:Stmt:=inClass (top 90) 2
abbrev Qm:Stmt:=inClass (top 90) 3
abbrev zT:Stmt:=inClass (top 90) 4
abbrev jp:Stmt:=inClass (top 90) 5
abbrev qau:Stmt:=top 91
abbrev ZQ:Stmt:=top 93
abbrev rfF (n p:Int):List (Str × V):=[("number",.int n),("place",.int p)]
def Jf (K:PySem.W.Frag):Sp:=fun vs H Q _=>∃ (e C:Addr) (xs:Array Value) (n p:Int),vs=[.ref e,.int n,.int p]/\H e=some (XOb e C xs none)/\jD K C/\qx K C "number" /\ qx K C "place" /\
 ∀ dx H',H dx=none->dx≠e->H' e=some (XOb e C xs (some dx))->H' dx=some (XDi dx (rfF n p))->(∀ b o,H b=some o->b≠e->H' b=some o)->Q .non H'
def spX (C:Addr) (n:Int) (one:Bool):Sp:=fun vs H Q _=>∃ (e:Addr) (xs:Array Value) (p:Int),(vs=if one then [.ref e,.int p] else [.ref e])/\(one=false->p=0)/\H e=some (XOb e C xs none) /\
 ∀ dx H',H dx=none->dx≠e->H' e=some (XOb e C xs (some dx))->H' dx=some (XDi dx (rfF n p))->(∀ b o,H b=some o->b≠e->H' b=some o)->Q .non H'
section
variable {P:Program} {w:World} {K:PySem.W.Frag} {mg:Str->Option Value} {base:Heap} {f:Addr} {fd:FuncData} {a:Ad}
theorem qdq:qm ["self","number","place"] ["self","number","place"] (qe jP):=⟨rfl,rfl,rfl,by decide +kernel,rfl,by decide +kernel,by decide +kernel⟩
theorem qdr (F:Fun K "__init__" "Refusal.__init__" jP f fd):qw P w K mg base CX0 1 f fd ["self","number","place"] (Jf K):=by
 refine F.ok qdq (fun vs H Q E h=>?_) (fun cdv A outer s H vs Q E hr h=>?_)
 ·obtain ⟨e,C,xs,n,p,rfl,_⟩:=h; rfl
 ·obtain ⟨e,C,xs,n,p,rfl,he,hC,n1,n2,k⟩:=h
  refine ⟨_,qi (qkN (pv 0) (pv 1) rfl) (qf (qkO (pv 0) (pv 2) rfl)),?_⟩
  refine ⟨_,rfl,_,rfl,e,C,xs,rfl,he,hC,n1,fun dx hd hde=>?_⟩
  refine ⟨_,rfl,_,rfl,e,C,xs,dx,_,rfl,qc,(qd hde).trans qc,(by show 1<1000; decide),hC,n2,?_⟩
  refine k dx _ hd hde ?_ ?_ fun b o hb hbe=>?_
  ·rw [qd (Ne.symm hde),qc]
  ·rw [qc]; rfl
  ·rw [qd (qh hb hd),qd hbe,qd (qh hb hd)]; exact hb
theorem qbq:qm ["self"] ["self"] (qe jc):=⟨rfl,rfl,rfl,by decide +kernel,rfl,by decide +kernel,by decide +kernel⟩
theorem qbr (F:Fun K "__init__" "TextTooLong.__init__" jc f fd) (T:Tx P w K mg a) (G:ClsAt P w K mg base 1 a.Refusal "Refusal" "__init__" ["self","number","place"] (Jf K)):qw P w K mg base CX0 2 f fd ["self"] (spX a.TextTooLong 1 false):=by
 refine F.ok qbq (fun vs H Q E h=>?_) (fun cdv A outer s H vs Q E hr h=>?_)
 ·obtain ⟨e,xs,p,rfl,_⟩:=h; rfl
 ·obtain ⟨e,xs,p,rfl,hp,he,k⟩:=h
  refine ⟨_,qf (qu (Zv G hr (qa (pv 0) (qa qr (qa qr qg))))),?_⟩
  have hp0:=hp rfl
  subst hp0
  exact ⟨_,rfl,e,a.TextTooLong,xs,1,0,rfl,he,T.x_TextTooLong,T.n_TextTooLong_number,T.n_TextTooLong_place,k⟩
theorem qbT:qm ["self","place"] ["self","place"] (qe jm):=⟨rfl,rfl,rfl,by decide +kernel,rfl,by decide +kernel,by decide +kernel⟩
theorem qbU (F:Fun K "__init__" "WrongToken.__init__" jm f fd) (T:Tx P w K mg a) (G:ClsAt P w K mg base 1 a.Refusal "Refusal" "__init__" ["self","number","place"] (Jf K)):qw P w K mg base CX0 2 f fd ["self","place"] (spX a.WrongToken 2 true):=by
 refine F.ok qbT (fun vs H Q E h=>?_) (fun cdv A outer s H vs Q E hr h=>?_)
 ·obtain ⟨e,xs,p,rfl,_⟩:=h; rfl
 ·obtain ⟨e,xs,p,rfl,hp,he,k⟩:=h
  refine ⟨_,qf (qu (Zv G hr (qa (pv 0) (qa qr (qa (pv 1) qg))))),?_⟩
  exact ⟨_,rfl,_,rfl,e,a.WrongToken,xs,2,p,rfl,he,T.x_WrongToken,T.n_WrongToken_number,T.n_WrongToken_place,k⟩
theorem qbs:qm ["self","place"] ["self","place"] (qe jd):=⟨rfl,rfl,rfl,by decide +kernel,rfl,by decide +kernel,by decide +kernel⟩
theorem qbt (F:Fun K "__init__" "WrongSyntax.__init__" jd f fd) (T:Tx P w K mg a) (G:ClsAt P w K mg base 1 a.Refusal "Refusal" "__init__" ["self","number","place"] (Jf K)):qw P w K mg base CX0 2 f fd ["self","place"] (spX a.WrongSyntax 3 true):=by
 refine F.ok qbs (fun vs H Q E h=>?_) (fun cdv A outer s H vs Q E hr h=>?_)
 ·obtain ⟨e,xs,p,rfl,_⟩:=h; rfl
 ·obtain ⟨e,xs,p,rfl,hp,he,k⟩:=h
  refine ⟨_,qf (qu (Zv G hr (qa (pv 0) (qa qr (qa (pv 1) qg))))),?_⟩
  exact ⟨_,rfl,_,rfl,e,a.WrongSyntax,xs,3,p,rfl,he,T.x_WrongSyntax,T.n_WrongSyntax_number,T.n_WrongSyntax_place,k⟩
theorem qa3:qm ["self","place"] ["self","place"] (qe zY):=⟨rfl,rfl,rfl,by decide +kernel,rfl,by decide +kernel,by decide +kernel⟩
theorem qa4 (F:Fun K "__init__" "LevelTooDeep.__init__" zY f fd) (T:Tx P w K mg a) (G:ClsAt P w K mg base 1 a.Refusal "Refusal" "__init__" ["self","number","place"] (Jf K)):qw P w K mg base CX0 2 f fd ["self","place"] (spX a.LevelTooDeep 4 true):=by
 refine F.ok qa3 (fun vs H Q E h=>?_) (fun cdv A outer s H vs Q E hr h=>?_)
 ·obtain ⟨e,xs,p,rfl,_⟩:=h; rfl
 ·obtain ⟨e,xs,p,rfl,hp,he,k⟩:=h
  refine ⟨_,qf (qu (Zv G hr (qa (pv 0) (qa qr (qa (pv 1) qg))))),?_⟩
  exact ⟨_,rfl,_,rfl,e,a.LevelTooDeep,xs,4,p,rfl,he,T.x_LevelTooDeep,T.n_LevelTooDeep_number,T.n_LevelTooDeep_place,k⟩
theorem qcu:qm ["self","place"] ["self","place"] (qe jx):=⟨rfl,rfl,rfl,by decide +kernel,rfl,by decide +kernel,by decide +kernel⟩
theorem qcv (F:Fun K "__init__" "NameTwice.__init__" jx f fd) (T:Tx P w K mg a) (G:ClsAt P w K mg base 1 a.Refusal "Refusal" "__init__" ["self","number","place"] (Jf K)):qw P w K mg base CX0 2 f fd ["self","place"] (spX a.NameTwice 5 true):=by
 refine F.ok qcu (fun vs H Q E h=>?_) (fun cdv A outer s H vs Q E hr h=>?_)
 ·obtain ⟨e,xs,p,rfl,_⟩:=h; rfl
 ·obtain ⟨e,xs,p,rfl,hp,he,k⟩:=h
  refine ⟨_,qf (qu (Zv G hr (qa (pv 0) (qa qr (qa (pv 1) qg))))),?_⟩
  exact ⟨_,rfl,_,rfl,e,a.NameTwice,xs,5,p,rfl,he,T.x_NameTwice,T.n_NameTwice_number,T.n_NameTwice_place,k⟩
theorem qbu:qm ["self"] ["self"] (qe je):=⟨rfl,rfl,rfl,by decide +kernel,rfl,by decide +kernel,by decide +kernel⟩
theorem qbv (F:Fun K "__init__" "TreeTooDeep.__init__" je f fd) (T:Tx P w K mg a) (G:ClsAt P w K mg base 1 a.Refusal "Refusal" "__init__" ["self","number","place"] (Jf K)):qw P w K mg base CX0 2 f fd ["self"] (spX a.TreeTooDeep 6 false):=by
 refine F.ok qbu (fun vs H Q E h=>?_) (fun cdv A outer s H vs Q E hr h=>?_)
 ·obtain ⟨e,xs,p,rfl,_⟩:=h; rfl
 ·obtain ⟨e,xs,p,rfl,hp,he,k⟩:=h
  refine ⟨_,qf (qu (Zv G hr (qa (pv 0) (qa qr (qa qr qg))))),?_⟩
  have hp0:=hp rfl
  subst hp0
  exact ⟨_,rfl,e,a.TreeTooDeep,xs,6,0,rfl,he,T.x_TreeTooDeep,T.n_TreeTooDeep_number,T.n_TreeTooDeep_place,k⟩
structure XAt (K:PySem.W.Frag) (S:Addr) (C dx:Addr) (H:Hp) (n p:Int):Prop where
 cls:jD K C
 sub:subB K C S
 nn:qx K C "number"
 np:qx K C "place"
 di:H dx=some (XDi dx (rfF n p))
def XW (K:PySem.W.Frag) (S:Addr) (H:Hp) (n p:Int) (E:XK):Prop:=∀ C dx H',qF H H'->XAt K S C dx H' n p->E (.ref C) (some dx) H'
theorem Q9 {S C:Addr} {n p:Int} {E:XK} {H:Hp} (cl:jD K C) (su:subB K C S) (n1:qx K C "number") (n2:qx K C "place") (h:XW K S H n p E) :
  ([V.int p]:List V).length<=1000/\∀ e ta,H e=none->spX C n true (.ref e::[V.int p]) (upd H e (XOb e C (xv ta) none)) (fun v H2=>v=.non/\∃ dx,H2 e=some (XOb e C (xv ta) (some dx))/\E (.ref C) (some dx) (Zp H2 e)) E0:=by
 refine ⟨by show 1<=1000; decide,fun e ta he=>⟨e,xv ta,p,rfl,(fun z=>by cases z),qc,fun dx H' hd hde h1 h2 hk=>⟨rfl,dx,h1,h C dx _ (fun b o hb=>?_) ⟨cl,su,n1,n2,?_⟩⟩⟩⟩
 ·have:=qh hb he
  rw [Qu this]
  exact hk b o (by rw [qd this]; exact hb) this
 ·rw [Qu hde]; exact h2
theorem qav {S C:Addr} {n:Int} {E:XK} {H:Hp} (cl:jD K C) (su:subB K C S) (n1:qx K C "number") (n2:qx K C "place") (h:XW K S H n 0 E) :
  ([]:List V).length<=1000/\∀ e ta,H e=none->spX C n false (.ref e::[]) (upd H e (XOb e C (xv ta) none)) (fun v H2=>v=.non/\∃ dx,H2 e=some (XOb e C (xv ta) (some dx))/\E (.ref C) (some dx) (Zp H2 e)) E0:=by
 refine ⟨by show 0<=1000; decide,fun e ta he=>⟨e,xv ta,0,rfl,(fun z=>rfl),qc,fun dx H' hd hde h1 h2 hk=>⟨rfl,dx,h1,h C dx _ (fun b o hb=>?_) ⟨cl,su,n1,n2,?_⟩⟩⟩⟩
 ·have:=qh hb he
  rw [Qu this]
  exact hk b o (by rw [qd this]; exact hb) this
 ·rw [Qu hde]; exact h2
end
end RT
end
section
namespace RT
open PySem PySem.Spec PyProof.Rows L2
def strOf (b:List Nat):Str:=⟨b.toArray⟩
theorem zH (i j:Int):(i == j)=decide (j=i):=by
 by_cases h:i=j
 ·subst h; simp
 ·rw [beq_eq_false_iff_ne.mpr h,decide_eq_false (fun e=>h e.symm)]
def qa5:Sp:=fun vs H Q _=>∃ c:Int,vs=[.int c]/\Q (.bl (decide (65<=c/\c<=90 \/ 97<=c/\c<=122))) H
def qaw:Sp:=fun vs H Q _=>∃ c:Int,vs=[.int c]/\Q (.bl (decide (48<=c/\c<=57))) H
def inName (c:Int):Bool:=decide (65<=c/\c<=90 \/ 97<=c/\c<=122)||decide (48<=c/\c<=57)||decide (c=45)||decide (c=95)
def qf0:Sp:=fun vs H Q _=>∃ c:Int,vs=[.int c]/\∀ H',qF H H'->Q (.bl (inName c)) H'
def qax:Sp:=fun vs H Q _=>∃ x:Str,vs=[.str x]/\x.cps.size<=1000/\∀ p,H p=none->Q (.ref p) (upd H p (.lst (nt x.cps.toList)))
def kindName (b:List Nat):Str:=if Vastoa.reserved.contains b then strOf b else "name"
def qf1:Sp:=fun vs H Q _=>∃ (p:Addr) (b:List Nat),vs=[.ref p]/\H p=some (.lst (nt b))/\∀ H',qF H H'->Q (.str (kindName b)) H'
section
variable {P:Program} {w:World} {K:PySem.W.Frag} {mg:Str->Option Value} {base:Heap} {f:Addr} {fd:FuncData} {a:Ad}
theorem qf2:qm ["byte"] ["byte"] (qe QC):=⟨rfl,rfl,rfl,by decide +kernel,rfl,by decide +kernel,by decide +kernel⟩
theorem qf3 (F:Fun K "is_letter" "is_letter" QC f fd):qw P w K mg base CX0 1 f fd ["byte"] qa5:=by
 refine F.ok qf2 (fun vs H Q E h=>?_) (fun cdv A outer s H vs Q E hr h=>?_)
 ·obtain ⟨c,rfl,_⟩:=h; rfl
 ·obtain ⟨c,rfl,k⟩:=h
  refine ⟨_,qf (qG (qhM (qcJ qcc qcc qr (pv 0) qr) (qiU (qcJ qcc qcc qr (pv 0) qr)))),?_⟩
  simp [qcI,qks,qfs,tC,zM,rI0,L2.start]
  by_cases h1:65<=c <;> by_cases h2:c<=90 <;> by_cases h3:97<=c <;> by_cases h4:c<=122 <;> simp [h1,h2,h3,h4] at k ⊢ <;> exact k
theorem qgV:qm ["byte"] ["byte"] (qe Q8):=⟨rfl,rfl,rfl,by decide +kernel,rfl,by decide +kernel,by decide +kernel⟩
theorem qgW (F:Fun K "is_digit" "is_digit" Q8 f fd):qw P w K mg base CX0 1 f fd ["byte"] qaw:=by
 refine F.ok qgV (fun vs H Q E h=>?_) (fun cdv A outer s H vs Q E hr h=>?_)
 ·obtain ⟨c,rfl,_⟩:=h; rfl
 ·obtain ⟨c,rfl,k⟩:=h
  refine ⟨_,qf (qG (qcJ qcc qcc qr (pv 0) qr)),?_⟩
  simp [qcI,qfs,tC,zM,rI0,L2.start]
  by_cases h1:48<=c <;> by_cases h2:c<=57 <;> simp [h1,h2] at k ⊢ <;> exact k
theorem qe4:qm ["byte"] ["byte"] (qe Qk):=⟨rfl,rfl,rfl,by decide +kernel,rfl,by decide +kernel,by decide +kernel⟩
theorem qe5 (F:Fun K "is_in_name" "is_in_name" Qk f fd) (T:Tx P w K mg a) (G1:FnAt P w K mg base CX0 1 "is_letter" ["byte"] qa5) (G2:FnAt P w K mg base CX0 1 "is_digit" ["byte"] qaw) :
  qw P w K mg base CX0 2 f fd ["byte"] qf0:=by
 refine F.ok qe4 (fun vs H Q E h=>?_) (fun cdv A outer s H vs Q E hr h=>?_)
 ·obtain ⟨c,rfl,_⟩:=h; rfl
 ·obtain ⟨c,rfl,k⟩:=h
  refine ⟨_,qf (qG (qhM (qV G1 hr qO (qa (pv 0) qg)) (qhM (qV G2 hr qO (qa (pv 0) qg))
   (qiU (qjy (pv 0) (qa (qL T.g_MINUS) (qa (qL T.g_UNDERSCORE) qg))))))),?_⟩
  simp [qcI,qks,Jz,ji,jV,tC,zM,qid,qdS,Qo,inV,eqV,qa5,qaw,L2.start]
  by_cases h1:65<=c/\c<=90 \/ 97<=c/\c<=122
  ·rw [if_pos h1]
   have e:inName c=true:=by simp [inName,h1]
   rw [e] at k; exact k H (qF.refl H)
  ·rw [if_neg h1]
   by_cases h2:48<=c/\c<=57
   ·rw [if_pos h2]
    have e:inName c=true:=by simp [inName,h2]
    rw [e] at k; exact k H (qF.refl H)
   ·rw [if_neg h2]
    intro H' hs
    have e:inName c=(45 == c||95 == c):=by
     rw [zH,zH]
     simp only [inName,h1,h2,decide_false,Bool.false_or]
    rw [<- e]; exact k H' hs
theorem qal:qm ["written","sign"] ["written"] (qe Q3):=⟨rfl,rfl,rfl,by decide +kernel,rfl,by decide +kernel,by decide +kernel⟩
theorem qgX (F:Fun K "bytes_of" "bytes_of" Q3 f fd) (T:Tx P w K mg a):qw P w K mg base CX0 1 f fd ["written"] qax:=by
 refine F.ok qal (fun vs H Q E h=>?_) (fun cdv A outer s H vs Q E hr h=>?_)
 ·obtain ⟨c,rfl,_⟩:=h; rfl
 ·obtain ⟨x,rfl,hx,k⟩:=h
  refine ⟨_,qf (qG (qfg (own:=[("sign",1)]) rfl qal.nd (qm9 (pv 0)) (JN rfl) (fun _ _ _ _ _=>jv (i:=1) qal.nd rfl (Or.inl rfl)) (fun _ _ _ _ _=>qar)
   (fun _ _ _ _ _=>ja qkv (by rfl) T.b_ord boot_ord (qa (pv 1) qg)))),?_⟩
  refine ⟨_,rfl,x,rfl,fun D hD=>qnn (fun i H'=>H'=upd H D (.lst (nt (x.cps.toList.take i)))) rfl ?_ ?_⟩
  ·rintro i c _ hc rfl
   simp [ZH,qkC,tCB,ji,jV,zM,wipe,L2.start,qc]
   have hi:i<x.cps.size:=(Array.getElem?_eq_some_iff.mp hc).1
   refine ⟨rfl,by rw [zt,List.length_take]; exact Nat.lt_of_le_of_lt (Nat.min_le_left _ _) (QS (by omega)),?_⟩
   rw [jO]
   congr 2
   have hc':x.cps.toList[i]? = some c:=by simpa using hc
   rw [List.take_succ,hc']
   simp [nt]
  ·rintro _ rfl
   have:=k D hD
   rw [List.take_of_length_le (by simp)]
   exact this
theorem qay:JS.map (fun x=>x.cps.toList)=Vastoa.reserved:=by decide +kernel
theorem J4:qm ["held","word"] ["held"] (qe jR):=⟨rfl,rfl,rfl,by decide +kernel,rfl,by decide +kernel,by decide +kernel⟩
theorem qds (F:Fun K "kind_of_name" "kind_of_name" jR f fd) (T:Tx P w K mg a) (G:FnAt P w K mg base CX0 1 "bytes_of" ["written"] qax):qw P w K mg base CX0 2 f fd ["held"] qf1:=by
 refine F.ok J4 (fun vs H Q E h=>?_) (fun cdv A outer s H vs Q E hr h=>?_)
 ·obtain ⟨p,b,rfl,_⟩:=h; rfl
 ·obtain ⟨p,b,rfl,hp,k⟩:=h
  refine ⟨_,qi (Jk PassesOwn.never rfl (qfr (qL T.g_WORDS)) (jv (i:=1) J4.nd rfl (Or.inl rfl))
   (qf (qQ (qI (qi7 hr.units) (pv 0) (qV G hr qO (qa (pv 1) qg)) (qU _)) (qf (qG (pv 1))) zf))) (qf (qG qK)),?_⟩
  refine ⟨a.WORDS,rfl,⟨_,T.t_WORDS.sq _⟩,qdI (K:=K) (a:=a.WORDS) (xs:=JS.map V.str) (fun i σ H'=>∃ v:Option V,σ = [some (.ref p),v]/\qF H H'/\∀ j x,j<i->JS[j]? = some x->x.cps.toList≠b)
   ⟨none,rfl,qF.refl _,fun j x hj=>absurd hj (Nat.not_lt_zero _)⟩ (fun i σ H' _ _=>T.t_WORDS.sq _) ?_ ?_⟩
  ·rintro i y σ H' hi ⟨v,rfl,hs,hno⟩
   obtain ⟨x,hx,rfl⟩:∃ x,JS[i]? = some x/\V.str x=y:=by
    rw [List.getElem?_map] at hi
    exact Option.map_eq_some_iff.mp hi
   have hsz:x.cps.size<=1000:=by
    have all:∀ x∈JS,x.cps.size<=1000:=by decide +kernel
    exact all x (List.mem_of_getElem? hx)
   refine ⟨_,rfl,_,rfl,x,rfl,hsz,fun q hq=>qjC (SqL.of (qp hq _ _ (hs _ _ hp))) (SqL.of qc) ⟨_,rfl,zN (fun e=>?_) fun e=>?_⟩⟩
   ·have e:b=x.cps.toList:=of_decide_eq_true e
    subst e
    refine ⟨_,rfl,?_⟩
    have h1:kindName x.cps.toList=x:=by
     have:x.cps.toList∈Vastoa.reserved:=by rw [<- qay]; exact List.mem_map.mpr ⟨x,List.mem_of_getElem? hx,rfl⟩
     unfold kindName
     rw [if_pos (List.contains_iff_mem.mpr this)]
     rfl
    rw [h1] at k
    exact k _ (hs.trans (qp hq))
   ·refine ⟨_,rfl,hs.trans (qp hq),fun j y hj hy=>?_⟩
    by_cases hji:j=i
    ·subst hji
     rw [hx] at hy
     cases hy
     exact fun z=>e (decide_eq_true z.symm)
    ·exact hno j y (by omega) hy
  ·rintro σ H' ⟨v,rfl,hs,hno⟩
   have h1:kindName b = "name":=by
    have:b∉Vastoa.reserved:=by
     rw [<- qay]
     intro hm
     obtain ⟨x,hx,rfl⟩:=List.mem_map.mp hm
     obtain ⟨j,hj⟩:=List.getElem?_of_mem hx
     exact hno j x (by have:=(List.getElem?_eq_some_iff.mp hj).1; rw [List.length_map]; exact this) hj rfl
    unfold kindName
    rw [if_neg (fun z=>this (List.contains_iff_mem.mp z))]
   rw [h1] at k
   exact k _ hs
def qig (a:Ad):Sp:=fun vs H Q _=>∃ (t dx:Addr) (k p h:V),vs=[.ref t,k,p,h]/\H t=some (.ins a.Token dx [])/\Q .non (upd H t (.ins a.Token dx (tokF k p h)))
theorem qe6:qm ["self","kind","place","held"] ["self","kind","place","held"] (qe Qj):=⟨rfl,rfl,rfl,by decide +kernel,rfl,by decide +kernel,by decide +kernel⟩
theorem qe7 (F:Fun K "__init__" "Token.__init__" Qj f fd) (T:Tx P w K mg a):qw P w K mg base CX0 1 f fd ["self","kind","place","held"] (qig a):=by
 refine F.ok qe6 (fun vs H Q E h=>?_) (fun cdv A outer s H vs Q E hr h=>?_)
 ·obtain ⟨t,dx,k,p,h,rfl,_⟩:=h; rfl
 ·obtain ⟨t,dx,kk,p,h,rfl,ht,k⟩:=h
  refine ⟨_,qi (zy (pv 0) (pv 1) rfl) (qi (zy (pv 0) (pv 2) rfl) (qf (zy (pv 0) (pv 3) rfl))),?_⟩
  refine ⟨_,rfl,_,rfl,t,_,dx,_,rfl,ht,T.c_Token,T.n_Token_kind,(by show 0<1000; decide),?_⟩
  refine ⟨_,rfl,_,rfl,t,_,dx,_,rfl,qc,T.c_Token,T.n_Token_place,(by show 1<1000; decide),?_⟩
  refine ⟨_,rfl,_,rfl,t,_,dx,_,rfl,qc,T.c_Token,T.n_Token_held,(by show 2<1000; decide),?_⟩
  rw [jO,jO]
  exact k
end
end RT
end
section
namespace RT
open PySem PySem.Spec PyProof.Rows L2
open Vastoa (Mark Marks)
abbrev qbV:=Vastoa.Tok
def jW:qbV->Str
 | .name _=> "name"
 | .num _=> "number"
 | .quote=> "quote"
 | .unquote=> "unquote"
 | .piece _=> "piece"
 | .hole=> "hole"
 | .unhole=> "unhole"
 | .fin=> "end"
 | .word x=>strOf x
 | .sign x=>strOf x
def qo (M:Addr->Prop) (H H':Hp):Prop:=∀ b o,H b=some o->¬ M b->H' b=some o
theorem qo.refl (M:Addr->Prop) (H:Hp):qo M H H:=fun _ _ h _=>h
theorem qo.trans {M:Addr->Prop} {H H1 H2:Hp} (h:qo M H H1) (h':qo M H1 H2):qo M H H2:=fun b o e n=>h' b o (h b o e n) n
theorem qo.of {M:Addr->Prop} {H H':Hp} (h:qF H H'):qo M H H':=fun b o e _=>h b o e
theorem qo.at_ {M:Addr->Prop} {H:Hp} {p:Addr} {o:HO} (h:M p):qo M H (upd H p o):=fun b u e n=>by rw [qd (fun z=>n (by rw [z]; exact h))]; exact e
theorem qo.new {M:Addr->Prop} {H:Hp} {p:Addr} {o:HO} (h:H p=none):qo M H (upd H p o):=qo.of (qp h)
theorem qo.wide {M M':Addr->Prop} {H H':Hp} (k:qo M H H') (h:∀ b,M b->M' b):qo M' H H':=fun b o e n=>k b o e fun z=>n (h b z)
def SqM (K:PySem.W.Frag) (M:Addr->Prop) (H:Hp) (p:Addr) (xs:List V):Prop:=(Rd H p (.lst xs)/\¬ M p) \/ ∃ (o:Obj) (its:Array Value) (n:Nat),K.lookup p=some o/\o.cls=.type "list" /\ o.dict=none/\o.data=.seq its n/\its.size<=sizeLine/\qE xs its.toList
theorem SqM.sq {K:PySem.W.Frag} {M:Addr->Prop} {H:Hp} {p:Addr} {xs:List V} (h:SqM K M H p xs):SqL K H p xs:=h.imp (·.1) id
theorem SqM.keep {K:PySem.W.Frag} {M:Addr->Prop} {H H':Hp} {p:Addr} {xs:List V} (h:SqM K M H p xs) (k:qo M H H'):SqM K M H' p xs:=by
 rcases h with ⟨q | ⟨o,q⟩,n⟩ | q
 ·exact .inl ⟨.inl (k _ _ q n),n⟩
 ·exact .inl ⟨.inr ⟨o,k _ _ q n⟩,n⟩
 ·exact .inr q
theorem Jg {A B:Type} {R:A->B->Prop}:∀ {as:List A} {bs:List B} {x:A} {y:B},Paired R as bs->R x y->Paired R (as++[x]) (bs++[y])
 | _,_,_,_,.nil,r=>.cons r .nil
 | _,_,_,_,.cons q t,r=>.cons q (Jg t r)
theorem qW {A B:Type} {R S:A->B->Prop} (i:∀ x y,R x y->S x y):∀ {as:List A} {bs:List B},Paired R as bs->Paired S as bs
 | _,_,.nil=>.nil
 | _,_,.cons q t=>.cons (i _ _ q) (qW i t)
theorem zU {A B:Type} {R:A->B->Prop}:∀ {as:List A} {bs:List B} {j:Nat} {y:B},Paired R as bs->bs[j]? = some y->∃ x,as[j]? = some x/\R x y
 | _,_,j,_,.nil,e=>by simp at e
 | _,_,0,_,.cons q t,e=>by simp at e; subst e; exact ⟨_,rfl,q⟩
 | _,_,j+1,y,.cons q t,e=>by
  obtain ⟨x,h1,h2⟩:=zU (j:=j) (y:=y) t (by simpa using e)
  exact ⟨x,by simpa using h1,h2⟩
def Qc (a:Ad) (M:Addr->Prop) (H:Hp) (t:Addr) (m:Mark):Prop:=∃ dx ha,H t=some (.ins a.Token dx (tokF (.str (jW m.tok)) (.int m.place) (.ref ha)))/\H ha=some (.lst (nt (RM.held m.tok)))/\¬ M t/\¬ M ha
theorem Qc.keep {a:Ad} {M:Addr->Prop} {H H':Hp} {t:Addr} {m:Mark} (h:Qc a M H t m) (k:qo M H H'):Qc a M H' t m:=by
 obtain ⟨dx,ha,h1,h2,h3,h4⟩:=h
 exact ⟨dx,ha,k _ _ h1 h3,k _ _ h2 h4,h3,h4⟩
structure CA where
 c:Addr
 dx:Addr
 a:Addr
 tl:Addr
 ol:Addr
def CA.M (z:CA) (b:Addr):Prop:=b=z.c \/ b=z.tl \/ b=z.ol
theorem CA.mc (z:CA):z.M z.c:=.inl rfl
theorem CA.mt (z:CA):z.M z.tl:=.inr (.inl rfl)
theorem CA.mo (z:CA):z.M z.ol:=.inr (.inr rfl)
def opS (b:Bool):V:=.str (if b then "hole" else "brace")
structure qP (a:Ad) (K:PySem.W.Frag) (H:Hp) (z:CA) (txt:List Nat) (i:Nat) (T:Marks) (O:List Bool) (lit en:Bool):Prop where
 ins:H z.c=some (.ins a.Cutter z.dx (jI (.ref z.a) (.int i) (.ref z.tl) (.ref z.ol) (.bl lit) (.bl en)))
 txt:SqM K z.M H z.a (nt txt)
 tl:∃ as,H z.tl=some (.lst (as.map V.ref))/\Paired (Qc a z.M H) as T
 ol:H z.ol=some (.lst (O.reverse.map opS))
 nto:z.tl≠z.ol
section
variable {a:Ad} {K:PySem.W.Frag} {H H':Hp} {z:CA} {txt:List Nat} {i:Nat} {T:Marks} {O:List Bool} {lit en:Bool}
theorem qP.nct (h:qP a K H z txt i T O lit en):z.c≠z.tl:=by
 obtain ⟨as,h1,_⟩:=h.tl
 exact qca h.ins h1 (by intro q; cases q)
theorem qP.nco (h:qP a K H z txt i T O lit en):z.c≠z.ol:=qca h.ins h.ol (by intro q; cases q)
theorem qP.fresh (h:qP a K H z txt i T O lit en) {p:Addr} (hp:H p=none):¬ z.M p:=by
 obtain ⟨as,h1,_⟩:=h.tl
 rintro (rfl | rfl | rfl)
 ·rw [h.ins] at hp; cases hp
 ·rw [h1] at hp; cases hp
 ·rw [h.ol] at hp; cases hp
theorem qP.same (h:qP a K H z txt i T O lit en) (s:qF H H'):qP a K H' z txt i T O lit en:=by
 obtain ⟨as,h1,h2⟩:=h.tl
 exact ⟨s _ _ h.ins,h.txt.keep (qo.of s),⟨as,s _ _ h1,qW (fun x y q=>q.keep (qo.of s)) h2⟩,s _ _ h.ol,h.nto⟩
theorem qP.put (h:qP a K H z txt i T O lit en) (i':Nat) (lit' en':Bool):qP a K (upd H z.c (.ins a.Cutter z.dx (jI (.ref z.a) (.int i') (.ref z.tl) (.ref z.ol) (.bl lit') (.bl en')))) z txt i' T O lit' en':=by
 obtain ⟨as,h1,h2⟩:=h.tl
 have k:qo z.M H (upd H z.c (.ins a.Cutter z.dx (jI (.ref z.a) (.int i') (.ref z.tl) (.ref z.ol) (.bl lit') (.bl en')))):=qo.at_ z.mc
 exact ⟨qc,h.txt.keep k,⟨as,by rw [qd (Ne.symm h.nct)]; exact h1,qW (fun x y q=>q.keep k) h2⟩,by rw [qd (Ne.symm h.nco)]; exact h.ol,h.nto⟩
theorem qP.putO (h:qP a K H z txt i T O lit en) (O':List Bool):qP a K (upd H z.ol (.lst (O'.reverse.map opS))) z txt i T O' lit en:=by
 obtain ⟨as,h1,h2⟩:=h.tl
 have k:qo z.M H (upd H z.ol (.lst (O'.reverse.map opS))):=qo.at_ z.mo
 exact ⟨by rw [qd h.nco]; exact h.ins,h.txt.keep k,⟨as,by rw [qd h.nto]; exact h1,qW (fun x y q=>q.keep k) h2⟩,qc,h.nto⟩
theorem qP.putT (h:qP a K H z txt i T O lit en) {as:List Addr} {t:Addr} {m:Mark} (h1:H z.tl=some (.lst (as.map V.ref))) (ht:Qc a z.M H t m):qP a K (upd H z.tl (.lst (as.map V.ref++[.ref t]))) z txt i (T++[m]) O lit en:=by
 obtain ⟨as',h1',h2⟩:=h.tl
 rw [h1] at h1'
 have e:as=as':=by
  have:=Option.some.inj h1'
  injection this with this
  exact List.map_inj_right (fun x y q=>by injection q) |>.mp this
 subst e
 have k:qo z.M H (upd H z.tl (.lst (as.map V.ref++[.ref t]))):=qo.at_ z.mt
 exact ⟨by rw [qd h.nct]; exact h.ins,h.txt.keep k,⟨as++[t],by rw [qc,List.map_append]; rfl,qW (fun x y q=>q.keep k) (Jg h2 ht)⟩,by rw [qd (Ne.symm h.nto)]; exact h.ol,h.nto⟩
end
def qjF (a:Ad) (K:PySem.W.Frag) (H:Hp) (c:Addr) (txt:List Nat):Prop:=∃ dx ta p t o l e,H c=some (.ins a.Cutter dx (jI (.ref ta) p t o l e))/\SqL K H ta (nt txt)
theorem qP.text {a:Ad} {K:PySem.W.Frag} {H:Hp} {z:CA} {txt:List Nat} {i:Nat} {T:Marks} {O:List Bool} {lit en:Bool} (h:qP a K H z txt i T O lit en):qjF a K H z.c txt:=⟨_,_,_,_,_,_,_,h.ins,h.txt.sq⟩
def byteAt (txt:List Nat) (j:Nat):Int:=match txt[j]? with
 | some b=>(b:Int)
 | none=>-1
def QW (a:Ad) (K:PySem.W.Frag):Sp:=fun vs H Q _=>∃ (c:Addr) (txt:List Nat) (j:Nat),vs=[.ref c,.int j]/\qjF a K H c txt/\Q (.int (byteAt txt j)) H
def Qr (a:Ad) (K:PySem.W.Frag):Sp:=fun vs H Q _=>∃ (z:CA) (txt:List Nat) (i:Nat) (T:Marks) (O:List Bool) (lit en:Bool) (t:qbV) (n:Nat) (ha:Addr),vs=[.ref z.c,.str (jW t),.int n,.ref ha] /\
 qP a K H z txt i T O lit en/\H ha=some (.lst (nt (RM.held t)))/\¬ z.M ha/\T.length<1000000/\∀ H',qo z.M H H'->qP a K H' z txt (i+n) (T++[⟨i,t⟩]) O lit en->Q .non H'
section
variable {P:Program} {w:World} {K:PySem.W.Frag} {mg:Str->Option Value} {base:Heap} {f:Addr} {fd:FuncData} {a:Ad}
theorem qih:qm ["self","place"] ["self","place"] (qe jy):=⟨rfl,rfl,rfl,by decide +kernel,rfl,by decide +kernel,by decide +kernel⟩
theorem qii (F:Fun K "byte_at" "Cutter.byte_at" jy f fd) (T:Tx P w K mg a):qw P w K mg base CX0 1 f fd ["self","place"] (QW a K):=by
 refine F.ok qih (fun vs H Q E h=>?_) (fun cdv A outer s H vs Q E hr h=>?_)
 ·obtain ⟨c,txt,j,rfl,_⟩:=h; rfl
 ·obtain ⟨c,txt,j,rfl,⟨dx,ta,p,t,o,l,e,hc,ht⟩,k⟩:=h
  refine ⟨_,qf (qG (qaL (qI qff (pv 1) (ja zB (by rfl) T.b_len PySem.boot_len (qa (qj (pv 0) rfl) qg)) (qU _))
   (jj zp (qj (pv 0) rfl) (pv 1) (fun _ _=>rfl)) (qL T.g_NOTHING))),?_⟩
  refine ⟨_,rfl,_,rfl,c,_,dx,_,_,rfl,hc,T.c_Cutter,T.n_Cutter_text,Jo _ _ _ _ _ _,ta,_,rfl,.inl ht,_,_,rfl,rfl,_,rfl,zN (fun q=>?_) fun q=>?_⟩
  ·have hj:j<txt.length:=by
    have:=of_decide_eq_true q
    rw [zt] at this
    omega
   refine ⟨_,rfl,c,_,dx,_,_,rfl,hc,T.c_Cutter,T.n_Cutter_text,Jo _ _ _ _ _ _,_,rfl,ta,_,_,_,rfl,rfl,ht,jF (v:=V.int (txt[j]:Int)) (by simp [nt,hj]),?_⟩
   have:byteAt txt j=(txt[j]:Int):=by unfold byteAt; rw [List.getElem?_eq_getElem hj]
   rw [this] at k; exact k
  ·have hj:¬ j<txt.length:=fun z=>q (decide_eq_true (by rw [zt]; omega))
   have:byteAt txt j = -1:=by unfold byteAt; rw [List.getElem?_eq_none (by omega)]
   rw [this] at k; exact k
theorem qf4:qm ["self","kind","length","held"] ["self","kind","length","held"] (qe jg):=⟨rfl,rfl,rfl,by decide +kernel,rfl,by decide +kernel,by decide +kernel⟩
theorem qf5 (F:Fun K "add_token" "Cutter.add_token" jg f fd) (T:Tx P w K mg a) (G:qcS P w K mg base CX0 1 a.Token "Token" ["self","kind","place","held"] (qig a)):qw P w K mg base CX0 3 f fd ["self","kind","length","held"] (Qr a K):=by
 refine F.ok qf4 (fun vs H Q E h=>?_) (fun cdv A outer s H vs Q E hr h=>?_)
 ·obtain ⟨z,txt,i,Tk,O,lit,en,t,n,ha,rfl,_⟩:=h; rfl
 ·obtain ⟨z,txt,i,Tk,O,lit,en,t,n,ha,rfl,hC,hha,nha,hlen,k⟩:=h
  refine ⟨_,qi (qu (zK PySem.F.plainAttrs_list PySem.F.slot_list_append PySem.F.type_list_append zq (qj (pv 0) rfl)
   (qa (Zr G hr qO (qa (pv 1) (qa (qj (pv 0) rfl) (qa (pv 3) qg)))) qg))) (qf (Qn (pv 0) (pv 2) JJ)),?_⟩
  obtain ⟨as,h1,h2⟩:=hC.tl
  refine ⟨_,rfl,z.c,_,z.dx,_,_,rfl,hC.ins,T.c_Cutter,T.n_Cutter_tokens,qaj _ _ _ _ _ _,.inl ⟨rfl,_,SqL.of h1⟩,?_⟩
  refine ⟨_,rfl,_,rfl,z.c,_,z.dx,_,_,rfl,hC.ins,T.c_Cutter,T.n_Cutter_place,qM _ _ _ _ _ _,_,rfl,?_⟩
  intro x dx hx hdx hne
  refine ⟨x,dx,_,_,_,rfl,qc,rfl,?_⟩
  rw [jO]
  have nx:=hC.fresh hx
  have s1:qF H (upd (upd H dx (.own x)) x (.ins a.Token dx (tokF (.str (jW t)) (.int i) (.ref ha)))):=fun b o e=>by rw [qd (qh e hx),qd (qh e hdx)]; exact e
  have C1:=hC.same s1
  have tk:Qc a z.M (upd (upd H dx (.own x)) x (.ins a.Token dx (tokF (.str (jW t)) (.int i) (.ref ha)))) x ⟨i,t⟩:=⟨dx,ha,qc,s1 _ _ hha,nx,nha⟩
  have h1':=s1 _ _ h1
  refine ⟨z.tl,_,_,rfl,rfl,h1',?_,?_⟩
  ·rw [List.length_map,Paired.length h2]; exact Nat.lt_trans hlen (by decide)
  have C2:=C1.putT h1' tk
  refine ⟨_,rfl,z.c,_,z.dx,_,_,rfl,C2.ins,T.c_Cutter,T.n_Cutter_place,qM _ _ _ _ _ _,_,rfl,_,_,rfl,rfl,z.dx,_,C2.ins,(by show 6<1000; decide),?_⟩
  have C3:=C2.put (i+n) lit en
  refine k _ ?_ C3
  exact ((qo.of s1).trans (qo.at_ z.mt)).trans (qo.at_ z.mc)
end
end RT
end
section
namespace RT
open PySem PySem.Spec PyProof.Rows L2
open Vastoa (Mark Marks)
def XWM (M:Addr->Prop) (K:PySem.W.Frag) (S:Addr) (H:Hp) (n p:Int) (E:XK):Prop:=∀ C dx H',qo M H H'->XAt K S C dx H' n p->E (.ref C) (some dx) H'
theorem XWM.on {M:Addr->Prop} {K:PySem.W.Frag} {S:Addr} {H H1:Hp} {n p:Int} {E:XK} (h:XWM M K S H n p E) (k:qo M H H1):XW K S H1 n p E:=fun C dx H' s x=>h C dx H' (k.trans (qo.of s)) x
theorem XWM.from {M:Addr->Prop} {K:PySem.W.Frag} {S:Addr} {H H1:Hp} {n p:Int} {E:XK} (h:XWM M K S H n p E) (k:qo M H H1):XWM M K S H1 n p E:=fun C dx H' s x=>h C dx H' (k.trans s) x
def Run (txt:List Nat) (p:Nat->Bool) (i j:Nat):Prop:=i<=j/\j<=txt.length/\∀ x,i<=x->x<j->∃ c,txt[x]? = some c/\p c=true
theorem Run.more {txt:List Nat} {p:Nat->Bool} {i j c:Nat} (r:Run txt p i j) (e:txt[j]? = some c) (h:p c=true):Run txt p i (j+1) :=
 ⟨Nat.le_succ_of_le r.1,(List.getElem?_eq_some_iff.mp e).1,fun x h1 h2=>by
  by_cases hx:x=j
  ·subst hx; exact ⟨c,e,h⟩
  ·exact r.2.2 x h1 (by omega)⟩
theorem zO {txt:List Nat} {j c:Nat} (e:txt[j]? = some c):byteAt txt j=(c:Int):=by unfold byteAt; rw [e]
theorem jB {txt:List Nat} {j:Nat} (e:txt[j]? = none):byteAt txt j = -1:=by unfold byteAt; rw [e]
def qbk (a:Ad) (K:PySem.W.Frag):Sp:=fun vs H Q _=>∃ (z:CA) (txt:List Nat) (i:Nat) (T:Marks) (O:List Bool) (lit en:Bool),vs=[.ref z.c]/\qP a K H z txt i T O lit en/\i<=txt.length /\
 ∀ H' j,qo z.M H H'->qP a K H' z txt j T O lit en->Run txt (fun y=>y != 10) i j->(∀ c,txt[j]? = some c->c=10)->Q .non H'
section
variable {P:Program} {w:World} {K:PySem.W.Frag} {mg:Str->Option Value} {base:Heap} {f:Addr} {fd:FuncData} {a:Ad}
theorem qdt:qm ["self"] ["self"] (qe zJ):=⟨rfl,rfl,rfl,by decide +kernel,rfl,by decide +kernel,by decide +kernel⟩
theorem qdu (F:Fun K "pass_comment" "Cutter.pass_comment" zJ f fd) (T:Tx P w K mg a) (G:jl P w K mg base CX0 1 a.Cutter "byte_at" ["self","place"] (QW a K)):qw P w K mg base CX0 2 f fd ["self"] (qbk a K):=by
 refine F.ok qdt (fun vs H Q E h=>?_) (fun cdv A outer s H vs Q E hr h=>?_)
 ·obtain ⟨z,txt,i,Tk,O,lit,en,rfl,_⟩:=h; rfl
 ·obtain ⟨z,txt,i,Tk,O,lit,en,rfl,hC,hi,k⟩:=h
  refine ⟨_,qf (QQ PassesOwn.never (qeL (zj G T.c_Cutter hr qO (pv 0) (qa (qj (pv 0) rfl) qg)) (qa (qL T.g_LINE_FEED) (qa (qL T.g_NOTHING) qg)))
   (qf (Qn (pv 0) qr JJ))),?_⟩
  refine ⟨fun m σ H'=>σ = [some (.ref z.c)]/\∃ j,qP a K H' z txt j Tk O lit en/\qo z.M H H'/\Run txt (fun y=>y != 10) i j/\m=txt.length - j,⟨_,rfl,i,hC,qo.refl _ _,⟨Nat.le_refl _,hi,fun x h1 h2=>by omega⟩,rfl⟩,?_⟩
  rintro m σ H1 ⟨rfl,j,C1,k1,r1,rfl⟩
  refine ⟨_,rfl,z.c,z.dx,_,rfl,C1.ins,zI _ _ _ _ _ _,_,rfl,z.c,_,z.dx,_,_,rfl,C1.ins,T.c_Cutter,T.n_Cutter_place,qM _ _ _ _ _ _,z.c,txt,j,rfl,C1.text,rfl,fun H2 s2=>⟨_,rfl,?_⟩⟩
  have C2:=C1.same s2
  cases e:txt[j]? with
  | none=>
   rw [jB e]
   refine zx ?_
   exact k H2 j (k1.trans (qo.of s2)) C2 r1 fun c hc=>by rw [e] at hc; cases hc
  | some c=>
   rw [zO e]
   have hin:inV (.int (c:Int)) [V.int 10,V.int (-1)]=decide (c=10):=by
    simp only [inV,List.any_cons,List.any_nil,eqV,zH,Bool.or_false]
    have:¬ ((c:Int) = -1):=by omega
    simp only [this,decide_false,Bool.or_false]
    by_cases h:c=10
    ·subst h; rfl
    ·rw [decide_eq_false h,decide_eq_false (by omega)]
   rw [hin]
   by_cases h:c=10
   ·rw [decide_eq_true h]
    refine zx ?_
    exact k H2 j (k1.trans (qo.of s2)) C2 r1 fun c' hc=>by rw [e] at hc; cases hc; exact h
   ·rw [decide_eq_false h]
    refine zP ⟨_,fun σ' H' q=>q,?_⟩
    refine ⟨_,rfl,z.c,_,z.dx,_,_,rfl,C2.ins,T.c_Cutter,T.n_Cutter_place,qM _ _ _ _ _ _,_,_,rfl,rfl,z.dx,_,C2.ins,(by show 6<1000; decide),?_⟩
    have C3:=C2.put (j+1) lit en
    have hj:j<txt.length:=(List.getElem?_eq_some_iff.mp e).1
    refine ⟨txt.length - (j+1),by omega,rfl,j+1,C3,(k1.trans (qo.of s2)).trans (qo.at_ z.mc),r1.more e (by simpa using h),rfl⟩
end
end RT
end
section
namespace RT
open PySem PySem.Spec PyProof.Rows L2
open Vastoa (Mark Marks)
def piece (txt:List Nat) (i j:Nat):List Nat:=(txt.drop i).take (j - i)
theorem qhu (txt:List Nat) {i j:Nat} (h:i<=j) (hj:j<=txt.length):JL (nt txt) (some (i:Int)) (some (j:Int))=nt (piece txt i j):=by
 unfold JL piece
 rw [HT.qce,HT.qce,zt,Nat.min_eq_left hj,Nat.min_eq_left (Nat.le_trans h hj)]
 simp only [nt,List.map_take,List.map_drop]
theorem qeP {txt:List Nat} {i j:Nat} (h:i<=j) (hj:j<=txt.length):(piece txt i j).length=j - i:=by
 unfold piece; rw [List.length_take,List.length_drop]; omega
theorem qf6 (c:Nat):inName (c:Int)=Vastoa.inner c:=by
 unfold inName Vastoa.inner Vastoa.letter Vastoa.digit
 rw [Bool.eq_iff_iff]
 simp
 omega
theorem qij:inName (-1)=false:=by decide
def nameTok (b:List Nat):qbV:=if Vastoa.reserved.contains b then .word b else .name b
theorem qf7 (b:List Nat):jW (nameTok b)=kindName b:=by
 unfold nameTok kindName
 split <;> rfl
theorem qf8 (b:List Nat):RM.held (nameTok b)=b:=by
 unfold nameTok
 split <;> rfl
def qeQ (a:Ad) (K:PySem.W.Frag):Sp:=fun vs H Q E=>∃ (z:CA) (txt:List Nat) (i:Nat) (T:Marks) (O:List Bool) (lit en:Bool),vs=[.ref z.c]/\qP a K H z txt i T O lit en/\i<=txt.length/\T.length<1000000 /\
 ∀ j,Run txt Vastoa.inner i j->(∀ c,txt[j]? = some c->Vastoa.inner c=false)->(32<j - i->XWM z.M K a.Refusal H 2 i E) /\
  (j - i<=32->∀ H',qo z.M H H'->qP a K H' z txt j (T++[⟨i,nameTok (piece txt i j)⟩]) O lit en->Q .non H')
section
variable {P:Program} {w:World} {K:PySem.W.Frag} {mg:Str->Option Value} {base:Heap} {f:Addr} {fd:FuncData} {a:Ad}
theorem Jh:qm ["self","end","held"] ["self"] (qe jn):=⟨rfl,rfl,rfl,by decide +kernel,rfl,by decide +kernel,by decide +kernel⟩
theorem qgY (F:Fun K "cut_name" "Cutter.cut_name" jn f fd) (T:Tx P w K mg a) (Gb:jl P w K mg base CX0 1 a.Cutter "byte_at" ["self","place"] (QW a K))
  (Gi:FnAt P w K mg base CX0 2 "is_in_name" ["byte"] qf0) (Gk:FnAt P w K mg base CX0 2 "kind_of_name" ["held"] qf1) (Ga:jl P w K mg base CX0 3 a.Cutter "add_token" ["self","kind","length","held"] (Qr a K))
  (Gx:QL P w K mg base 2 a.WrongToken "WrongToken" ["self","place"] (spX a.WrongToken 2 true)):qw P w K mg base (CXR P w) 4 f fd ["self"] (qeQ a K):=by
 refine F.okR Jh (fun vs H Q E h=>?_) (fun cdv A outer s H vs Q E hr h=>?_)
 ·obtain ⟨z,txt,i,Tk,O,lit,en,rfl,_⟩:=h; rfl
 ·obtain ⟨z,txt,i,Tk,O,lit,en,rfl,hC,hi,hT,k⟩:=h
  have hr1:qN 1 _:=hr.mono (by decide)
  have hr2:qN 2 _:=hr.mono (by decide)
  refine ⟨_,qi (qZ (i:=1) Jh.nd rfl (Or.inl rfl) (qj (pv 0) rfl))
   (qi (QQ PassesOwn.leaving (QP (qV Gi hr2 qO (qa (zj Gb T.c_Cutter hr1 qO (pv 0) (qa (pv 1) qg)) qg))) (qf (qiW (i:=1) Jh.nd rfl (Or.inl rfl) qr qiX)))
   (qi (qQ (qI Jy (QK qc2 (pv 1) (qj (pv 0) rfl)) (qL T.g_MOST_NAME_BYTES) (qU _)) (qf (Qb Gx hr (qa (qj (pv 0) rfl) qg))) zf)
   (qi (qZ (i:=2) Jh.nd rfl (Or.inl rfl) (JK qcg (qj (pv 0) rfl) (QZ (qj (pv 0) rfl)) (QZ (pv 1))))
   (qf (qu (zj Ga T.c_Cutter hr qO (pv 0) (qa (qV Gk hr2 qO (qa (pv 2) qg)) (qa (ja zB (by rfl) T.b_len PySem.boot_len (qa (pv 2) qg)) (qa (pv 2) qg))))))))),?_⟩
  refine ⟨_,rfl,z.c,_,z.dx,_,_,rfl,hC.ins,T.c_Cutter,T.n_Cutter_place,qM _ _ _ _ _ _,?_⟩
  refine ⟨fun m σ H'=>∃ j:Nat,σ = [some (.ref z.c),some (.int (j:Int)),none]/\qP a K H' z txt i Tk O lit en/\qo z.M H H'/\Run txt Vastoa.inner i j/\m=txt.length - j,⟨_,i,rfl,hC,qo.refl _ _,⟨Nat.le_refl _,hi,fun x h1 h2=>by omega⟩,rfl⟩,?_⟩
  rintro m σ H1 ⟨j,rfl,C1,k1,r1,rfl⟩
  refine ⟨_,rfl,z.c,z.dx,_,rfl,C1.ins,zI _ _ _ _ _ _,_,rfl,z.c,txt,j,rfl,C1.text,_,rfl,fun H2 s2=>⟨_,rfl,?_⟩⟩
  have C2:=C1.same s2
  have k2:=k1.trans (qo.of s2)
  have over:(∀ c,txt[j]? = some c->Vastoa.inner c=false)->∀ D:Ends,D.rt=Q->D.nx=(fun _ H'=>Q .non H') ->
    qfq (qhN (qc3 (tOp (rI0 fun i j=>.bl (decide (j<i))) (tOp (rI0 fun i j=>.int (i - j)) (zM 1) (qaa K (zM 0) "place")) (tC (.int 32)))) (qbJ a.WrongToken (spX a.WrongToken 2 true) E (ji (qaa K (zM 0) "place") jV)) qlu)
     (qfq (qkt (tSl (qmZ K) (qaa K (zM 0) "text") (qhW (qaa K (zM 0) "place")) (qhW (zM 1))) (ZH 2))
      (qlv (qc9 a.Cutter "add_token" (Qr a K) [] E0 (zM 0) (ji (Jz qf1 [] E0 (ji (zM 2) jV)) (ji (tCB (fun xs H Q=>∃ p ys,xs=[V.ref p]/\(SqL K H p ys \/ SqT K H p ys)/\Q (.int ys.length) H) (ji (zM 2) jV)) (ji (zM 2) jV)))))) D [some (.ref z.c),some (.int (j:Int)),none] H2:=by
   intro hend D hD hN
   obtain ⟨kx,ko⟩:=k j r1 hend
   have hij:=r1.1
   refine ⟨_,rfl,_,rfl,z.c,_,z.dx,_,_,rfl,C2.ins,T.c_Cutter,T.n_Cutter_place,qM _ _ _ _ _ _,_,_,rfl,rfl,_,_,rfl,rfl,_,rfl,zN (fun q=>?_) fun q=>?_⟩
   ·have q:=of_decide_eq_true q
    refine ⟨_,rfl,z.c,_,z.dx,_,_,rfl,C2.ins,T.c_Cutter,T.n_Cutter_place,qM _ _ _ _ _ _,?_⟩
    exact Q9 T.x_WrongToken T.u_WrongToken T.n_WrongToken_number T.n_WrongToken_place ((kx (by omega)).on k2)
   ·have q:¬ (32:Int)<(j:Int) - i:=fun y=>q (decide_eq_true y)
    refine ⟨_,rfl,z.c,_,z.dx,_,_,rfl,C2.ins,T.c_Cutter,T.n_Cutter_text,Jo _ _ _ _ _ _,_,rfl,z.c,_,z.dx,_,_,rfl,C2.ins,T.c_Cutter,T.n_Cutter_place,qM _ _ _ _ _ _,_,rfl,_,rfl,_,rfl,z.a,_,rfl,C2.txt.sq,fun p hp=>?_⟩
    rw [qhu txt hij r1.2.1]
    have C3:=C2.same (qp (o:=.lst (nt (piece txt i j))) hp)
    refine ⟨_,rfl,z.c,z.dx,_,rfl,C3.ins,ze _ _ _ _ _ _,_,rfl,p,piece txt i j,rfl,qc,fun H4 s4=>?_⟩
    have C4:=C3.same s4
    have hp4:=s4 _ _ qc
    refine ⟨_,rfl,p,_,rfl,.inl (SqL.of hp4),_,rfl,z,txt,i,Tk,O,lit,en,nameTok (piece txt i j),j - i,p,?_,C4,by rw [qf8]; exact hp4,C2.fresh hp,hT,fun H5 k5 C5=>?_⟩
    ·rw [qf7,zt,qeP hij r1.2.1]; rfl
    ·rw [hN]
     rw [show i+(j - i)=j by omega] at C5
     exact ko (by omega) H5 (((k2.trans (qo.new hp)).trans (qo.of s4)).trans k5) C5
  cases e:txt[j]? with
  | none=>
   rw [jB e,qij]
   exact zx (over (fun c hc=>by rw [e] at hc; cases hc) _ rfl rfl)
  | some c=>
   rw [zO e,qf6]
   cases hin:Vastoa.inner c with
   | false=>exact zx (over (fun c' hc=>by rw [e] at hc; cases hc; exact hin) _ rfl rfl)
   | true=>
    refine zP ⟨_,fun σ' H' q=>q,?_⟩
    have hj:j<txt.length:=(List.getElem?_eq_some_iff.mp e).1
    refine ⟨_,rfl,_,_,rfl,rfl,txt.length - (j+1),by omega,j+1,rfl,C2,k2,r1.more e hin,rfl⟩
end
end RT
end
section
namespace RT
open PySem PySem.Spec PyProof.Rows L2
open Vastoa (Mark Marks)
def qdv (c:Int):Bool:=decide (48<=c/\c<=57)
theorem qbW (c:Nat):qdv (c:Int)=Vastoa.digit c:=by
 unfold qdv Vastoa.digit
 rw [Bool.eq_iff_iff]
 simp
 omega
theorem look {p:Nat->Bool} {q:Int->Bool} (txt:List Nat) (j:Nat) (h:∀ c:Nat,q (c:Int)=p c) (he:q (-1)=false):∃ b,q (byteAt txt j)=b/\(b=true->∃ c,txt[j]? = some c/\p c=true)/\(b=false->∀ c,txt[j]? = some c->p c=false):=by
 cases e:txt[j]? with
 | none=>exact ⟨false,by rw [jB e]; exact he,(fun z=>by cases z),fun _ c hc=>by cases hc⟩
 | some c=>
  refine ⟨p c,by rw [zO e]; exact h c,fun z=>⟨c,rfl,z⟩,fun z c' hc=>?_⟩
  cases hc; exact z
theorem qhv {t u:TT} {σ : L2.St} {H:Hp} {Q:Bool->Hp->Prop} (b1 b2:Bool) (h1:∀ Q:Bool->Hp->Prop,Q b1 H->t σ H Q) (h2:b1=false->∀ Q:Bool->Hp->Prop,Q b2 H->u σ H Q) (q:Q (b1||b2) H):tOr t u σ H Q:=by
 refine h1 _ ?_
 cases b1 with
 | true=>exact zP q
 | false=>exact zx (h2 rfl _ q)
theorem qk6 {t u:TT} {σ : L2.St} {H:Hp} {Q:Bool->Hp->Prop} (b1 b2:Bool) (h1:∀ Q:Bool->Hp->Prop,Q b1 H->t σ H Q) (h2:b1=true->∀ Q:Bool->Hp->Prop,Q b2 H->u σ H Q) (q:Q (b1&&b2) H):qmP t u σ H Q:=by
 refine h1 _ ?_
 cases b1 with
 | true=>exact zP (h2 rfl _ q)
 | false=>exact zx q
theorem qgZ {txt:List Nat} {i j c:Nat} (h:i<j) (e:txt[i]? = some c):(piece txt i j)[0]? = some c:=by
 unfold piece
 rw [List.getElem?_take,if_pos (by omega),List.getElem?_drop]
 exact e
def qcB (a:Ad) (K:PySem.W.Frag):Sp:=fun vs H Q E=>∃ (z:CA) (txt:List Nat) (i:Nat) (T:Marks) (O:List Bool) (lit en:Bool),vs=[.ref z.c]/\qP a K H z txt i T O lit en/\i<=txt.length/\T.length<1000000 /\
 ∀ j,Run txt Vastoa.digit i j->(∀ c,txt[j]? = some c->Vastoa.digit c=false)->((30<j - i \/ (txt[i]? = some 48/\1<j - i))->XWM z.M K a.Refusal H 2 i E) /\
  (¬ (30<j - i \/ (txt[i]? = some 48/\1<j - i))->∀ H',qo z.M H H'->qP a K H' z txt j (T++[⟨i,.num (piece txt i j)⟩]) O lit en->Q .non H')
section
variable {P:Program} {w:World} {K:PySem.W.Frag} {mg:Str->Option Value} {base:Heap} {f:Addr} {fd:FuncData} {a:Ad}
theorem Zm:qm ["self","end","held"] ["self"] (qe z5):=⟨rfl,rfl,rfl,by decide +kernel,rfl,by decide +kernel,by decide +kernel⟩
theorem qe8 (F:Fun K "cut_number" "Cutter.cut_number" z5 f fd) (T:Tx P w K mg a) (Gb:jl P w K mg base CX0 1 a.Cutter "byte_at" ["self","place"] (QW a K))
  (Gi:FnAt P w K mg base CX0 1 "is_digit" ["byte"] qaw) (Ga:jl P w K mg base CX0 3 a.Cutter "add_token" ["self","kind","length","held"] (Qr a K))
  (Gx:QL P w K mg base 2 a.WrongToken "WrongToken" ["self","place"] (spX a.WrongToken 2 true)):qw P w K mg base (CXR P w) 4 f fd ["self"] (qcB a K):=by
 refine F.okR Zm (fun vs H Q E h=>?_) (fun cdv A outer s H vs Q E hr h=>?_)
 ·obtain ⟨z,txt,i,Tk,O,lit,en,rfl,_⟩:=h; rfl
 ·obtain ⟨z,txt,i,Tk,O,lit,en,rfl,hC,hi,hT,k⟩:=h
  have hr1:qN 1 _:=hr.mono (by decide)
  refine ⟨_,qi (qZ (i:=1) Zm.nd rfl (Or.inl rfl) (qj (pv 0) rfl))
   (qi (QQ PassesOwn.leaving (QP (qV Gi hr1 qO (qa (zj Gb T.c_Cutter hr1 qO (pv 0) (qa (pv 1) qg)) qg))) (qf (qiW (i:=1) Zm.nd rfl (Or.inl rfl) qr qiX)))
   (qi (qZ (i:=2) Zm.nd rfl (Or.inl rfl) (JK qcg (qj (pv 0) rfl) (QZ (qj (pv 0) rfl)) (QZ (pv 1))))
   (qi (qQ (qlt (qI Jy (ja zB (by rfl) T.b_len PySem.boot_len (qa (pv 2) qg)) (qL T.g_MOST_DIGITS) (qU _))
    (qiT (qfp (qI Jy (ja zB (by rfl) T.b_len PySem.boot_len (qa (pv 2) qg)) qr (qU _))
     (qdH (qI z9 (jj zp (pv 2) qr (fun _ _=>rfl)) (qL T.g_ZERO) (qU _)))).pt)).pt
    (qf (Qb Gx hr (qa (qj (pv 0) rfl) qg))) zf)
   (qf (qu (zj Ga T.c_Cutter hr qO (pv 0) (qa qK (qa (ja zB (by rfl) T.b_len PySem.boot_len (qa (pv 2) qg)) (qa (pv 2) qg))))))))),?_⟩
  refine ⟨_,rfl,z.c,_,z.dx,_,_,rfl,hC.ins,T.c_Cutter,T.n_Cutter_place,qM _ _ _ _ _ _,?_⟩
  refine ⟨fun m σ H'=>∃ j:Nat,σ = [some (.ref z.c),some (.int (j:Int)),none]/\qP a K H' z txt i Tk O lit en/\qo z.M H H'/\Run txt Vastoa.digit i j/\m=txt.length - j,⟨_,i,rfl,hC,qo.refl _ _,⟨Nat.le_refl _,hi,fun x h1 h2=>by omega⟩,rfl⟩,?_⟩
  rintro m σ H1 ⟨j,rfl,C2,k2,r1,rfl⟩
  refine ⟨_,rfl,z.c,z.dx,_,rfl,C2.ins,zI _ _ _ _ _ _,_,rfl,z.c,txt,j,rfl,C2.text,_,rfl,_,rfl,?_⟩
  obtain ⟨b,eb,ht,hf⟩:=look txt j qbW (by decide)
  show if qdv (byteAt txt j)=true then _ else _
  rw [eb]
  cases b with
  | true=>
   obtain ⟨c,e,hin⟩:=ht rfl
   refine zP ⟨_,fun σ' H' q=>q,?_⟩
   have hj:j<txt.length:=(List.getElem?_eq_some_iff.mp e).1
   exact ⟨_,rfl,_,_,rfl,rfl,txt.length - (j+1),by omega,j+1,rfl,C2,k2,r1.more e hin,rfl⟩
  | false=>
   obtain ⟨kx,ko⟩:=k j r1 (hf rfl)
   have hij:=r1.1
   have hl:(piece txt i j).length=j - i:=qeP hij r1.2.1
   refine zx ⟨_,rfl,z.c,_,z.dx,_,_,rfl,C2.ins,T.c_Cutter,T.n_Cutter_text,Jo _ _ _ _ _ _,_,rfl,z.c,_,z.dx,_,_,rfl,C2.ins,T.c_Cutter,T.n_Cutter_place,qM _ _ _ _ _ _,_,rfl,_,rfl,_,rfl,z.a,_,rfl,C2.txt.sq,fun p hp=>?_⟩
   rw [qhu txt hij r1.2.1]
   have C3:=C2.same (qp (o:=.lst (nt (piece txt i j))) hp)
   have k3:=k2.trans (qo.new (o:=.lst (nt (piece txt i j))) hp)
   have hp3:(upd H1 p (.lst (nt (piece txt i j)))) p=some (.lst (nt (piece txt i j))):=qc
   generalize upd H1 p (.lst (nt (piece txt i j)))=H3 at C3 k3 hp3 ⊢
   dsimp only [ZH,qfq,qhN]
   refine qhv (decide (30<j - i)) (decide (1<j - i)&&decide (txt[i]? = some 48)) (fun Q q=>?_) (fun _ Q q=>qk6 (decide (1<j - i)) (decide (txt[i]? = some 48)) (fun Q q=>?_) (fun h1 Q q=>?_) q) ?_
   ·refine ⟨_,rfl,p,_,rfl,.inl (SqL.of hp3),_,_,rfl,rfl,_,rfl,?_⟩
    rw [zt,hl,show decide ((30:Int)<((j - i:Nat):Int))=decide (30<j - i) from decide_eq_decide.mpr (by omega)]; exact q
   ·refine ⟨_,rfl,p,_,rfl,.inl (SqL.of hp3),_,_,rfl,rfl,_,rfl,?_⟩
    rw [zt,hl,show decide ((1:Int)<((j - i:Nat):Int))=decide (1<j - i) from decide_eq_decide.mpr (by omega)]; exact q
   ·have h1:=of_decide_eq_true h1
    obtain ⟨c,hc,_⟩:=r1.2.2 i (Nat.le_refl _) (by omega)
    refine ⟨_,rfl,p,_,_,_,rfl,rfl,SqL.of hp3,jF (j:=0) (v:=V.int (c:Int)) (by unfold nt; rw [List.getElem?_map,qgZ (by omega) hc]; rfl),rfl,_,rfl,?_⟩
    rw [jw,zH,show decide ((48:Int)=(c:Int))=decide (txt[i]? = some 48) from decide_eq_decide.mpr (by rw [hc]; constructor <;> (intro y; first | (cases y; rfl) | (congr 1; omega)))]
    exact q
   ·refine zN (fun q=>?_) fun q=>?_
    ·simp only [Bool.or_eq_true,Bool.and_eq_true,decide_eq_true_eq] at q
     exact ⟨_,rfl,z.c,_,z.dx,_,_,rfl,C3.ins,T.c_Cutter,T.n_Cutter_place,qM _ _ _ _ _ _,Q9 T.x_WrongToken T.u_WrongToken T.n_WrongToken_number T.n_WrongToken_place ((kx (q.imp id And.symm)).on k3)⟩
    ·simp only [Bool.or_eq_true,Bool.and_eq_true,decide_eq_true_eq] at q
     refine ⟨_,rfl,z.c,z.dx,_,rfl,C3.ins,ze _ _ _ _ _ _,_,rfl,p,_,rfl,.inl (SqL.of hp3),_,rfl,z,txt,i,Tk,O,lit,en,.num (piece txt i j),j - i,p,by rw [zt,hl]; rfl,C3,hp3,C2.fresh hp,hT,fun H5 k5 C5=>?_⟩
     rw [show i+(j - i)=j by omega] at C5
     exact ko (fun y=>q (y.imp id And.symm)) H5 (k3.trans k5) C5
end
end RT
end
section
namespace RT
open PySem PySem.Spec PyProof.Rows L2
open Vastoa (Mark Marks)
def qdw (a:Ad) (K:PySem.W.Frag):Sp:=fun vs H Q E=>∃ (z:CA) (txt:List Nat) (i:Nat) (T:Marks) (O:List Bool) (en:Bool),vs=[.ref z.c]/\qP a K H z txt i T O false en/\T.length<1000000 /\
 (∀ H' O',O=true::O'->qo z.M H H'->qP a K H' z txt (i+1) (T++[⟨i,.unhole⟩]) O' true en->Q .non H') /\
 (∀ H',O.head? ≠ some true->qo z.M H H'->qP a K H' z txt (i+1) (T++[⟨i,.sign [125]⟩]) (O.drop 1) false en->Q .non H')
def qeR (a:Ad) (K:PySem.W.Frag):Sp:=fun vs H Q E=>∃ (z:CA) (txt:List Nat) (i:Nat) (T:Marks) (O:List Bool) (lit en:Bool),vs=[.ref z.c]/\qP a K H z txt i T O lit en/\i<=txt.length/\T.length<1000000 /\
 (Vastoa.signAt (txt.drop i)=none->XWM z.M K a.Refusal H 2 i E)/\∀ x,Vastoa.signAt (txt.drop i)=some x->∀ H',qo z.M H H'->qP a K H' z txt (i+x.length) (T++[⟨i,.sign x⟩]) O lit en->Q .non H'
theorem qmo:Str.ofString "{" = strOf [123]:=by decide +kernel
theorem qjG:Str.ofString "}" = strOf [125]:=by decide +kernel
theorem qjH (txt:List Nat) {i:Nat} (l:Nat) (hi:i<=txt.length):JL (nt txt) (some (i:Int)) (some ((i:Int)+(l:Int)))=nt ((txt.drop i).take l):=by
 unfold JL
 rw [show ((i:Int)+(l:Int))=((i+l:Nat):Int) by omega,HT.qce,HT.qce,zt,Nat.min_eq_left hi]
 simp only [nt,List.map_take,List.map_drop]
 by_cases h:i+l<=txt.length
 ·rw [Nat.min_eq_left h,show i+l - i=l by omega]
 ·rw [Nat.min_eq_right (by omega),List.take_of_length_le (by simp),List.take_of_length_le (by simp; omega)]
theorem qbX:Zg.map (fun x=>x.cps.toList)=Vastoa.signs2++Vastoa.signs1:=by decide +kernel
theorem qg0:∀ x∈Zg,x.cps.size<=1000:=by decide +kernel
theorem qk7:∀ s∈Vastoa.signs2,s.length=2:=by decide +kernel
theorem qnq:∀ s∈Vastoa.signs1,s.length=1:=by decide +kernel
theorem qk8 {b:List Nat} {j:Nat} {x:Str} (hj:Zg[j]? = some x) (e:b.take x.cps.toList.length=x.cps.toList) (no:∀ y z,y<j->Zg[y]? = some z->b.take z.cps.toList.length≠z.cps.toList):Vastoa.signAt b=some x.cps.toList:=by
 have hm:(Vastoa.signs2++Vastoa.signs1)[j]? = some x.cps.toList:=by rw [<- qbX,List.getElem?_map,hj]; rfl
 have no':∀ y s,y<j->(Vastoa.signs2++Vastoa.signs1)[y]? = some s->b.take s.length≠s:=fun y s hy hs=>by
  rw [<- qbX,List.getElem?_map] at hs
  obtain ⟨z,hz,rfl⟩:=Option.map_eq_some_iff.mp hs
  exact no y z hy hz
 generalize x.cps.toList=s at e hm
 unfold Vastoa.signAt
 by_cases h6:j<6
 ·have hs:s∈Vastoa.signs2:=by
   rw [List.getElem?_append_left (by exact h6)] at hm
   exact List.mem_of_getElem? hm
  rw [qk7 s hs] at e
  rw [e,if_pos (List.contains_iff_mem.mpr hs)]
 ·have hs:s∈Vastoa.signs1:=by
   rw [List.getElem?_append_right (by exact Nat.le_of_not_lt h6)] at hm
   exact List.mem_of_getElem? hm
  rw [qnq s hs] at e
  have n2:¬ (Vastoa.signs2.contains (b.take 2)=true):=fun z=>by
   have z:=List.contains_iff_mem.mp z
   obtain ⟨y,hy⟩:=List.getElem?_of_mem z
   have hy6:y<6:=(List.getElem?_eq_some_iff.mp hy).1
   refine no' y _ (by omega) (by rw [List.getElem?_append_left hy6]; exact hy) ?_
   rw [qk7 _ z]
  rw [if_neg n2,e,if_pos (List.contains_iff_mem.mpr hs)]
theorem qjI {b:List Nat} (no:∀ (y:Nat) (z:Str),Zg[y]? = some z->b.take z.cps.toList.length≠z.cps.toList):Vastoa.signAt b=none:=by
 have no':∀ s∈Vastoa.signs2++Vastoa.signs1,b.take s.length≠s:=fun s hs=>by
  rw [<- qbX] at hs
  obtain ⟨z,hz,rfl⟩:=List.mem_map.mp hs
  obtain ⟨y,hy⟩:=List.getElem?_of_mem hz
  exact no y z hy
 unfold Vastoa.signAt
 rw [if_neg,if_neg]
 ·intro z
  have z:=List.contains_iff_mem.mp z
  exact no' _ (List.mem_append_right _ z) (by rw [qnq _ z])
 ·intro z
  have z:=List.contains_iff_mem.mp z
  exact no' _ (List.mem_append_left _ z) (by rw [qk7 _ z])
section
variable {P:Program} {w:World} {K:PySem.W.Frag} {mg:Str->Option Value} {base:Heap} {f:Addr} {fd:FuncData} {a:Ad}
theorem Jp:qm ["self","closed"] ["self"] (qe zu):=⟨rfl,rfl,rfl,by decide +kernel,rfl,by decide +kernel,by decide +kernel⟩
theorem qbY (F:Fun K "cut_right_brace" "Cutter.cut_right_brace" zu f fd) (T:Tx P w K mg a) (Ga:jl P w K mg base CX0 3 a.Cutter "add_token" ["self","kind","length","held"] (Qr a K)) :
  qw P w K mg base CX0 4 f fd ["self"] (qdw a K):=by
 refine F.ok Jp (fun vs H Q E h=>?_) (fun cdv A outer s H vs Q E hr h=>?_)
 ·obtain ⟨z,txt,i,Tk,O,en,rfl,_⟩:=h; rfl
 ·obtain ⟨z,txt,i,Tk,O,en,rfl,hC,hT,k1,k2⟩:=h
  refine ⟨_,qi (qZ (i:=1) Jp.nd rfl (Or.inl rfl) (qaL (QR (qj (pv 0) rfl) (by intro _; rfl)) (qbD PySem.F.plainAttrs_list PySem.F.slot_list_pop PySem.F.type_list_pop qbE (qj (pv 0) rfl)) qK))
   (qf (qQ (qI z9 (pv 1) qK (qU _)) (qi (qu (zj Ga T.c_Cutter hr qO (pv 0) (qa qK (qa qr (qa (qX qg) qg))))) (qf (zy (pv 0) qaK rfl)))
    (qf (qu (zj Ga T.c_Cutter hr qO (pv 0) (qa qK (qa qr (qa (qX qg) qg)))))))),?_⟩
  refine ⟨_,rfl,z.c,_,z.dx,_,_,rfl,hC.ins,T.c_Cutter,T.n_Cutter_opened,Je _ _ _ _ _ _,_,.inl ⟨_,SqL.of hC.ol,rfl⟩,?_⟩
  have unb:O.head? ≠ some true->∀ (H1:Hp) (p:Addr),H1 p=none->qo z.M H H1->qP a K H1 z txt i Tk (O.drop 1) false en ->
    Qr a K [.ref z.c,.str "}",.int 1,.ref p] (upd H1 p (.lst [])) (fun x H'=>Q .non H') E0:=fun hO H1 p hp k3 C1=>by
   refine ⟨z,txt,i,Tk,O.drop 1,false,en,.sign [125],1,p,by rw [qjG]; rfl,C1.same (qp hp),qc,C1.fresh hp,hT,fun H' k4 C4=>?_⟩
   exact k2 H' hO ((k3.trans (qo.new hp)).trans k4) C4
  cases O with
  | nil=>
   refine zx ⟨_,rfl,rfl,_,rfl,zx ?_⟩
   exact ⟨_,rfl,z.c,z.dx,_,rfl,hC.ins,ze _ _ _ _ _ _,Nat.zero_le _,fun p hp=>unb (by simp) H p hp (qo.refl _ _) hC⟩
  | cons b O=>
   have hne:(!(List.map opS (b::O).reverse).isEmpty)=true:=by simp
   rw [hne]
   have hpop:(List.map opS (b::O).reverse)[(List.map opS (b::O).reverse).length - 1]? = some (opS b):=by simp
   refine zP ⟨_,rfl,z.c,_,z.dx,_,_,rfl,hC.ins,T.c_Cutter,T.n_Cutter_opened,Je _ _ _ _ _ _,.inl ⟨rfl,_,SqL.of hC.ol⟩,z.ol,_,opS b,rfl,rfl,hC.ol,hpop,?_⟩
   have ed:(List.map opS (b::O).reverse).dropLast=List.map opS O.reverse:=by simp
   rw [ed]
   have C1:=hC.putO O
   have k3:qo z.M H (upd H z.ol (.lst (List.map opS O.reverse))):=qo.at_ z.mo
   generalize upd H z.ol (.lst (List.map opS O.reverse))=H1 at C1 k3 ⊢
   cases b with
   | false=>
    refine ⟨_,rfl,rfl,_,rfl,zx ?_⟩
    exact ⟨_,rfl,z.c,z.dx,_,rfl,C1.ins,ze _ _ _ _ _ _,Nat.zero_le _,fun p hp=>unb (by simp) H1 p hp k3 C1⟩
   | true=>
    refine ⟨_,rfl,rfl,_,rfl,zP ?_⟩
    refine ⟨_,rfl,z.c,z.dx,_,rfl,C1.ins,ze _ _ _ _ _ _,Nat.zero_le _,fun p hp=>⟨z,txt,i,Tk,O,false,en,.unhole,1,p,rfl,C1.same (qp hp),qc,C1.fresh hp,hT,fun H' k4 C4=>?_⟩⟩
    refine ⟨_,rfl,z.c,_,z.dx,_,rfl,C4.ins,T.c_Cutter,T.n_Cutter_in_literal,(by show 6<1000; decide),?_⟩
    exact k1 _ O rfl (((k3.trans (qo.new hp)).trans k4).trans (qo.at_ z.mc)) (C4.put (i+1) true en)
theorem qcC:qm ["self","sign"] ["self"] (qe jo):=⟨rfl,rfl,rfl,by decide +kernel,rfl,by decide +kernel,by decide +kernel⟩
theorem qg1 (F:Fun K "cut_sign" "Cutter.cut_sign" jo f fd) (T:Tx P w K mg a) (Gy:FnAt P w K mg base CX0 1 "bytes_of" ["written"] qax) (Ga:jl P w K mg base CX0 3 a.Cutter "add_token" ["self","kind","length","held"] (Qr a K))
  (Gx:QL P w K mg base 2 a.WrongToken "WrongToken" ["self","place"] (spX a.WrongToken 2 true)):qw P w K mg base (CXR P w) 4 f fd ["self"] (qeR a K):=by
 refine F.okR qcC (fun vs H Q E h=>?_) (fun cdv A outer s H vs Q E hr h=>?_)
 ·obtain ⟨z,txt,i,Tk,O,lit,en,rfl,_⟩:=h; rfl
 ·obtain ⟨z,txt,i,Tk,O,lit,en,rfl,hC,hi,hT,kx,ko⟩:=h
  have hr1:qN 1 _:=hr.mono (by decide)
  refine ⟨_,qi (Jk PassesOwn.leaving rfl (qfr (qL T.g_SIGNS)) (jv (i:=1) qcC.nd rfl (Or.inl rfl))
   (qf (qQ (qI (qi7 hr.units) (JK qcg (qj (pv 0) rfl) (QZ (qj (pv 0) rfl)) (QZ (QK JI (qj (pv 0) rfl) (ja qbC (by rfl) T.b_len PySem.boot_len (qa (pv 1) qg))))) (qV Gy hr1 qO (qa (pv 1) qg)) (qU _))
    (qi (qu (zj Ga T.c_Cutter hr qO (pv 0) (qa (pv 1) (qa (ja qbC (by rfl) T.b_len PySem.boot_len (qa (pv 1) qg)) (qa (qX qg) qg))))) (qf qlU)) zf)))
   (qf (Qb Gx hr (qa (qj (pv 0) rfl) qg))),?_⟩
  refine ⟨a.SIGNS,rfl,⟨_,T.t_SIGNS.sq _⟩,qdI (K:=K) (a:=a.SIGNS) (xs:=Zg.map V.str) (fun j σ H'=>∃ v:Option V,σ = [some (.ref z.c),v]/\qP a K H' z txt i Tk O lit en/\qo z.M H H'/\∀ y x,y<j->Zg[y]? = some x->(txt.drop i).take x.cps.toList.length≠x.cps.toList)
   ⟨none,rfl,hC,qo.refl _ _,fun j x hj=>absurd hj (Nat.not_lt_zero _)⟩ (fun i σ H' _ _=>T.t_SIGNS.sq _) ?_ ?_⟩
  ·rintro j y σ H1 hj ⟨v,rfl,C1,k1,hno⟩
   obtain ⟨x,hx,rfl⟩:∃ x,Zg[j]? = some x/\V.str x=y:=by
    rw [List.getElem?_map] at hj
    exact Option.map_eq_some_iff.mp hj
   have hsz:x.cps.size<=1000:=qg0 x (List.mem_of_getElem? hx)
   refine ⟨_,rfl,z.c,_,z.dx,_,_,rfl,C1.ins,T.c_Cutter,T.n_Cutter_text,Jo _ _ _ _ _ _,_,rfl,z.c,_,z.dx,_,_,rfl,C1.ins,T.c_Cutter,T.n_Cutter_place,qM _ _ _ _ _ _,_,rfl,_,rfl,z.c,_,z.dx,_,_,rfl,C1.ins,T.c_Cutter,T.n_Cutter_place,qM _ _ _ _ _ _,_,rfl,x,rfl,Nat.le_of_lt (QS hsz),_,_,rfl,rfl,_,rfl,z.a,_,rfl,C1.txt.sq,fun p hp=>?_⟩
   rw [show ((i:Int)+(x.length:Int))=(i:Int)+(x.cps.toList.length:Int) from rfl,qjH txt _ hi]
   refine ⟨_,rfl,x,rfl,hsz,fun q hq=>qjC (SqL.of (qp hq _ _ qc)) (SqL.of qc) ⟨_,rfl,?_⟩⟩
   have s2:=(qp (o:=.lst (nt ((txt.drop i).take x.cps.toList.length))) hp).trans (qp (o:=.lst (nt x.cps.toList)) hq)
   have C2:=C1.same s2
   have k2:=k1.trans (qo.of s2)
   refine zN (fun e=>?_) fun e=>?_
   ·have e:=of_decide_eq_true e
    have hs:=qk8 hx e hno
    refine ⟨_,rfl,z.c,z.dx,_,rfl,C2.ins,ze _ _ _ _ _ _,_,rfl,_,rfl,x,rfl,Nat.le_of_lt (QS hsz),Nat.zero_le _,fun r hr'=>⟨z,txt,i,Tk,O,lit,en,.sign x.cps.toList,x.cps.toList.length,r,?_,C2.same (qp hr'),qc,C2.fresh hr',hT,fun H5 k5 C5=>?_⟩⟩
    ·rfl
    ·exact ko _ hs H5 ((k2.trans (qo.new hr')).trans k5) C5
   ·refine ⟨_,rfl,C2,k2,fun y x' hy hx'=>?_⟩
    by_cases hyj:y=j
    ·subst hyj
     rw [hx] at hx'
     cases hx'
     exact fun z=>e (decide_eq_true z)
    ·exact hno y x' (by omega) hx'
  ·rintro σ H1 ⟨v,rfl,C1,k1,hno⟩
   refine ⟨_,rfl,z.c,_,z.dx,_,_,rfl,C1.ins,T.c_Cutter,T.n_Cutter_place,qM _ _ _ _ _ _,Q9 T.x_WrongToken T.u_WrongToken T.n_WrongToken_number T.n_WrongToken_place ((kx (qjI fun y x hx=>?_)).on k1)⟩
   exact hno y x (by have:=(List.getElem?_eq_some_iff.mp hx).1; rw [List.length_map]; exact this) hx
end
end RT
end
section
namespace RT
open PySem PySem.Spec PyProof.Rows L2
open Vastoa (Mark Marks)
def over (txt:List Nat) (i:Nat):Bool:=match txt[i]? with
 | none=>true
 | some c=>if c=36 then decide (txt[i+1]? = some 123) else decide (c=34)
theorem qjJ {txt:List Nat} {i:Nat} (h:txt[i]? = none):over txt i=true:=by unfold over; rw [h]
theorem qbZ {txt:List Nat} {i c:Nat} (h:txt[i]? = some c):over txt i=if c=36 then decide (txt[i+1]? = some 123) else decide (c=34):=by unfold over; rw [h]
def qjK (a:Ad) (K:PySem.W.Frag):Sp:=fun vs H Q E=>∃ (z:CA) (txt:List Nat) (i:Nat) (T:Marks) (O:List Bool) (lit en:Bool),vs=[.ref z.c]/\qP a K H z txt i T O lit en/\∀ H',qF H H'->Q (.bl (over txt i)) H'
theorem qP.move {a:Ad} {K:PySem.W.Frag} {H H':Hp} {z:CA} {txt:List Nat} {i i':Nat} {T:Marks} {O:List Bool} {lit en lit' en':Bool} (h:qP a K H z txt i T O lit en)
  (hc:H' z.c=some (.ins a.Cutter z.dx (jI (.ref z.a) (.int i') (.ref z.tl) (.ref z.ol) (.bl lit') (.bl en')))) (k:qo (· = z.c) H H'):qP a K H' z txt i' T O lit' en':=by
 obtain ⟨as,h1,h2⟩:=h.tl
 refine ⟨hc,h.txt.keep (k.wide fun b e=>by rw [e]; exact z.mc),⟨as,k _ _ h1 (Ne.symm h.nct),qW (fun x y q=>?_) h2⟩,k _ _ h.ol (Ne.symm h.nco),h.nto⟩
 obtain ⟨dx,ha,q1,q2,q3,q4⟩:=q
 exact ⟨dx,ha,k _ _ q1 (fun e=>q3 (.inl e)),k _ _ q2 (fun e=>q4 (.inl e)),q3,q4⟩
def qik (a:Ad) (z:CA) (i:Nat) (lit en:Bool):HO:=.ins a.Cutter z.dx (jI (.ref z.a) (.int i) (.ref z.tl) (.ref z.ol) (.bl lit) (.bl en))
def qf9 (a:Ad) (K:PySem.W.Frag):Sp:=fun vs H Q E=>∃ (z:CA) (txt:List Nat) (i:Nat) (T:Marks) (O:List Bool) (lit en:Bool),vs=[.ref z.c]/\qP a K H z txt i T O lit en/\over txt i=false /\
 (∀ H' j x,qo (· = z.c) H H'->H' z.c=some (qik a z j lit en)->i<j->j<=txt.length->Vastoa.gather i (txt.drop i)=(Vastoa.gather j (txt.drop j)).map (fun y=>(x::y.1,y.2.1,y.2.2))->Q (.int (x:Int)) H') /\
 (Vastoa.gather i (txt.drop i)=.error ⟨2,i⟩->XWM (· = z.c) K a.Refusal H 2 i E)
theorem qdW (c:Nat):(zz qai (Sum.inl (c:Int))).getD .non=match Vastoa.unescape c with
  | some x=>V.int (x:Int)
  | none=>V.non:=by
 unfold Vastoa.unescape
 by_cases h1:c=34
 ·subst h1; decide +kernel
 by_cases h2:c=92
 ·subst h2; decide +kernel
 by_cases h3:c=110
 ·subst h3; decide +kernel
 by_cases h4:c=116
 ·subst h4; decide +kernel
 by_cases h5:c=36
 ·subst h5; decide +kernel
 rw [if_neg (by omega),if_neg h3,if_neg h4]
 have q1:¬ (34:Int)=c:=by omega
 have q2:¬ (92:Int)=c:=by omega
 have q3:¬ (110:Int)=c:=by omega
 have q4:¬ (116:Int)=c:=by omega
 have q5:¬ (36:Int)=c:=by omega
 simp [zz,qai,q1,q2,q3,q4,q5]
theorem qmp:(zz qai (Sum.inl (-1))).getD .non=.non:=by decide +kernel
section
variable {P:Program} {w:World} {K:PySem.W.Frag} {mg:Str->Option Value} {base:Heap} {f:Addr} {fd:FuncData} {a:Ad}
theorem JU:qm ["self","byte"] ["self"] (qe zE):=⟨rfl,rfl,rfl,by decide +kernel,rfl,by decide +kernel,by decide +kernel⟩
theorem qcY (F:Fun K "is_piece_over" "Cutter.is_piece_over" zE f fd) (T:Tx P w K mg a) (Gb:jl P w K mg base CX0 1 a.Cutter "byte_at" ["self","place"] (QW a K)):qw P w K mg base CX0 2 f fd ["self"] (qjK a K):=by
 refine F.ok JU (fun vs H Q E h=>?_) (fun cdv A outer s H vs Q E hr h=>?_)
 ·obtain ⟨z,txt,i,Tk,O,lit,en,rfl,_⟩:=h; rfl
 ·obtain ⟨z,txt,i,Tk,O,lit,en,rfl,hC,k⟩:=h
  refine ⟨_,qi (qZ (i:=1) JU.nd rfl (Or.inl rfl) (zj Gb T.c_Cutter hr qO (pv 0) (qa (qj (pv 0) rfl) qg)))
   (qi (qQ (qI z9 (pv 1) (qL T.g_DOLLAR) (qU _)) (qf (qG (qdJ z9 (zj Gb T.c_Cutter hr qO (pv 0) (qa (QK JI (qj (pv 0) rfl) qr) qg)) (qL T.g_LEFT_BRACE) (qU _)))) zf)
   (qf (qG (qjy (pv 1) (qa (qL T.g_QUOTE) (qa (qL T.g_NOTHING) qg)))))),?_⟩
  refine ⟨_,rfl,z.c,z.dx,_,rfl,hC.ins,zI _ _ _ _ _ _,_,rfl,z.c,_,z.dx,_,_,rfl,hC.ins,T.c_Cutter,T.n_Cutter_place,qM _ _ _ _ _ _,z.c,txt,i,rfl,hC.text,?_⟩
  refine ⟨_,rfl,rfl,_,rfl,?_⟩
  rw [jw,zH]
  refine zN (fun e=>?_) fun e=>?_
  ·have e:=of_decide_eq_true e
   refine ⟨_,rfl,z.c,z.dx,_,rfl,hC.ins,zI _ _ _ _ _ _,_,rfl,z.c,_,z.dx,_,_,rfl,hC.ins,T.c_Cutter,T.n_Cutter_place,qM _ _ _ _ _ _,_,_,rfl,rfl,z.c,txt,i+1,rfl,hC.text,rfl,?_⟩
   rw [jw,zH]
   have:over txt i=decide ((123:Int)=byteAt txt (i+1)):=by
    cases h:txt[i]? with
    | none=>rw [jB h] at e; omega
    | some c=>
     rw [zO h] at e
     rw [qbZ h,if_pos (by omega)]
     cases h2:txt[i+1]? with
     | none=>rw [jB h2]; decide
     | some d=>
      rw [zO h2]
      exact decide_eq_decide.mpr ⟨fun y=>by cases y; rfl,fun y=>by congr 1; omega⟩
   rw [this] at k
   exact k H (qF.refl H)
  ·have e:¬ (36:Int)=byteAt txt i:=fun y=>e (decide_eq_true y)
   refine ⟨_,rfl,rfl,fun H' s'=>?_⟩
   have:over txt i=inV (.int (byteAt txt i)) [V.int 34,V.int (-1)]:=by
    simp only [inV,List.any_cons,List.any_nil,eqV,zH,Bool.or_false]
    cases h:txt[i]? with
    | none=>rw [qjJ h,jB h]; decide
    | some c=>
     rw [zO h] at e ⊢
     rw [qbZ h,if_neg (by omega)]
     by_cases h34:c=34
     ·subst h34; decide
     ·rw [decide_eq_false h34,decide_eq_false (by omega),decide_eq_false (by omega)]; rfl
   have k:=k H' s'
   rw [this] at k
   exact k
theorem Z7:qm ["self","byte"] ["self"] (qe zS):=⟨rfl,rfl,rfl,by decide +kernel,rfl,by decide +kernel,by decide +kernel⟩
theorem qdX (F:Fun K "gather_byte" "Cutter.gather_byte" zS f fd) (T:Tx P w K mg a) (Gb:jl P w K mg base CX0 1 a.Cutter "byte_at" ["self","place"] (QW a K))
  (Gx:QL P w K mg base 2 a.WrongToken "WrongToken" ["self","place"] (spX a.WrongToken 2 true)):qw P w K mg base (CXR P w) 4 f fd ["self"] (qf9 a K):=by
 refine F.okR Z7 (fun vs H Q E h=>?_) (fun cdv A outer s H vs Q E hr h=>?_)
 ·obtain ⟨z,txt,i,Tk,O,lit,en,rfl,_⟩:=h; rfl
 ·obtain ⟨z,txt,i,Tk,O,lit,en,rfl,hC,ho,ko,kx⟩:=h
  have hr1:qN 1 _:=hr.mono (by decide)
  refine ⟨_,qi (qZ (i:=1) Z7.nd rfl (Or.inl rfl) (zj Gb T.c_Cutter hr1 qO (pv 0) (qa (qj (pv 0) rfl) qg)))
   (qi (qQ (qI z9 (pv 1) (qL T.g_BACKSLASH) (qU _))
    (qi (qZ (i:=1) Z7.nd rfl (Or.inl rfl) (qk3 (qL T.g_ESCAPES) (zj Gb T.c_Cutter hr1 qO (pv 0) (qa (QK JI (qj (pv 0) rfl) qr) qg)) ⟨rfl,rfl,rfl,rfl⟩))
    (qi (qQ (qfo (qmO (pv 1))) (qf (Qb Gx hr (qa (qj (pv 0) rfl) qg))) zf)
    (qi (Qn (pv 0) qr JJ) (qf (qG (pv 1)))))) zf)
   (qi (qQ (qfp (qI qff (pv 1) (qL T.g_BLANK) (qU _)) (qdH (qeL (pv 1) (qa (qL T.g_TAB) (qa (qL T.g_LINE_FEED) qg))))).pt
    (qf (Qb Gx hr (qa (qj (pv 0) rfl) qg))) zf)
   (qi (Qn (pv 0) qr JJ) (qf (qG (pv 1)))))),?_⟩
  have bad:∀ (H1:Hp),qF H H1->Vastoa.gather i (txt.drop i)=.error ⟨2,i⟩->XW K a.Refusal H1 2 i E:=fun H1 s1 hg=>(kx hg).on (qo.of s1)
  refine ⟨_,rfl,z.c,z.dx,_,rfl,hC.ins,zI _ _ _ _ _ _,_,rfl,z.c,_,z.dx,_,_,rfl,hC.ins,T.c_Cutter,T.n_Cutter_place,qM _ _ _ _ _ _,z.c,txt,i,rfl,hC.text,?_⟩
  obtain ⟨c,hc⟩:∃ c,txt[i]? = some c:=by
   cases h:txt[i]? with
   | none=>unfold over at ho; rw [h] at ho; cases ho
   | some c=>exact ⟨c,rfl⟩
  have hi:=CM.Zl hc
  rw [zO hc]
  refine ⟨_,rfl,rfl,_,rfl,?_⟩
  rw [jw,zH]
  refine zN (fun e=>?_) fun e=>?_
  ·have e:c=92:=by have:=of_decide_eq_true e; omega
   subst e
   refine ⟨a.ESCAPES,qai,rfl,T.d_ESCAPES,_,rfl,z.c,z.dx,_,rfl,hC.ins,zI _ _ _ _ _ _,_,rfl,z.c,_,z.dx,_,_,rfl,hC.ins,T.c_Cutter,T.n_Cutter_place,qM _ _ _ _ _ _,_,_,rfl,rfl,z.c,txt,i+1,rfl,hC.text,Sum.inl (byteAt txt (i+1)),rfl,_,rfl,_,rfl,?_⟩
   have fin:(zz qai (Sum.inl (byteAt txt (i+1)))).getD .non=.non->Vastoa.gather i (txt.drop i)=.error ⟨2,i⟩:=fun hn=>by
    cases h2:txt[i+1]? with
    | none=>exact CM.qgP hc h2
    | some d=>
     rw [zO h2,qdW] at hn
     refine CM.qfU hc h2 ?_
     cases hu:Vastoa.unescape d with
     | none=>rfl
     | some x=>rw [hu] at hn; cases hn
   refine zN (fun q=>?_) fun q=>?_
   ·have q:=of_decide_eq_true q
    refine ⟨_,rfl,z.c,_,z.dx,_,_,rfl,hC.ins,T.c_Cutter,T.n_Cutter_place,qM _ _ _ _ _ _,?_⟩
    exact Q9 T.x_WrongToken T.u_WrongToken T.n_WrongToken_number T.n_WrongToken_place (bad H (qF.refl H) (fin q))
   ·have q:¬ (zz qai (Sum.inl (byteAt txt (i+1)))).getD .non=.non:=fun y=>q (decide_eq_true y)
    obtain ⟨d,x,h2,hu⟩:∃ d x,txt[i+1]? = some d/\Vastoa.unescape d=some x:=by
     cases h2:txt[i+1]? with
     | none=>rw [jB h2] at q; exact absurd qmp q
     | some d=>
      rw [zO h2,qdW] at q
      cases hu:Vastoa.unescape d with
      | none=>rw [hu] at q; exact absurd rfl q
      | some x=>exact ⟨d,x,rfl,hu⟩
    have ev:(zz qai (Sum.inl (byteAt txt (i+1)))).getD .non=.int (x:Int):=by rw [zO h2,qdW,hu]
    rw [ev]
    refine ⟨_,rfl,z.c,_,z.dx,_,_,rfl,hC.ins,T.c_Cutter,T.n_Cutter_place,qM _ _ _ _ _ _,_,_,rfl,rfl,z.dx,_,hC.ins,(by show 6<1000; decide),?_⟩
    refine ⟨_,rfl,?_⟩
    exact ko _ (i+2) x (qo.at_ rfl) qc (by omega) (CM.Zl h2) (CM.qe3 hc h2 hu)
  ·have e:¬ c=92:=fun y=>e (decide_eq_true (by omega))
   have ga:=CM.qaZ hc e
   have n1:¬ (c=34 \/ (c=36/\txt[i+1]? = some 123)):=by
    unfold over at ho
    rw [hc] at ho
    dsimp only at ho
    by_cases h36:c=36
    ·rw [if_pos h36] at ho
     have:=of_decide_eq_false ho
     rintro (y | ⟨_,y⟩)
     ·omega
     ·exact this y
    ·rw [if_neg h36] at ho
     have:=of_decide_eq_false ho
     rintro (y | ⟨y,_⟩)
     ·exact this y
     ·exact h36 y
   rw [if_neg n1] at ga
   have last:∀ H1,qF H H1->¬ (c<32/\c≠9/\c≠10)->Q (.int (c:Int)) (upd H1 z.c (qik a z (i+1) lit en)):=fun H1 s1 hn=>by
    rw [if_neg hn] at ga
    exact ko _ (i+1) c ((qo.of s1).trans (qo.at_ rfl)) qc (by omega) (by omega) ga
   refine ⟨_,rfl,_,_,rfl,rfl,_,rfl,zN (fun h32=>?_) fun h32=>?_⟩
   ·have h32:c<32:=by have:=of_decide_eq_true h32; omega
    refine ⟨_,rfl,rfl,fun H1 s1=>⟨_,rfl,?_⟩⟩
    have C1:=hC.same s1
    have hin:inV (.int (c:Int)) [V.int 9,V.int 10]=decide (c=9 \/ c=10):=by
     simp only [inV,List.any_cons,List.any_nil,eqV,zH,Bool.or_false]
     rw [<- Bool.decide_or]
     exact decide_eq_decide.mpr (by omega)
    rw [hin]
    refine zN (fun q=>?_) fun q=>?_
    ·have q:¬ (c=9 \/ c=10):=by simpa using q
     rw [if_pos ⟨h32,fun y=>q (.inl y),fun y=>q (.inr y)⟩] at ga
     refine ⟨_,rfl,z.c,_,z.dx,_,_,rfl,C1.ins,T.c_Cutter,T.n_Cutter_place,qM _ _ _ _ _ _,?_⟩
     exact Q9 T.x_WrongToken T.u_WrongToken T.n_WrongToken_number T.n_WrongToken_place (bad H1 s1 ga)
    ·have q:c=9 \/ c=10:=by
      by_cases y:c=9 \/ c=10
      ·exact y
      ·exact absurd (by rw [decide_eq_false y]; rfl) q
     refine ⟨_,rfl,z.c,_,z.dx,_,_,rfl,C1.ins,T.c_Cutter,T.n_Cutter_place,qM _ _ _ _ _ _,_,_,rfl,rfl,z.dx,_,C1.ins,(by show 6<1000; decide),_,rfl,?_⟩
     exact last H1 s1 (fun y=>by rcases q with q | q <;> simp [q] at y)
   ·have h32:¬ c<32:=fun y=>h32 (decide_eq_true (by omega))
    refine zx ⟨_,rfl,z.c,_,z.dx,_,_,rfl,hC.ins,T.c_Cutter,T.n_Cutter_place,qM _ _ _ _ _ _,_,_,rfl,rfl,z.dx,_,hC.ins,(by show 6<1000; decide),_,rfl,?_⟩
    exact last H (qF.refl H) (fun y=>h32 y.1)
end
end RT
end
section
namespace RT
open PySem PySem.Spec PyProof.Rows L2
open Vastoa (Mark Marks)
def qdx (a:Ad) (K:PySem.W.Frag):Sp:=fun vs H Q E=>∃ (z:CA) (txt:List Nat) (i:Nat) (T:Marks) (O:List Bool) (lit en:Bool),vs=[.ref z.c]/\qP a K H z txt i T O lit en/\i<=txt.length/\txt.length<=5000/\T.length<1000000 /\
 (∀ H' j g,qo z.M H H'->qP a K H' z txt j (T++CM.pieceOf i g) O lit en->i+g.length<=j->CM.qcR txt i g j->over txt j=true->Q .non H') /\
 (∀ p,Vastoa.gather i (txt.drop i)=.error ⟨2,p⟩->XWM z.M K a.Refusal H 2 p E)
theorem jC {n:Nat} (h:n<=1000000):n<sizeLine:=Nat.lt_of_le_of_lt h (by decide)
theorem XWM.wide {M M':Addr->Prop} {K:PySem.W.Frag} {S:Addr} {H:Hp} {n p:Int} {E:XK} (h:XWM M' K S H n p E) (i:∀ b,M b->M' b):XWM M K S H n p E:=fun C dx H' k x=>h C dx H' (k.wide i) x
theorem qmq (g:List Nat) (x:Nat):nt g++[.int (x:Int)]=nt (g++[x]):=by simp [nt]
section
variable {P:Program} {w:World} {K:PySem.W.Frag} {mg:Str->Option Value} {base:Heap} {f:Addr} {fd:FuncData} {a:Ad}
theorem JV:qm ["self","first","held"] ["self"] (qe jh):=⟨rfl,rfl,rfl,by decide +kernel,rfl,by decide +kernel,by decide +kernel⟩
theorem qga (F:Fun K "cut_piece" "Cutter.cut_piece" jh f fd) (T:Tx P w K mg a) (Go:jl P w K mg base CX0 2 a.Cutter "is_piece_over" ["self"] (qjK a K)) (Gg:jl P w K mg base (CXR P w) 4 a.Cutter "gather_byte" ["self"] (qf9 a K))
  (Gt:qcS P w K mg base CX0 1 a.Token "Token" ["self","kind","place","held"] (qig a)):qw P w K mg base (CXR P w) 5 f fd ["self"] (qdx a K):=by
 refine F.okR JV (fun vs H Q E h=>?_) (fun cdv A outer s H vs Q E hr h=>?_)
 ·obtain ⟨z,txt,i,Tk,O,lit,en,rfl,_⟩:=h; rfl
 ·obtain ⟨z,txt,i,Tk,O,lit,en,rfl,hC,hi,hlen,hT,ko,kx⟩:=h
  have hr1:qN 1 _:=hr.mono (by decide)
  have hr2:qN 2 _:=hr.mono (by decide)
  refine ⟨_,qi (qZ (i:=1) JV.nd rfl (Or.inl rfl) (qj (pv 0) rfl))
   (qi (qZ (i:=2) JV.nd rfl (Or.inl rfl) (qX qg))
   (qi (QQ PassesOwn.leaving (qby (QP (jq Go T.c_Cutter hr2 qO (pv 0)))) (qf (qu (zK PySem.F.plainAttrs_list PySem.F.slot_list_append PySem.F.type_list_append zq (pv 2) (qa (jq Gg T.c_Cutter hr jU (pv 0)) qg)))))
   (qf (qQ (QR (pv 2) (by intro _; rfl)) (qf (qu (zK PySem.F.plainAttrs_list PySem.F.slot_list_append PySem.F.type_list_append zq (qj (pv 0) rfl) (qa (Zr Gt hr2 qO (qa qK (qa (pv 1) (qa (pv 2) qg)))) qg)))) zf)))),?_⟩
  refine ⟨_,rfl,z.c,_,z.dx,_,_,rfl,hC.ins,T.c_Cutter,T.n_Cutter_place,qM _ _ _ _ _ _,?_⟩
  refine ⟨Nat.zero_le _,fun p hp=>?_⟩
  have np:=hC.fresh hp
  refine ⟨fun m σ H'=>σ = [some (.ref z.c),some (.int (i:Int)),some (.ref p)]/\∃ (j:Nat) (g:List Nat),H' z.c=some (qik a z j lit en)/\qo (· = z.c) H H'/\H' p=some (.lst (nt g))/\i+g.length<=j/\CM.qcR txt i g j/\m=txt.length - j,
   ⟨_,rfl,i,[],?_,qo.new hp,qc,Nat.le_refl _,CM.qh8 hi,rfl⟩,?_⟩
  ·rw [qd (qh hC.ins hp)]; exact hC.ins
  rintro m σ H1 ⟨rfl,j,g,h1,k1,hp1,hgj,G1,rfl⟩
  have C1:=hC.move h1 k1
  refine ⟨_,rfl,z.c,z.dx,_,rfl,C1.ins,qas _ _ _ _ _ _,z,txt,j,Tk,O,lit,en,rfl,C1,fun H2 s2=>⟨_,rfl,?_⟩⟩
  have C2:=C1.same s2
  have k2:=k1.trans (qo.of s2)
  have hp2:=s2 _ _ hp1
  have pc:p≠z.c:=fun e=>np (by rw [e]; exact z.mc)
  cases ho:over txt j with
  | false=>
   refine zP ⟨_,fun σ' H' q=>q,?_⟩
   refine ⟨_,rfl,.inl ⟨rfl,_,SqL.of hp2⟩,_,rfl,z.c,z.dx,_,rfl,C2.ins,qbo _ _ _ _ _ _,z,txt,j,Tk,O,lit,en,rfl,C2,ho,fun H3 j' x k3 h3 hjj hj' eg=>?_,fun hg=>?_⟩
   ·have hp3:=k3 _ _ hp2 pc
    have hj1:j'<=txt.length:=hj'
    refine ⟨p,_,_,rfl,rfl,hp3,by rw [zt]; exact jC (by omega),?_⟩
    rw [qmq]
    refine ⟨txt.length - j',by omega,rfl,j',g++[x],by rw [qd (Ne.symm pc)]; exact h3,fun b o e n=>?_,qc,by simp; omega,CM.qjr G1 hj' eg,rfl⟩
    rw [qd (qh e hp)]
    exact (k2.trans k3) b o e n
   ·have:=kx j (CM.qfT G1 hg)
    exact (this.from (k2.wide fun b e=>by rw [e]; exact z.mc)).wide fun b e=>by rw [e]; exact z.mc
  | true=>
   have k2':qo z.M H H2:=k2.wide fun b e=>by rw [e]; exact z.mc
   refine zx ⟨_,rfl,_,.inl ⟨_,SqL.of hp2,rfl⟩,?_⟩
   cases g with
   | nil=>
    refine zx ?_
    refine ko H2 j [] k2' ?_ hgj G1 ho
    show qP a K H2 z txt j (Tk++[]) O lit en
    rw [List.append_nil]; exact C2
   | cons x g=>
    obtain ⟨as,t1,t2⟩:=C2.tl
    refine zP ⟨_,rfl,z.c,_,z.dx,_,_,rfl,C2.ins,T.c_Cutter,T.n_Cutter_tokens,qaj _ _ _ _ _ _,.inl ⟨rfl,_,SqL.of t1⟩,?_⟩
    refine ⟨_,rfl,_,rfl,?_⟩
    intro t dx ht hdx hne
    refine ⟨t,dx,_,_,_,rfl,qc,rfl,?_⟩
    rw [jO]
    have s3:qF H2 (upd (upd H2 dx (.own t)) t (.ins a.Token dx (tokF (.str "piece") (.int i) (.ref p)))):=fun b o e=>by rw [qd (qh e ht),qd (qh e hdx)]; exact e
    have C3:=C2.same s3
    have tk:Qc a z.M (upd (upd H2 dx (.own t)) t (.ins a.Token dx (tokF (.str "piece") (.int i) (.ref p)))) t ⟨i,.piece (x::g)⟩:=⟨dx,p,qc,s3 _ _ hp2,C2.fresh ht,np⟩
    have t1':=s3 _ _ t1
    refine ⟨z.tl,_,_,rfl,rfl,t1',?_,?_⟩
    ·rw [List.length_map,Paired.length t2]; exact Nat.lt_trans hT (by decide)
    exact ko _ j (x::g) ((k2'.trans (qo.of s3)).trans (qo.at_ z.mt)) (C3.putT t1' tk) hgj G1 ho
end
end RT
end
section
namespace RT
open PySem PySem.Spec PyProof.Rows L2
open Vastoa (Mark Marks)
structure qjL (a:Ad) (K:PySem.W.Frag) (z:CA) (txt:List Nat) (H:Hp) (i:Nat) (Q:Hp->Prop) (E:XK):Prop where
 done:∀ H' T' O' i',qo z.M H H'->Vastoa.tokens txt=.ok T'->T'.length<=i'+1->i'<=txt.length->qP a K H' z txt i' T' O' false true->Q H'
 more:∀ H' n lit O' i' T',qo z.M H H'->CM.Here txt n lit O' i' T'->i<i'->T'.length<=i'->O'.length<=i'->qP a K H' z txt i' T' O' lit false->Q H'
 fail:∀ p:Nat,Vastoa.tokens txt=.error ⟨2,p⟩->XWM z.M K a.Refusal H 2 p E
def J5 (lit:Bool) (a:Ad) (K:PySem.W.Frag):Sp:=fun vs H Q E=>∃ (z:CA) (txt:List Nat) (n i:Nat) (T:Marks) (O:List Bool),vs=[.ref z.c]/\qP a K H z txt i T O lit false/\CM.Here txt n lit O i T/\T.length<=i/\O.length<=i/\txt.length<=5000 /\
 qjL a K z txt H i (Q .non) E
theorem qgb (b:Bool) (O:List Bool):O.reverse.map opS++[opS b]=(b::O).reverse.map opS:=by simp
section
variable {P:Program} {w:World} {K:PySem.W.Frag} {mg:Str->Option Value} {base:Heap} {f:Addr} {fd:FuncData} {a:Ad}
theorem qaz:qm ["self","byte"] ["self"] (qe zR):=⟨rfl,rfl,rfl,by decide +kernel,rfl,by decide +kernel,by decide +kernel⟩
theorem qdY (F:Fun K "cut_literal" "Cutter.cut_literal" zR f fd) (T:Tx P w K mg a) (Gb:jl P w K mg base CX0 1 a.Cutter "byte_at" ["self","place"] (QW a K)) (Gp:jl P w K mg base (CXR P w) 5 a.Cutter "cut_piece" ["self"] (qdx a K))
  (Ga:jl P w K mg base CX0 3 a.Cutter "add_token" ["self","kind","length","held"] (Qr a K)) (Gx:QL P w K mg base 2 a.WrongToken "WrongToken" ["self","place"] (spX a.WrongToken 2 true)):qw P w K mg base (CXR P w) 6 f fd ["self"] (J5 true a K):=by
 refine F.okR qaz (fun vs H Q E h=>?_) (fun cdv A outer s H vs Q E hr h=>?_)
 ·obtain ⟨z,txt,n,i,Tk,O,rfl,_⟩:=h; rfl
 ·obtain ⟨z,txt,n,i,Tk,O,rfl,hC,hH,hT,hO,hlen,R⟩:=h
  have hr1:qN 1 _:=hr.mono (by decide)
  have hr3:qN 3 _:=hr.mono (by decide)
  refine ⟨_,qi (qu (jq Gp T.c_Cutter hr jU (pv 0)))
   (qi (qZ (i:=1) qaz.nd rfl (Or.inl rfl) (zj Gb T.c_Cutter hr1 qO (pv 0) (qa (qj (pv 0) rfl) qg)))
   (qi (qQ (qI z9 (pv 1) (qL T.g_NOTHING) (qU _)) (qf (Qb Gx hr3 (qa (qj (pv 0) rfl) qg))) zf)
   (qi (qQ (qI z9 (pv 1) (qL T.g_QUOTE) (qU _)) (qf (qu (zj Ga T.c_Cutter hr3 qO (pv 0) (qa qK (qa qr (qa (qX qg) qg))))))
    (qi (qu (zK PySem.F.plainAttrs_list PySem.F.slot_list_append PySem.F.type_list_append zq (qj (pv 0) rfl) (qa qK qg))) (qf (qu (zj Ga T.c_Cutter hr3 qO (pv 0) (qa qK (qa qr (qa (qX qg) qg))))))))
   (qf (zy (pv 0) qaK rfl))))),?_⟩
  have hle:=hH.le
  refine ⟨_,rfl,z.c,z.dx,_,rfl,hC.ins,qct _ _ _ _ _ _,z,txt,i,Tk,O,true,false,rfl,hC,hH.le,hlen,by omega,fun H1 j g k1 C1 hgj G1 ho=>?_,fun p hp=>R.fail p (CM.qhr hH hp)⟩
  have hj:=G1.1
  have hTl:(Tk++CM.pieceOf i g).length<=j:=by
   unfold CM.pieceOf
   cases g with
   | nil=>simp; omega
   | cons x g=>simp at hgj ⊢; omega
  refine ⟨_,rfl,z.c,z.dx,_,rfl,C1.ins,zI _ _ _ _ _ _,_,rfl,z.c,_,z.dx,_,_,rfl,C1.ins,T.c_Cutter,T.n_Cutter_place,qM _ _ _ _ _ _,z.c,txt,j,rfl,C1.text,?_⟩
  refine ⟨_,rfl,rfl,_,rfl,?_⟩
  rw [jw]
  cases e:txt[j]? with
  | none=>
   rw [jB e]
   refine zP ⟨_,rfl,z.c,_,z.dx,_,_,rfl,C1.ins,T.c_Cutter,T.n_Cutter_place,qM _ _ _ _ _ _,?_⟩
   exact Q9 T.x_WrongToken T.u_WrongToken T.n_WrongToken_number T.n_WrongToken_place ((R.fail j (CM.qhr hH (CM.qfT G1 (CM.qh9 e)))).on k1)
  | some c=>
   rw [zO e,show ((c:Int) == -1)=false from beq_eq_false_iff_ne.mpr (by omega)]
   refine zx ⟨_,rfl,rfl,_,rfl,?_⟩
   rw [jw,zH]
   have hjl:=CM.Zl e
   refine zN (fun q=>?_) fun q=>?_
   ·have q:c=34:=by have:=of_decide_eq_true q; omega
    subst q
    have ge:Vastoa.gather i (txt.drop i)=.ok (g,j,txt.drop j):=CM.qeI G1 (by rw [CM.qaZ e (by decide),if_pos (.inl rfl)])
    have H2:=CM.qjs hH (by omega) ge e
    refine ⟨_,rfl,z.c,z.dx,_,rfl,C1.ins,ze _ _ _ _ _ _,Nat.zero_le _,fun p hp=>⟨z,txt,j,Tk++CM.pieceOf i g,O,true,false,.unquote,1,p,rfl,C1.same (qp hp),qc,C1.fresh hp,by omega,fun H3 k3 C3=>?_⟩⟩
    refine ⟨_,rfl,z.c,_,z.dx,_,rfl,C3.ins,T.c_Cutter,T.n_Cutter_in_literal,(by show 6<1000; decide),?_⟩
    refine R.more _ _ false O (j+1) _ (((k1.trans (qo.new hp)).trans k3).trans (qo.at_ z.mc)) H2 (by omega) ?_ (by omega) (C3.put (j+1) false false)
    rw [List.length_append]; show (Tk++CM.pieceOf i g).length+1<=_; omega
   ·have q:¬ c=34:=fun y=>q (decide_eq_true (by omega))
    rw [qbZ e] at ho
    have h36:c=36:=by
     by_cases y:c=36
     ·exact y
     ·rw [if_neg y] at ho; exact absurd (of_decide_eq_true ho) q
    subst h36
    have e3:txt[j+1]? = some 123:=of_decide_eq_true ho
    have ge:Vastoa.gather i (txt.drop i)=.ok (g,j,txt.drop j):=CM.qeI G1 (by rw [CM.qaZ e (by decide),if_pos (.inr ⟨rfl,e3⟩)])
    have H2:=CM.qk1 hH (by omega) ge e e3
    refine ⟨_,rfl,z.c,_,z.dx,_,_,rfl,C1.ins,T.c_Cutter,T.n_Cutter_opened,Je _ _ _ _ _ _,.inl ⟨rfl,_,SqL.of C1.ol⟩,z.ol,_,_,rfl,rfl,C1.ol,by rw [List.length_map,List.length_reverse]; exact jC (by omega),?_⟩
    rw [show (V.str (Str.ofString "hole"))=opS true from rfl,qgb]
    have C2:=C1.putO (true::O)
    have k2:=k1.trans (qo.at_ (o:=.lst ((true::O).reverse.map opS)) z.mo)
    refine ⟨_,rfl,z.c,z.dx,_,rfl,C2.ins,ze _ _ _ _ _ _,Nat.zero_le _,fun p hp=>⟨z,txt,j,Tk++CM.pieceOf i g,true::O,true,false,.hole,2,p,rfl,C2.same (qp hp),qc,C2.fresh hp,by omega,fun H3 k3 C3=>?_⟩⟩
    refine ⟨_,rfl,z.c,_,z.dx,_,rfl,C3.ins,T.c_Cutter,T.n_Cutter_in_literal,(by show 6<1000; decide),?_⟩
    refine R.more _ _ false (true::O) (j+2) _ (((k2.trans (qo.new hp)).trans k3).trans (qo.at_ z.mc)) H2 (by omega) ?_ (by simp; omega) (C3.put (j+2) false false)
    rw [List.length_append]; show (Tk++CM.pieceOf i g).length+1<=_; omega
end
end RT
end
section
namespace RT
open PySem PySem.Spec PyProof.Rows L2
open Vastoa (Mark Marks)
theorem qmr (c:Nat):decide (65<=(c:Int)/\(c:Int)<=90 \/ 97<=(c:Int)/\(c:Int)<=122)=Vastoa.letter c:=by
 unfold Vastoa.letter
 rw [Bool.eq_iff_iff]
 simp
 omega
theorem qnr (c:Nat):inV (.int (c:Int)) [V.int 32,V.int 9,V.int 10,V.int 13]=Vastoa.blank c:=by
 simp only [inV,List.any_cons,List.any_nil,eqV,zH,Bool.or_false]
 unfold Vastoa.blank
 rw [Bool.eq_iff_iff]
 simp
 omega
section
variable {P:Program} {w:World} {K:PySem.W.Frag} {mg:Str->Option Value} {base:Heap} {f:Addr} {fd:FuncData} {a:Ad}
theorem qaA:qm ["self","byte"] ["self"] (qe zQ):=⟨rfl,rfl,rfl,by decide +kernel,rfl,by decide +kernel,by decide +kernel⟩
theorem qdZ (F:Fun K "cut_outside" "Cutter.cut_outside" zQ f fd) (T:Tx P w K mg a) (Gb:jl P w K mg base CX0 1 a.Cutter "byte_at" ["self","place"] (QW a K)) (Ga:jl P w K mg base CX0 3 a.Cutter "add_token" ["self","kind","length","held"] (Qr a K))
  (Gl:FnAt P w K mg base CX0 1 "is_letter" ["byte"] qa5) (Gd:FnAt P w K mg base CX0 1 "is_digit" ["byte"] qaw) (Gc:jl P w K mg base CX0 2 a.Cutter "pass_comment" ["self"] (qbk a K)) (Gn:jl P w K mg base (CXR P w) 4 a.Cutter "cut_name" ["self"] (qeQ a K))
  (Gu:jl P w K mg base (CXR P w) 4 a.Cutter "cut_number" ["self"] (qcB a K)) (Gr:jl P w K mg base CX0 4 a.Cutter "cut_right_brace" ["self"] (qdw a K)) (Gs:jl P w K mg base (CXR P w) 4 a.Cutter "cut_sign" ["self"] (qeR a K)):qw P w K mg base (CXR P w) 6 f fd ["self"] (J5 false a K):=by
 refine F.okR qaA (fun vs H Q E h=>?_) (fun cdv A outer s H vs Q E hr h=>?_)
 ·obtain ⟨z,txt,n,i,Tk,O,rfl,_⟩:=h; rfl
 ·obtain ⟨z,txt,n,i,Tk,O,rfl,hC,hH,hT,hO,hlen,R⟩:=h
  have hr1:qN 1 _:=hr.mono (by decide)
  have hr2:qN 2 _:=hr.mono (by decide)
  have hr3:qN 3 _:=hr.mono (by decide)
  have hr4:qN 4 _:=hr.mono (by decide)
  refine ⟨_,qi (qZ (i:=1) qaA.nd rfl (Or.inl rfl) (zj Gb T.c_Cutter hr1 qO (pv 0) (qa (qj (pv 0) rfl) qg)))
   (qf (qQ (qI z9 (pv 1) (qL T.g_NOTHING) (qU _)) (qi (qu (zj Ga T.c_Cutter hr3 qO (pv 0) (qa qK (qa qr (qa (qX qg) qg))))) (qf (zy (pv 0) qaK rfl)))
   (qf (qQ (qjz (pv 1) (qa (qL T.g_BLANK) (qa (qL T.g_TAB) (qa (qL T.g_LINE_FEED) (qa (qL T.g_RETURN) qg))))) (qf (Qn (pv 0) qr JJ))
   (qf (qQ (qI z9 (pv 1) (qL T.g_HASH) (qU _)) (qf (qu (jq Gc T.c_Cutter hr2 qO (pv 0))))
   (qf (qQ (QP (qV Gl hr1 qO (qa (pv 1) qg))) (qf (qu (jq Gn T.c_Cutter hr4 jU (pv 0))))
   (qf (qQ (QP (qV Gd hr1 qO (qa (pv 1) qg))) (qf (qu (jq Gu T.c_Cutter hr4 jU (pv 0))))
   (qf (qQ (qI z9 (pv 1) (qL T.g_QUOTE) (qU _)) (qi (qu (zj Ga T.c_Cutter hr3 qO (pv 0) (qa qK (qa qr (qa (qX qg) qg))))) (qf (zy (pv 0) qaK rfl)))
   (qf (qQ (qI z9 (pv 1) (qL T.g_LEFT_BRACE) (qU _)) (qi (qu (zK PySem.F.plainAttrs_list PySem.F.slot_list_append PySem.F.type_list_append zq (qj (pv 0) rfl) (qa qK qg)))
    (qf (qu (zj Ga T.c_Cutter hr3 qO (pv 0) (qa qK (qa qr (qa (qX qg) qg)))))))
   (qf (qQ (qI z9 (pv 1) (qL T.g_RIGHT_BRACE) (qU _)) (qf (qu (jq Gr T.c_Cutter hr4 qO (pv 0)))) (qf (qu (jq Gs T.c_Cutter hr4 jU (pv 0)))))))))))))))))))),?_⟩
  have hle:=hH.le
  have hT6:Tk.length<1000000:=by omega
  refine ⟨_,rfl,z.c,z.dx,_,rfl,hC.ins,zI _ _ _ _ _ _,_,rfl,z.c,_,z.dx,_,_,rfl,hC.ins,T.c_Cutter,T.n_Cutter_place,qM _ _ _ _ _ _,z.c,txt,i,rfl,hC.text,?_⟩
  refine ⟨_,rfl,rfl,_,rfl,?_⟩
  rw [jw]
  cases e:txt[i]? with
  | none=>
   rw [jB e]
   refine zP ⟨_,rfl,z.c,z.dx,_,rfl,hC.ins,ze _ _ _ _ _ _,Nat.zero_le _,fun p hp=>⟨z,txt,i,Tk,O,false,false,.fin,0,p,rfl,hC.same (qp hp),qc,hC.fresh hp,hT6,fun H3 k3 C3=>?_⟩⟩
   refine ⟨_,rfl,z.c,_,z.dx,_,rfl,C3.ins,T.c_Cutter,T.n_Cutter_ended,(by show 6<1000; decide),?_⟩
   exact R.done _ _ O i (((qo.new hp).trans k3).trans (qo.at_ z.mc)) (CM.qnj hH e) (by simp; omega) hle (C3.put i false true)
  | some c=>
   have hil:=CM.Zl e
   rw [zO e,show ((c:Int) == -1)=false from beq_eq_false_iff_ne.mpr (by omega)]
   refine zx ⟨_,rfl,rfl,fun H1 s1=>⟨_,rfl,?_⟩⟩
   have C1:=hC.same s1
   have k1:qo z.M H H1:=qo.of s1
   show if inV (.int (c:Int)) [V.int 32,V.int 9,V.int 10,V.int 13]=true then _ else _
   rw [qnr]
   refine zN (fun hb=>?_) fun hb=>?_
   ·refine ⟨_,rfl,z.c,_,z.dx,_,_,rfl,C1.ins,T.c_Cutter,T.n_Cutter_place,qM _ _ _ _ _ _,_,_,rfl,rfl,z.dx,_,C1.ins,(by show 6<1000; decide),?_⟩
    exact R.more _ _ false O (i+1) Tk (k1.trans (qo.at_ z.mc)) (CM.qkX hH e hb) (by omega) (by omega) (by omega) (C1.put (i+1) false false)
   have hb:Vastoa.blank c=false:=by simpa using hb
   refine ⟨_,rfl,rfl,_,rfl,?_⟩
   rw [jw,zH]
   refine zN (fun h35=>?_) fun h35=>?_
   ·have h35:c=35:=by have:=of_decide_eq_true h35; omega
    subst h35
    refine ⟨_,rfl,z.c,z.dx,_,rfl,C1.ins,qa1 _ _ _ _ _ _,z,txt,i,Tk,O,false,false,rfl,C1,hle,fun H2 j k2 C2 r2 e2=>?_⟩
    have hij:i<j:=by
     rcases Nat.lt_or_ge i j with y | y
     ·exact y
     ·have:i=j:=Nat.le_antisymm r2.1 y
      subst this
      have:=e2 35 e
      omega
    have H2':=CM.qh6 (k:=j - i) hH e (by have:=r2.2.1; omega) (by omega) (fun x hx=>by
     obtain ⟨c,h1,h2⟩:=r2.2.2 (i+x) (by omega) (by omega)
     exact ⟨c,h1,by simpa using h2⟩) (fun x hx=>e2 x (by rw [show i+(j - i)=j by omega] at hx; exact hx))
    rw [show i+(j - i)=j by omega] at H2'
    exact R.more H2 _ false O j Tk (k1.trans k2) H2' hij (by omega) (by omega) C2
   have h35:¬ c=35:=fun y=>h35 (decide_eq_true (by omega))
   refine ⟨_,rfl,_,rfl,_,rfl,?_⟩
   rw [qmr]
   refine zN (fun hl=>?_) fun hl=>?_
   ·refine ⟨_,rfl,z.c,z.dx,_,rfl,C1.ins,qcV _ _ _ _ _ _,z,txt,i,Tk,O,false,false,rfl,C1,hle,hT6,fun j r2 e2=>?_⟩
    have hij:i<j:=by
     rcases Nat.lt_or_ge i j with y | y
     ·exact y
     ·have:i=j:=Nat.le_antisymm r2.1 y
      subst this
      have:=e2 c e
      unfold Vastoa.inner at this
      rw [hl] at this
      cases this
    have H2':=CM.qmi (k:=j - i) hH e hl (by have:=r2.2.1; omega) (by omega) (fun x hx=>r2.2.2 (i+x) (by omega) (by omega)) (fun x hx=>e2 x (by rw [show i+(j - i)=j by omega] at hx; exact hx))
    rw [show i+(j - i)=j by omega] at H2'
    refine ⟨fun hx=>(R.fail i (H2'.1 hx)).from k1,fun hx H2 k2 C2=>?_⟩
    exact R.more H2 _ false O j _ (k1.trans k2) (H2'.2 hx) hij (by simp; omega) (by omega) C2
   have hl:Vastoa.letter c=false:=by simpa using hl
   refine ⟨_,rfl,_,rfl,_,rfl,?_⟩
   show if qdv (c:Int)=true then _ else _
   rw [qbW]
   refine zN (fun hd=>?_) fun hd=>?_
   ·refine ⟨_,rfl,z.c,z.dx,_,rfl,C1.ins,qbP _ _ _ _ _ _,z,txt,i,Tk,O,false,false,rfl,C1,hle,hT6,fun j r2 e2=>?_⟩
    have hij:i<j:=by
     rcases Nat.lt_or_ge i j with y | y
     ·exact y
     ·have:i=j:=Nat.le_antisymm r2.1 y
      subst this
      have:=e2 c e
      rw [hd] at this
      cases this
    have H2':=CM.qjp (k:=j - i) hH e hd (by have:=r2.2.1; omega) (by omega) (fun x hx=>r2.2.2 (i+x) (by omega) (by omega)) (fun x hx=>e2 x (by rw [show i+(j - i)=j by omega] at hx; exact hx))
    rw [show i+(j - i)=j by omega] at H2'
    have e48:txt[i]? = some 48 ↔ c=48:=⟨fun y=>by rw [e] at y; exact Option.some.inj y,fun y=>by rw [e,y]⟩
    rw [e48]
    refine ⟨fun hx=>(R.fail i (H2'.1 hx)).from k1,fun hx H2 k2 C2=>?_⟩
    exact R.more H2 _ false O j _ (k1.trans k2) (H2'.2 hx) hij (by simp; omega) (by omega) C2
   have hd:Vastoa.digit c=false:=by simpa using hd
   refine ⟨_,rfl,rfl,_,rfl,?_⟩
   rw [jw,zH]
   refine zN (fun h34=>?_) fun h34=>?_
   ·have h34:c=34:=by have:=of_decide_eq_true h34; omega
    subst h34
    refine ⟨_,rfl,z.c,z.dx,_,rfl,C1.ins,ze _ _ _ _ _ _,Nat.zero_le _,fun p hp=>⟨z,txt,i,Tk,O,false,false,.quote,1,p,rfl,C1.same (qp hp),qc,C1.fresh hp,hT6,fun H3 k3 C3=>?_⟩⟩
    refine ⟨_,rfl,z.c,_,z.dx,_,rfl,C3.ins,T.c_Cutter,T.n_Cutter_in_literal,(by show 6<1000; decide),?_⟩
    exact R.more _ _ true O (i+1) _ (((k1.trans (qo.new hp)).trans k3).trans (qo.at_ z.mc)) (CM.qkZ hH e) (by omega) (by simp; omega) (by omega) (C3.put (i+1) true false)
   have h34:¬ c=34:=fun y=>h34 (decide_eq_true (by omega))
   refine ⟨_,rfl,rfl,_,rfl,?_⟩
   rw [jw,zH]
   refine zN (fun h123=>?_) fun h123=>?_
   ·have h123:c=123:=by have:=of_decide_eq_true h123; omega
    subst h123
    refine ⟨_,rfl,z.c,_,z.dx,_,_,rfl,C1.ins,T.c_Cutter,T.n_Cutter_opened,Je _ _ _ _ _ _,.inl ⟨rfl,_,SqL.of C1.ol⟩,z.ol,_,_,rfl,rfl,C1.ol,by rw [List.length_map,List.length_reverse]; exact jC (by omega),?_⟩
    rw [show (V.str (Str.ofString "brace"))=opS false from rfl,qgb]
    have C2:=C1.putO (false::O)
    have k2:=k1.trans (qo.at_ (o:=.lst ((false::O).reverse.map opS)) z.mo)
    refine ⟨_,rfl,z.c,z.dx,_,rfl,C2.ins,ze _ _ _ _ _ _,Nat.zero_le _,fun p hp=>⟨z,txt,i,Tk,false::O,false,false,.sign [123],1,p,by rw [qmo]; rfl,C2.same (qp hp),qc,C2.fresh hp,hT6,fun H3 k3 C3=>?_⟩⟩
    exact R.more _ _ false (false::O) (i+1) _ ((k2.trans (qo.new hp)).trans k3) (CM.qk0 hH e) (by omega) (by simp; omega) (by simp; omega) C3
   have h123:¬ c=123:=fun y=>h123 (decide_eq_true (by omega))
   refine ⟨_,rfl,rfl,_,rfl,?_⟩
   rw [jw,zH]
   refine zN (fun h125=>?_) fun h125=>?_
   ·have h125:c=125:=by have:=of_decide_eq_true h125; omega
    subst h125
    refine ⟨_,rfl,z.c,z.dx,_,rfl,C1.ins,J0 _ _ _ _ _ _,z,txt,i,Tk,O,false,rfl,C1,hT6,fun H2 O' eO k2 C2=>?_,fun H2 hO' k2 C2=>?_⟩
    ·subst eO
     exact R.more H2 _ true O' (i+1) _ (k1.trans k2) (CM.qjq hH e) (by omega) (by simp; omega) (by simp at hO; omega) C2
    ·exact R.more H2 _ false (O.drop 1) (i+1) _ (k1.trans k2) (CM.qh7 hH e hO') (by omega) (by simp; omega) (by simp; omega) C2
   have h125:¬ c=125:=fun y=>h125 (decide_eq_true (by omega))
   have hoth:CM.other c=true:=by simp [CM.other,hb,h35,hl,hd,h34,h123,h125]
   obtain ⟨s1',s2'⟩:=CM.qmj hH e hoth
   refine ⟨_,rfl,z.c,z.dx,_,rfl,C1.ins,qcW _ _ _ _ _ _,z,txt,i,Tk,O,false,false,rfl,C1,hle,hT6,fun hx=>(R.fail i (s1' hx)).from k1,fun x hx H2 k2 C2=>?_⟩
   have h0:=(CM.qdj hx).2.1
   exact R.more H2 _ false O (i+x.length) _ (k1.trans k2) (s2' x hx) (by omega) (by simp; omega) (by omega) C2
end
end RT
end
section
namespace RT
open PySem PySem.Spec PyProof.Rows L2
open Vastoa (Mark Marks)
def qb0 (a:Ad) (K:PySem.W.Frag):Sp:=fun vs H Q E=>∃ (c dx ta:Addr) (txt:List Nat),vs=[.ref c,.ref ta]/\H c=some (.ins a.Cutter dx [])/\SqL K H ta (nt txt) /\
 ∀ H' z,z.c=c->H z.tl=none->H z.ol=none->(∀ b o,H b=some o->b≠c->H' b=some o)->qP a K H' z txt 0 [] [] false false->Q .non H'
abbrev M0:Addr->Prop:=fun _=>False
def qlF (a:Ad) (K:PySem.W.Frag):Sp:=fun vs H Q E=>∃ (ta:Addr) (txt:List Nat),vs=[.ref ta]/\SqL K H ta (nt txt)/\txt.length<=5000 /\
 (∀ H' p as T,qF H H'->Vastoa.tokens txt=.ok T->T.length<=txt.length+1->H' p=some (.lst (as.map V.ref))->Paired (Qc a M0 H') as T->Q (.ref p) H') /\
 (∀ p:Nat,Vastoa.tokens txt=.error ⟨2,p⟩->XW K a.Refusal H 2 p E)
theorem Qc.free {a:Ad} {M:Addr->Prop} {H:Hp} {t:Addr} {m:Mark} (h:Qc a M H t m):Qc a M0 H t m:=by
 obtain ⟨dx,ha,h1,h2,_,_⟩:=h
 exact ⟨dx,ha,h1,h2,id,id⟩
section
variable {P:Program} {w:World} {K:PySem.W.Frag} {mg:Str->Option Value} {base:Heap} {f:Addr} {fd:FuncData} {a:Ad}
theorem qd0:qm ["self","text"] ["self","text"] (qe j6):=⟨rfl,rfl,rfl,by decide +kernel,rfl,by decide +kernel,by decide +kernel⟩
theorem qd1 (F:Fun K "__init__" "Cutter.__init__" j6 f fd) (T:Tx P w K mg a):qw P w K mg base CX0 1 f fd ["self","text"] (qb0 a K):=by
 refine F.ok qd0 (fun vs H Q E h=>?_) (fun cdv A outer s H vs Q E hr h=>?_)
 ·obtain ⟨c,dx,ta,txt,rfl,_⟩:=h; rfl
 ·obtain ⟨c,dx,ta,txt,rfl,hc,ht,k⟩:=h
  refine ⟨_,qi (zy (pv 0) (pv 1) rfl) (qi (zy (pv 0) qr rfl) (qi (zy (pv 0) (qX qg) rfl) (qi (zy (pv 0) (qX qg) rfl) (qi (zy (pv 0) qaK rfl) (qf (zy (pv 0) qaK rfl)))))),?_⟩
  refine ⟨_,rfl,_,rfl,c,_,dx,_,rfl,hc,T.c_Cutter,T.n_Cutter_text,(by show 0<1000; decide),?_⟩
  refine ⟨_,rfl,c,_,dx,_,rfl,qc,T.c_Cutter,T.n_Cutter_place,(by show 1<1000; decide),?_⟩
  rw [jO]
  refine ⟨Nat.zero_le _,fun tl htl=>⟨_,rfl,c,_,dx,_,rfl,(qd (qh qc htl)).trans qc,T.c_Cutter,T.n_Cutter_tokens,(by show 2<1000; decide),?_⟩⟩
  have ctl:c≠tl:=qh qc htl
  rw [qd (Ne.symm ctl)] at htl
  refine ⟨Nat.zero_le _,fun ol hol=>⟨_,rfl,c,_,dx,_,rfl,(qd (qh qc hol)).trans qc,T.c_Cutter,T.n_Cutter_opened,(by show 3<1000; decide),?_⟩⟩
  have col:c≠ol:=qh qc hol
  rw [qd (Ne.symm col)] at hol
  have tlol:tl≠ol:=qh qc hol
  rw [qd (Ne.symm tlol),qd (Ne.symm col)] at hol
  refine ⟨_,rfl,c,_,dx,_,rfl,qc,T.c_Cutter,T.n_Cutter_in_literal,(by show 4<1000; decide),?_⟩
  refine ⟨_,rfl,c,_,dx,_,rfl,qc,T.c_Cutter,T.n_Cutter_ended,(by show 5<1000; decide),?_⟩
  rw [jO,jO]
  have kk:∀ b o,H b=some o->b≠c->upd (upd (upd (upd (upd H c (.ins a.Cutter dx (zb "place" (.int 0) (zb "text" (.ref ta) [])))) tl (.lst [])) c (.ins a.Cutter dx (zb "tokens" (.ref tl) (zb "place" (.int 0) (zb "text" (.ref ta) []))))) ol (.lst [])) c (.ins a.Cutter dx (jI (.ref ta) (.int 0) (.ref tl) (.ref ol) (.bl false) (.bl false))) b=some o:=fun b o e n=>by
   rw [qd n,qd (qh e hol),qd n,qd (qh e htl),qd n]; exact e
  refine k _ ⟨c,dx,ta,tl,ol⟩ rfl htl hol kk ⟨qc,?_,⟨[],?_,.nil⟩,?_,tlol⟩
  ·have nM:∀ o,H ta=some o->(∀ C d fs,o≠.ins C d fs)->¬ CA.M ⟨c,dx,ta,tl,ol⟩ ta:=fun o e ni z=>by
    rcases z with z | z | z
    ·have z:ta=c:=z
     rw [z,hc] at e; cases e; exact ni _ _ _ rfl
    ·exact qh e htl z
    ·exact qh e hol z
   have ne:∀ o,H ta=some o->(∀ C d fs,o≠.ins C d fs)->ta≠c:=fun o e ni z=>nM o e ni (.inl z)
   rcases ht with (q | ⟨o,q⟩) | q
   ·exact .inl ⟨.inl (kk _ _ q (ne _ q (fun _ _ _ z=>by cases z))),nM _ q (fun _ _ _ z=>by cases z)⟩
   ·exact .inl ⟨.inr ⟨o,kk _ _ q (ne _ q (fun _ _ _ z=>by cases z))⟩,nM _ q (fun _ _ _ z=>by cases z)⟩
   ·exact .inr q
  ·show upd _ c _ tl=_
   rw [qd (Ne.symm ctl),qd tlol,qd (Ne.symm ctl),qc]; rfl
  ·show upd _ c _ ol=_
   rw [qd (Ne.symm col),qc]; rfl
theorem qjM:qm ["text","cutter"] ["text"] (qe qcm):=⟨rfl,rfl,rfl,by decide +kernel,rfl,by decide +kernel,by decide +kernel⟩
theorem qns (F:Fun K "cut" "cut" qcm f fd) (T:Tx P w K mg a) (Gm:qcS P w K mg base CX0 1 a.Cutter "Cutter" ["self","text"] (qb0 a K)) (Gl:jl P w K mg base (CXR P w) 6 a.Cutter "cut_literal" ["self"] (J5 true a K))
  (Go:jl P w K mg base (CXR P w) 6 a.Cutter "cut_outside" ["self"] (J5 false a K)):qw P w K mg base (CXR P w) 7 f fd ["text"] (qlF a K):=by
 refine F.okR qjM (fun vs H Q E h=>?_) (fun cdv A outer s H vs Q E hr h=>?_)
 ·obtain ⟨ta,txt,rfl,_⟩:=h; rfl
 ·obtain ⟨ta,txt,rfl,ht,hlen,ko,kx⟩:=h
  have hr2:qN 2 _:=hr.mono (by decide)
  refine ⟨_,qi (qZ (i:=1) qjM.nd rfl (Or.inl rfl) (Zr Gm hr2 qO (qa (pv 0) qg)))
   (qi (QQ PassesOwn.leaving (qby (QP (qj (pv 1) rfl))) (qf (qQ (QP (qj (pv 1) rfl)) (qf (qu (jq Gl T.c_Cutter hr jU (pv 1)))) (qf (qu (jq Go T.c_Cutter hr jU (pv 1)))))))
   (qf (qG (qj (pv 1) rfl)))),?_⟩
  refine ⟨_,rfl,?_⟩
  intro c dx hc hdx hne
  have s1:qF H (upd (upd H dx (.own c)) c (.ins a.Cutter dx [])):=fun b o e=>by rw [qd (qh e hc),qd (qh e hdx)]; exact e
  refine ⟨c,dx,ta,txt,rfl,qc,s1.seq ht,fun H1 z ez htl hol k1 C1=>⟨rfl,?_⟩⟩
  have sub:∀ b o,H b=some o->¬ z.M b:=fun b o e y=>by
   have e1:=s1 b o e
   rcases y with y | y | y
   ·rw [y,ez] at e; rw [hc] at e; cases e
   ·rw [y,htl] at e1; cases e1
   ·rw [y,hol] at e1; cases e1
  have sH:qF H H1:=fun b o e=>k1 b o (s1 b o e) (qh e hc)
  have toS:∀ H2,qo z.M H1 H2->qF H H2:=fun H2 k b o e=>k b o (sH b o e) (sub b o e)
  refine ⟨fun m σ H2=>σ = [some (.ref ta),some (.ref z.c)]/\qo z.M H1 H2/\((∃ n lit O i Tk,qP a K H2 z txt i Tk O lit false/\CM.Here txt n lit O i Tk/\Tk.length<=i/\O.length<=i/\m=txt.length+1 - i) \/
   (∃ O i Tk,qP a K H2 z txt i Tk O false true/\Vastoa.tokens txt=.ok Tk/\Tk.length<=txt.length+1/\m=0)),⟨_,?_,qo.refl _ _,.inl ⟨_,false,[],0,[],C1,CM.start txt,Nat.le_refl _,Nat.le_refl _,rfl⟩⟩,?_⟩
  ·rw [ez]; rfl
  rintro m σ H2 ⟨rfl,k2,⟨n,lit,O,i,Tk,C2,hH,hT,hO,rfl⟩ | ⟨O,i,Tk,C2,hk,hl,rfl⟩⟩
  ·refine ⟨_,rfl,z.c,_,z.dx,_,_,rfl,C2.ins,T.c_Cutter,T.n_Cutter_ended,qdo _ _ _ _ _ _,_,rfl,zP ⟨_,fun σ' H' q=>q,?_⟩⟩
   refine ⟨_,rfl,z.c,_,z.dx,_,_,rfl,C2.ins,T.c_Cutter,T.n_Cutter_in_literal,qdn _ _ _ _ _ _,_,rfl,?_⟩
   have hle:=hH.le
   have res:qjL a K z txt H2 i (fun H'=>∃ m',m'<txt.length+1 - i/\([some (V.ref ta),some (.ref z.c)]=[some (V.ref ta),some (.ref z.c)]/\qo z.M H1 H'/\((∃ n lit O i Tk,qP a K H' z txt i Tk O lit false/\CM.Here txt n lit O i Tk/\Tk.length<=i/\O.length<=i/\m'=txt.length+1 - i) \/
    (∃ O i Tk,qP a K H' z txt i Tk O false true/\Vastoa.tokens txt=.ok Tk/\Tk.length<=txt.length+1/\m'=0)))) E:=by
    refine ⟨fun H' T' O' i' k3 e3 l3 b3 C3=>⟨0,by omega,rfl,k2.trans k3,.inr ⟨O',i',T',C3,e3,by omega,rfl⟩⟩,fun H' n' lit' O' i' T' k3 h3 b3 l3 o3 C3=>⟨txt.length+1 - i',?_,rfl,k2.trans k3,.inl ⟨n',lit',O',i',T',C3,h3,l3,o3,rfl⟩⟩,fun p hp=>?_⟩
    ·have:=h3.le; omega
    ·exact fun C dx' H' k3 x=>kx p hp C dx' H' (toS H' (k2.trans k3)) x
   cases lit with
   | true=>exact zP ⟨_,rfl,z.c,z.dx,_,rfl,C2.ins,qbn _ _ _ _ _ _,z,txt,n,i,Tk,O,rfl,C2,hH,hT,hO,hlen,res⟩
   | false=>exact zx ⟨_,rfl,z.c,z.dx,_,rfl,C2.ins,qbm _ _ _ _ _ _,z,txt,n,i,Tk,O,rfl,C2,hH,hT,hO,hlen,res⟩
  ·refine ⟨_,rfl,z.c,_,z.dx,_,_,rfl,C2.ins,T.c_Cutter,T.n_Cutter_ended,qdo _ _ _ _ _ _,_,rfl,zx ?_⟩
   refine ⟨_,rfl,z.c,_,z.dx,_,_,rfl,C2.ins,T.c_Cutter,T.n_Cutter_tokens,qaj _ _ _ _ _ _,?_⟩
   obtain ⟨as,t1,t2⟩:=C2.tl
   exact ko H2 z.tl as Tk (toS H2 k2) hk hl t1 (qW (fun x y q=>q.free) t2)
end
end RT
end
section
namespace RT
open PySem PySem.Spec PyProof.Rows L2
open Vastoa (Mark Marks)
abbrev qfi:=Vastoa.Kind
abbrev qgc:=RM.Act
open RM (Part Sym qD kd held)
def ZR:Part->Str
 | .EXPR=> "EXPR" | .FORM=> "FORM" | .FUNCTION=> "FUNCTION" | .FIELDS=> "FIELDS" | .PARAMS=> "PARAMS" | .GIVEN=> "GIVEN" | .MPARAMS=> "MORE-PARAMS" | .BINDS=> "BINDS" | .BOUND=> "BOUND" | .OR=> "OR" | .MOR=> "MORE-OR"
 | .AND=> "AND" | .MAND=> "MORE-AND" | .NOT=> "NOT" | .CMP=> "CMP" | .MCMP=> "MORE-CMP" | .UPD=> "UPD" | .MUPD=> "MORE-UPD" | .JOIN=> "JOIN" | .MJOIN=> "MORE-JOIN" | .SUM=> "SUM" | .MSUM=> "MORE-SUM" | .PROD=> "PROD"
 | .MPROD=> "MORE-PROD" | .NEG=> "NEG" | .APP=> "APP" | .ARGS=> "ARGUMENTS" | .ARG=> "ARGUMENT" | .SEL=> "SEL" | .DOTS=> "DOTS" | .MDOTS=> "MORE-DOTS" | .DFLT=> "DEFAULT" | .ATOM=> "ATOM" | .PIECES=> "PIECES"
 | .LIST=> "LIST" | .MLIST=> "MORE-LIST"
def kindS:qfi->Str
 | .piece=> "piece" | .num=> "num" | .yes=> "yes" | .no=> "no" | .none=> "none" | .name=> "name" | .text=> "text" | .list=> "list" | .record=> "record" | .recur=> "recur" | .get=> "get" | .app=> "app" | .neg=> "neg"
 | .not=> "not" | .has=> "has" | .fn=> "fn" | .fields=> "fields" | .openFields=> "fields.." | .param=> "param" | .letIn=> "let" | .cond=> "if" | .must=> "must"
 | .op .or=> "or" | .op .and=> "and" | .op .eq=> "==" | .op .ne=> "!=" | .op .lt=> "<" | .op .le=> "<=" | .op .upd=> "//" | .op .join=> "++" | .op .add=> "+" | .op .sub=> "-" | .op .mul=> "*"
def ZS:qgc->Str
 | .begin=> "begin" | .take=> "take" | .label=> "label" | .fresh=> "fresh" | .enter=> "enter" | .leave=> "leave"
 | .fin k=>kindS k
def Qg:Sym->Str
 | .p x=>ZR x
 | .t k=>jW k
 | .a x=>strOf (64::(ZS x).cps.toList)
def allParts:List Part:=[.EXPR,.FORM,.FUNCTION,.FIELDS,.PARAMS,.GIVEN,.MPARAMS,.BINDS,.BOUND,.OR,.MOR,.AND,.MAND,.NOT,.CMP,.MCMP,.UPD,.MUPD,.JOIN,.MJOIN,.SUM,.MSUM,.PROD,.MPROD,.NEG,.APP,.ARGS,.ARG,.SEL,.DOTS,.MDOTS,.DFLT,.ATOM,.PIECES,.LIST,.MLIST]
def allKinds:List qfi:=[.piece,.num,.yes,.no,.none,.name,.text,.list,.record,.recur,.get,.app,.neg,.not,.has,.fn,.fields,.openFields,.param,.letIn,.cond,.must,.op .or,.op .and,.op .eq,.op .ne,.op .lt,.op .le,.op .upd,.op .join,.op .add,.op .sub,.op .mul]
def jS:List qbV:=[.name [],.num [],.piece [],.quote,.unquote,.hole,.unhole,.fin]++Vastoa.reserved.map .word++([[123],[125]]++Vastoa.signs2++Vastoa.signs1).map .sign
theorem QX (x:Part):x∈allParts:=by cases x <;> decide
theorem qjN (k:qfi):k∈allKinds:=by
 cases k with
 | op o=>cases o <;> decide
 | _=>decide
theorem qa6 {t:qbV} (h:CM.Jd t=true):kd t∈jS:=by
 unfold jS
 cases t with
 | word x=>
  have h:Vastoa.reserved.contains x=true:=h
  exact List.mem_append_left _ (List.mem_append_right _ (List.mem_map.mpr ⟨x,List.contains_iff_mem.mp h,rfl⟩))
 | sign x=>
  have h:([[123],[125]]++Vastoa.signs2++Vastoa.signs1).contains x=true:=h
  exact List.mem_append_right _ (List.mem_map.mpr ⟨x,List.contains_iff_mem.mp h,rfl⟩)
 | _=>exact List.mem_append_left _ (List.mem_append_left _ (by simp [kd]))
theorem qd2 (t:qbV):jW (kd t)=jW t:=by cases t <;> rfl
theorem qk9:∀ x∈jS,∀ y∈jS,jW x=jW y->x=y:=by decide +kernel
def qa7:Sym->Bool
 | .t k=>jS.contains k
 | _=>true
theorem qjO:∀ x∈allParts,∀ k∈jS,(qD x k).all qa7=true:=by decide +kernel
def JA (x k:Str):Bool:=if x = "ARGUMENT" then qdm.contains k else decide (x=k)
def QE (k:Str):List Str->List Str->List Str
 | [],last=>last
 | r::rs,_=>match Txt.words r with
  | []=>QE k rs []
  | x::l=>if JA x k then x::l else QE k rs (x::l)
def rowsOf (x:Part):List Str:=(Q1.lookup (ZR x)).getD []
end RT
namespace RT
open PySem PySem.Spec PyProof.Rows L2
open Vastoa (Mark Marks)
open RM (Part Sym qD kd held)
theorem qil:∀ x∈allParts,∀ k∈jS,QE (jW k) (rowsOf x) []=(qD x k).map Qg:=by decide +kernel
def qim:List Str:=Q1.map (·.1)
theorem qgd:∀ x∈allParts,ZR x∈qim:=by decide +kernel
theorem qms:∀ k∈jS,jW k∉qim:=by decide +kernel
def qaB:List qgc:=[.begin,.take,.label,.fresh,.enter,.leave]++allKinds.map .fin
theorem qa8 (x:qgc):x∈qaB:=by
 cases x with
 | fin k=>exact List.mem_append_right _ (List.mem_map.mpr ⟨k,qjN k,rfl⟩)
 | _=>exact List.mem_append_left _ (by simp)
theorem qmt:∀ x∈qaB,Qg (.a x)∉qim:=by decide +kernel
theorem qnt:∀ x∈qaB,Txt.startswith (Qg (.a x)) "@" = true/\qfE (Qg (.a x)) (some 1) none=ZS x/\(Qg (.a x)).length<=1000:=by decide +kernel
theorem qnu:∀ k∈jS,Txt.startswith (jW k) "@" = false:=by decide +kernel
theorem qmu:∀ x∈qaB,∀ y∈qaB,ZS x=ZS y->x=y:=by decide +kernel
theorem qin:∀ x∈allParts,∀ r∈rowsOf x,r.length<=1000:=by decide +kernel
theorem qla:∀ x∈allParts,(ZR x,rowsOf x)∈Q1:=by decide +kernel
theorem qd3 (g:Str->Addr) (y:Str):∀ l:List (Str × List Str),zz (l.map fun r=>((Sum.inr r.1:Key),V.ref (g r.1))) (Sum.inr y)=if y∈l.map (·.1) then some (V.ref (g y)) else none
 | []=>rfl
 | r::l=>by
  by_cases h:r.1=y
  ·subst h
   rw [List.map_cons,JO rfl,if_pos (by simp)]
  ·rw [List.map_cons,JP (fun z=>h (Sum.inr.inj z)),qd3 g y l]
   by_cases h2:y∈l.map (·.1)
   ·rw [if_pos h2,if_pos (by rw [List.map_cons]; exact List.mem_cons_of_mem _ h2)]
   ·rw [if_neg h2,if_neg (by rw [List.map_cons,List.mem_cons]; exact fun z=>z.elim (fun z=>h z.symm) h2)]
end RT
end
section
namespace RT
open PySem PySem.Spec PyProof.Rows L2
open Vastoa (Mark Marks)
open RM (Part Sym qD kd held)
def qjP:Sp:=fun vs H Q E=>∃ x k:Str,vs=[.str x,.str k]/\Q (.bl (JA x k)) H
def qge (a:Ad):Sp:=fun vs H Q E=>∃ (x:Part) (k:qbV),vs=[.str (ZR x),.str (jW k)]/\k∈jS/\∀ H' p,qF H H'->H p=none->H' p=some (.lst (((qD x k).map Qg).map V.str))->Q (.ref p) H'
theorem ZF:∀ l:List Str,(l.map V.str).all Qo=true
 | []=>rfl
 | _::r=>by rw [List.map_cons,List.all_cons,ZF r]; rfl
theorem qhw (k:Str):∀ l:List Str,inV (.str k) (l.map V.str)=l.contains k
 | []=>rfl
 | x::r=>by
  have ih:=qhw k r
  unfold inV at ih ⊢
  rw [List.map_cons,List.any_cons,ih,List.contains_cons]
  congr 1
  show (x == k)=(k == x)
  by_cases h:x=k
  ·subst h; rfl
  ·rw [beq_eq_false_iff_ne.mpr h,beq_eq_false_iff_ne.mpr (fun z=>h z.symm)]
theorem qg2 {k:Str} {r:Str} {x:Str} {l:List Str} (hw:Txt.words r=x::l) (hf:JA x k=true) (rs last:List Str):QE k (r::rs) last=x::l:=by
 unfold QE; rw [hw]; dsimp only; rw [if_pos hf]
theorem qeS {k:Str} {r:Str} (h:∀ x l,Txt.words r=x::l->JA x k=false) (rs last:List Str):QE k (r::rs) last=QE k rs (Txt.words r):=by
 conv=>lhs; unfold QE
 cases hw:Txt.words r with
 | nil=>rfl
 | cons x l=>
  dsimp only
  rw [if_neg (by rw [h x l hw]; decide)]
section
variable {P:Program} {w:World} {K:PySem.W.Frag} {mg:Str->Option Value} {base:Heap} {f:Addr} {fd:FuncData} {a:Ad}
theorem qmv:qm ["first","kind"] ["first","kind"] (qe qat):=⟨rfl,rfl,rfl,by decide +kernel,rfl,by decide +kernel,by decide +kernel⟩
theorem qmw (F:Fun K "fits" "fits" qat f fd) (T:Tx P w K mg a):qw P w K mg base CX0 1 f fd ["first","kind"] qjP:=by
 refine F.ok qmv (fun vs H Q E h=>?_) (fun cdv A outer s H vs Q E hr h=>?_)
 ·obtain ⟨x,k,rfl,_⟩:=h; rfl
 ·obtain ⟨x,y,rfl,k⟩:=h
  refine ⟨_,qi (qQ (qI z9 (pv 0) qK (qU _)) (qf (qG (qdJ Zt (pv 1) (qL T.g_ATOM_BEGINNINGS) (by with_unfolding_all rfl)))) zf) (qf (qG (qdJ z9 (pv 0) (pv 1) (qU _)))),?_⟩
  refine ⟨_,rfl,rfl,_,rfl,zN (fun e=>?_) fun e=>?_⟩
  ·have e:x = "ARGUMENT":=by have:=of_decide_eq_true e; injection this
   refine ⟨_,rfl,a.ATOM_BEGINNINGS,_,rfl,.inr (T.t_ATOM_BEGINNINGS.sq _),rfl,ZF _,?_⟩
   have:JA x y=inV (.str y) (qdm.map V.str):=by unfold JA; rw [if_pos e,qhw]
   rw [this] at k; exact k
  ·have e:¬ x = "ARGUMENT":=fun z=>e (decide_eq_true (by rw [z]))
   refine ⟨_,rfl,_,rfl,rfl,?_⟩
   have:JA x y=decide (V.str x=V.str y):=by
    unfold JA; rw [if_neg e]
    exact decide_eq_decide.mpr ⟨fun z=>by rw [z],fun z=>by injection z⟩
   rw [this] at k; exact k
theorem J6:qm ["part","kind","symbols","choice"] ["part","kind"] (qe Z6):=⟨rfl,rfl,rfl,by decide +kernel,rfl,by decide +kernel,by decide +kernel⟩
theorem qjQ (F:Fun K "choose" "choose" Z6 f fd) (T:Tx P w K mg a) (G:FnAt P w K mg base CX0 1 "fits" ["first","kind"] qjP):qw P w K mg base CX0 2 f fd ["part","kind"] (qge a):=by
 refine F.ok J6 (fun vs H Q E h=>?_) (fun cdv A outer s H vs Q E hr h=>?_)
 ·obtain ⟨x,k,rfl,_⟩:=h; rfl
 ·obtain ⟨x,y,rfl,hy,k⟩:=h
  refine ⟨_,qi (qZ (i:=2) J6.nd rfl (Or.inl rfl) (qX qg))
   (qi (Jk PassesOwn.never rfl (qfr (Zu (qL T.g_GRAMMAR) (pv 0) (fun _ _=>rfl))) (jv (i:=3) J6.nd rfl (Or.inl rfl))
    (qi (qZ (i:=2) J6.nd rfl (Or.inl rfl) (qkK (pv 3)))
    (qf (qQ (qfp (QR (pv 2) (by intro _; rfl)) (qdH (QP (qV G hr qO (qa (jj zp (pv 2) qr (fun _ _=>rfl)) (qa (pv 1) qg)))))).pt (qf (qG (pv 2))) zf))))
   (qf (qG (pv 2)))),?_⟩
  refine ⟨Nat.zero_le _,fun q hq=>?_⟩
  have hmem:=qgd x (QX x)
  have hrow:=T.t_gram _ (qla x (QX x))
  have hval:zz (Q1.map fun r=>((Sum.inr r.1:Key),V.ref (a.gram r.1))) (Sum.inr (ZR x))=some (.ref (a.gram (ZR x))):=by rw [qd3]; exact if_pos hmem
  have hc:=qil x (QX x) y hy
  refine ⟨_,rfl,a.GRAMMAR,_,Sum.inr (ZR x),_,rfl,T.d_GRAMMAR,rfl,hval,a.gram (ZR x),rfl,⟨_,hrow.sq _⟩,
   qdI (K:=K) (a:=a.gram (ZR x)) (xs:=(rowsOf x).map V.str) (fun i σ H'=>∃ (v:Option V) (l:Addr) (ys:List Str),σ = [some (.str (ZR x)),some (.str (jW y)),some (.ref l),v]/\qF H H'/\H l=none/\H' l=some (.lst (ys.map V.str))/\QE (jW y) (rowsOf x) []=QE (jW y) ((rowsOf x).drop i) ys)
   ⟨none,q,[],rfl,qp hq,hq,qc,rfl⟩ (fun i σ H' _ _=>hrow.sq _) ?_ ?_⟩
  ·rintro i z σ H1 hi ⟨v,l,ys,rfl,s1,hl,hl1,ech⟩
   obtain ⟨r,hr',rfl⟩:∃ r,(rowsOf x)[i]? = some r/\V.str r=z:=by
    rw [List.getElem?_map] at hi
    exact Option.map_eq_some_iff.mp hi
   have hsz:r.length<=1000:=qin x (QX x) r (List.mem_of_getElem? hr')
   have hd:(rowsOf x).drop i=r::(rowsOf x).drop (i+1):=by
    obtain ⟨h1,h2⟩:=List.getElem?_eq_some_iff.mp hr'
    rw [<- h2]; exact List.drop_eq_getElem_cons h1
   rw [hd] at ech
   refine ⟨_,rfl,⟨_,rfl⟩,r,rfl,rfl,?_,fun p hp=>?_⟩
   ·have:(1000:Nat)+2<=sizeLine:=by decide
    omega
   have hpH:H p=none:=s1.free hp
   have s2:=s1.trans (qp (o:=.lst ((Txt.words r).map V.str)) hp)
   refine ⟨_,rfl,_,.inl ⟨_,SqL.of qc,rfl⟩,?_⟩
   cases hw:Txt.words r with
   | nil=>
    rw [hw] at s2
    refine zx (zx ?_)
    refine ⟨_,p,[],rfl,s2,hpH,qc,?_⟩
    rw [ech,qeS (fun x' l' z=>by rw [hw] at z; cases z),hw]
   | cons x0 l0=>
    rw [hw] at s2
    refine zP ⟨_,rfl,p,_,_,_,rfl,rfl,SqL.of qc,jF (j:=0) rfl,_,rfl,x0,_,rfl,_,rfl,?_⟩
    cases hf:JA x0 (jW y) with
    | true=>
     refine zP ⟨_,rfl,?_⟩
     rw [qg2 hw hf] at ech
     rw [ech] at hc
     refine k _ p s2 hpH ?_
     rw [qc,<- hc]
    | false=>
     refine zx ⟨_,p,x0::l0,rfl,s2,hpH,qc,?_⟩
     rw [ech,qeS (fun x' l' z=>by rw [hw] at z; cases z; exact hf),hw]
  ·rintro σ H1 ⟨v,l,ys,rfl,s1,hl,hl1,ech⟩
   refine ⟨_,rfl,?_⟩
   rw [List.length_map,List.drop_length] at ech
   refine k H1 l s1 hl ?_
   rw [hl1,<- hc,ech]
   rfl
end
end RT
end
section
namespace RT
open PySem PySem.Spec PyProof.Rows L2
open Vastoa (Mark Marks)
open RM (Part Sym qD kd held)
def qaC (M:Addr->Prop) (H:Hp) (lb:List Addr) (ls:List (List Nat)):Prop:=Paired (fun p (x:List Nat)=>H p=some (.lst (nt x))/\¬ M p) lb ls
mutual
def qB (a:Ad) (M:Addr->Prop) (H:Hp):Vastoa.Tree->Addr->Prop
 | .node k ls l,t=>∃ dx la ka lb ks,(H t=some (.ins a.Node dx (qbQ (.str (kindS k)) (.ref la) (.ref ka) (.int ((Vastoa.depths l+1:Nat):Int))))/\¬ M t)/\(H la=some (.lst (lb.map V.ref))/\¬ M la)/\qaC M H lb ls/\(H ka=some (.lst (ks.map V.ref))/\¬ M ka)/\qy a M H l ks
def qy (a:Ad) (M:Addr->Prop) (H:Hp):List Vastoa.Tree->List Addr->Prop
 | [],ks=>ks=[]
 | t::l,ks=>∃ k r,ks=k::r/\qB a M H t k/\qy a M H l r
end
def Pass (M:Addr->Prop) (H:Hp) (M':Addr->Prop) (H':Hp):Prop:=∀ b o,H b=some o->¬ M b->H' b=some o/\¬ M' b
theorem qaC.pass {M M':Addr->Prop} {H H':Hp} (p:Pass M H M' H') {lb:List Addr} {ls:List (List Nat)} (h:qaC M H lb ls):qaC M' H' lb ls:=qW (fun x y q=>p _ _ q.1 q.2) h
mutual
theorem qB.pass {a:Ad} {M M':Addr->Prop} {H H':Hp} (p:Pass M H M' H'):∀ (T:Vastoa.Tree) (t:Addr),qB a M H T t->qB a M' H' T t
 | .node k ls l,t,h=>by
  unfold qB at h ⊢
  obtain ⟨dx,la,ka,lb,ks,h1,h2,h3,h4,h5⟩:=h
  exact ⟨dx,la,ka,lb,ks,p _ _ h1.1 h1.2,p _ _ h2.1 h2.2,h3.pass p,p _ _ h4.1 h4.2,qy.pass p l ks h5⟩
theorem qy.pass {a:Ad} {M M':Addr->Prop} {H H':Hp} (p:Pass M H M' H'):∀ (l:List Vastoa.Tree) (ks:List Addr),qy a M H l ks->qy a M' H' l ks
 | [],ks,h=>by unfold qy at h ⊢; exact h
 | T::l,ks,h=>by
  unfold qy at h ⊢
  obtain ⟨k,r,e,h1,h2⟩:=h
  exact ⟨k,r,e,qB.pass p T k h1,qy.pass p l r h2⟩
end
theorem Qc.pass {a:Ad} {M M':Addr->Prop} {H H':Hp} (p:Pass M H M' H') {t:Addr} {m:Mark} (h:Qc a M H t m):Qc a M' H' t m:=by
 obtain ⟨dx,ha,h1,h2,h3,h4⟩:=h
 exact ⟨dx,ha,(p _ _ h1 h3).1,(p _ _ h2 h4).1,(p _ _ h1 h3).2,(p _ _ h2 h4).2⟩
theorem za {a:Ad} {M:Addr->Prop} {H:Hp}:∀ {l:List Vastoa.Tree} {ks:List Addr},qy a M H l ks ↔ Paired (fun k T=>qB a M H T k) ks l
 | [],ks=>by
  unfold qy
  constructor
  ·rintro rfl; exact .nil
  ·intro h; cases h; rfl
 | T::l,ks=>by
  unfold qy
  constructor
  ·rintro ⟨k,r,rfl,h1,h2⟩
   exact .cons h1 (za.mp h2)
  ·intro h
   cases h with
   | cons h1 h2=>exact ⟨_,_,rfl,h1,za.mpr h2⟩
theorem qB.depth {a:Ad} {M:Addr->Prop} {H:Hp} {T:Vastoa.Tree} {t:Addr} (h:qB a M H T t):∃ dx x y z,H t=some (.ins a.Node dx (qbQ x y z (.int ((Vastoa.depth T:Nat):Int)))):=by
 cases T with
 | node k ls l=>
  unfold qB at h
  obtain ⟨dx,la,ka,lb,ks,h1,_⟩:=h
  refine ⟨dx,.str (kindS k),.ref la,.ref ka,?_⟩
  unfold Vastoa.depth
  exact h1.1
theorem qio:∀ (l:List Vastoa.Tree) (m:Int),(l.map (fun T=>((Vastoa.depth T:Nat):Int))=[]->m=0)->(l.map (fun T=>((Vastoa.depth T:Nat):Int))≠[]->m∈l.map (fun T=>((Vastoa.depth T:Nat):Int))/\∀ y,y∈l.map (fun T=>((Vastoa.depth T:Nat):Int))->y<=m)->m=((Vastoa.depths l:Nat):Int):=by
 have up:∀ (l:List Vastoa.Tree) (y:Int),y∈l.map (fun T=>((Vastoa.depth T:Nat):Int))->y<=((Vastoa.depths l:Nat):Int):=by
  intro l
  induction l with
  | nil=>intro y h; cases h
  | cons T l ih=>
   intro y h
   unfold Vastoa.depths
   rcases List.mem_cons.mp h with rfl | h
   ·show ((Vastoa.depth T:Nat):Int)<=_
    omega
   ·have:=ih y h; omega
 have isin:∀ (l:List Vastoa.Tree),l≠[]->((Vastoa.depths l:Nat):Int)∈l.map (fun T=>((Vastoa.depth T:Nat):Int)):=by
  intro l
  induction l with
  | nil=>intro h; exact absurd rfl h
  | cons T l ih=>
   intro _
   unfold Vastoa.depths
   by_cases hl:l=[]
   ·subst hl
    unfold Vastoa.depths
    simp
   ·have:=ih hl
    rcases Nat.le_total (Vastoa.depth T) (Vastoa.depths l) with h | h
    ·rw [Nat.max_eq_right h]; exact List.mem_cons_of_mem _ this
    ·rw [Nat.max_eq_left h]; exact List.mem_cons_self
 intro l m h0 h1
 cases l with
 | nil=>
  rw [h0 rfl]
  unfold Vastoa.depths
  rfl
 | cons T l=>
  obtain ⟨g1,g2⟩:=h1 (by simp)
  have a1:=up _ m g1
  have a2:=g2 _ (isin (T::l) (by simp))
  omega
def qjR (a:Ad) (H:Hp) (ks:List Addr) (ds:List Int):Prop:=Paired (fun k d=>∃ dx x y z,H k=some (.ins a.Node dx (qbQ x y z (.int d)))) ks ds
theorem qgf {a:Ad} {M:Addr->Prop} {H:Hp}:∀ {l:List Vastoa.Tree} {ks:List Addr},qy a M H l ks->qjR a H ks (l.map fun T=>((Vastoa.depth T:Nat):Int))
 | [],ks,h=>by unfold qy at h; subst h; exact .nil
 | T::l,ks,h=>by
  unfold qy at h
  obtain ⟨k,r,rfl,h1,h2⟩:=h
  exact .cons h1.depth (qgf h2)
def qjS (a:Ad):Sp:=fun vs H Q E=>∃ (t dx ka:Addr) (k l:V) (ks:List Addr) (ds:List Int),vs=[.ref t,k,l,.ref ka]/\H t=some (.ins a.Node dx [])/\H ka=some (.lst (ks.map V.ref))/\qjR a H ks ds/\ks.length<=1000000 /\
 ∀ H' m,(∀ b o,H b=some o->b≠t->H' b=some o)->(ds=[]->m=0)->(ds≠[]->m∈ds/\∀ y,y∈ds->y<=m)->H' t=some (.ins a.Node dx (qbQ k l (.ref ka) (.int (1+m))))->Q .non H'
def qd4 (a:Ad):Sp:=fun vs H Q E=>∃ (g dx:Addr) (n:Int),vs=[.ref g,.int n]/\H g=some (.ins a.Begun dx []) /\
 ∀ H' la na,(∀ b o,H b=some o->b≠g->H' b=some o)->H la=none->H na=none->la≠na->H' g=some (.ins a.Begun dx (qdU (.int n) (.ref la) (.ref na)))->H' la=some (.lst [])->H' na=some (.dT [])->Q .non H'
section
variable {P:Program} {w:World} {K:PySem.W.Frag} {mg:Str->Option Value} {base:Heap} {f:Addr} {fd:FuncData} {a:Ad}
theorem JW:qm ["self","kind","labels","kids","kid"] ["self","kind","labels","kids"] (qe Qw):=⟨rfl,rfl,rfl,by decide +kernel,rfl,by decide +kernel,by decide +kernel⟩
theorem qgg (F:Fun K "__init__" "Node.__init__" Qw f fd) (T:Tx P w K mg a):qw P w K mg base CX0 1 f fd ["self","kind","labels","kids"] (qjS a):=by
 refine F.ok JW (fun vs H Q E h=>?_) (fun cdv A outer s H vs Q E hr h=>?_)
 ·obtain ⟨t,dx,ka,k,l,ks,ds,rfl,_⟩:=h; rfl
 ·obtain ⟨t,dx,ka,kk,l,ks,ds,rfl,ht,hka,hks,hlen,k⟩:=h
  refine ⟨_,qi (zy (pv 0) (pv 1) rfl) (qi (zy (pv 0) (pv 2) rfl) (qi (zy (pv 0) (pv 3) rfl)
   (qf (zy (pv 0) (QK JI qr (qmn rfl (by rfl) T.b_max (qfg (own:=[("kid",4)]) (te:=qaa K (zM 4) "depth") rfl JW.nd (ZX (pv 3)) (JN rfl) (fun _ _ _ _ _=>jv (i:=4) JW.nd rfl (Or.inl rfl)) (fun _ _ _ _ _=>qar) (fun _ _ _ _ _=>qj (pv 4) rfl)))) rfl)))),?_⟩
  have tka:ka≠t:=qca hka ht (by intro q; cases q)
  refine ⟨_,rfl,_,rfl,t,_,dx,_,rfl,ht,T.c_Node,T.n_Node_kind,(by show 0<1000; decide),?_⟩
  refine ⟨_,rfl,_,rfl,t,_,dx,_,rfl,qc,T.c_Node,T.n_Node_labels,(by show 1<1000; decide),?_⟩
  refine ⟨_,rfl,_,rfl,t,_,dx,_,rfl,qc,T.c_Node,T.n_Node_kids,(by show 2<1000; decide),?_⟩
  rw [jO,jO]
  generalize hH1:upd H t (.ins a.Node dx (zb "kids" (.ref ka) (zb "labels" l (zb "kind" kk []))))=H1
  have k1:∀ b o,H b=some o->b≠t->H1 b=some o:=fun b o e n=>by rw [<- hH1,qd n]; exact e
  have ht1:H1 t=some (.ins a.Node dx (zb "kids" (.ref ka) (zb "labels" l (zb "kind" kk [])))):=by rw [<- hH1]; exact qc
  have hka1:=k1 _ _ hka tka
  refine ⟨_,rfl,ka,rfl,⟨_,SqL.of hka1⟩,fun D hD=>qhk (K:=K) (a:=ka) (xs:=ks.map V.ref) (fun i H'=>H'=upd H1 D (.lst ((ds.take i).map V.int))) rfl (fun i H' _ e=>by subst e; exact SqL.of (qp hD _ _ hka1)) ?_ ?_⟩
  ·rintro i x _ hx rfl
   obtain ⟨kd,hkd,rfl⟩:∃ y,ks[i]? = some y/\V.ref y=x:=by
    rw [List.getElem?_map] at hx
    exact Option.map_eq_some_iff.mp hx
   have hil:i<ks.length:=(List.getElem?_eq_some_iff.mp hkd).1
   have hdl:i<ds.length:=by rw [<- Paired.length hks]; exact hil
   obtain ⟨kd',h1,dx',x1,y1,z1,h2⟩:=zU hks (List.getElem?_eq_getElem hdl)
   rw [hkd] at h1
   cases h1
   have nt':kd≠t:=fun e=>by
    subst e
    rw [ht] at h2
    have:=Option.some.inj h2
    injection this with _ _ e3
    cases e3
   refine ⟨rfl,⟨_,rfl,kd,_,dx',_,_,rfl,qp hD _ _ (k1 _ _ h2 nt'),T.c_Node,T.n_Node_depth,qdp _ _ _ _,_,qc,?_,?_⟩⟩
   ·rw [List.length_map,List.length_take]
    exact Nat.lt_of_le_of_lt (Nat.min_le_left _ _) (jC (by omega))
   ·rw [jO]
    congr 2
    rw [List.take_succ,List.getElem?_eq_getElem hdl,List.map_append]
    rfl
  ·rintro _ rfl
   rw [List.length_map,Paired.length hks,List.take_length]
   have s2:=qp (o:=.lst (ds.map V.int)) hD
   refine ⟨D,ds,rfl,SqL.of qc,fun m h1 h2=>⟨_,_,rfl,rfl,_,rfl,t,_,dx,_,rfl,s2 _ _ ht1,T.c_Node,T.n_Node_depth,(by show 3<1000; decide),?_⟩⟩
   refine k _ m (fun b o e n=>?_) h1 h2 ?_
   ·rw [qd n]; exact s2 _ _ (k1 b o e n)
   ·exact qc
theorem qe9:qm ["self","first"] ["self","first"] (qe Ql):=⟨rfl,rfl,rfl,by decide +kernel,rfl,by decide +kernel,by decide +kernel⟩
theorem qfa (F:Fun K "__init__" "Begun.__init__" Ql f fd) (T:Tx P w K mg a):qw P w K mg base CX0 1 f fd ["self","first"] (qd4 a):=by
 refine F.ok qe9 (fun vs H Q E h=>?_) (fun cdv A outer s H vs Q E hr h=>?_)
 ·obtain ⟨g,dx,n,rfl,_⟩:=h; rfl
 ·obtain ⟨g,dx,n,rfl,hg,k⟩:=h
  refine ⟨_,qi (zy (pv 0) (pv 1) rfl) (qi (zy (pv 0) (qX qg) rfl) (qf (zy (pv 0) qkG rfl))),?_⟩
  refine ⟨_,rfl,_,rfl,g,_,dx,_,rfl,hg,T.c_Begun,T.n_Begun_first,(by show 0<1000; decide),?_⟩
  refine ⟨Nat.zero_le _,fun la hla=>?_⟩
  have gla:g≠la:=qh qc hla
  rw [qd (Ne.symm gla)] at hla
  refine ⟨_,rfl,g,_,dx,_,rfl,(qd gla).trans qc,T.c_Begun,T.n_Begun_labels,(by show 1<1000; decide),fun na hna=>?_⟩
  have gna:g≠na:=qh qc hna
  rw [qd (Ne.symm gna)] at hna
  have lna:la≠na:=qh qc hna
  rw [qd (Ne.symm lna),qd (Ne.symm gna)] at hna
  refine ⟨_,rfl,g,_,dx,_,rfl,(qd gna).trans qc,T.c_Begun,T.n_Begun_names,(by show 2<1000; decide),?_⟩
  refine k _ la na (fun b o e n=>?_) hla hna lna qc ?_ ?_
  ·rw [qd n,qd (qh e hna),qd n,qd (qh e hla),qd n]; exact e
  ·rw [qd (Ne.symm gla),qd lna,qd (Ne.symm gla),qc]
  ·rw [qd (Ne.symm gna),qc]
end
end RT
end
section
namespace RT
open PySem PySem.Spec PyProof.Rows L2
open Vastoa (Mark Marks)
open RM (Part Sym qD kd held MS Bg)
def keyOf (x:List Nat):List Key:=x.map fun n=>Sum.inl ((n:Nat):Int)
theorem qlb (x:List Nat):(keyOf x).map kV=nt x:=by simp [keyOf,nt,kV]
theorem qjT {x y:List Nat} (h:keyOf x=keyOf y):x=y:=by
 unfold keyOf at h
 exact (List.map_inj_right (fun p q z=>by have:=Sum.inl.inj z; omega)).mp h
def Zi (ns:List (List Nat)):List (List Key × V):=ns.map fun x=>(keyOf x,V.bl true)
theorem qb1 (x:List Nat):∀ ns:List (List Nat),zz (Zi ns) (keyOf x)=if x∈ns then some (.bl true) else none
 | []=>rfl
 | y::ns=>by
  have ih:=qb1 x ns
  unfold Zi at ih ⊢
  by_cases h:y=x
  ·subst h
   rw [List.map_cons,JO rfl,if_pos List.mem_cons_self]
  ·rw [List.map_cons,JP (fun z=>h (qjT z)),ih]
   by_cases h2:x∈ns
   ·rw [if_pos h2,if_pos (List.mem_cons_of_mem _ h2)]
   ·rw [if_neg h2,if_neg (by rw [List.mem_cons]; exact fun z=>z.elim (fun z=>h z.symm) h2)]
theorem qjU {x:List Nat} {ns:List (List Nat)} (h:x∉ns):putK (Zi ns) (keyOf x) (.bl true)=Zi (ns++[x]):=by
 have e:zz (Zi ns) (keyOf x)=none:=by rw [qb1,if_neg h]
 refine (qkE _ e).trans ?_
 simp [Zi]
def qjV (a:Ad) (K:PySem.W.Frag):Sp:=fun vs H Q E=>∃ (na t:Addr) (ns:List (List Nat)) (m:Mark),vs=[.ref na,.ref t]/\H na=some (.dT (Zi ns))/\Qc a M0 H t m/\ns.length<=1000000 /\
 (held m.tok∈ns->XW K a.Refusal H 5 m.place E)/\(held m.tok∉ns->∀ H',(∀ b o,H b=some o->b≠na->H' b=some o)->H' na=some (.dT (Zi (ns++[held m.tok])))->Q .non H')
section
variable {P:Program} {w:World} {K:PySem.W.Frag} {mg:Str->Option Value} {base:Heap} {f:Addr} {fd:FuncData} {a:Ad}
theorem qb2:qm ["names","token","name"] ["names","token"] (qe QD):=⟨rfl,rfl,rfl,by decide +kernel,rfl,by decide +kernel,by decide +kernel⟩
theorem qgh (F:Fun K "meet_name" "meet_name" QD f fd) (T:Tx P w K mg a) (Gx:QL P w K mg base 2 a.NameTwice "NameTwice" ["self","place"] (spX a.NameTwice 5 true)):qw P w K mg base (CXR P w) 4 f fd ["names","token"] (qjV a K):=by
 refine F.okR qb2 (fun vs H Q E h=>?_) (fun cdv A outer s H vs Q E hr h=>?_)
 ·obtain ⟨na,t,ns,m,rfl,_⟩:=h; rfl
 ·obtain ⟨na,t,ns,m,rfl,hna,⟨dx,ha,ht,hha,_,_⟩,hlen,kx,ko⟩:=h
  have hu:=qn0 hr
  refine ⟨_,qi (qZ (i:=2) qb2.nd rfl (Or.inl rfl) (qi3 qe1 (by rfl) T.b_tuple PyProof.Rows.boot_tuple (qa (qj (pv 1) rfl) qg)))
   (qi (qQ (qfo (qm7 hu (pv 2) (pv 0))) (qf (Qb Gx hr (qa (qj (pv 1) rfl) qg))) zf)
   (qf (ql7 hu (pv 0) (pv 2) qaK rfl))),?_⟩
  refine ⟨_,rfl,t,_,dx,_,_,rfl,ht,T.c_Token,T.n_Token_held,qeO _ _ _,ha,_,rfl,.inl ⟨SqL.of hha,fun p hp=>?_⟩⟩
  have s1:=qp (o:=.tup (nt (held m.tok))) hp
  have hp1:(upd H p (.tup (nt (held m.tok)))) p=some (.tup ((keyOf (held m.tok)).map kV)):=by rw [qlb]; exact qc
  refine ⟨_,rfl,_,rfl,na,_,rfl,qfA.t (s1 _ _ hna) hp1,_,rfl,?_⟩
  rw [qb1]
  by_cases hm:held m.tok∈ns
  ·rw [if_pos hm]
   refine zP ⟨_,rfl,t,_,dx,_,_,rfl,s1 _ _ ht,T.c_Token,T.n_Token_place,qa0 _ _ _,?_⟩
   exact Q9 T.x_NameTwice T.u_NameTwice T.n_NameTwice_number T.n_NameTwice_place (fun C dx' H' s2 x=>kx hm C dx' H' (s1.trans s2) x)
  ·rw [if_neg hm]
   refine zx ⟨_,rfl,_,rfl,na,_,rfl,qfB.t (s1 _ _ hna) hp1 (by unfold Zi; rw [List.length_map]; exact jC hlen),?_⟩
   rw [qjU hm]
   refine ko hm _ (fun b o e n=>?_) qc
   rw [qd n]; exact s1 _ _ e
end
end RT
end
section
namespace RT
open PySem PySem.Spec PyProof.Rows L2
open Vastoa (Mark Marks)
open RM (Part Sym qD kd held MS Bg)
structure BA where
 g:Addr
 la:Addr
 na:Addr
structure RA where
 r:Addr
 dx:Addr
 ts:Addr
 wl:Addr
 bl:Addr
 gl:Addr
 gs:List BA
def QJ (gs:List BA):List Addr:=gs.flatMap fun x=>[x.la,x.na]
def RA.own (z:RA):List Addr:=z.wl::z.bl::z.gl::QJ z.gs
def RA.M (z:RA) (b:Addr):Prop:=b=z.r \/ b∈z.own
theorem RA.mr (z:RA):z.M z.r:=.inl rfl
theorem RA.mw (z:RA):z.M z.wl:=.inr List.mem_cons_self
theorem RA.mb (z:RA):z.M z.bl:=.inr (List.mem_cons_of_mem _ List.mem_cons_self)
theorem RA.mg (z:RA):z.M z.gl:=.inr (List.mem_cons_of_mem _ (List.mem_cons_of_mem _ List.mem_cons_self))
theorem zV {gs:List BA} {x:BA} (h:x∈gs):x.la∈QJ gs/\x.na∈QJ gs:=⟨List.mem_flatMap.mpr ⟨x,h,by simp⟩,List.mem_flatMap.mpr ⟨x,h,by simp⟩⟩
theorem RA.mo (z:RA) {b:Addr} (h:b∈QJ z.gs):z.M b:=.inr (List.mem_cons_of_mem _ (List.mem_cons_of_mem _ (List.mem_cons_of_mem _ h)))
theorem Qs {A B:Type} {R S:A->B->Prop}:∀ {as:List A} {bs:List B},(∀ x y,x∈as->R x y->S x y)->Paired R as bs->Paired S as bs
 | _,_,_,.nil=>.nil
 | _,_,i,.cons q t=>.cons (i _ _ List.mem_cons_self q) (Qs (fun x y h=>i x y (List.mem_cons_of_mem _ h)) t)
def qb3 (a:Ad) (M:Addr->Prop) (H:Hp) (x:BA) (g:Bg):Prop:=∃ dx lb,(H x.g=some (.ins a.Begun dx (qdU (.int (g.first:Int)) (.ref x.la) (.ref x.na)))/\¬ M x.g)/\H x.la=some (.lst (lb.map V.ref))/\qaC M H lb g.labels/\H x.na=some (.dT (Zi g.names))
structure qR (a:Ad) (H:Hp) (z:RA) (toks:Marks) (n:Nat) (S:MS):Prop where
 ins:H z.r=some (.ins a.Reader z.dx (Zc (.ref z.ts) (.int (n:Int)) (.int (S.lv:Int)) (.ref z.wl) (.ref z.bl) (.ref z.gl)))
 tks:∃ as,(H z.ts=some (.lst (as.map V.ref))/\¬ z.M z.ts)/\Paired (Qc a z.M H) as toks
 wl:H z.wl=some (.lst (S.W.reverse.map fun s=>V.str (Qg s)))
 bl:∃ bs,H z.bl=some (.lst (bs.map V.ref))/\qy a z.M H S.B bs
 gl:H z.gl=some (.lst ((z.gs.map (·.g)).reverse.map V.ref))
 gs:Paired (qb3 a z.M H) z.gs S.G
 nd:z.own.Nodup
 ts:S.ts=toks.drop n
 pv:atI toks ((n:Int) - 1)=some S.pv
section
variable {a:Ad} {H H':Hp} {z:RA} {toks:Marks} {n:Nat} {S:MS}
theorem qb3.pass {M M':Addr->Prop} {x:BA} {g:Bg} (p:Pass M H M' H') (h:qb3 a M H x g) (h1:H' x.la=H x.la) (h2:H' x.na=H x.na):qb3 a M' H' x g:=by
 obtain ⟨dx,lb,q1,q2,q3,q4⟩:=h
 exact ⟨dx,lb,p _ _ q1.1 q1.2,by rw [h1]; exact q2,q3.pass p,by rw [h2]; exact q4⟩
theorem qR.own_some (h:qR a H z toks n S) {b:Addr} (hb:b∈z.own):∃ o,H b=some o/\∀ C d fs,o≠.ins C d fs:=by
 rcases List.mem_cons.mp hb with rfl | hb
 ·exact ⟨_,h.wl,fun _ _ _ q=>by cases q⟩
 rcases List.mem_cons.mp hb with rfl | hb
 ·obtain ⟨bs,h1,_⟩:=h.bl
  exact ⟨_,h1,fun _ _ _ q=>by cases q⟩
 rcases List.mem_cons.mp hb with rfl | hb
 ·exact ⟨_,h.gl,fun _ _ _ q=>by cases q⟩
 obtain ⟨x,hx,hb⟩:=List.mem_flatMap.mp hb
 obtain ⟨i,hi⟩:=List.getElem?_of_mem hx
 have hl:=(List.getElem?_eq_some_iff.mp hi).1
 have hlG:i<S.G.length:=by rw [<- Paired.length h.gs]; exact hl
 obtain ⟨x',e1,dx,lb,_,q2,_,q4⟩:=zU h.gs (List.getElem?_eq_getElem hlG)
 rw [hi] at e1
 cases e1
 rcases List.mem_cons.mp hb with rfl | hb
 ·exact ⟨_,q2,fun _ _ _ q=>by cases q⟩
 ·have:b=x.na:=by simpa using hb
  subst this
  exact ⟨_,q4,fun _ _ _ q=>by cases q⟩
theorem qR.fresh (h:qR a H z toks n S) {p:Addr} (hp:H p=none):¬ z.M p:=by
 rintro (rfl | hb)
 ·rw [h.ins] at hp; cases hp
 ·obtain ⟨o,e,_⟩:=h.own_some hb
  rw [e] at hp; cases hp
theorem qR.nr (h:qR a H z toks n S) {b:Addr} (hb:b∈z.own):b≠z.r:=fun e=>by
 obtain ⟨o,e1,e2⟩:=h.own_some hb
 rw [e,h.ins] at e1
 cases e1
 exact e2 _ _ _ rfl
theorem J7 {M:Addr->Prop} (s:qF H H'):Pass M H M H':=fun b o e n=>⟨s b o e,n⟩
theorem jN {M:Addr->Prop} (k:qo M H H'):Pass M H M H':=fun b o e n=>⟨k b o e n,n⟩
theorem qR.same (h:qR a H z toks n S) (s:qF H H'):qR a H' z toks n S:=by
 obtain ⟨as,t1,t2⟩:=h.tks
 obtain ⟨bs,b1,b2⟩:=h.bl
 have p:Pass z.M H z.M H':=J7 s
 refine ⟨s _ _ h.ins,⟨as,⟨s _ _ t1.1,t1.2⟩,qW (fun x y q=>q.pass p) t2⟩,s _ _ h.wl,⟨bs,s _ _ b1,qy.pass p _ _ b2⟩,s _ _ h.gl,qW (fun x y q=>?_) h.gs,h.nd,h.ts,h.pv⟩
 obtain ⟨dx,lb,q1,q2,q3,q4⟩:=q
 exact ⟨dx,lb,p _ _ q1.1 q1.2,s _ _ q2,q3.pass p,s _ _ q4⟩
theorem qR.put (h:qR a H z toks n S) (n' lv':Nat) (ts':Marks) (pv':Mark) (ht:ts'=toks.drop n') (hp:atI toks ((n':Int) - 1)=some pv') :
  qR a (upd H z.r (.ins a.Reader z.dx (Zc (.ref z.ts) (.int (n':Int)) (.int (lv':Int)) (.ref z.wl) (.ref z.bl) (.ref z.gl)))) z toks n' { S with ts:=ts',pv:=pv',lv:=lv' }:=by
 obtain ⟨as,t1,t2⟩:=h.tks
 obtain ⟨bs,b1,b2⟩:=h.bl
 have k:qo z.M H (upd H z.r (.ins a.Reader z.dx (Zc (.ref z.ts) (.int (n':Int)) (.int (lv':Int)) (.ref z.wl) (.ref z.bl) (.ref z.gl)))):=qo.at_ z.mr
 have p:=jN k
 have o:∀ b,b∈z.own->(upd H z.r (.ins a.Reader z.dx (Zc (.ref z.ts) (.int (n':Int)) (.int (lv':Int)) (.ref z.wl) (.ref z.bl) (.ref z.gl)))) b=H b:=fun b hb=>qd (h.nr hb)
 refine ⟨qc,⟨as,p _ _ t1.1 t1.2,qW (fun x y q=>q.pass p) t2⟩,?_,⟨bs,?_,qy.pass p _ _ b2⟩,?_,?_,h.nd,ht,hp⟩
 ·rw [o _ (by simp [RA.own])]; exact h.wl
 ·rw [o _ (by simp [RA.own])]; exact b1
 ·rw [o _ (by simp [RA.own])]; exact h.gl
 ·refine Qs (fun x y hx q=>q.pass p (o _ ?_) (o _ ?_)) h.gs
  ·simp only [RA.own,List.mem_cons]; exact .inr (.inr (.inr (zV hx).1))
  ·simp only [RA.own,List.mem_cons]; exact .inr (.inr (.inr (zV hx).2))
end
end RT
end
section
namespace RT
open PySem PySem.Spec PyProof.Rows L2
open Vastoa (Mark Marks)
open RM (Part Sym qD kd held MS Bg)
def wV (W:List Sym):List V:=W.reverse.map fun s=>V.str (Qg s)
section
variable {a:Ad} {H H':Hp} {z:RA} {toks:Marks} {n:Nat} {S:MS}
theorem qR.nwl (h:qR a H z toks n S):z.wl≠z.bl/\z.wl≠z.gl/\z.wl∉QJ z.gs:=by
 have:=List.nodup_cons.mp h.nd
 simp only [List.mem_cons,not_or] at this
 exact ⟨this.1.1,this.1.2.1,this.1.2.2⟩
theorem qR.nbl (h:qR a H z toks n S):z.bl≠z.gl/\z.bl∉QJ z.gs:=by
 have:=List.nodup_cons.mp (List.nodup_cons.mp h.nd).2
 simp only [List.mem_cons,not_or] at this
 exact this.1
theorem qR.ngl (h:qR a H z toks n S):z.gl∉QJ z.gs/\(QJ z.gs).Nodup:=List.nodup_cons.mp (List.nodup_cons.mp (List.nodup_cons.mp h.nd).2).2
theorem qR.ow (z:RA):z.wl∈z.own:=by simp [RA.own]
theorem qR.ob (z:RA):z.bl∈z.own:=by simp [RA.own]
theorem qR.og (z:RA):z.gl∈z.own:=by simp [RA.own]
theorem qR.oo (z:RA) {b:Addr} (h:b∈QJ z.gs):b∈z.own:=by simp only [RA.own,List.mem_cons]; exact .inr (.inr (.inr h))
theorem qR.putW (h:qR a H z toks n S) (W':List Sym):qR a (upd H z.wl (.lst (wV W'))) z toks n { S with W:=W' }:=by
 obtain ⟨as,t1,t2⟩:=h.tks
 obtain ⟨bs,b1,b2⟩:=h.bl
 obtain ⟨n1,n2,n3⟩:=h.nwl
 have k:qo z.M H (upd H z.wl (.lst (wV W'))):=qo.at_ z.mw
 have p:=jN k
 refine ⟨by rw [qd (Ne.symm (h.nr (qR.ow z)))]; exact h.ins,⟨as,p _ _ t1.1 t1.2,qW (fun x y q=>q.pass p) t2⟩,qc,⟨bs,by rw [qd (Ne.symm n1)]; exact b1,qy.pass p _ _ b2⟩,by rw [qd (Ne.symm n2)]; exact h.gl,?_,h.nd,h.ts,h.pv⟩
 refine Qs (fun x y hx q=>q.pass p (qd ?_) (qd ?_)) h.gs
 ·exact fun e=>n3 (e ▸ (zV hx).1)
 ·exact fun e=>n3 (e ▸ (zV hx).2)
theorem qR.putB (h:qR a H z toks n S) {bs:List Addr} {B':List Vastoa.Tree} (hb:qy a z.M H B' bs):qR a (upd H z.bl (.lst (bs.map V.ref))) z toks n { S with B:=B' }:=by
 obtain ⟨as,t1,t2⟩:=h.tks
 obtain ⟨n1,n2,n3⟩:=h.nwl
 obtain ⟨m1,m2⟩:=h.nbl
 have k:qo z.M H (upd H z.bl (.lst (bs.map V.ref))):=qo.at_ z.mb
 have p:=jN k
 refine ⟨by rw [qd (Ne.symm (h.nr (qR.ob z)))]; exact h.ins,⟨as,p _ _ t1.1 t1.2,qW (fun x y q=>q.pass p) t2⟩,by rw [qd n1]; exact h.wl,⟨bs,qc,qy.pass p _ _ hb⟩,by rw [qd (Ne.symm m1)]; exact h.gl,?_,h.nd,h.ts,h.pv⟩
 refine Qs (fun x y hx q=>q.pass p (qd ?_) (qd ?_)) h.gs
 ·exact fun e=>m2 (e ▸ (zV hx).1)
 ·exact fun e=>m2 (e ▸ (zV hx).2)
end
def QN (a:Ad) (K:PySem.W.Frag) (z:RA) (toks:Marks) (H:Hp) (r:Option (Except Vastoa.Fault MS)) (Q:Hp->Prop) (E:XK):Prop:=match r with
 | some (.ok S')=>∀ H' z' n',z'.r=z.r->Pass z.M H z'.M H'->qR a H' z' toks n' S'->Q H'
 | some (.error f)=>XWM z.M K a.Refusal H (f.kind:Int) (f.place:Int) E
 | none=>False
def qeT (a:Ad) (K:PySem.W.Frag):Sp:=fun vs H Q E=>∃ (z:RA) (toks:Marks) (n:Nat) (S:MS) (k:qbV) (m:Mark) (r:Marks),vs=[.ref z.r,.str (jW k)]/\qR a H z toks n S/\k∈jS/\CM.Jd m.tok=true/\S.ts=m::r /\
 QN a K z toks H (if kd m.tok=k then some (.ok ⟨r,m,S.lv,S.W,S.B,S.G⟩) else some (.error ⟨3,m.place⟩)) (Q .non) E
def qhx (a:Ad) (K:PySem.W.Frag):Sp:=fun vs H Q E=>∃ (z:RA) (toks:Marks) (n:Nat) (S:MS),vs=[.ref z.r]/\qR a H z toks n S/\QN a K z toks H (RM.qaU .enter S.ts S.pv S.lv S.W S.B S.G) (Q .non) E
theorem qa9 {toks:Marks} {n:Nat} {m:Mark} {r:Marks} (h:m::r=toks.drop n):toks[n]? = some m/\toks.drop (n+1)=r:=by
 constructor
 ·have:(toks.drop n)[0]? = some m:=by rw [<- h]; rfl
  rw [List.getElem?_drop] at this
  exact this
 ·rw [<- List.drop_drop,<- h]; rfl
theorem JB {M M1 M2:Addr->Prop} {H H1 H2:Hp} (p:Pass M H M1 H1) (q:Pass M1 H1 M2 H2):Pass M H M2 H2:=fun b o e n=>q b o (p b o e n).1 (p b o e n).2
section
variable {P:Program} {w:World} {K:PySem.W.Frag} {mg:Str->Option Value} {base:Heap} {f:Addr} {fd:FuncData} {a:Ad}
theorem qbl:qm ["self","kind","token"] ["self","kind"] (qe z6):=⟨rfl,rfl,rfl,by decide +kernel,rfl,by decide +kernel,by decide +kernel⟩
theorem qfb (F:Fun K "read_token" "Reader.read_token" z6 f fd) (T:Tx P w K mg a) (Gx:QL P w K mg base 2 a.WrongSyntax "WrongSyntax" ["self","place"] (spX a.WrongSyntax 3 true)):qw P w K mg base (CXR P w) 4 f fd ["self","kind"] (qeT a K):=by
 refine F.okR qbl (fun vs H Q E h=>?_) (fun cdv A outer s H vs Q E hr h=>?_)
 ·obtain ⟨z,toks,n,S,k,m,r,rfl,_⟩:=h; rfl
 ·obtain ⟨z,toks,n,S,k,m,r,rfl,hR,hk,hm,hts,res⟩:=h
  refine ⟨_,qi (qZ (i:=2) qbl.nd rfl (Or.inl rfl) (jj zp (qj (pv 0) rfl) (qj (pv 0) rfl) (fun _ _=>rfl)))
   (qi (qQ (qI qnS (qj (pv 2) rfl) (pv 1) (qU _)) (qf (Qb Gx hr (qa (qj (pv 2) rfl) qg))) zf)
   (qf (Qn (pv 0) qr JJ))),?_⟩
  obtain ⟨as,t1,t2⟩:=hR.tks
  obtain ⟨e1,e2⟩:=qa9 (hts.symm.trans hR.ts)
  obtain ⟨t,ht,dx,ha,ht1,ht2,_,_⟩:=zU t2 e1
  refine ⟨_,rfl,z.r,_,z.dx,_,_,rfl,hR.ins,T.c_Reader,T.n_Reader_tokens,Zh _ _ _ _ _ _,_,rfl,z.r,_,z.dx,_,_,rfl,hR.ins,T.c_Reader,T.n_Reader_at,JE _ _ _ _ _ _,z.ts,_,_,_,rfl,rfl,SqL.of t1.1,jF (v:=V.ref t) (by rw [List.getElem?_map,ht]; rfl),?_⟩
  refine ⟨_,rfl,t,_,dx,_,_,rfl,ht1,T.c_Token,T.n_Token_kind,qeN _ _ _,_,rfl,rfl,_,rfl,?_⟩
  have iff:(V.str (jW m.tok)=V.str (jW k)) ↔ kd m.tok=k:=by
   constructor
   ·intro e
    injection e with e
    rw [<- qd2] at e
    exact qk9 _ (qa6 hm) _ hk e
   ·intro e; rw [<- e,qd2]
  by_cases hkd:kd m.tok=k
  ·rw [decide_eq_true (iff.mpr hkd)]
   rw [if_pos hkd] at res
   refine zx ⟨_,rfl,z.r,_,z.dx,_,_,rfl,hR.ins,T.c_Reader,T.n_Reader_at,JE _ _ _ _ _ _,_,_,rfl,rfl,z.dx,_,hR.ins,(by show 6<1000; decide),?_⟩
   exact res _ z (n+1) rfl (jN (qo.at_ z.mr)) (hR.put (n+1) S.lv r m e2.symm (by rw [show (((n+1:Nat):Int) - 1)=(n:Int) by omega]; exact jF e1))
  ·rw [decide_eq_false (fun y=>hkd (iff.mp y))]
   rw [if_neg hkd] at res
   refine zP ⟨_,rfl,t,_,dx,_,_,rfl,ht1,T.c_Token,T.n_Token_place,qa0 _ _ _,?_⟩
   exact Q9 T.x_WrongSyntax T.u_WrongSyntax T.n_WrongSyntax_number T.n_WrongSyntax_place (XWM.on res (qo.refl _ _))
theorem qd5:qm ["self"] ["self"] (qe zT):=⟨rfl,rfl,rfl,by decide +kernel,rfl,by decide +kernel,by decide +kernel⟩
theorem qd6 (F:Fun K "enter_level" "Reader.enter_level" zT f fd) (T:Tx P w K mg a) (Gx:QL P w K mg base 2 a.LevelTooDeep "LevelTooDeep" ["self","place"] (spX a.LevelTooDeep 4 true)):qw P w K mg base (CXR P w) 4 f fd ["self"] (qhx a K):=by
 refine F.okR qd5 (fun vs H Q E h=>?_) (fun cdv A outer s H vs Q E hr h=>?_)
 ·obtain ⟨z,toks,n,S,rfl,_⟩:=h; rfl
 ·obtain ⟨z,toks,n,S,rfl,hR,res⟩:=h
  refine ⟨_,qi (qQ (qI z9 (qj (pv 0) rfl) (qL T.g_MOST_LEVELS) (qU _)) (qf (Qb Gx hr (qa (qj (jj zp (qj (pv 0) rfl) (qj (pv 0) rfl) (fun _ _=>rfl)) rfl) qg))) zf)
   (qf (Qn (pv 0) qr JJ)),?_⟩
  refine ⟨_,rfl,z.r,_,z.dx,_,_,rfl,hR.ins,T.c_Reader,T.n_Reader_level,qa2 _ _ _ _ _ _,rfl,_,rfl,?_⟩
  cases hS:S.ts with
  | nil=>rw [hS] at res; exact res.elim
  | cons m r=>
   rw [hS] at res
   obtain ⟨as,t1,t2⟩:=hR.tks
   obtain ⟨e1,e2⟩:=qa9 (hS.symm.trans hR.ts)
   obtain ⟨t,ht,dx,ha,ht1,ht2,_,_⟩:=zU t2 e1
   by_cases hl:S.lv=40
   ·rw [decide_eq_true (by rw [hl]; rfl)]
    have res:QN a K z toks H (if S.lv=40 then some (.error ⟨4,m.place⟩) else _) (Q .non) E:=res
    rw [if_pos hl] at res
    refine zP ⟨_,rfl,z.r,_,z.dx,_,_,rfl,hR.ins,T.c_Reader,T.n_Reader_tokens,Zh _ _ _ _ _ _,_,rfl,z.r,_,z.dx,_,_,rfl,hR.ins,T.c_Reader,T.n_Reader_at,JE _ _ _ _ _ _,z.ts,_,_,_,rfl,rfl,SqL.of t1.1,jF (v:=V.ref t) (by rw [List.getElem?_map,ht]; rfl),t,_,dx,_,_,rfl,ht1,T.c_Token,T.n_Token_place,qa0 _ _ _,?_⟩
    exact Q9 T.x_LevelTooDeep T.u_LevelTooDeep T.n_LevelTooDeep_number T.n_LevelTooDeep_place (XWM.on res (qo.refl _ _))
   ·rw [decide_eq_false (fun y=>hl (by injection y with y; omega))]
    have res:QN a K z toks H (if S.lv=40 then some (.error ⟨4,m.place⟩) else some (.ok ⟨m::r,S.pv,S.lv+1,S.W,S.B,S.G⟩)) (Q .non) E:=res
    rw [if_neg hl] at res
    refine zx ⟨_,rfl,z.r,_,z.dx,_,_,rfl,hR.ins,T.c_Reader,T.n_Reader_level,qa2 _ _ _ _ _ _,_,_,rfl,rfl,z.dx,_,hR.ins,(by show 6<1000; decide),?_⟩
    exact res _ z n rfl (jN (qo.at_ z.mr)) (hR.put n (S.lv+1) (m::r) S.pv (by rw [<- hS]; exact hR.ts) hR.pv)
end
end RT
end
section
namespace RT
open PySem PySem.Spec PyProof.Rows L2
open Vastoa (Mark Marks)
open RM (Part Sym qD kd held MS Bg)
theorem qcD {A B:Type} {R:A->B->Prop}:∀ {as:List A} {bs:List B} (n:Nat),Paired R as bs->Paired R (as.take n) (bs.take n)
 | _,_,0,_=>.nil
 | _,_,_+1,.nil=>.nil
 | _,_,n+1,.cons q t=>.cons q (qcD n t)
theorem qcE {A B:Type} {R:A->B->Prop}:∀ {as:List A} {bs:List B} (n:Nat),Paired R as bs->Paired R (as.drop n) (bs.drop n)
 | _,_,0,r=>r
 | _,_,_+1,.nil=>.nil
 | _,_,n+1,.cons q t=>qcE n t
theorem qR.pop {a:Ad} {H:Hp} {z:RA} {toks:Marks} {n:Nat} {S:MS} {x:BA} {gs:List BA} {g:Bg} {G:List Bg} (h:qR a H z toks n S) (ez:z.gs=x::gs) (eG:S.G=g::G) :
  qR a (upd H z.gl (.lst ((gs.map (·.g)).reverse.map V.ref))) { z with gs:=gs } toks n { S with G:=G }/\Pass z.M H ({ z with gs:=gs }:RA).M (upd H z.gl (.lst ((gs.map (·.g)).reverse.map V.ref))) /\
  qb3 a ({ z with gs:=gs }:RA).M (upd H z.gl (.lst ((gs.map (·.g)).reverse.map V.ref))) x g/\¬ ({ z with gs:=gs }:RA).M x.la:=by
 obtain ⟨as,t1,t2⟩:=h.tks
 obtain ⟨bs,b1,b2⟩:=h.bl
 obtain ⟨n1,n2,n3⟩:=h.nwl
 obtain ⟨m1,m2⟩:=h.nbl
 obtain ⟨g1,g2⟩:=h.ngl
 have hgs:=h.gs
 rw [ez] at n3 m2 g1 g2 hgs
 rw [eG] at hgs
 have eo:QJ (x::gs)=x.la::x.na::QJ gs:=rfl
 rw [eo] at n3 m2 g1 g2
 simp only [List.mem_cons,not_or] at n3 m2 g1
 obtain ⟨nd1,nd2⟩:=List.nodup_cons.mp g2
 obtain ⟨nd3,nd4⟩:=List.nodup_cons.mp nd2
 simp only [List.mem_cons,not_or] at nd1
 have sub:∀ b,({ z with gs:=gs }:RA).M b->z.M b:=fun b hb=>by
  rcases hb with hb | hb
  ·exact .inl hb
  ·refine .inr ?_
   simp only [RA.own,List.mem_cons] at hb ⊢
   rcases hb with hb | hb | hb | hb
   ·exact .inl hb
   ·exact .inr (.inl hb)
   ·exact .inr (.inr (.inl hb))
   ·refine .inr (.inr (.inr ?_))
    rw [ez,eo]
    exact List.mem_cons_of_mem _ (List.mem_cons_of_mem _ hb)
 have k:qo z.M H (upd H z.gl (.lst ((gs.map (·.g)).reverse.map V.ref))):=qo.at_ z.mg
 have p:Pass z.M H ({ z with gs:=gs }:RA).M (upd H z.gl (.lst ((gs.map (·.g)).reverse.map V.ref))):=fun b o e nb=>⟨k b o e nb,fun y=>nb (sub b y)⟩
 have hr:∀ b,b∈z.own->b≠z.r:=fun b hb=>h.nr hb
 cases hgs with
 | cons q0 qs=>
  refine ⟨⟨?_,⟨as,p _ _ t1.1 t1.2,qW (fun x y q=>q.pass p) t2⟩,?_,⟨bs,?_,qy.pass p _ _ b2⟩,qc,?_,?_,h.ts,h.pv⟩,p,?_,?_⟩
  ·show upd H z.gl _ z.r=_
   rw [qd (Ne.symm (h.nr (qR.og z)))]; exact h.ins
  ·show upd H z.gl _ z.wl=_
   rw [qd n2]; exact h.wl
  ·show upd H z.gl _ z.bl=_
   rw [qd m1]; exact b1
  ·refine Qs (fun x y hx q=>q.pass p (qd ?_) (qd ?_)) qs
   ·exact fun e=>g1.2.2 (e ▸ (zV hx).1)
   ·exact fun e=>g1.2.2 (e ▸ (zV hx).2)
  ·show (z.wl::z.bl::z.gl::QJ gs).Nodup
   exact List.nodup_cons.mpr ⟨by simp only [List.mem_cons,not_or]; exact ⟨n1,n2,n3.2.2⟩,List.nodup_cons.mpr ⟨by simp only [List.mem_cons,not_or]; exact ⟨m1,m2.2.2⟩,List.nodup_cons.mpr ⟨g1.2.2,nd4⟩⟩⟩
  ·exact q0.pass p (qd (Ne.symm g1.1)) (qd (Ne.symm g1.2.1))
  ·rintro (y | y)
   ·obtain ⟨dx,lb,_,q2,_,_⟩:=q0
    rw [y,h.ins] at q2
    cases q2
   ·simp only [RA.own,List.mem_cons] at y
    rcases y with y | y | y | y
    ·exact n3.1 y.symm
    ·exact m2.1 y.symm
    ·exact g1.1 y.symm
    ·exact nd1.2 y
def qeU (a:Ad):Sp:=fun vs H Q E=>∃ (z:RA) (toks:Marks) (n:Nat) (S:MS) (k:qfi) (g:Bg) (G:List Bg),vs=[.ref z.r,.str (kindS k)]/\qR a H z toks n S/\S.B.length<=1000000/\S.G=g::G/\g.first<=S.B.length /\
 ∀ H' z',z'.r=z.r->Pass z.M H z'.M H'->qR a H' z' toks n ⟨S.ts,S.pv,S.lv,S.W,S.B.take g.first++[.node k g.labels (S.B.drop g.first)],G⟩->Q .non H'
section
variable {P:Program} {w:World} {K:PySem.W.Frag} {mg:Str->Option Value} {base:Heap} {f:Addr} {fd:FuncData} {a:Ad}
theorem qam:qm ["self","kind","begun","kids"] ["self","kind"] (qe jp):=⟨rfl,rfl,rfl,by decide +kernel,rfl,by decide +kernel,by decide +kernel⟩
theorem qg3 (F:Fun K "end_node" "Reader.end_node" jp f fd) (T:Tx P w K mg a) (Gn:qcS P w K mg base CX0 1 a.Node "Node" ["self","kind","labels","kids"] (qjS a)):qw P w K mg base CX0 3 f fd ["self","kind"] (qeU a):=by
 refine F.ok qam (fun vs H Q E h=>?_) (fun cdv A outer s H vs Q E hr h=>?_)
 ·obtain ⟨z,toks,n,S,k,g,G,rfl,_⟩:=h; rfl
 ·obtain ⟨z,toks,n,S,k,g,G,rfl,hR,hB,eG,hgf,res⟩:=h
  refine ⟨_,qi (qZ (i:=2) qam.nd rfl (Or.inl rfl) (qbD PySem.F.plainAttrs_list PySem.F.slot_list_pop PySem.F.type_list_pop qbE (qj (pv 0) rfl)))
   (qi (qZ (i:=3) qam.nd rfl (Or.inl rfl) (qX qg))
   (qi (QQ PassesOwn.never (qI Jy (ja zB (by rfl) T.b_len PySem.boot_len (qa (qj (pv 0) rfl) qg)) (qj (pv 2) rfl) (qU _))
    (qf (qu (zK PySem.F.plainAttrs_list PySem.F.slot_list_append PySem.F.type_list_append zq (pv 3) (qa (qbD PySem.F.plainAttrs_list PySem.F.slot_list_pop PySem.F.type_list_pop qbE (qj (pv 0) rfl)) qg)))))
   (qf (qu (zK PySem.F.plainAttrs_list PySem.F.slot_list_append PySem.F.type_list_append zq (qj (pv 0) rfl) (qa (Zr Gn hr qO (qa (pv 1) (qa (qj (pv 2) rfl) (qa (qfZ (pv 3)) qg)))) qg)))))),?_⟩
  obtain ⟨x,gs,ez⟩:∃ x gs,z.gs=x::gs:=by
   have:=Paired.length hR.gs
   rw [eG] at this
   cases hz:z.gs with
   | nil=>rw [hz] at this; cases this
   | cons x gs=>exact ⟨x,gs,rfl⟩
  obtain ⟨R1,p1,Bx,nla⟩:=hR.pop ez eG
  have hpop:(z.gs.map (·.g)).reverse.map V.ref=(gs.map (·.g)).reverse.map V.ref++[V.ref x.g]:=by rw [ez]; simp
  refine ⟨_,rfl,z.r,_,z.dx,_,_,rfl,hR.ins,T.c_Reader,T.n_Reader_begun,ZP _ _ _ _ _ _,.inl ⟨rfl,_,SqL.of hR.gl⟩,z.gl,_,V.ref x.g,rfl,rfl,hR.gl,by rw [hpop]; simp,?_⟩
  rw [show ((z.gs.map (·.g)).reverse.map V.ref).dropLast=(gs.map (·.g)).reverse.map V.ref by rw [hpop]; simp]
  generalize hz1:({ z with gs:=gs }:RA)=z1 at R1 p1 Bx nla
  have er:z1.r=z.r:=by rw [<- hz1]
  have ebl:z1.bl=z.bl:=by rw [<- hz1]
  generalize upd H z.gl (.lst ((gs.map (·.g)).reverse.map V.ref))=H1 at R1 p1 Bx ⊢
  obtain ⟨gdx,lb,⟨q1,q1n⟩,q2,q3,q4⟩:=Bx
  obtain ⟨bs,b1,b2⟩:=R1.bl
  have hbl:bs.length=S.B.length:=Paired.length (za.mp b2)
  refine ⟨Nat.zero_le _,fun kl hkl=>?_⟩
  have nkl:=R1.fresh hkl
  have klbl:kl≠z1.bl:=fun e=>nkl (by rw [e]; exact z1.mb)
  refine ⟨fun m σ H'=>σ = [some (.ref z.r),some (.str (kindS k)),some (.ref x.g),some (.ref kl)]/\∃ j,g.first<=j/\j<=bs.length/\H' z1.bl=some (.lst ((bs.take j).map V.ref))/\H' kl=some (.lst ((bs.drop j).reverse.map V.ref))/\(∀ b o,H1 b=some o->b≠z1.bl->H' b=some o)/\j=m,
   ⟨_,rfl,bs.length,by omega,Nat.le_refl _,?_,?_,fun b o e _=>qp hkl _ _ e,rfl⟩,?_⟩
  ·rw [qd (Ne.symm klbl),List.take_length]; exact b1
  ·rw [qc,List.drop_length]; rfl
  rintro m σ H2 ⟨rfl,j,hj1,hj2,hb2,hk2,k2,rfl⟩
  have rbl:z.r≠z1.bl:=by rw [<- er]; exact Ne.symm (R1.nr (qR.ob z1))
  have ins2:=k2 _ _ (er ▸ R1.ins) rbl
  have xg2:=k2 _ _ q1 (fun e=>q1n (by rw [e]; exact z1.mb))
  refine ⟨_,rfl,z.r,_,_,_,_,rfl,ins2,T.c_Reader,T.n_Reader_built,Q2 _ _ _ _ _ _,z1.bl,_,rfl,.inl (SqL.of hb2),_,rfl,x.g,_,gdx,_,_,rfl,xg2,T.c_Begun,T.n_Begun_first,qie _ _ _,_,_,rfl,rfl,_,rfl,?_⟩
  rw [show (((bs.take j).map V.ref).length:Int)=(j:Int) by rw [List.length_map,List.length_take,Nat.min_eq_left hj2]]
  refine zN (fun hlt=>?_) fun hlt=>?_
  ·have hlt:g.first<j:=by have:=of_decide_eq_true hlt; omega
   obtain ⟨j,rfl⟩:∃ i,j=i+1:=⟨j - 1,by omega⟩
   have hjl:j<bs.length:=by omega
   refine ⟨_,fun σ' H' q=>q,?_⟩
   have hlast:(bs.take (j+1)).map V.ref=(bs.take j).map V.ref++[V.ref bs[j]]:=by rw [List.take_succ,List.getElem?_eq_getElem hjl,List.map_append]; rfl
   refine ⟨_,rfl,.inl ⟨rfl,_,SqL.of hk2⟩,_,rfl,z.r,_,_,_,_,rfl,ins2,T.c_Reader,T.n_Reader_built,Q2 _ _ _ _ _ _,.inl ⟨rfl,_,SqL.of hb2⟩,z1.bl,_,V.ref bs[j],rfl,rfl,hb2,by rw [hlast]; simp,?_⟩
   rw [show ((bs.take (j+1)).map V.ref).dropLast=(bs.take j).map V.ref by rw [hlast]; simp]
   refine ⟨kl,_,_,rfl,rfl,by rw [qd klbl]; exact hk2,?_,?_⟩
   ·rw [List.length_map,List.length_reverse,List.length_drop]; exact jC (by omega)
   ·refine ⟨j,Nat.lt_succ_self _,rfl,j,by omega,by omega,?_,?_,fun b o e nb=>?_,rfl⟩
    ·rw [qd (Ne.symm klbl),qc]
    ·rw [qc,List.drop_eq_getElem_cons hjl,List.reverse_cons,List.map_append]; rfl
    ·rw [qd (qh e hkl),qd nb]; exact k2 b o e nb
  ·have hjf:j=g.first:=by
    have:¬ ((g.first:Int)<(j:Int)):=fun y=>hlt (decide_eq_true y)
    omega
   subst hjf
   refine ⟨_,rfl,z.r,_,_,_,_,rfl,ins2,T.c_Reader,T.n_Reader_built,Q2 _ _ _ _ _ _,.inl ⟨rfl,_,SqL.of hb2⟩,?_⟩
   refine ⟨_,rfl,_,rfl,x.g,_,gdx,_,_,rfl,xg2,T.c_Begun,T.n_Begun_labels,qcA _ _ _,_,rfl,kl,_,rfl,SqL.of hk2,fun rl hrl=>?_⟩
   rw [show ((bs.drop g.first).reverse.map V.ref).reverse=(bs.drop g.first).map V.ref by simp]
   have s3:=qp (o:=.lst ((bs.drop g.first).map V.ref)) hrl
   have hrl3:(upd H2 rl (.lst ((bs.drop g.first).map V.ref))) rl=some (.lst ((bs.drop g.first).map V.ref)):=qc
   generalize upd H2 rl (.lst ((bs.drop g.first).map V.ref))=H3 at s3 hrl3 ⊢
   intro t tdx ht htdx hne
   have s4:qF H3 (upd (upd H3 tdx (.own t)) t (.ins a.Node tdx [])):=fun b o e=>by rw [qd (qh e ht),qd (qh e htdx)]; exact e
   have R3:qR a H3 z1 toks n { S with G:=G,B:=S.B.take g.first }:=by
    have hT:qy a z1.M H1 (S.B.take g.first) (bs.take g.first):=za.mpr (qcD _ (za.mp b2))
    refine (R1.putB hT).same fun b o e=>?_
    by_cases hb:b=z1.bl
    ·subst hb
     rw [qc] at e
     rw [<- e]
     exact s3 _ _ hb2
    ·rw [qd hb] at e
     exact s3 _ _ (k2 b o e hb)
   have P3:Pass z1.M H1 z1.M H3:=fun b o e nb=>⟨s3 _ _ (k2 b o e (fun y=>nb (by rw [y]; exact z1.mb))),nb⟩
   have hKd:qy a z1.M H3 (S.B.drop g.first) (bs.drop g.first):=qy.pass P3 _ _ (za.mpr (qcE _ (za.mp b2)))
   have hND:=qgf (qy.pass (J7 s4) _ _ hKd)
   refine ⟨t,tdx,rl,_,_,bs.drop g.first,_,rfl,qc,s4 _ _ hrl3,hND,by rw [List.length_drop]; omega,fun H5 m k5 h1 h2 ht5=>⟨rfl,?_⟩⟩
   have em:=qio _ m h1 h2
   have s5:qF H3 H5:=fun b o e=>k5 b o (s4 b o e) (qh e ht)
   have R5:=R3.same s5
   have nt5:¬ z1.M t:=R3.fresh ht
   have nrl:¬ z1.M rl:=fun y=>by
    rcases y with y | y
    ·have:=k2 _ _ R1.ins (by exact Ne.symm (R1.nr (qR.ob z1)))
     rw [<- y,hrl] at this; cases this
    ·obtain ⟨o,e,_⟩:=R1.own_some y
     by_cases hb:rl=z1.bl
     ·rw [hb,hb2] at hrl; cases hrl
     ·rw [k2 _ _ e hb] at hrl; cases hrl
   have P5:Pass z1.M H1 z1.M H5:=fun b o e nb=>⟨s5 _ _ (P3 b o e nb).1,nb⟩
   have hTree:qB a z1.M H5 (.node k g.labels (S.B.drop g.first)) t:=by
    unfold qB
    refine ⟨tdx,x.la,rl,lb,bs.drop g.first,⟨?_,nt5⟩,P5 _ _ q2 nla,q3.pass P5,⟨s5 _ _ hrl3,nrl⟩,qy.pass (J7 s5) _ _ hKd⟩
    rw [ht5,em,show (1+((Vastoa.depths (S.B.drop g.first):Nat):Int))=((Vastoa.depths (S.B.drop g.first)+1:Nat):Int) by omega]
   obtain ⟨bs5,b5,c5⟩:=R5.bl
   have hb5:H5 z1.bl=some (.lst ((bs.take g.first).map V.ref)):=s5 _ _ (s3 _ _ hb2)
   have e5:bs5=bs.take g.first:=by
    rw [b5] at hb5
    have:=Option.some.inj hb5
    injection this with this
    exact (List.map_inj_right (fun x y q=>by injection q)).mp this
   subst e5
   refine ⟨z1.bl,_,_,rfl,rfl,hb5,?_,?_⟩
   ·rw [List.length_map,List.length_take]; exact jC (by omega)
   have c6:qy a z1.M H5 (S.B.take g.first++[.node k g.labels (S.B.drop g.first)]) (bs.take g.first++[t]):=za.mpr (Jg (za.mp c5) hTree)
   have R6:=R5.putB c6
   rw [List.map_append] at R6
   exact res _ z1 er (JB (JB p1 P5) (jN (qo.at_ z1.mb))) R6
end
end RT
end
section
namespace RT
open PySem PySem.Spec PyProof.Rows L2
open Vastoa (Mark Marks)
open RM (Part Sym qD kd held MS Bg)
theorem qmx {α β : Type} (f:α -> β) (xs:List α) (i:Int):atI (xs.map f) i=(atI xs i).map f:=by
 unfold atI
 rw [List.length_map]
 cases ixN xs.length i with
 | none=>rfl
 | some j=>show (xs.map f)[j]? = (xs[j]?).map f; rw [List.getElem?_map]
theorem qip {A B:Type} {R:A->B->Prop} {as:List A} {bs:List B} {i:Int} {y:B} (h:Paired R as bs) (e:atI bs i=some y):∃ x,atI as i=some x/\R x y:=by
 unfold atI at e ⊢
 rw [Paired.length h]
 cases hj:ixN bs.length i with
 | none=>rw [hj] at e; cases e
 | some j=>
  rw [hj] at e
  exact zU h e
section
variable {a:Ad} {H H':Hp} {z:RA} {toks:Marks} {n:Nat} {S:MS}
theorem qR.head {x:BA} {gs:List BA} {g g':Bg} {G:List Bg} {b:Addr} (h:qR a H z toks n S) (ez:z.gs=x::gs) (eG:S.G=g::G) (hb:b=x.la \/ b=x.na) (k:∀ c o,H c=some o->c≠b->H' c=some o)
  (hx:qb3 a z.M H' x g'):qR a H' z toks n { S with G:=g'::G }/\Pass z.M H z.M H':=by
 obtain ⟨as,t1,t2⟩:=h.tks
 obtain ⟨bs,b1,b2⟩:=h.bl
 obtain ⟨n1,n2,n3⟩:=h.nwl
 obtain ⟨m1,m2⟩:=h.nbl
 obtain ⟨g1,g2⟩:=h.ngl
 have ho:b∈QJ z.gs:=by
  rw [ez]
  rcases hb with rfl | rfl
  ·exact (zV List.mem_cons_self).1
  ·exact (zV List.mem_cons_self).2
 have hM:z.M b:=z.mo ho
 have p:Pass z.M H z.M H':=fun c o e nc=>⟨k c o e (fun y=>nc (by rw [y]; exact hM)),nc⟩
 have hgs:=h.gs
 rw [ez,eG] at hgs
 have nd:=g2
 rw [ez] at nd
 have eo:QJ (x::gs)=x.la::x.na::QJ gs:=rfl
 rw [eo] at nd
 obtain ⟨nd1,nd2⟩:=List.nodup_cons.mp nd
 obtain ⟨nd3,nd4⟩:=List.nodup_cons.mp nd2
 simp only [List.mem_cons,not_or] at nd1
 have hbn:b∉QJ gs:=by rcases hb with rfl | rfl; exact nd1.2; exact nd3
 cases hgs with
 | cons q0 qs=>
  refine ⟨⟨k _ _ h.ins (Ne.symm (h.nr (qR.oo z ho))),⟨as,p _ _ t1.1 t1.2,qW (fun x y q=>q.pass p) t2⟩,k _ _ h.wl (fun e=>n3 (by rw [e]; exact ho)),⟨bs,k _ _ b1 (fun e=>m2 (by rw [e]; exact ho)),qy.pass p _ _ b2⟩,k _ _ h.gl (fun e=>g1 (by rw [e]; exact ho)),?_,h.nd,h.ts,h.pv⟩,p⟩
  rw [ez]
  refine .cons hx (Qs (fun y g'' hy q=>?_) qs)
  obtain ⟨dx,lb,c1,c2,c3,c4⟩:=q
  exact ⟨dx,lb,p _ _ c1.1 c1.2,k _ _ c2 (fun e=>hbn (e ▸ (zV hy).1)),c3.pass p,k _ _ c4 (fun e=>hbn (e ▸ (zV hy).2))⟩
theorem qR.push {H1:Hp} {x:BA} {dx:Addr} {first:Nat} (h:qR a H z toks n S) (s:qF H H1) (hg:H x.g=none) (hla:H x.la=none) (hna:H x.na=none) (ln:x.la≠x.na) (gl1:x.g≠x.la) (gn1:x.g≠x.na)
  (e1:H1 x.g=some (.ins a.Begun dx (qdU (.int (first:Int)) (.ref x.la) (.ref x.na)))) (e2:H1 x.la=some (.lst [])) (e3:H1 x.na=some (.dT [])) :
  qR a (upd H1 z.gl (.lst ((z.gs.map (·.g)).reverse.map V.ref++[.ref x.g]))) { z with gs:=x::z.gs } toks n { S with G:=⟨first,[],[]⟩::S.G } /\
  Pass z.M H ({ z with gs:=x::z.gs }:RA).M (upd H1 z.gl (.lst ((z.gs.map (·.g)).reverse.map V.ref++[.ref x.g]))):=by
 obtain ⟨as,t1,t2⟩:=h.tks
 obtain ⟨bs,b1,b2⟩:=h.bl
 obtain ⟨n1,n2,n3⟩:=h.nwl
 obtain ⟨m1,m2⟩:=h.nbl
 obtain ⟨g1,g2⟩:=h.ngl
 have some_ne:∀ {b:Addr},b∈z.own->b≠x.la/\b≠x.na:=fun {b} hb=>by
  obtain ⟨o,e,_⟩:=h.own_some hb
  exact ⟨qh e hla,qh e hna⟩
 have inM:∀ b,({ z with gs:=x::z.gs }:RA).M b->z.M b \/ b=x.la \/ b=x.na:=fun b hb=>by
  rcases hb with hb | hb
  ·exact .inl (.inl hb)
  ·have hb:b∈z.wl::z.bl::z.gl::x.la::x.na::QJ z.gs:=hb
   simp only [List.mem_cons] at hb
   rcases hb with hb | hb | hb | hb | hb | hb
   ·exact .inl (by rw [hb]; exact z.mw)
   ·exact .inl (by rw [hb]; exact z.mb)
   ·exact .inl (by rw [hb]; exact z.mg)
   ·exact .inr (.inl hb)
   ·exact .inr (.inr hb)
   ·exact .inl (z.mo hb)
 have p:Pass z.M H ({ z with gs:=x::z.gs }:RA).M (upd H1 z.gl (.lst ((z.gs.map (·.g)).reverse.map V.ref++[.ref x.g]))):=fun b o e nb=>by
  refine ⟨?_,fun y=>?_⟩
  ·rw [qd (fun y=>nb (by rw [y]; exact z.mg))]; exact s b o e
  ·rcases inM b y with y | y | y
   ·exact nb y
   ·exact qh e hla y
   ·exact qh e hna y
 have own:∀ b o,H b=some o->b≠z.gl->(upd H1 z.gl (.lst ((z.gs.map (·.g)).reverse.map V.ref++[.ref x.g]))) b=some o:=fun b o e nb=>by rw [qd nb]; exact s b o e
 have xgl:x.g≠z.gl:=fun e=>by rw [e,h.gl] at hg; cases hg
 have nxg:¬ ({ z with gs:=x::z.gs }:RA).M x.g:=fun y=>by
  rcases inM _ y with y | y | y
  ·exact h.fresh hg y
  ·exact gl1 y
  ·exact gn1 y
 refine ⟨⟨own _ _ h.ins (Ne.symm (h.nr (qR.og z))),⟨as,p _ _ t1.1 t1.2,qW (fun x y q=>q.pass p) t2⟩,own _ _ h.wl n2,⟨bs,own _ _ b1 m1,qy.pass p _ _ b2⟩,?_,?_,?_,h.ts,h.pv⟩,p⟩
 ·show upd H1 z.gl _ z.gl=_
  rw [qc]
  simp
 ·refine .cons ⟨dx,[],⟨?_,nxg⟩,?_,.nil,?_⟩ (Qs (fun y g'' hy q=>?_) h.gs)
  ·rw [qd xgl]; exact e1
  ·rw [qd (Ne.symm (some_ne (qR.og z)).1)]; exact e2
  ·rw [qd (Ne.symm (some_ne (qR.og z)).2)]; exact e3
  ·obtain ⟨dx,lb,c1,c2,c3,c4⟩:=q
   exact ⟨dx,lb,p _ _ c1.1 c1.2,own _ _ c2 (fun e=>g1 (e ▸ (zV hy).1)),c3.pass p,own _ _ c4 (fun e=>g1 (e ▸ (zV hy).2))⟩
 ·show (z.wl::z.bl::z.gl::x.la::x.na::QJ z.gs).Nodup
  refine List.nodup_cons.mpr ⟨?_,List.nodup_cons.mpr ⟨?_,List.nodup_cons.mpr ⟨?_,List.nodup_cons.mpr ⟨?_,List.nodup_cons.mpr ⟨?_,g2⟩⟩⟩⟩⟩
  ·simp only [List.mem_cons,not_or]; exact ⟨n1,n2,(some_ne (qR.ow z)).1,(some_ne (qR.ow z)).2,n3⟩
  ·simp only [List.mem_cons,not_or]; exact ⟨m1,(some_ne (qR.ob z)).1,(some_ne (qR.ob z)).2,m2⟩
  ·simp only [List.mem_cons,not_or]; exact ⟨(some_ne (qR.og z)).1,(some_ne (qR.og z)).2,g1⟩
  ·simp only [List.mem_cons,not_or]; exact ⟨ln,fun y=>(some_ne (qR.oo z y)).1 rfl⟩
  ·exact fun y=>(some_ne (qR.oo z y)).2 rfl
end
def qlG (a:Ad) (K:PySem.W.Frag):Sp:=fun vs H Q E=>∃ (z:RA) (toks:Marks) (n:Nat) (S:MS) (x:qgc),vs=[.ref z.r,.str (ZS x)]/\qR a H z toks n S/\S.B.length<=1000000/\RM.gw S.G<=500000 /\
 QN a K z toks H (RM.qaU x S.ts S.pv S.lv S.W S.B S.G) (Q .non) E
theorem qaD (x y:qgc):decide (V.str (ZS x)=V.str (ZS y))=decide (x=y):=decide_eq_decide.mpr ⟨fun e=>qmu x (qa8 x) y (qa8 y) (by injection e),fun e=>by rw [e]⟩
end RT
end
section
namespace RT
open PySem PySem.Spec PyProof.Rows L2
open Vastoa (Mark Marks)
open RM (Part Sym qD kd held MS Bg)
section
variable {P:Program} {w:World} {K:PySem.W.Frag} {mg:Str->Option Value} {base:Heap} {f:Addr} {fd:FuncData} {a:Ad}
theorem qnv:qm ["self","action"] ["self","action"] (qe Qm):=⟨rfl,rfl,rfl,by decide +kernel,rfl,by decide +kernel,by decide +kernel⟩
theorem qnw (F:Fun K "act" "Reader.act" Qm f fd) (T:Tx P w K mg a) (Gb:qcS P w K mg base CX0 1 a.Begun "Begun" ["self","first"] (qd4 a)) (Gm:FnAt P w K mg base (CXR P w) 4 "meet_name" ["names","token"] (qjV a K))
  (Ge:jl P w K mg base (CXR P w) 4 a.Reader "enter_level" ["self"] (qhx a K)) (Gn:jl P w K mg base CX0 3 a.Reader "end_node" ["self","kind"] (qeU a)):qw P w K mg base (CXR P w) 5 f fd ["self","action"] (qlG a K):=by
 refine F.okR qnv (fun vs H Q E h=>?_) (fun cdv A outer s H vs Q E hr h=>?_)
 ·obtain ⟨z,toks,n,S,x,rfl,_⟩:=h; rfl
 ·obtain ⟨z,toks,n,S,x,rfl,hR,hB,hG,res⟩:=h
  have hr2:qN 2 _:=hr.mono (by decide)
  have hr3:qN 3 _:=hr.mono (by decide)
  refine ⟨_,qf (qQ (qI z9 (pv 1) qK (qU _)) (qf (qu (zK PySem.F.plainAttrs_list PySem.F.slot_list_append PySem.F.type_list_append zq (qj (pv 0) rfl) (qa (Zr Gb hr2 qO (qa (ja zB (by rfl) T.b_len PySem.boot_len (qa (qj (pv 0) rfl) qg)) qg)) qg))))
   (qf (qQ (qI z9 (pv 1) qK (qU _)) (qf (qu (zK PySem.F.plainAttrs_list PySem.F.slot_list_append PySem.F.type_list_append zq (qj (pv 0) rfl) (qa (Zr Gb hr2 qO (qa (QK qc2 (ja zB (by rfl) T.b_len PySem.boot_len (qa (qj (pv 0) rfl) qg)) qr) qg)) qg))))
   (qf (qQ (qI z9 (pv 1) qK (qU _)) (qf (qu (zK PySem.F.plainAttrs_list PySem.F.slot_list_append PySem.F.type_list_append zq (qj (jj zp (qj (pv 0) rfl) (Ja Ze qr) (fun _ _=>rfl)) rfl) (qa (qj (jj zp (qj (pv 0) rfl) (QK qc2 (qj (pv 0) rfl) qr) (fun _ _=>rfl)) rfl) qg))))
   (qf (qQ (qI z9 (pv 1) qK (qU _)) (qf (qu (qV Gm hr jU (qa (qj (jj zp (qj (pv 0) rfl) (Ja Ze qr) (fun _ _=>rfl)) rfl) (qa (jj zp (qj (pv 0) rfl) (QK qc2 (qj (pv 0) rfl) qr) (fun _ _=>rfl)) qg)))))
   (qf (qQ (qI z9 (pv 1) qK (qU _)) (qf (qu (jq Ge T.c_Reader hr jU (pv 0))))
   (qf (qQ (qI z9 (pv 1) qK (qU _)) (qf (Qn (pv 0) qr qmX))
   (qf (qu (zj Gn T.c_Reader hr3 qO (pv 0) (qa (pv 1) qg))))))))))))))),?_⟩
  obtain ⟨as,t1,t2⟩:=hR.tks
  obtain ⟨bs,b1,b2⟩:=hR.bl
  have hbl:bs.length=S.B.length:=Paired.length (za.mp b2)
  have hgl:=RM.qjv S.G
  have hgz:z.gs.length=S.G.length:=Paired.length hR.gs
  have glen:((z.gs.map (·.g)).reverse.map V.ref).length<sizeLine:=by
   rw [List.length_map,List.length_reverse,List.length_map]; exact jC (by omega)
  have beg:∀ (i:Int) (first:Nat),i=(first:Int)->(∀ H' z' n',z'.r=z.r->Pass z.M H z'.M H'->qR a H' z' toks n' { S with G:=⟨first,[],[]⟩::S.G }->Q .non H') ->
    ∀ gx dx,H gx=none->H dx=none->dx≠gx->qd4 a [.ref gx,.int i] (upd (upd H dx (.own gx)) gx (.ins a.Begun dx []))
     (fun v H2=>v=.non/\qhi (.ref z.gl) [.ref gx] H2 (fun _ H3=>Q .non H3)) E0:=by
   intro i first ei kk gx dx hgx hdx hne
   subst ei
   have s1:qF H (upd (upd H dx (.own gx)) gx (.ins a.Begun dx [])):=fun b o e=>by rw [qd (qh e hgx),qd (qh e hdx)]; exact e
   refine ⟨gx,dx,first,rfl,qc,fun H2 la na k2 hla hna ln e1 e2 e3=>⟨rfl,?_⟩⟩
   have s2:qF H H2:=fun b o e=>k2 b o (s1 b o e) (qh e hgx)
   have gla:gx≠la:=qh qc hla
   have gna:gx≠na:=qh qc hna
   obtain ⟨R2,p2⟩:=hR.push (x:=⟨gx,la,na⟩) (first:=first) s2 hgx (s1.free hla) (s1.free hna) ln gla gna e1 e2 e3
   exact ⟨z.gl,_,_,rfl,rfl,s2 _ _ hR.gl,glen,kk _ { z with gs:=⟨gx,la,na⟩::z.gs } n rfl p2 R2⟩
  refine ⟨_,rfl,rfl,_,rfl,?_⟩
  rw [show V.str (Str.ofString "begin")=V.str (ZS .begin) from rfl,qaD]
  by_cases h1:x=.begin
  ·subst h1
   rw [decide_eq_true rfl]
   refine zP ⟨_,rfl,z.r,_,z.dx,_,_,rfl,hR.ins,T.c_Reader,T.n_Reader_begun,ZP _ _ _ _ _ _,.inl ⟨rfl,_,SqL.of hR.gl⟩,?_⟩
   refine ⟨_,rfl,z.r,_,z.dx,_,_,rfl,hR.ins,T.c_Reader,T.n_Reader_built,Q2 _ _ _ _ _ _,z.bl,_,rfl,.inl (SqL.of b1),?_⟩
   exact beg _ S.B.length (by rw [List.length_map,hbl]) res
  rw [decide_eq_false h1]
  refine zx ⟨_,rfl,rfl,_,rfl,?_⟩
  rw [show V.str (Str.ofString "take")=V.str (ZS .take) from rfl,qaD]
  by_cases h2:x=.take
  ·subst h2
   rw [decide_eq_true rfl]
   refine zP ⟨_,rfl,z.r,_,z.dx,_,_,rfl,hR.ins,T.c_Reader,T.n_Reader_begun,ZP _ _ _ _ _ _,.inl ⟨rfl,_,SqL.of hR.gl⟩,?_⟩
   refine ⟨_,rfl,z.r,_,z.dx,_,_,rfl,hR.ins,T.c_Reader,T.n_Reader_built,Q2 _ _ _ _ _ _,z.bl,_,rfl,.inl (SqL.of b1),_,_,rfl,rfl,?_⟩
   have res:QN a K z toks H (if S.B.length=0 then none else some (.ok { S with G:=⟨S.B.length - 1,[],[]⟩::S.G })) (Q .non) E:=res
   by_cases h0:S.B.length=0
   ·rw [if_pos h0] at res; exact res.elim
   ·rw [if_neg h0] at res
    exact beg _ (S.B.length - 1) (by rw [List.length_map,hbl]; omega) res
  rw [decide_eq_false h2]
  refine zx ⟨_,rfl,rfl,_,rfl,?_⟩
  rw [show V.str (Str.ofString "label")=V.str (ZS .label) from rfl,qaD]
  obtain ⟨t,ht,dx,ha,ht1,ht2,nt1,nt2⟩:=qip t2 hR.pv
  have htV:atI (as.map V.ref) ((n:Int) - 1)=some (.ref t):=by rw [qmx,ht]; rfl
  by_cases h3:x=.label
  ·subst h3
   rw [decide_eq_true rfl]
   cases eG:S.G with
   | nil=>rw [eG] at res; exact res.elim
   | cons g G=>
    rw [eG] at res
    obtain ⟨y,gs,ez⟩:∃ y gs,z.gs=y::gs:=by
     rw [eG] at hgz
     cases hz:z.gs with
     | nil=>rw [hz] at hgz; cases hgz
     | cons y gs=>exact ⟨y,gs,rfl⟩
    have hgs:=hR.gs
    rw [ez,eG] at hgs
    cases hgs with
    | cons q0 qs=>
     obtain ⟨gdx,lb,⟨c1,c1n⟩,c2,c3,c4⟩:=q0
     have hlast:atI ((z.gs.map (·.g)).reverse.map V.ref) (-1)=some (.ref y.g):=by
      rw [ez,show ((y::gs).map (·.g)).reverse.map V.ref=(gs.map (·.g)).reverse.map V.ref++[V.ref y.g] by simp]
      exact Zo _ _
     have hlab:lb.length<1000000:=by
      have e1:=Paired.length c3
      have e2:=RM.qfX (G:=S.G) (g:=g) (by rw [eG]; exact List.mem_cons_self)
      omega
     refine zP ⟨_,rfl,z.r,_,z.dx,_,_,rfl,hR.ins,T.c_Reader,T.n_Reader_begun,ZP _ _ _ _ _ _,_,rfl,z.gl,_,_,_,rfl,rfl,SqL.of hR.gl,hlast,y.g,_,gdx,_,_,rfl,c1,T.c_Begun,T.n_Begun_labels,qcA _ _ _,.inl ⟨rfl,_,SqL.of c2⟩,?_⟩
     refine ⟨_,rfl,z.r,_,z.dx,_,_,rfl,hR.ins,T.c_Reader,T.n_Reader_tokens,Zh _ _ _ _ _ _,_,rfl,z.r,_,z.dx,_,_,rfl,hR.ins,T.c_Reader,T.n_Reader_at,JE _ _ _ _ _ _,_,_,rfl,rfl,z.ts,_,_,_,rfl,rfl,SqL.of t1.1,htV,t,_,dx,_,_,rfl,ht1,T.c_Token,T.n_Token_held,qeO _ _ _,y.la,_,_,rfl,rfl,c2,by rw [List.length_map]; exact jC (by omega),?_⟩
     have yla:z.M y.la:=z.mo (by rw [ez]; exact (zV List.mem_cons_self).1)
     have kk:qo z.M H (upd H y.la (.lst (lb.map V.ref++[.ref ha]))):=qo.at_ yla
     have yn:y.na≠y.la:=qca c4 c2 (by intro q; cases q)
     have bx:qb3 a z.M (upd H y.la (.lst (lb.map V.ref++[.ref ha]))) y ⟨g.first,g.labels++[held S.pv.tok],g.names⟩:=by
      refine ⟨gdx,lb++[ha],⟨kk _ _ c1 c1n,c1n⟩,by rw [qc,List.map_append]; rfl,Jg (c3.pass (jN kk)) ⟨kk _ _ ht2 nt2,nt2⟩,by rw [qd yn]; exact c4⟩
     obtain ⟨R2,p2⟩:=hR.head ez eG (.inl rfl) (fun c o e nc=>by rw [qd nc]; exact e) bx
     exact res _ z n rfl p2 R2
  rw [decide_eq_false h3]
  refine zx ⟨_,rfl,rfl,_,rfl,?_⟩
  rw [show V.str (Str.ofString "fresh")=V.str (ZS .fresh) from rfl,qaD]
  by_cases h4:x=.fresh
  ·subst h4
   rw [decide_eq_true rfl]
   cases eG:S.G with
   | nil=>rw [eG] at res; exact res.elim
   | cons g G=>
    rw [eG] at res
    obtain ⟨y,gs,ez⟩:∃ y gs,z.gs=y::gs:=by
     rw [eG] at hgz
     cases hz:z.gs with
     | nil=>rw [hz] at hgz; cases hgz
     | cons y gs=>exact ⟨y,gs,rfl⟩
    have hgs:=hR.gs
    rw [ez,eG] at hgs
    cases hgs with
    | cons q0 qs=>
     obtain ⟨gdx,lb,⟨c1,c1n⟩,c2,c3,c4⟩:=q0
     have hlast:atI ((z.gs.map (·.g)).reverse.map V.ref) (-1)=some (.ref y.g):=by
      rw [ez,show ((y::gs).map (·.g)).reverse.map V.ref=(gs.map (·.g)).reverse.map V.ref++[V.ref y.g] by simp]
      exact Zo _ _
     have hnm:g.names.length<=1000000:=by
      have e2:=RM.qfX (G:=S.G) (g:=g) (by rw [eG]; exact List.mem_cons_self)
      omega
     have res:QN a K z toks H (if held S.pv.tok∈g.names then some (.error ⟨5,S.pv.place⟩) else some (.ok { S with G:=⟨g.first,g.labels,g.names++[held S.pv.tok]⟩::G })) (Q .non) E:=res
     refine zP ⟨_,rfl,z.r,_,z.dx,_,_,rfl,hR.ins,T.c_Reader,T.n_Reader_begun,ZP _ _ _ _ _ _,_,rfl,z.gl,_,_,_,rfl,rfl,SqL.of hR.gl,hlast,y.g,_,gdx,_,_,rfl,c1,T.c_Begun,T.n_Begun_names,qif _ _ _,?_⟩
     refine ⟨_,rfl,z.r,_,z.dx,_,_,rfl,hR.ins,T.c_Reader,T.n_Reader_tokens,Zh _ _ _ _ _ _,_,rfl,z.r,_,z.dx,_,_,rfl,hR.ins,T.c_Reader,T.n_Reader_at,JE _ _ _ _ _ _,_,_,rfl,rfl,z.ts,_,_,_,rfl,rfl,SqL.of t1.1,htV,?_⟩
     refine ⟨y.na,t,g.names,S.pv,rfl,c4,⟨dx,ha,ht1,ht2,id,id⟩,hnm,fun hm=>?_,fun hm H2 k2 e2=>?_⟩
     ·rw [if_pos hm] at res
      exact XWM.on res (qo.refl _ _)
     ·rw [if_neg hm] at res
      have yna:z.M y.na:=z.mo (by rw [ez]; exact (zV List.mem_cons_self).2)
      have p0:Pass z.M H z.M H2:=fun b o e nb=>⟨k2 b o e (fun q=>nb (by rw [q]; exact yna)),nb⟩
      have yn:y.la≠y.na:=qca c2 c4 (by intro q; cases q)
      have bx:qb3 a z.M H2 y ⟨g.first,g.labels,g.names++[held S.pv.tok]⟩:=⟨gdx,lb,p0 _ _ c1 c1n,k2 _ _ c2 yn,c3.pass p0,e2⟩
      obtain ⟨R2,p2⟩:=hR.head ez eG (.inr rfl) k2 bx
      exact res _ z n rfl p2 R2
  rw [decide_eq_false h4]
  refine zx ⟨_,rfl,rfl,_,rfl,?_⟩
  rw [show V.str (Str.ofString "enter")=V.str (ZS .enter) from rfl,qaD]
  by_cases h5:x=.enter
  ·subst h5
   rw [decide_eq_true rfl]
   exact zP ⟨_,rfl,z.r,z.dx,_,rfl,hR.ins,qbp _ _ _ _ _ _,z,toks,n,S,rfl,hR,res⟩
  rw [decide_eq_false h5]
  refine zx ⟨_,rfl,rfl,_,rfl,?_⟩
  rw [show V.str (Str.ofString "leave")=V.str (ZS .leave) from rfl,qaD]
  by_cases h6:x=.leave
  ·subst h6
   rw [decide_eq_true rfl]
   have res:QN a K z toks H (if S.lv=0 then none else some (.ok { S with lv:=S.lv - 1 })) (Q .non) E:=res
   by_cases h0:S.lv=0
   ·rw [if_pos h0] at res; exact res.elim
   ·rw [if_neg h0] at res
    refine zP ⟨_,rfl,z.r,_,z.dx,_,_,rfl,hR.ins,T.c_Reader,T.n_Reader_level,qa2 _ _ _ _ _ _,_,_,rfl,rfl,z.dx,_,hR.ins,(by show 6<1000; decide),?_⟩
    rw [show ((S.lv:Int) - 1)=((S.lv - 1:Nat):Int) by omega]
    exact res _ z n rfl (jN (qo.at_ z.mr)) (hR.put n (S.lv - 1) S.ts S.pv hR.ts hR.pv)
  rw [decide_eq_false h6]
  obtain ⟨k,rfl⟩:∃ k,x=.fin k:=by
   cases x with
   | fin k=>exact ⟨k,rfl⟩
   | begin=>exact absurd rfl h1
   | take=>exact absurd rfl h2
   | label=>exact absurd rfl h3
   | fresh=>exact absurd rfl h4
   | enter=>exact absurd rfl h5
   | leave=>exact absurd rfl h6
  cases eG:S.G with
  | nil=>rw [eG] at res; exact res.elim
  | cons g G=>
   rw [eG] at res
   have res:QN a K z toks H (if g.first<=S.B.length then some (.ok ⟨S.ts,S.pv,S.lv,S.W,S.B.take g.first++[.node k g.labels (S.B.drop g.first)],G⟩) else none) (Q .non) E:=res
   by_cases hf:g.first<=S.B.length
   ·rw [if_pos hf] at res
    exact zx ⟨_,rfl,z.r,z.dx,_,rfl,hR.ins,qcX _ _ _ _ _ _,_,rfl,z,toks,n,S,k,g,G,rfl,hR,hB,eG,hf,fun H' z' e p R=>res H' z' n e p R⟩
   ·rw [if_neg hf] at res; exact res.elim
end
end RT
end
section
namespace RT
open PySem PySem.Spec PyProof.Rows L2
open Vastoa (Mark Marks)
open RM (Part Sym qD kd held MS Bg)
theorem QN.on {a:Ad} {K:PySem.W.Frag} {z:RA} {toks:Marks} {H H1:Hp} {r:Option (Except Vastoa.Fault MS)} {Q:Hp->Prop} {E:XK} (h:QN a K z toks H r Q E) (k:qo z.M H H1):QN a K z toks H1 r Q E:=by
 unfold QN at h ⊢
 split
 ·exact fun H' z' n' e p R=>h H' z' n' e (JB (jN k) p) R
 ·exact XWM.from h k
 ·exact h
def qjW (a:Ad) (K:PySem.W.Frag):Sp:=fun vs H Q E=>∃ (z:RA) (toks:Marks) (n:Nat) (S:MS),vs=[.ref z.r]/\qR a H z toks n S/\RM.Fits toks.length (RM.hw toks) S/\toks.length<=5000/\(∀ s∈S.W,qa7 s=true)/\(∀ m∈toks,CM.Jd m.tok=true) /\
 QN a K z toks H (RM.step S) (Q .non) E
theorem qiq:∀ x∈allParts,∀ k∈jS,(qD x k).length<=8:=by decide +kernel
theorem qhy (s:Sym) (W:List Sym):wV (s::W)=wV W++[.str (Qg s)]:=by simp [wV]
theorem qnx (C W:List Sym):wV W++((C.map Qg).map V.str).reverse=wV (C++W):=by
 unfold wV
 rw [List.reverse_append,List.map_append]
 simp
theorem qny (W:List Sym):(wV W).length=W.length:=by simp [wV]
section
variable {P:Program} {w:World} {K:PySem.W.Frag} {mg:Str->Option Value} {base:Heap} {f:Addr} {fd:FuncData} {a:Ad}
theorem qd7:qm ["self","symbol","chosen"] ["self"] (qe j8):=⟨rfl,rfl,rfl,by decide +kernel,rfl,by decide +kernel,by decide +kernel⟩
theorem qmy (F:Fun K "step" "Reader.step" j8 f fd) (T:Tx P w K mg a) (Gc:FnAt P w K mg base CX0 2 "choose" ["part","kind"] (qge a)) (Ga:jl P w K mg base (CXR P w) 5 a.Reader "act" ["self","action"] (qlG a K))
  (Gr:jl P w K mg base (CXR P w) 4 a.Reader "read_token" ["self","kind"] (qeT a K)):qw P w K mg base (CXR P w) 6 f fd ["self"] (qjW a K):=by
 refine F.okR qd7 (fun vs H Q E h=>?_) (fun cdv A outer s H vs Q E hr h=>?_)
 ·obtain ⟨z,toks,n,S,rfl,_⟩:=h; rfl
 ·obtain ⟨z,toks,n,S,rfl,hR,hF,hlen,hW,hT,res⟩:=h
  have hr2:qN 2 _:=hr.mono (by decide)
  have hr4:qN 4 _:=hr.mono (by decide)
  refine ⟨_,qi (qZ (i:=1) qd7.nd rfl (Or.inl rfl) (qbD PySem.F.plainAttrs_list PySem.F.slot_list_pop PySem.F.type_list_pop qbE (qj (pv 0) rfl)))
   (qf (qQ (qfo (qnm (pv 1) (qL T.g_GRAMMAR)))
    (qi (qZ (i:=2) qd7.nd rfl (Or.inl rfl) (qV Gc hr2 qO (qa (pv 1) (qa (qj (jj zp (qj (pv 0) rfl) (qj (pv 0) rfl) (fun _ _=>rfl)) rfl) qg))))
     (qf (qu (zK PySem.F.plainAttrs_list PySem.F.slot_list_extend PySem.F.type_list_extend jL (qj (pv 0) rfl) (qa (qfZ (pv 2)) qg)))))
    (qf (qQ (QP (qnZ PySem.F.slot_str_startswith PySem.F.type_str_startswith qe2 (pv 1) qK)) (qf (qu (zj Ga T.c_Reader hr jU (pv 0) (qa (JK qnb (pv 1) (QZ qr) qhh) qg))))
     (qf (qu (zj Gr T.c_Reader hr4 jU (pv 0) (qa (pv 1) qg)))))))),?_⟩
  obtain ⟨hw1,hw2,hw3⟩:=hF.small hlen
  cases eW:S.W with
  | nil=>
   have:RM.step S=none:=by unfold RM.step; rw [eW]
   rw [this] at res; exact res.elim
  | cons y W=>
   have hwl:H z.wl=some (.lst (wV (y::W))):=by rw [<- eW]; exact hR.wl
   refine ⟨_,rfl,z.r,_,z.dx,_,_,rfl,hR.ins,T.c_Reader,T.n_Reader_waiting,JT _ _ _ _ _ _,.inl ⟨rfl,_,SqL.of hwl⟩,z.wl,_,.str (Qg y),rfl,rfl,hwl,by rw [qhy]; simp,?_⟩
   rw [show (wV (y::W)).dropLast=wV W by rw [qhy]; simp]
   have R1:=hR.putW W
   have k1:qo z.M H (upd H z.wl (.lst (wV W))):=qo.at_ z.mw
   have res1:=res.on k1
   have hwl1:(upd H z.wl (.lst (wV W))) z.wl=some (.lst (wV W)):=qc
   generalize upd H z.wl (.lst (wV W))=H1 at R1 k1 res1 hwl1 ⊢
   have hlW:W.length<=200000:=by rw [eW] at hw1; simp at hw1; omega
   refine ⟨_,rfl,a.GRAMMAR,_,Sum.inr (Qg y),rfl,T.d_GRAMMAR,rfl,_,rfl,?_⟩
   rw [qd3]
   cases y with
   | p x=>
    rw [if_pos (show Qg (.p x)∈Q1.map (·.1) from qgd x (QX x))]
    cases hS:S.ts with
    | nil=>
     have:RM.step S=none:=by unfold RM.step; rw [eW,hS]
     rw [this] at res; exact res.elim
    | cons m r=>
     have est:RM.step S=some (.ok { S with W:=qD x (kd m.tok)++W }):=by unfold RM.step; rw [eW,hS]
     rw [est] at res1
     obtain ⟨as,t1,t2⟩:=R1.tks
     obtain ⟨e1,e2⟩:=qa9 (hS.symm.trans hR.ts)
     obtain ⟨t,ht,dx,ha,ht1,ht2,_,_⟩:=zU t2 e1
     have hm:=hT m (List.mem_of_getElem? e1)
     refine zP ⟨_,rfl,_,rfl,z.r,_,z.dx,_,_,rfl,R1.ins,T.c_Reader,T.n_Reader_tokens,Zh _ _ _ _ _ _,_,rfl,z.r,_,z.dx,_,_,rfl,R1.ins,T.c_Reader,T.n_Reader_at,JE _ _ _ _ _ _,z.ts,_,_,_,rfl,rfl,SqL.of t1.1,jF (v:=V.ref t) (by rw [List.getElem?_map,ht]; rfl),t,_,dx,_,_,rfl,ht1,T.c_Token,T.n_Token_kind,qeN _ _ _,?_⟩
     refine ⟨x,kd m.tok,by rw [qd2]; rfl,qa6 hm,fun H2 p s2 hp hp2=>?_⟩
     have R2:=R1.same s2
     refine ⟨_,rfl,z.r,_,z.dx,_,_,rfl,R2.ins,T.c_Reader,T.n_Reader_waiting,JT _ _ _ _ _ _,.inl ⟨rfl,_,SqL.of (s2 _ _ hwl1)⟩,_,rfl,p,_,rfl,SqL.of hp2,fun q hq=>?_⟩
     have s3:=qp (o:=.lst (((qD x (kd m.tok)).map Qg).map V.str).reverse) hq
     refine ⟨z.wl,q,_,_,rfl,rfl,s3 _ _ (s2 _ _ hwl1),qc,?_,?_⟩
     ·rw [qny,List.length_reverse,List.length_map,List.length_map]
      have hc:(qD x (kd m.tok)).length<=8:=by
       have:=qiq x (QX x) _ (qa6 hm)
       exact this
      have:(1000000:Nat)<sizeLine:=by decide
      omega
     ·rw [qnx]
      have R4:=(R2.same s3).putW (qD x (kd m.tok)++W)
      exact res1 _ z n rfl (JB (J7 (s2.trans s3)) (jN (qo.at_ z.mw))) R4
   | t k=>
    have hk:k∈jS:=List.contains_iff_mem.mp (hW (.t k) (by rw [eW]; exact List.mem_cons_self))
    rw [if_neg (show ¬ Qg (.t k)∈Q1.map (·.1) from qms k hk)]
    refine zx ⟨_,rfl,⟨_,rfl⟩,_,_,rfl,rfl,_,rfl,?_⟩
    rw [show Txt.startswith (Qg (.t k)) "@" = false from qnu k hk]
    cases hS:S.ts with
    | nil=>
     have:RM.step S=none:=by unfold RM.step; rw [eW,hS]
     rw [this] at res; exact res.elim
    | cons m r=>
     have est:RM.step S=(if kd m.tok=k then some (.ok ⟨r,m,S.lv,W,S.B,S.G⟩) else some (.error ⟨3,m.place⟩)):=by unfold RM.step; rw [eW,hS]
     rw [est] at res1
     obtain ⟨e1,e2⟩:=qa9 (hS.symm.trans hR.ts)
     exact zx ⟨_,rfl,z.r,z.dx,_,rfl,R1.ins,qbS _ _ _ _ _ _,_,rfl,z,toks,n,{ S with W:=W },k,m,r,rfl,R1,hk,hT m (List.mem_of_getElem? e1),hS,res1⟩
   | a x=>
    rw [if_neg (show ¬ Qg (.a x)∈Q1.map (·.1) from qmt x (qa8 x))]
    obtain ⟨a1,a2,a3⟩:=qnt x (qa8 x)
    refine zx ⟨_,rfl,⟨_,rfl⟩,_,_,rfl,rfl,_,rfl,?_⟩
    rw [show Txt.startswith (Qg (.a x)) (Str.ofString "@")=true from a1]
    have est:RM.step S=RM.qaU x S.ts S.pv S.lv W S.B S.G:=by unfold RM.step; rw [eW]
    rw [est] at res1
    refine zP ⟨_,rfl,z.r,z.dx,_,rfl,R1.ins,qgU _ _ _ _ _ _,_,rfl,_,rfl,Qg (.a x),rfl,Nat.le_of_lt (QS a3),?_⟩
    rw [show qfE (Qg (.a x)) (some 1) none=ZS x from a2]
    exact ⟨z,toks,n,{ S with W:=W },x,rfl,R1,(by show S.B.length<=1000000; omega),(by show RM.gw S.G<=500000; omega),res1⟩
end
end RT
end
section
namespace RT
open PySem PySem.Spec PyProof.Rows L2
open Vastoa (Mark Marks)
open RM (Part Sym qD kd held MS Bg)
def qgi (toks:Marks) (pv:Mark):MS:=⟨toks,pv,0,[.p .EXPR,.t .fin],[],[]⟩
def qb4 (a:Ad):Sp:=fun vs H Q E=>∃ (r dx tl:Addr) (as:List Addr) (toks:Marks) (pv:Mark),vs=[.ref r,.ref tl]/\H r=some (.ins a.Reader dx [])/\H tl=some (.lst (as.map V.ref))/\Paired (Qc a M0 H) as toks/\atI toks (-1)=some pv /\
 ∀ H' z,z.r=r->(∀ b,z.M b->b=r \/ H b=none)->(∀ b o,H b=some o->b≠r->H' b=some o)->qR a H' z toks 0 (qgi toks pv)->Q .non H'
def qjX (a:Ad) (K:PySem.W.Frag):Sp:=fun vs H Q E=>∃ (t:Addr) (T:Vastoa.Tree),vs=[.ref t]/\qB a M0 H T t/\(40<Vastoa.depth T->XW K a.Refusal H 6 0 E)/\(¬ 40<Vastoa.depth T->Q .non H)
def qgj (a:Ad) (K:PySem.W.Frag):Sp:=fun vs H Q E=>∃ (ta:Addr) (txt:List Nat),vs=[.ref ta]/\SqL K H ta (nt txt) /\
 (∀ T,Vastoa.read txt=.ok T->RM.good T=true->RM.tw T<=200000->RM.lw T<=2048->∀ H' t,qF H H'->qB a M0 H' T t->Q (.ref t) H')/\∀ x,Vastoa.read txt=.error x->XW K a.Refusal H (x.kind:Int) (x.place:Int) E
def qcn (ts:Marks):Except Vastoa.Fault Vastoa.Tree:=(Vastoa.level Vastoa.DEEP ts).bind fun e=>(Vastoa.expect .fin e.2).bind fun _=>.ok e.1
theorem qjY {txt:List Nat} (h:2048<txt.length):Vastoa.read txt=.error ⟨1,0⟩:=by unfold Vastoa.read; rw [if_pos (show Vastoa.MOST<txt.length from h)]
theorem qlc {txt:List Nat} {x:Vastoa.Fault} (h:¬ 2048<txt.length) (e:Vastoa.tokens txt=.error x):Vastoa.read txt=.error x:=by unfold Vastoa.read; rw [if_neg (show ¬ Vastoa.MOST<txt.length from h),e]; rfl
theorem qjZ {txt:List Nat} {ts:Marks} (h:¬ 2048<txt.length) (e:Vastoa.tokens txt=.ok ts):Vastoa.read txt=(qcn ts).bind fun t=>if 40<Vastoa.depth t then .error ⟨6,0⟩ else .ok t:=by
 unfold Vastoa.read qcn
 rw [if_neg (show ¬ Vastoa.MOST<txt.length from h),e]
 show (Vastoa.level Vastoa.DEEP ts).bind _=_
 cases Vastoa.level Vastoa.DEEP ts with
 | error x=>rfl
 | ok e=>
  show (Vastoa.expect .fin e.2).bind _=((Vastoa.expect .fin e.2).bind _).bind _
  cases Vastoa.expect .fin e.2 with
  | error x=>rfl
  | ok u=>rfl
theorem qld {S S':MS} (h:∀ s∈S.W,qa7 s=true) (ht:∀ m∈S.ts,CM.Jd m.tok=true) (e:RM.step S=some (.ok S')):∀ s∈S'.W,qa7 s=true:=by
 obtain ⟨ts,pv,lv,W,B,G⟩:=S
 cases W with
 | nil=>cases e
 | cons y W=>
  have hW:∀ s∈W,qa7 s=true:=fun s hs=>h s (List.mem_cons_of_mem _ hs)
  cases y with
  | p x=>
   cases ts with
   | nil=>cases e
   | cons m r=>
    cases e
    intro s hs
    rcases List.mem_append.mp hs with hs | hs
    ·exact List.all_eq_true.mp (qjO x (QX x) _ (qa6 (ht m List.mem_cons_self))) s hs
    ·exact hW s hs
  | t k=>
   cases ts with
   | nil=>cases e
   | cons m r=>
    have e:(if kd m.tok=k then some (.ok ⟨r,m,lv,W,B,G⟩) else some (.error ⟨3,m.place⟩):Option (Except Vastoa.Fault MS))=some (Except.ok S'):=e
    split at e
    ·cases e; exact hW
    ·cases e
  | a x=>
   have e:RM.qaU x ts pv lv W B G=some (.ok S'):=e
   unfold RM.qaU at e
   split at e
   ·cases e; exact hW
   ·split at e
    ·cases e
    ·cases e; exact hW
   ·split at e
    ·cases e
    ·cases e; exact hW
   ·split at e
    ·cases e
    ·split at e
     ·cases e
     ·cases e; exact hW
   ·split at e
    ·cases e
    ·split at e
     ·cases e
     ·cases e; exact hW
   ·split at e
    ·cases e
    ·cases e; exact hW
   ·split at e
    ·cases e
    ·split at e
     ·cases e; exact hW
     ·cases e
theorem qmz {α : Type} {l:List α} (h:l≠[]):∃ y,atI l (-1)=some y:=by
 obtain ⟨l',y,rfl⟩:∃ l' y,l=l'++[y]:=⟨l.dropLast,l.getLast h,(List.dropLast_concat_getLast h).symm⟩
 exact ⟨y,Zo _ _⟩
section
variable {P:Program} {w:World} {K:PySem.W.Frag} {mg:Str->Option Value} {base:Heap} {f:Addr} {fd:FuncData} {a:Ad}
theorem qd8:qm ["self","tokens"] ["self","tokens"] (qe j7):=⟨rfl,rfl,rfl,by decide +kernel,rfl,by decide +kernel,by decide +kernel⟩
theorem qd9 (F:Fun K "__init__" "Reader.__init__" j7 f fd) (T:Tx P w K mg a):qw P w K mg base CX0 1 f fd ["self","tokens"] (qb4 a):=by
 refine F.ok qd8 (fun vs H Q E h=>?_) (fun cdv A outer s H vs Q E hr h=>?_)
 ·obtain ⟨r,dx,tl,as,toks,pv,rfl,_⟩:=h; rfl
 ·obtain ⟨r,dx,tl,as,toks,pm,rfl,hc,htl,hts,hpv,k⟩:=h
  refine ⟨_,qi (zy (pv 0) (pv 1) rfl) (qi (zy (pv 0) qr rfl) (qi (zy (pv 0) qr rfl) (qi (zy (pv 0) (qX (qa qK (qa qK qg))) rfl) (qi (zy (pv 0) (qX qg) rfl) (qf (zy (pv 0) (qX qg) rfl)))))),?_⟩
  refine ⟨_,rfl,_,rfl,r,_,dx,_,rfl,hc,T.c_Reader,T.n_Reader_tokens,(by show 0<1000; decide),?_⟩
  refine ⟨_,rfl,r,_,dx,_,rfl,qc,T.c_Reader,T.n_Reader_at,(by show 1<1000; decide),?_⟩
  refine ⟨_,rfl,r,_,dx,_,rfl,qc,T.c_Reader,T.n_Reader_level,(by show 2<1000; decide),?_⟩
  rw [jO,jO]
  have k1:∀ b o,H b=some o->b≠r->(upd H r (.ins a.Reader dx (zb "level" (.int 0) (zb "at" (.int 0) (zb "tokens" (.ref tl) []))))) b=some o:=fun b o e n=>by rw [qd n]; exact e
  have f1:∀ b,(upd H r (.ins a.Reader dx (zb "level" (.int 0) (zb "at" (.int 0) (zb "tokens" (.ref tl) []))))) b=none->H b=none/\b≠r:=fun b e=>by
   have:b≠r:=fun y=>by rw [y,qc] at e; cases e
   rw [qd this] at e; exact ⟨e,this⟩
  have r1:(upd H r (.ins a.Reader dx (zb "level" (.int 0) (zb "at" (.int 0) (zb "tokens" (.ref tl) []))))) r=some _:=qc
  generalize upd H r (.ins a.Reader dx (zb "level" (.int 0) (zb "at" (.int 0) (zb "tokens" (.ref tl) []))))=H1 at k1 f1 r1 ⊢
  refine ⟨(by show 2<=sizeLine; decide),fun wl hwl=>?_⟩
  obtain ⟨w1,w2⟩:=f1 wl hwl
  refine ⟨_,rfl,r,_,dx,_,rfl,(qd (Ne.symm w2)).trans r1,T.c_Reader,T.n_Reader_waiting,(by show 3<1000; decide),?_⟩
  refine ⟨Nat.zero_le _,fun bl hbl=>?_⟩
  have b2:bl≠r:=fun y=>by rw [y,qc] at hbl; cases hbl
  rw [qd b2] at hbl
  have b3:bl≠wl:=fun y=>by rw [y,qc] at hbl; cases hbl
  rw [qd b3] at hbl
  obtain ⟨b1,_⟩:=f1 bl hbl
  refine ⟨_,rfl,r,_,dx,_,rfl,(qd (Ne.symm b2)).trans qc,T.c_Reader,T.n_Reader_built,(by show 4<1000; decide),?_⟩
  refine ⟨Nat.zero_le _,fun gl hgl=>?_⟩
  have g2:gl≠r:=fun y=>by rw [y,qc] at hgl; cases hgl
  rw [qd g2] at hgl
  have g4:gl≠bl:=fun y=>by rw [y,qc] at hgl; cases hgl
  rw [qd g4,qd g2] at hgl
  have g3:gl≠wl:=fun y=>by rw [y,qc] at hgl; cases hgl
  rw [qd g3] at hgl
  obtain ⟨g1,_⟩:=f1 gl hgl
  refine ⟨_,rfl,r,_,dx,_,rfl,(qd (Ne.symm g2)).trans qc,T.c_Reader,T.n_Reader_begun,(by show 5<1000; decide),?_⟩
  have inM:∀ b,(⟨r,dx,tl,wl,bl,gl,[]⟩:RA).M b->b=r \/ H b=none:=fun b hb=>by
   rcases hb with hb | hb
   ·exact .inl hb
   ·have hb:b∈[wl,bl,gl]:=hb
    simp only [List.mem_cons,List.not_mem_nil,or_false] at hb
    rcases hb with rfl | rfl | rfl
    ·exact .inr w1
    ·exact .inr b1
    ·exact .inr g1
  have keep:∀ b o,H b=some o->b≠r->upd (upd (upd (upd (upd (upd H1 wl (.lst [.str "end",.str "EXPR"])) r (.ins a.Reader dx (zb "waiting" (.ref wl) (zb "level" (.int 0) (zb "at" (.int 0) (zb "tokens" (.ref tl) [])))))) bl (.lst [])) r (.ins a.Reader dx (zb "built" (.ref bl) (zb "waiting" (.ref wl) (zb "level" (.int 0) (zb "at" (.int 0) (zb "tokens" (.ref tl) []))))))) gl (.lst [])) r (.ins a.Reader dx (Zc (.ref tl) (.int 0) (.int 0) (.ref wl) (.ref bl) (.ref gl))) b=some o:=fun b o e n=>by
   rw [qd n,qd (qh e g1),qd n,qd (qh e b1),qd n,qd (qh e w1)]; exact k1 b o e n
  have pass:∀ b o,H b=some o->(∀ d,o≠.ins a.Reader d [])->¬ (⟨r,dx,tl,wl,bl,gl,[]⟩:RA).M b:=fun b o e ni y=>by
   rcases inM b y with y | y
   ·rw [y,hc] at e; cases e; exact ni _ rfl
   ·rw [y] at e; cases e
  have ner:∀ b o,H b=some o->(∀ d,o≠.ins a.Reader d [])->b≠r:=fun b o e ni y=>pass b o e ni (.inl y)
  refine k _ ⟨r,dx,tl,wl,bl,gl,[]⟩ rfl inM keep ⟨qc,⟨as,⟨keep _ _ htl (ner _ _ htl fun d q=>by cases q),pass _ _ htl fun d q=>by cases q⟩,?_⟩,?_,⟨[],?_,?_⟩,?_,.nil,?_,rfl,hpv⟩
  ·refine qW (fun t m q=>?_) hts
   obtain ⟨d,ha,q1,q2,_,_⟩:=q
   have i1:∀ d',HO.ins a.Token d (tokF (.str (jW m.tok)) (.int m.place) (.ref ha))≠.ins a.Reader d' []:=fun d' q=>by injection q with _ _ q; cases q
   exact ⟨d,ha,keep _ _ q1 (ner _ _ q1 i1),keep _ _ q2 (ner _ _ q2 fun d q=>by cases q),pass _ _ q1 i1,pass _ _ q2 fun d q=>by cases q⟩
  ·show upd _ r _ wl=_
   rw [qd w2,qd (Ne.symm g3),qd w2,qd (Ne.symm b3),qd w2,qc]; rfl
  ·show upd _ r _ bl=_
   rw [qd b2,qd (Ne.symm g4),qd b2,qc]; rfl
  ·unfold qgi qy; rfl
  ·show upd _ r _ gl=_
   rw [qd g2,qc]; rfl
  ·show [wl,bl,gl].Nodup
   exact List.nodup_cons.mpr ⟨by simp only [List.mem_cons,List.not_mem_nil,or_false,not_or]; exact ⟨Ne.symm b3,Ne.symm g3⟩,List.nodup_cons.mpr ⟨by simp only [List.mem_cons,List.not_mem_nil,or_false]; exact Ne.symm g4,List.nodup_cons.mpr ⟨by simp,List.nodup_nil⟩⟩⟩
theorem qea:qm ["tree"] ["tree"] (qe jX):=⟨rfl,rfl,rfl,by decide +kernel,rfl,by decide +kernel,by decide +kernel⟩
theorem qeb (F:Fun K "refuse_deep" "refuse_deep" jX f fd) (T:Tx P w K mg a) (Gx:QL P w K mg base 2 a.TreeTooDeep "TreeTooDeep" ["self"] (spX a.TreeTooDeep 6 false)):qw P w K mg base (CXR P w) 4 f fd ["tree"] (qjX a K):=by
 refine F.okR qea (fun vs H Q E h=>?_) (fun cdv A outer s H vs Q E hr h=>?_)
 ·obtain ⟨t,U,rfl,_⟩:=h; rfl
 ·obtain ⟨t,U,rfl,hU,kx,ko⟩:=h
  refine ⟨_,qf (qQ (qI Jy (qj (pv 0) rfl) (qL T.g_MOST_DEPTH) (qU _)) (qf (ZO Gx hr)) zf),?_⟩
  obtain ⟨dx,x,y,z,ht⟩:=hU.depth
  refine ⟨_,rfl,t,_,dx,_,_,rfl,ht,T.c_Node,T.n_Node_depth,qdp _ _ _ _,_,_,rfl,rfl,_,rfl,zN (fun e=>?_) fun e=>?_⟩
  ·have e:40<Vastoa.depth U:=by have:=of_decide_eq_true e; omega
   exact qav T.x_TreeTooDeep T.u_TreeTooDeep T.n_TreeTooDeep_number T.n_TreeTooDeep_place (kx e)
  ·exact ko fun y=>e (decide_eq_true (by omega))
end
end RT
end
section
namespace RT
open PySem PySem.Spec PyProof.Rows L2
open Vastoa (Mark Marks)
open RM (Part Sym qD kd held MS Bg)
theorem qle:∀ s∈([.p .EXPR,.t .fin]:List Sym),qa7 s=true:=by decide +kernel
section
variable {P:Program} {w:World} {K:PySem.W.Frag} {mg:Str->Option Value} {base:Heap} {f:Addr} {fd:FuncData} {a:Ad}
theorem qec:qm ["text","reader","tree"] ["text"] (qe qau):=⟨rfl,rfl,rfl,by decide +kernel,rfl,by decide +kernel,by decide +kernel⟩
theorem qmA (F:Fun K "read" "read" qau f fd) (T:Tx P w K mg a) (Gx:QL P w K mg base 2 a.TextTooLong "TextTooLong" ["self"] (spX a.TextTooLong 1 false)) (Gc:FnAt P w K mg base (CXR P w) 7 "cut" ["text"] (qlF a K))
  (Gi:qcS P w K mg base CX0 1 a.Reader "Reader" ["self","tokens"] (qb4 a)) (Gs:jl P w K mg base (CXR P w) 6 a.Reader "step" ["self"] (qjW a K)) (Gd:FnAt P w K mg base (CXR P w) 4 "refuse_deep" ["tree"] (qjX a K)) :
  qw P w K mg base (CXR P w) 8 f fd ["text"] (qgj a K):=by
 refine F.okR qec (fun vs H Q E h=>?_) (fun cdv A outer s H vs Q E hr h=>?_)
 ·obtain ⟨ta,txt,rfl,_⟩:=h; rfl
 ·obtain ⟨ta,txt,rfl,ht,ko,kx⟩:=h
  have hr2:qN 2 _:=hr.mono (by decide)
  have hr3:qN 3 _:=hr.mono (by decide)
  have hr4:qN 4 _:=hr.mono (by decide)
  have hr6:qN 6 _:=hr.mono (by decide)
  refine ⟨_,qi (qQ (qI Jy (ja zB (by rfl) T.b_len PySem.boot_len (qa (pv 0) qg)) (qL T.g_MOST_TEXT_BYTES) (qU _)) (qf (ZO Gx hr3)) zf)
   (qi (qZ (i:=1) qec.nd rfl (Or.inl rfl) (Zr Gi hr2 qO (qa (qV Gc hr jU (qa (pv 0) qg)) qg)))
   (qi (QQ PassesOwn.leaving (QR (qj (pv 1) rfl) (by intro _; rfl)) (qf (qu (jq Gs T.c_Reader hr6 jU (pv 1)))))
   (qi (qZ (i:=2) qec.nd rfl (Or.inl rfl) (jj zp (qj (pv 1) rfl) qr (fun _ _=>rfl)))
   (qi (qu (qV Gd hr4 jU (qa (pv 2) qg)))
   (qf (qG (pv 2))))))),?_⟩
  refine ⟨_,rfl,ta,_,rfl,.inl ht,_,_,rfl,rfl,_,rfl,zN (fun hl=>?_) fun hl=>?_⟩
  ·have hl:2048<txt.length:=by have:=of_decide_eq_true hl; rw [zt] at this; omega
   exact qav T.x_TextTooLong T.u_TextTooLong T.n_TextTooLong_number T.n_TextTooLong_place (kx _ (qjY hl))
  have hl:¬ 2048<txt.length:=fun y=>hl (decide_eq_true (by rw [zt]; omega))
  refine ⟨_,rfl,ta,txt,rfl,ht,by omega,fun H1 tl as toks s1 etk ltk htl hts=>?_,fun p hp=>kx _ (qlc hl hp)⟩
  obtain ⟨hEnds,hok⟩:=CM.qgQ etk
  have hrt:=qjZ hl etk
  have hne:toks≠[]:=by
   obtain ⟨pre,q,e,_⟩:=hEnds
   rw [e]; simp
  obtain ⟨pm,hpm⟩:=qmz hne
  intro r dx hrn hdx hneq
  have s2:qF H1 (upd (upd H1 dx (.own r)) r (.ins a.Reader dx [])):=fun b o e=>by rw [qd (qh e hrn),qd (qh e hdx)]; exact e
  refine ⟨r,dx,tl,as,toks,pm,rfl,qc,s2 _ _ htl,qW (fun t m q=>q.keep (qo.of s2)) hts,hpm,fun H2 z ez inM k2 R2=>⟨rfl,?_⟩⟩
  have s3:qF H1 H2:=fun b o e=>k2 b o (s2 b o e) (qh e hrn)
  have out:∀ b o,H1 b=some o->¬ z.M b:=fun b o e y=>by
   rcases inM b y with y | y
   ·rw [y,hrn] at e; cases e
   ·rw [s2 b o e] at y; cases y
  obtain ⟨cnt,hrun⟩:=(RM.machine (Q:=fun S=>∃ e u pv',S=⟨u,pv',0,[],[e],[]⟩/\qcn toks=.ok e/\RM.good e=true) (E:=fun y=>qcn toks=.error y) (ts:=toks) (pv:=pm) hEnds (fun e u pv' h1 h2=>⟨e,u,pv',rfl,h1,h2⟩) (fun y h=>h)).count
  refine ⟨fun m σ H'=>∃ (z':RA) (n:Nat) (S:MS),σ = [some (.ref ta),some (.ref z'.r),none]/\qR a H' z' toks n S/\RM.Fits toks.length (RM.hw toks) S/\(∀ s∈S.W,qa7 s=true)/\(∀ b o,H1 b=some o->H' b=some o/\¬ z'.M b) /\
   RM.qdN (fun S=>∃ e u pv',S=⟨u,pv',0,[],[e],[]⟩/\qcn toks=.ok e/\RM.good e=true) (fun y=>qcn toks=.error y) m S,
   ⟨cnt,z,0,qgi toks pm,by rw [ez]; rfl,R2,RM.qic toks pm,qle,fun b o e=>⟨s3 b o e,out b o e⟩,hrun⟩,?_⟩
  rintro m σ H3 ⟨z3,n,S,rfl,R3,hF,hW,fr,run⟩
  refine ⟨_,rfl,z3.r,_,z3.dx,_,_,rfl,R3.ins,T.c_Reader,T.n_Reader_waiting,JT _ _ _ _ _ _,_,.inl ⟨_,SqL.of R3.wl,rfl⟩,?_⟩
  have hts':∀ m∈S.ts,CM.Jd m.tok=true:=fun m hm=>hok m (by rw [R3.ts] at hm; exact List.mem_of_mem_drop hm)
  have ne:∀ r',RM.step S=some r'->(!(S.W.reverse.map fun s=>V.str (Qg s)).isEmpty)=true:=fun r' e=>by
   cases hw:S.W with
   | nil=>unfold RM.step at e; rw [hw] at e; cases e
   | cons y W=>simp
  cases run with
  | done q=>
   obtain ⟨e,u,pv',rfl,e1,e2⟩:=q
   refine zx ?_
   obtain ⟨bs,b1,b2⟩:=R3.bl
   have b2:qy a z3.M H3 [e] bs:=b2
   unfold qy at b2
   obtain ⟨t,r',rfl,hT,h0⟩:=b2
   unfold qy at h0
   subst h0
   refine ⟨_,rfl,z3.r,_,z3.dx,_,_,rfl,R3.ins,T.c_Reader,T.n_Reader_built,Q2 _ _ _ _ _ _,z3.bl,_,_,_,rfl,rfl,SqL.of b1,jF (j:=0) (v:=V.ref t) rfl,?_⟩
   have hT0:qB a M0 H3 e t:=qB.pass (fun b o e _=>⟨e,id⟩) _ _ hT
   rw [e1] at hrt
   refine ⟨_,rfl,t,e,rfl,hT0,fun hd=>?_,fun hd=>?_⟩
   ·have:Vastoa.read txt=.error ⟨6,0⟩:=by rw [hrt]; show (if 40<Vastoa.depth e then _ else _)=_; rw [if_pos hd]
    exact fun C dx' H' s' x=>kx _ this C dx' H' ((s1.trans fun b o e=>(fr b o e).1).trans s') x
   ·have:Vastoa.read txt=.ok e:=by rw [hrt]; show (if 40<Vastoa.depth e then _ else _)=_; rw [if_neg hd]
    have hb:=hF.tree (by omega)
    have hh:=CM.qgT etk
    have e3:RM.tw e<=200000:=by have:=hb.1; simp only [RM.Qq] at this; omega
    have e4:RM.lw e<=2048:=by have:=hb.2; simp only [RM.QT] at this; omega
    exact ⟨_,rfl,ko e this e2 e3 e4 H3 t (s1.trans fun b o e=>(fr b o e).1) hT0⟩
  | @next k S0 S' e run'=>
   rw [ne _ e]
   refine zP ⟨_,fun σ' H' q=>q,?_⟩
   refine ⟨_,rfl,z3.r,z3.dx,_,rfl,R3.ins,qbR _ _ _ _ _ _,z3,toks,n,S,rfl,R3,hF,by omega,hW,hok,?_⟩
   rw [e]
   exact fun H' z' n' er p R=>⟨k,Nat.lt_succ_self _,z',n',S',by rw [er],R,hF.step e,qld hW hts' e,fun b o eb=>p b o (fr b o eb).1 (fr b o eb).2,run'⟩
  | @fail k S0 x e hx=>
   rw [ne _ e]
   refine zP ⟨_,fun σ' H' q=>q,?_⟩
   refine ⟨_,rfl,z3.r,z3.dx,_,rfl,R3.ins,qbR _ _ _ _ _ _,z3,toks,n,S,rfl,R3,hF,by omega,hW,hok,?_⟩
   rw [e]
   rw [hx] at hrt
   exact fun C dx' H' k' x'=>kx x hrt C dx' H' (s1.trans fun b o eb=>k' b o (fr b o eb).1 (fr b o eb).2) x'
end
end RT
end
section
namespace L2
open PySem PySem.Spec PyProof.Rows
def qfj:List Str->List Value->Bool
 | [],[]=>true
 | x::xs,.str y _::us=>x == y&&qfj xs us
 | _,_=>false
theorem qeV:∀ {xs:List Str} {us:List Value},qfj xs us=true->qE (xs.map V.str) us
 | [],[],_=>.nil
 | x::xs,.str y t::us,h=>by
  simp only [qfj,Bool.and_eq_true,beq_iff_eq] at h
  obtain ⟨rfl,h⟩:=h
  exact .cons ⟨t,rfl⟩ (qeV h)
def JC (K:PySem.W.Frag) (a:Addr) (xs:List Str):Bool:=match K.lookup a with
 | some ⟨.type ty,_,.seq its _,_⟩=>ty == "tuple" && decide (its.size<=1000)&&qfj xs its.toList
 | _=>false
theorem Z8 {K:PySem.W.Frag} {a:Addr} {xs:List Str} (h:JC K a xs=true):qah K a (xs.map V.str):=by
 unfold JC at h
 split at h
 ·rename_i ty _ its n sl e
  simp only [Bool.and_eq_true,beq_iff_eq,decide_eq_true_eq] at h
  obtain ⟨⟨rfl,h2⟩,h3⟩:=h
  exact ⟨_,its,n,e,rfl,rfl,Nat.le_of_lt (QS h2),qeV h3⟩
 ·cases h
def ZT (K:PySem.W.Frag) (C S:Addr):Bool:=(PySem.W.clsIn K C).any fun cd=>cd.mro.contains (.ref S)
theorem ZU {K:PySem.W.Frag} {C S:Addr} (h:ZT K C S=true):subB K C S:=by
 unfold ZT at h
 cases e:PySem.W.clsIn K C with
 | none=>rw [e] at h; cases h
 | some cd=>rw [e] at h; exact ⟨cd,e,h⟩
def qco (w:World) (kv:Key × V) (e:DictEntry):Prop:=e.hash=qkp w kv.1/\Jx kv.1 e.key=true/\RelV kv.2 e.val
theorem qba {P:Program} {w:World} {K:PySem.W.Frag} {a:Addr} {es:Array DictEntry} {ep:Nat} {kvs:List (Key × V)} (lk:K.lookup a=some ⟨.type "dict",none,.dict es ep,#[]⟩) (ha:(a == sysModules)=false) (h:Paired (qco w) kvs es.toList) (nd:(kvs.map (·.1)).Nodup) :
  QM P w K a kvs:=by
 have key:∀ {l:List (Key × V)} {m:List DictEntry},Paired (qco w) l m->∃ vs:List (Key × Value),KV l vs/\Pairs (zW P w) m vs/\vs.map (·.1)=l.map (·.1)/\∀ e∈m,∃ k,Jx k e.key=true/\e.hash=qkp w k:=by
  intro l m q
  induction q with
  | nil=>exact ⟨[],.nil,.nil,rfl,fun e he=>by cases he⟩
  | @cons kv e l m q t ih=>
   obtain ⟨vs,h1,h2,h3,h4⟩:=ih
   obtain ⟨q1,q2,q3⟩:=q
   refine ⟨(kv.1,e.val)::vs,.cons ⟨rfl,q3⟩ h1,.cons q2 rfl h2,by rw [List.map_cons,List.map_cons,h3],fun e' he=>?_⟩
   rcases List.mem_cons.mp he with rfl | he
   ·exact ⟨kv.1,q2,q1⟩
   ·exact h4 e' he
 obtain ⟨vs,h1,h2,h3,h4⟩:=key h
 refine ⟨ha,vs,h1,fun hp hk=>⟨_,es,ep,hk _ _ lk,⟨rfl,rfl,rfl⟩,rfl,fun e he=>h4 e (Array.mem_toList_iff.mpr he),h2,by rw [h3]; exact nd⟩⟩
theorem qj0 {K:PySem.W.Frag} {h:Heap} {mg:Str->Option Value} {n:Str} {u:Value} {v:V} (X:K.In h) (G:h.Ns mainGlobals mg) (e:PySem.W.nsIn K mainGlobals n=some (some u)) (r:RelV v u):GlV mg n v:=⟨u,PySem.W.mg_of X G e,r⟩
theorem zF {K:PySem.W.Frag} {h:Heap} {mg:Str->Option Value} {n:Str} {i:Int} {t:Tok} (X:K.In h) (G:h.Ns mainGlobals mg) (e:PySem.W.nsIn K mainGlobals n=some (some (.int i t))):GlV mg n (.int i):=qj0 X G e ⟨t,rfl⟩
theorem QF {K:PySem.W.Frag} {h:Heap} {mg:Str->Option Value} {n:Str} {a:Addr} (X:K.In h) (G:h.Ns mainGlobals mg) (e:PySem.W.nsIn K mainGlobals n=some (some (.ref a))):GlV mg n (.ref a):=qj0 X G e rfl
def Z9 (es:Array DictEntry) (x:Str):Addr:=match es.toList.find? fun e=>Jx (Sum.inr x) e.key with
 | some ⟨_,_,.ref a⟩=>a
 | _=>0
end L2
namespace RT
open PySem PySem.Spec PyProof.Rows L2
theorem qmB (l:List Int) (h:NeutralIO.bytes l=true):nt (VastoaNeutral.text l)=l.map V.int:=by
 unfold nt VastoaNeutral.text
 rw [List.map_map]
 refine List.map_congr_left fun x hx=>?_
 have:=List.all_eq_true.mp h x hx
 simp only [Bool.and_eq_true,decide_eq_true_eq] at this
 show V.int ((x.toNat:Nat):Int)=V.int x
 rw [Int.toNat_of_nonneg this.1]
end RT
end
section
namespace RT
open PySem PySem.Spec PyProof.Rows L2
abbrev VT:=Vastoa.Tree
inductive Pt where
 | s (x:Str)
 | t (T:VT)
 | l (b:List Nat)
def bts (x:Str):List Nat:=x.cps.toList
def z7:Pt->List Nat
 | .s x=>bts x
 | .t T=>Vastoa.shown T
 | .l b=>b
abbrev qT (L:List Pt):List Nat:=L.flatMap z7
def ps (x:String):Pt:=.s (Str.ofString x)
def atP (U:VT) (r:Nat):List Pt:=if U.kind.rank<r then [ps "(",.t U,ps ")"] else [.t U]
def btw (m:Pt):List (List Pt)->List Pt
 | []=>[]
 | [g]=>g
 | g::r=>g++(m::btw m r)
def jE (U:VT):List Pt:=if U.kind=.piece then [.t U] else [ps "${",.t U,ps "}"]
def z8 (ls:List (List Nat)) (l:List VT):List (List Pt):=(ls.zip l).map fun p=>[.l p.1,ps " = ",.t p.2,ps ";"]
def Qe (ls:List (List Nat)) (l:List VT):List Pt:=btw (ps " ") (z8 ls l)
def Zd (ls:List (List Nat)) (l:List VT):List Pt:=if ls.isEmpty then [ps "{}"] else [ps "{ "]++Qe ls l++[ps " }"]
def ones (l:List VT):List (List Pt):=l.map fun U=>[.t U]
def fnP (l:List VT) (dots:List (List Pt)):List Pt:=match l.getLast? with
 | some e=>[ps "fn {"]++btw (ps ", ") (ones l.dropLast++dots)++[ps "}: ",.t e]
 | none=>[]
def js (ls:List (List Nat)):List Pt:=ls.flatMap fun x=>[ps ".",.l x]
def qH:VT->List Pt
 | .node k ls l=>match k,ls,l with
  | .piece,[x],[]=>[.l (x.flatMap Vastoa.escaped)]
  | .num,[x],[]=>[.l x]
  | .yes,[],[]=>[ps "true"]
  | .no,[],[]=>[ps "false"]
  | .none,[],[]=>[ps "none"]
  | .name,[x],[]=>[.l x]
  | .text,[],l=>[ps "\""]++l.flatMap jE++[ps "\""]
  | .list,[],l=>[ps "["]++btw (ps ", ") (ones l)++[ps "]"]
  | .record,ls,l=>Zd ls l
  | .recur,ls,l=>[ps "rec "]++Zd ls l
  | .get,ls,[a]=>atP a 12++js ls
  | .get,ls,[a,d]=>atP a 12++js ls++[ps " ? "]++atP d 12
  | .app,[],[f,x]=>atP f 10++[ps " "]++atP x 11
  | .neg,[],[e]=>[ps "-"]++atP e 9
  | .not,[],[e]=>[ps "not "]++atP e 3
  | .has,[x],[e]=>atP e 5++[ps " has ",.l x]
  | .fn,[x],[e]=>[ps "fn ",.l x,ps ": ",.t e]
  | .fields,[],l=>fnP l []
  | .openFields,[],l=>fnP l [[ps ".."]]
  | .param,[x],[]=>[.l x]
  | .param,[x],[d]=>[.l x,ps " ? ",.t d]
  | .letIn,ls,l=>match l.getLast? with
   | some e=>[ps "let "]++Qe ls l++[ps " in ",.t e]
   | none=>[]
  | .cond,[],[a,b,c]=>[ps "if ",.t a,ps " then ",.t b,ps " else ",.t c]
  | .must,[],[a,b]=>[ps "must ",.t a,ps "; ",.t b]
  | .op o,[],[a,b]=>atP a o.leftRank++[ps " ",.s (kindS (.op o)),ps " "]++atP b o.rightRank
  | _,_,_=>[]
theorem zd (a b:List Pt):qT (a++b)=qT a++qT b:=List.flatMap_append
theorem QG (U:VT) (r:Nat):qT (atP U r)=Vastoa.Kid.at_ (U.kind,Vastoa.shown U) r:=by
 unfold atP Vastoa.Kid.at_
 split <;> simp [qT,z7,ps,bts] <;> rfl
theorem qbb (m:Pt):∀ gs:List (List Pt),qT (btw m gs)=Vastoa.between (z7 m) (gs.map qT)
 | []=>rfl
 | [g]=>rfl
 | g::h::r=>by
  show qT (g++(m::btw m (h::r)))=qT g++z7 m++Vastoa.between (z7 m) ((h::r).map qT)
  rw [<- qbb m (h::r)]
  simp [qT]
theorem zA:∀ l:List VT,Vastoa.shownKids l=l.map fun U=>(U.kind,Vastoa.shown U)
 | []=>by unfold Vastoa.shownKids; rfl
 | t::r=>by unfold Vastoa.shownKids; rw [zA r]; rfl
theorem qlf (ls:List (List Nat)) (l:List VT):(z8 ls l).map qT=(ls.zip (Vastoa.shownKids l)).map fun p=>p.1++[32,61,32]++p.2.2++[59]:=by
 rw [zA,List.zip_map_right]
 unfold z8
 rw [List.map_map,List.map_map]
 refine List.map_congr_left fun p _=>?_
 simp [qT,z7,ps,bts]
 rfl
theorem qdy (ls:List (List Nat)) (l:List VT):qT (Qe ls l)=Vastoa.shownBinds ls (Vastoa.shownKids l):=by
 unfold Qe Vastoa.shownBinds
 rw [qbb,qlf]
 rfl
theorem qgk (ls:List (List Nat)) (l:List VT):qT (Zd ls l)=Vastoa.shownRecord ls (Vastoa.shownKids l):=by
 unfold Zd Vastoa.shownRecord
 split
 ·rfl
 ·rw [zd,zd,qdy]; rfl
theorem qeW (l:List VT):(ones l).map qT=(Vastoa.shownKids l).map fun p=>p.2:=by
 rw [zA]
 unfold ones
 rw [List.map_map,List.map_map]
 refine List.map_congr_left fun p _=>?_
 simp [qT,z7]
theorem qcF:∀ l:List VT,qT (l.flatMap jE)=(Vastoa.shownKids l).flatMap Vastoa.shownPiece
 | []=>by rw [zA]; rfl
 | U::r=>by
  have:=qcF r
  rw [zA] at this ⊢
  rw [List.flatMap_cons,zd,this,List.map_cons,List.flatMap_cons]
  congr 1
  unfold jE Vastoa.shownPiece
  show qT (if U.kind=.piece then _ else _)=if U.kind=.piece then _ else _
  split <;> simp [qT,z7,ps,bts] <;> rfl
theorem qb5:∀ ls:List (List Nat),qT (js ls)=ls.flatMap fun x=>46::x
 | []=>rfl
 | x::r=>by
  have:=qb5 r
  unfold js at this ⊢
  rw [List.flatMap_cons,zd,this,List.flatMap_cons]
  congr 1
  simp [qT,z7,ps,bts]
  rfl
theorem qhz (l:List VT) (dots:List (List Pt)) (dt:List (List Nat)) (hd:dots.map qT=dt) (hl:l≠[]):qT (fnP l dots)=Vastoa.shownFn (Vastoa.shownKids l) dt:=by
 have e1:l.getLast? = some (l.getLast hl):=List.getLast?_eq_some_getLast hl
 unfold fnP Vastoa.shownFn
 rw [e1]
 show qT ([ps "fn {"]++_++[ps "}: ",.t _])=_
 rw [zd,zd,qbb,List.map_append,qeW,hd,zA,zA,<- List.map_dropLast,List.getLast?_map,e1]
 simp [qT,z7,ps,bts,Vastoa.wFn]
 rfl
end RT
end
section
namespace RT
open PySem PySem.Spec PyProof.Rows L2
inductive Shp:VT->Prop
 | piece (x):Shp (.node .piece [x] [])
 | num (x):Shp (.node .num [x] [])
 | yes:Shp (.node .yes [] [])
 | no:Shp (.node .no [] [])
 | none:Shp (.node .none [] [])
 | name (x):Shp (.node .name [x] [])
 | text (l):Shp (.node .text [] l)
 | list (l):Shp (.node .list [] l)
 | record (ls l) (h:ls.length=l.length):Shp (.node .record ls l)
 | recur (ls l) (h:ls.length=l.length):Shp (.node .recur ls l)
 | get1 (ls a):Shp (.node .get ls [a])
 | get2 (ls a d):Shp (.node .get ls [a,d])
 | app (f x):Shp (.node .app [] [f,x])
 | neg (e):Shp (.node .neg [] [e])
 | not (e):Shp (.node .not [] [e])
 | has (x e):Shp (.node .has [x] [e])
 | fn (x e):Shp (.node .fn [x] [e])
 | fields (l e):Shp (.node .fields [] (l++[e]))
 | opens (l e):Shp (.node .openFields [] (l++[e]))
 | param0 (x):Shp (.node .param [x] [])
 | param1 (x d):Shp (.node .param [x] [d])
 | letIn (ls l e) (h:ls.length=l.length):Shp (.node .letIn ls (l++[e]))
 | cond (a b c):Shp (.node .cond [] [a,b,c])
 | must (a b):Shp (.node .must [] [a,b])
 | op (o a b):Shp (.node (.op o) [] [a,b])
theorem Ju {α : Type} {l:List α} (h:l.length=1):∃ x,l=[x]:=by
 match l,h with
 | [x],_=>exact ⟨x,rfl⟩
theorem qir {α : Type} {l:List α} (h:l.length=2):∃ x y,l=[x,y]:=by
 match l,h with
 | [x,y],_=>exact ⟨x,y,rfl⟩
theorem qoy {α : Type} {l:List α} (h:l.length=3):∃ x y z,l=[x,y,z]:=by
 match l,h with
 | [x,y,z],_=>exact ⟨x,y,z,rfl⟩
theorem qlg {α : Type} {l:List α} (h:l≠[]):∃ y x,l=y++[x]:=⟨_,_,(List.dropLast_concat_getLast h).symm⟩
theorem qdz:∀ {T:VT},RM.good T=true->Shp T
 | .node k ls l,h=>by
  unfold RM.good at h
  rw [Bool.and_eq_true] at h
  have h:=h.2
  cases k <;> simp only [Bool.and_eq_true,Bool.or_eq_true,beq_iff_eq,List.isEmpty_iff,Bool.not_eq_true',List.isEmpty_eq_false_iff] at h
  case piece=>obtain ⟨x,rfl⟩:=Ju h.1; rw [h.2]; exact .piece x
  case num=>obtain ⟨x,rfl⟩:=Ju h.1; rw [h.2]; exact .num x
  case yes=>rw [h.1,h.2]; exact .yes
  case no=>rw [h.1,h.2]; exact .no
  case none=>rw [h.1,h.2]; exact .none
  case name=>obtain ⟨x,rfl⟩:=Ju h.1; rw [h.2]; exact .name x
  case text=>rw [h]; exact .text l
  case list=>rw [h]; exact .list l
  case record=>exact .record ls l h
  case recur=>exact .recur ls l h
  case get=>
   rcases h with h | h
   ·obtain ⟨x,rfl⟩:=Ju h; exact .get1 ls x
   ·obtain ⟨x,y,rfl⟩:=qir h; exact .get2 ls x y
  case app=>obtain ⟨x,y,rfl⟩:=qir h.2; rw [h.1]; exact .app x y
  case neg=>obtain ⟨x,rfl⟩:=Ju h.2; rw [h.1]; exact .neg x
  case not=>obtain ⟨x,rfl⟩:=Ju h.2; rw [h.1]; exact .not x
  case has=>obtain ⟨x,rfl⟩:=Ju h.1; obtain ⟨y,rfl⟩:=Ju h.2; exact .has x y
  case fn=>obtain ⟨x,rfl⟩:=Ju h.1; obtain ⟨y,rfl⟩:=Ju h.2; exact .fn x y
  case fields=>obtain ⟨y,x,rfl⟩:=qlg h.2; rw [h.1]; exact .fields y x
  case openFields=>obtain ⟨y,x,rfl⟩:=qlg h.2; rw [h.1]; exact .opens y x
  case param=>
   obtain ⟨x,rfl⟩:=Ju h.1
   rcases h.2 with h | h
   ·rw [List.length_eq_zero_iff.mp h]; exact .param0 x
   ·obtain ⟨y,rfl⟩:=Ju h; exact .param1 x y
  case letIn=>
   obtain ⟨y,x,rfl⟩:=qlg (l:=l) (by intro e; subst e; simp at h)
   exact .letIn ls y x (by simpa using h)
  case cond=>obtain ⟨x,y,z,rfl⟩:=qoy h.2; rw [h.1]; exact .cond x y z
  case must=>obtain ⟨x,y,rfl⟩:=qir h.2; rw [h.1]; exact .must x y
  case op=>obtain ⟨x,y,rfl⟩:=qir h.2; rw [h.1]; exact .op _ x y
mutual
def wt:VT->Nat
 | .node _ ls l=>12 * (2+ls.length+l.length)+2 * (ls.map List.length).sum+zn l
def zn:List VT->Nat
 | []=>0
 | t::r=>wt t+zn r
end
def wp:Pt->Nat
 | .s x=>1+x.cps.size
 | .t T=>wt T
 | .l b=>1+b.length
def wP (L:List Pt):Nat:=(L.map wp).sum
theorem JF (x:Pt) (L:List Pt):wP (x::L)=wp x+wP L:=by simp [wP]
theorem zo (a b:List Pt):wP (a++b)=wP a+wP b:=by simp [wP]
theorem qbc:∀ a b:List VT,zn (a++b)=zn a+zn b
 | [],b=>by simp [zn]
 | t::r,b=>by simp only [List.cons_append,zn,qbc r b]; omega
theorem qnz (T:VT):24<=wt T:=by cases T; unfold wt; omega
theorem qj1 (x:Pt):1<=wp x:=by
 cases x with
 | s x=>show 1<=1+_; omega
 | t T=>have:=qnz T; show 1<=wt T; omega
 | l b=>show 1<=1+_; omega
theorem qdA:∀ L:List Pt,L.length<=wP L
 | []=>Nat.zero_le _
 | x::L=>by have:=qdA L; have:=qj1 x; rw [JF,List.length_cons]; omega
def wG (gs:List (List Pt)):Nat:=(gs.map wP).sum
theorem qcp (g:List Pt) (gs:List (List Pt)):wG (g::gs)=wP g+wG gs:=by simp [wG]
theorem qnA (a b:List (List Pt)):wG (a++b)=wG a+wG b:=by simp [wG]
theorem qb6 (m:Pt):∀ gs:List (List Pt),wP (btw m gs)<=wG gs+wp m * gs.length
 | []=>Nat.zero_le _
 | [g]=>by show wP g<=_; rw [qcp]; omega
 | g::h::r=>by
  show wP (g++(m::btw m (h::r)))<=_
  have:=qb6 m (h::r)
  rw [zo,JF,qcp,List.length_cons,Nat.mul_add]
  omega
theorem qcq:∀ l:List VT,wG (ones l)=zn l
 | []=>by unfold zn; rfl
 | t::r=>by
  have:=qcq r
  unfold ones at this ⊢
  unfold zn
  rw [List.map_cons,qcp,this]
  simp [wP,wp]
theorem qgl:∀ (ls:List (List Nat)) (l:List VT),ls.length=l.length->wG (z8 ls l)=7 * ls.length+(ls.map List.length).sum+zn l
 | [],[],_=>by unfold zn; rfl
 | x::ls,t::l,h=>by
  have:=qgl ls l (by simpa using h)
  unfold z8 at this ⊢
  unfold zn
  rw [List.zip_cons_cons,List.map_cons,qcp,this]
  have e:wP [.l x,ps " = ",.t t,ps ";"]=7+x.length+wt t:=by
   show 1+x.length+(4+(wt t+(2+0)))=_
   omega
  rw [e,List.map_cons,List.sum_cons,List.length_cons]
  omega
theorem qis (ls:List (List Nat)) (l:List VT) (h:ls.length=l.length):(z8 ls l).length=ls.length:=by unfold z8; simp [h]
theorem qgm (ls:List (List Nat)) (l:List VT) (h:ls.length=l.length):wP (Qe ls l)<=9 * ls.length+(ls.map List.length).sum+zn l:=by
 have:=qb6 (ps " ") (z8 ls l)
 rw [qgl ls l h,qis ls l h] at this
 have e:wp (ps " ")=2:=rfl
 rw [e] at this
 unfold Qe
 omega
theorem qj2 (ls:List (List Nat)) (l:List VT) (h:ls.length=l.length):wP (Zd ls l)<=9 * ls.length+(ls.map List.length).sum+zn l+6:=by
 unfold Zd
 split
 ·show 3+0<=_; omega
 ·have:=qgm ls l h
  rw [zo,zo]
  have e1:wP [ps "{ "]=3:=rfl
  have e2:wP [ps " }"]=3:=rfl
  omega
theorem Ji (U:VT) (r:Nat):wP (atP U r)<=wt U+4:=by
 unfold atP
 split
 ·show 2+(wt U+(2+0))<=_; omega
 ·show wt U+0<=_; omega
theorem qeX:∀ l:List VT,wP (l.flatMap jE)<=zn l+5 * l.length
 | []=>Nat.zero_le _
 | U::r=>by
  have:=qeX r
  rw [List.flatMap_cons,zo,List.length_cons]
  unfold zn
  have:wP (jE U)<=wt U+5:=by
   unfold jE
   split
   ·show wt U+0<=_; omega
   ·show 3+(wt U+(2+0))<=_; omega
  omega
theorem qed:∀ ls:List (List Nat),wP (js ls)=3 * ls.length+(ls.map List.length).sum
 | []=>rfl
 | x::r=>by
  have:=qed r
  unfold js at this ⊢
  rw [List.flatMap_cons,zo,this]
  have:wP [ps ".",.l x]=3+x.length:=by show 2+(1+x.length+0)=_; omega
  rw [this,List.map_cons,List.sum_cons,List.length_cons]
  omega
theorem qee:∀ x:List Nat,(x.flatMap Vastoa.escaped).length<=2 * x.length
 | []=>Nat.zero_le _
 | c::r=>by
  have:=qee r
  rw [List.flatMap_cons,List.length_append,List.length_cons]
  have:(Vastoa.escaped c).length<=2:=by unfold Vastoa.escaped; split <;> (try split) <;> (try split) <;> simp
  omega
theorem Jq {α : Type} (l:List α) (e:α):(l++[e]).getLast? = some e:=by simp
theorem qaE (l:List VT) (e:VT) (dots:List (List Pt)):fnP (l++[e]) dots=[ps "fn {"]++btw (ps ", ") (ones l++dots)++[ps "}: ",.t e]:=by
 unfold fnP
 rw [Jq,List.dropLast_concat]
theorem qgn (e:VT):∀ (ls:List (List Nat)) (l:List VT),ls.length=l.length->ls.zip (l++[e])=ls.zip l
 | [],[],_=>rfl
 | x::ls,y::l,h=>by
  rw [List.cons_append,List.zip_cons_cons,List.zip_cons_cons,qgn e ls l (by simpa using h)]
theorem qg4 (ls:List (List Nat)) (l:List VT) (e:VT) (h:ls.length=l.length):z8 ls (l++[e])=z8 ls l:=by
 unfold z8
 rw [qgn e ls l h]
theorem qdB (ls:List (List Nat)) (l:List VT) (e:VT):qH (.node .letIn ls (l++[e]))=[ps "let "]++Qe ls (l++[e])++[ps " in ",.t e]:=by
 show (match (l++[e]).getLast? with
  | some e'=>[ps "let "]++Qe ls (l++[e])++[ps " in ",.t e']
  | none=>[])=_
 rw [Jq]
theorem qgo {T:VT} (h:Shp T):wP (qH T)<wt T:=by
 cases h with
 | piece x=>have:=qee x; show (1+(x.flatMap Vastoa.escaped).length)+0<_; simp only [wt,zn,List.map,List.sum_cons,List.sum_nil,List.length_cons,List.length_nil]; omega
 | num x=>show (1+x.length)+0<_; simp only [wt,zn,List.map,List.sum_cons,List.sum_nil,List.length_cons,List.length_nil]; omega
 | yes=>show 5<_; unfold wt zn; decide
 | no=>show 6<_; unfold wt zn; decide
 | none=>show 5<_; unfold wt zn; decide
 | name x=>show (1+x.length)+0<_; simp only [wt,zn,List.map,List.sum_cons,List.sum_nil,List.length_cons,List.length_nil]; omega
 | text l=>
  have:=qeX l
  show wP ([ps "\""]++l.flatMap jE++[ps "\""])<_
  rw [zo,zo]
  have e1:wP [ps "\""]=2:=rfl
  simp only [wt,List.map,List.sum_nil,List.length_nil]; omega
 | list l=>
  have:=qb6 (ps ", ") (ones l)
  rw [qcq,show (ones l).length=l.length by simp [ones],show wp (ps ", ")=3 from rfl] at this
  show wP ([ps "["]++btw (ps ", ") (ones l)++[ps "]"])<_
  rw [zo,zo]
  have e1:wP [ps "["]=2:=rfl
  have e2:wP [ps "]"]=2:=rfl
  simp only [wt,List.map,List.sum_nil,List.length_nil]; omega
 | record ls l h=>have:=qj2 ls l h; show wP (Zd ls l)<_; simp only [wt]; omega
 | recur ls l h=>
  have:=qj2 ls l h
  show wP ([ps "rec "]++Zd ls l)<_
  rw [zo]
  have e1:wP [ps "rec "]=5:=rfl
  simp only [wt]; omega
 | get1 ls a=>
  have:=Ji a 12; have:=qed ls
  show wP (atP a 12++js ls)<_
  rw [zo]
  simp only [wt,zn,List.length_cons,List.length_nil]; omega
 | get2 ls a d=>
  have:=Ji a 12; have:=Ji d 12; have:=qed ls
  show wP (atP a 12++js ls++[ps " ? "]++atP d 12)<_
  rw [zo,zo,zo]
  have e1:wP [ps " ? "]=4:=rfl
  simp only [wt,zn,List.length_cons,List.length_nil]; omega
 | app f x=>
  have:=Ji f 10; have:=Ji x 11
  show wP (atP f 10++[ps " "]++atP x 11)<_
  rw [zo,zo]
  have e1:wP [ps " "]=2:=rfl
  simp only [wt,zn,List.length_cons,List.length_nil]; omega
 | neg e=>
  have:=Ji e 9
  show wP ([ps "-"]++atP e 9)<_
  rw [zo]
  have e1:wP [ps "-"]=2:=rfl
  simp only [wt,zn,List.length_cons,List.length_nil]; omega
 | not e=>
  have:=Ji e 3
  show wP ([ps "not "]++atP e 3)<_
  rw [zo]
  have e1:wP [ps "not "]=5:=rfl
  simp only [wt,zn,List.length_cons,List.length_nil]; omega
 | has x e=>
  have:=Ji e 5
  show wP (atP e 5++[ps " has ",.l x])<_
  rw [zo]
  have e1:wP [ps " has ",.l x]=7+x.length:=by show 6+(1+x.length+0)=_; omega
  simp only [wt,zn,List.length_cons,List.length_nil,List.map,List.sum_cons,List.sum_nil]; omega
 | fn x e=>
  show 4+((1+x.length)+(3+(wt e+0)))<_
  simp only [wt,zn,List.length_cons,List.length_nil,List.map,List.sum_cons,List.sum_nil]; omega
 | fields l e=>
  have:=qb6 (ps ", ") (ones l)
  rw [qcq,show (ones l).length=l.length by simp [ones],show wp (ps ", ")=3 from rfl] at this
  show wP (fnP (l++[e]) [])<_
  rw [qaE,zo,zo,List.append_nil]
  have e1:wP [ps "fn {"]=5:=rfl
  have e2:wP [ps "}: ",.t e]=4+wt e:=rfl
  simp only [wt,qbc,zn,List.length_append,List.length_cons,List.length_nil]; omega
 | opens l e=>
  have:=qb6 (ps ", ") (ones l++[[ps ".."]])
  rw [qnA,qcq,List.length_append,show (ones l).length=l.length by simp [ones],show wp (ps ", ")=3 from rfl,show wG [[ps ".."]]=3 from rfl] at this
  show wP (fnP (l++[e]) [[ps ".."]])<_
  rw [qaE,zo,zo]
  have e1:wP [ps "fn {"]=5:=rfl
  have e2:wP [ps "}: ",.t e]=4+wt e:=rfl
  simp only [wt,qbc,zn,List.length_append,List.length_cons,List.length_nil] at this ⊢; omega
 | param0 x=>show (1+x.length)+0<_; simp only [wt,zn,List.map,List.sum_cons,List.sum_nil,List.length_cons,List.length_nil]; omega
 | param1 x d=>
  show (1+x.length)+(4+(wt d+0))<_
  simp only [wt,zn,List.length_cons,List.length_nil,List.map,List.sum_cons,List.sum_nil]; omega
 | letIn ls l e h=>
  have:=qgm ls l h
  rw [qdB,zo,zo]
  have e0:Qe ls (l++[e])=Qe ls l:=by unfold Qe; rw [qg4 ls l e h]
  have e1:wP [ps "let "]=5:=rfl
  have e2:wP [ps " in ",.t e]=5+wt e:=rfl
  rw [e0]
  simp only [wt,qbc,zn,List.length_append,List.length_cons,List.length_nil]; omega
 | cond a b c=>
  show 4+(wt a+(7+(wt b+(7+(wt c+0)))))<_
  simp only [wt,zn,List.length_cons,List.length_nil,List.map,List.sum_cons,List.sum_nil]; omega
 | must a b=>
  show 6+(wt a+(3+(wt b+0)))<_
  simp only [wt,zn,List.length_cons,List.length_nil,List.map,List.sum_cons,List.sum_nil]; omega
 | op o a b=>
  have:=Ji a o.leftRank; have:=Ji b o.rightRank
  show wP (atP a o.leftRank++[ps " ",.s (kindS (.op o)),ps " "]++atP b o.rightRank)<_
  rw [zo,zo]
  have e1:wP [ps " ",.s (kindS (.op o)),ps " "]<=8:=by cases o <;> decide +kernel
  simp only [wt,zn,List.length_cons,List.length_nil,List.map,List.sum_cons,List.sum_nil]; omega
theorem qY (k:Vastoa.Kind) (ls:List (List Nat)) (l:List VT):Vastoa.shown (.node k ls l)=Vastoa.shownNode k ls (Vastoa.shownKids l):=by rw [Vastoa.shown]
theorem qgp {T:VT} (h:Shp T):Vastoa.shown T=qT (qH T):=by
 cases h with
 | piece x=>rw [qY]; show x.flatMap Vastoa.escaped=qT [.l (x.flatMap Vastoa.escaped)]; simp [qT,z7]
 | num x=>rw [qY]; show x=qT [.l x]; simp [qT,z7]
 | yes=>unfold Vastoa.shown Vastoa.shownKids; rfl
 | no=>unfold Vastoa.shown Vastoa.shownKids; rfl
 | none=>unfold Vastoa.shown Vastoa.shownKids; rfl
 | name x=>rw [qY]; show x=qT [.l x]; simp [qT,z7]
 | text l=>
  show _=qT ([ps "\""]++l.flatMap jE++[ps "\""])
  rw [zd,zd,qcF]
  rw [qY]; rfl
 | list l=>
  show _=qT ([ps "["]++btw (ps ", ") (ones l)++[ps "]"])
  rw [zd,zd,qbb,qeW]
  rw [qY]; rfl
 | record ls l h=>show _=qT (Zd ls l); rw [qgk]; rw [qY]; rfl
 | recur ls l h=>show _=qT ([ps "rec "]++Zd ls l); rw [zd,qgk]; rw [qY]; rfl
 | get1 ls a=>show _=qT (atP a 12++js ls); rw [zd,QG,qb5]; rw [qY,zA]; rfl
 | get2 ls a d=>show _=qT (atP a 12++js ls++[ps " ? "]++atP d 12); rw [zd,zd,zd,QG,QG,qb5]; rw [qY,zA]; rfl
 | app f x=>show _=qT (atP f 10++[ps " "]++atP x 11); rw [zd,zd,QG,QG]; rw [qY,zA]; rfl
 | neg e=>show _=qT ([ps "-"]++atP e 9); rw [zd,QG]; rw [qY,zA]; rfl
 | not e=>show _=qT ([ps "not "]++atP e 3); rw [zd,QG]; rw [qY,zA]; rfl
 | has x e=>
  show _=qT (atP e 5++[ps " has ",.l x])
  rw [zd,QG]; rw [qY,zA]
  show Vastoa.Kid.at_ (e.kind,Vastoa.shown e) 5++[32]++Vastoa.wHas++[32]++x=_
  simp [qT,z7,ps,bts,Vastoa.wHas]; rfl
 | fn x e=>
  rw [qY,zA]
  show Vastoa.wFn++[32]++x++[58,32]++Vastoa.shown e=qT [ps "fn ",.l x,ps ": ",.t e]
  simp [qT,z7,ps,bts,Vastoa.wFn]; rfl
 | fields l e=>show _=qT (fnP (l++[e]) []); rw [qhz _ [] [] rfl (by simp)]; rw [qY]; rfl
 | opens l e=>show _=qT (fnP (l++[e]) [[ps ".."]]); rw [qhz _ _ [[46,46]] rfl (by simp)]; rw [qY]; rfl
 | param0 x=>rw [qY]; show x=qT [.l x]; simp [qT,z7]
 | param1 x d=>
  rw [qY,zA]
  show x++[32,63,32]++Vastoa.shown d=qT [.l x,ps " ? ",.t d]
  simp [qT,z7,ps,bts]; rfl
 | letIn ls l e h=>
  rw [qdB,zd,zd,qdy]
  rw [qY]
  show Vastoa.wLet++[32]++Vastoa.shownBinds ls (Vastoa.shownKids (l++[e]))++[32]++Vastoa.wIn++[32]++(((Vastoa.shownKids (l++[e])).getLast?.map fun p=>p.2).getD [])=_
  rw [show ((Vastoa.shownKids (l++[e])).getLast?.map fun p=>p.2).getD []=Vastoa.shown e by rw [zA,List.getLast?_map,Jq]; rfl]
  simp [qT,z7,ps,bts,Vastoa.wLet,Vastoa.wIn]; rfl
 | cond a b c=>
  rw [qY,zA]
  show Vastoa.wIf++[32]++Vastoa.shown a++[32]++Vastoa.wThen++[32]++Vastoa.shown b++[32]++Vastoa.wElse++[32]++Vastoa.shown c=qT [ps "if ",.t a,ps " then ",.t b,ps " else ",.t c]
  simp [qT,z7,ps,bts,Vastoa.wIf,Vastoa.wThen,Vastoa.wElse]; rfl
 | must a b=>
  rw [qY,zA]
  show Vastoa.wMust++[32]++Vastoa.shown a++[59,32]++Vastoa.shown b=qT [ps "must ",.t a,ps "; ",.t b]
  simp [qT,z7,ps,bts,Vastoa.wMust]; rfl
 | op o a b=>
  show _=qT (atP a o.leftRank++[ps " ",.s (kindS (.op o)),ps " "]++atP b o.rightRank)
  rw [zd,zd,QG,QG]; rw [qY,zA]
  have e:qT [ps " ",.s (kindS (.op o)),ps " "]=[32]++o.sign++[32]:=by cases o <;> decide +kernel
  rw [e]
  show Vastoa.Kid.at_ (a.kind,Vastoa.shown a) o.leftRank++[32]++o.sign++[32]++Vastoa.Kid.at_ (b.kind,Vastoa.shown b) o.rightRank=_
  simp
end RT
end
section
namespace L2
open PySem PySem.Spec PyProof.Rows
theorem PE.weak {X:Cx} {e:Expr} {t t':TE} (h:PE X e t) (w:∀ σ H Q,t' σ H Q->t σ H Q):PE X e t':=fun pins s σ H Q I q=>h pins s σ H Q I (w σ H Q q)
theorem PA.weak {X:Cx} {es:List Expr} {t t':TA} (h:PA X es t) (w:∀ σ H Q,t' σ H Q->t σ H Q):PA X es t':=fun pos pins s σ H Q I q=>h pos pins s σ H Q I (w σ H Q q)
section
variable {X:Cx} {k:Nat} {pos apos cpos p:Pos} {fn o e g:Expr} {es:List Expr} {tf td ty tx:TE} {t:TA}
def qj3 (P:Program) (w:World) (K:PySem.W.Frag) (mg:Str->Option Value) (base:Heap) (k:Nat) (tf:TE) (t:TA):TE:=fun σ H Q=>tf σ H fun x H1=>∃ f fd ps sp,x=.ref f/\qw P w K mg base CX0 k f fd ps sp/\PySem.W.keepIn K (.ref f)=true/\Binds K fd ps []/\t σ H1 fun vs H2=>sp vs H2 Q E0
theorem qlh (hf:PE X fn tf) (hr:qN k X.A) (ha:PA X (e::es) t) (hc:eval (.Call fn (e::es) [] pos) X.env=(do callWith pos (<- eval fn X.env) [] (backTo pos (starEach (e::es) X.env)) (backToKw pos (keywordEach [] X.env))):=by rfl)
  (he:starEach (e::es) X.env=(false,eval e X.env)::starEach es X.env:=by rfl) (hpl:(backTo pos (starEach es X.env)).any (·.1)=false:=by rfl):PE X (.Call fn (e::es) [] pos) (qj3 X.prog X.w X.K X.mg X.base k tf t):=by
 intro pins s σ H Q I h
 refine Call_ (thn (hf pins s σ H _ I h) fun u s1 ⟨x,H1,I1,rx,f,fd,ps,sp,ex,F,hk,hb,q⟩=>?_) hc
 subst ex
 obtain rfl:u=Value.ref f:=rx
 refine PySem.W.callWith_K (h₀:=X.base) I1.ok.mod.kin hk (thn (ha pos pins s1 σ H1 _ I1 q) fun us s2 ⟨vs,H2,I2,r,q2⟩=>⟨I2.kIn,?_⟩) he hpl
 exact qbB F hr hb .nil qO I2 r (by rw [List.append_nil]; exact q2)
theorem qnB {pins:List (Addr × Obj)} {σ : St} {H:Hp} {s:Shared} {A:Around} {E:Value->Shared->Prop} {a:Addr} {kvs:List (Key × V)} {k:Key} {z:V} {u r:Value} {Q:Value->Shared->Prop} (I:Inv X pins σ H s) (d:QM X.prog X.w X.K a kvs) (ry:RelV (kV k) u) (rz:RelV z r) (h:∀ w' s',Inv X pins σ H s'->RelV ((zz kvs k).getD z) w'->Q w' s') :
  wpAny (model X.prog X.w) A (call (.builtin "dict.get") [.ref a,u,r]) Q E s:=by
 obtain ⟨hd,vs,rel,dd⟩:=d
 have dd:=dd _ I.kIn
 refine call_meetsIn PySem.F.slot_dict_get dd.typeIs PySem.F.entry_dict_get (PySem.F.args_dict_get_3 _ _ _) (meets_dict_get_default (zW X.prog X.w) a (qaQ ry) hd r) ⟨_,dd.mapOf,h _ _ (I.tok _) ?_⟩
 exact (rel.val k).getD rz
def qnC (P:Program) (w:World) (K:PySem.W.Frag) (td ty tx:TE):TE:=fun σ H Q=>td σ H fun x H1=>∃ a kvs,x=.ref a/\QM P w K a kvs/\ty σ H1 fun y H2=>∃ k,y=kV k/\tx σ H2 fun z H3=>Q ((zz kvs k).getD z) H3
theorem qli (ho:PE X o td) (he:PE X e ty) (hf:PE X g tx) (m:M2 X o "get" apos e g cpos):PE X (.Call (.Attribute o "get" apos) [e,g] [] cpos) (qnC X.prog X.w X.K td ty tx):=by
 intro pins s σ H Q I h
 refine wpAny_Call_method m.base m.few m.line PySem.F.plainAttrs_dict PySem.F.slot_dict_get PySem.F.type_dict_get (thn (ho pins s σ H _ I h) fun u s1 ⟨x,H1,I1,rx,a,kvs,ex,d,q1⟩=>?_)
 subst ex
 obtain rfl:u=Value.ref a:=rx
 obtain ⟨t1,t2⟩:=qcT I1 d
 refine ⟨t1,t2,?_⟩
 rw [m.trees]
 refine Calls.callWith_builtin rfl (Calls.evalArgs_plain (Calls.spliced_cons (thn (he pins s1 σ H1 _ I1 q1) fun iv s2 ⟨y,H2,I2,ry,k,ey,q2⟩=>
  Calls.spliced_cons (thn (hf pins s2 σ H2 _ I2 q2) fun fv s3 ⟨z,H3,I3,rz,q3⟩=>Calls.spliced_nil ?_))))
 subst ey
 exact qnB I3 d ry rz fun w' s4 I4 rw'=>⟨_,H3,I4,rw',q3⟩
def qn3 (K:PySem.W.Frag) (c:Value) (te:TE):TE:=fun σ H Q=>te σ H fun x H1=>∃ t b,ZY K H1 x t/\PySem.W.kitOne K t c=some b/\Q (.bl b) H1
theorem qhA {c:Value} {cn:Str} {p2:Pos} {te:TE} (he:PE X e te) (hm:X.mg "isinstance" = none)
  (hc:∀ (pins:List (Addr × Obj)) (s:Shared) (σ : St) (H:Hp) (Q:Value->Shared->Prop),Inv X pins σ H s->Q c s->wpAny (model X.prog X.w) X.A (eval (.Name cn p2) X.env) Q X.xe s) (hg:Gl X "isinstance":=by rfl)
  (hs:starEach [e,.Name cn p2] X.env=[(false,eval e X.env),(false,eval (.Name cn p2) X.env)]:=by rfl):PE X (.Call (.Name "isinstance" p) [e,.Name cn p2] [] pos) (qn3 X.K c te):=by
 intro pins s σ H Q I h
 refine Call_ (JH I hg hm (by decide +kernel:bootBuiltins "isinstance" = some (.builtin "isinstance")) ?_)
 rw [hs]
 refine Calls.callWith_builtin rfl (Calls.evalArgs_plain (Calls.spliced_cons (thn (he pins s σ H _ I h) fun u s1 ⟨x,H1,I1,rx,t,b,ty,ek,q⟩=>
  Calls.spliced_cons (hc pins s1 σ H1 _ I1 (Calls.spliced_nil ?_)))))
 exact qi1 I1 rx ty ek fun tk=>⟨.bl b,H1,I1.tok _,rfl,q⟩
end
end L2
end
section
namespace RT
open PySem PySem.Spec PyProof.Rows L2
theorem qj4 {M:Addr->Prop} {H H':Hp} (s:qF H H'):Pass M H M H':=fun b o e n=>⟨s b o e,n⟩
theorem qy.s {a:Ad} {M:Addr->Prop} {H H':Hp} (s:qF H H') {l:List VT} {ks:List Addr} (h:qy a M H l ks):qy a M H' l ks:=qy.pass (qj4 s) _ _ h
theorem qB.s {a:Ad} {M:Addr->Prop} {H H':Hp} (s:qF H H') {T:VT} {t:Addr} (h:qB a M H T t):qB a M H' T t:=qB.pass (qj4 s) _ _ h
theorem same_none {H H':Hp} (s:qF H H') {p:Addr} (h:H' p=none):H p=none:=by
 cases e:H p with
 | none=>rfl
 | some o=>rw [s _ _ e] at h; cases h
def qb7 (a:Ad) (M:Addr->Prop) (H:Hp):Pt->V->Prop
 | .s x,v=>v=.str x
 | .t T,v=>∃ u,v=.ref u/\qB a M H T u
 | .l b,v=>∃ u,v=.ref u/\H u=some (.lst (nt b))/\¬ M u
theorem qb7.s {a:Ad} {M:Addr->Prop} {H H':Hp} (s:qF H H'):∀ {x:Pt} {v:V},qb7 a M H x v->qb7 a M H' x v
 | .s _,_,h=>h
 | .t _,_,⟨u,e,h⟩=>⟨u,e,h.s s⟩
 | .l _,_,⟨u,e,h,n⟩=>⟨u,e,s _ _ h,n⟩
def Parts (a:Ad) (M:Addr->Prop) (H:Hp) (L:List Pt) (vs:List V):Prop:=Paired (fun v x=>qb7 a M H x v) vs L
theorem Parts.s {a:Ad} {M:Addr->Prop} {H H':Hp} (s:qF H H') {L:List Pt} {vs:List V} (h:Parts a M H L vs):Parts a M H' L vs:=qW (fun _ _ q=>q.s s) h
theorem Parts.app {a:Ad} {M:Addr->Prop} {H:Hp}:∀ {L L':List Pt} {vs ws:List V},Parts a M H L vs->Parts a M H L' ws->Parts a M H (L++L') (vs++ws)
 | _,_,_,_,.nil,h=>h
 | _,_,_,_,.cons q r,h=>.cons q (Parts.app r h)
def qaF (a:Ad) (M:Addr->Prop) (H:Hp) (v:V) (g:List Pt):Prop:=∃ p ws,v=.ref p/\H p=some (.lst ws)/\Parts a M H g ws
theorem qaF.s {a:Ad} {M:Addr->Prop} {H H':Hp} (s:qF H H') {v:V} {g:List Pt}:qaF a M H v g->qaF a M H' v g:=fun ⟨p,ws,e,h,q⟩=>⟨p,ws,e,s _ _ h,q.s s⟩
def Jr (a:Ad) (M:Addr->Prop) (H:Hp) (gs:List (List Pt)) (gv:List V):Prop:=Paired (qaF a M H) gv gs
theorem Jr.s {a:Ad} {M:Addr->Prop} {H H':Hp} (s:qF H H') {gs:List (List Pt)} {gv:List V} (h:Jr a M H gs gv):Jr a M H' gs gv:=qW (fun _ _ q=>q.s s) h
abbrev NP:=L2.St->Hp->Prop
def qgq (N:NP):Prop:=∀ σ H H',qF H H'->N σ H->N σ H'
def ju (a:Ad) (M:Addr->Prop) (T:VT):NP:=fun σ H=>∃ t,σ[0]? = some (some (.ref t))/\qB a M H T t
theorem jJ {a:Ad} {M:Addr->Prop} {T:VT}:qgq (ju a M T):=fun _ _ _ s ⟨t,e,h⟩=>⟨t,e,h.s s⟩
def tMk (a:Ad) (M:Addr->Prop) (N:NP) (L:List Pt):TE:=fun σ H Q=>N σ H/\∀ H' p vs,qF H H'->H p=none->H' p=some (.lst vs)->Parts a M H' L vs->Q (.ref p) H'
def tIt (a:Ad) (M:Addr->Prop) (N:NP) (x:Pt):TE:=fun σ H Q=>N σ H/\∀ v,qb7 a M H x v->Q v H
def qit (a:Ad) (M:Addr->Prop) (N:NP) (xs:List Pt):TA:=fun σ H Q=>N σ H/\∀ vs,Parts a M H xs vs->Q vs H
def tGr (a:Ad) (M:Addr->Prop) (N:NP) (gs:List (List Pt)):TE:=fun σ H Q=>N σ H/\∀ H' p gv,qF H H'->H p=none->H' p=some (.lst gv)->Jr a M H' gs gv->Q (.ref p) H'
def Bd:Nat:=16000000
theorem ZG:Bd<sizeLine:=by decide
def atV (U:VT) (r:Nat) (u:Addr):List V:=if U.kind.rank<r then [.str "(",.ref u,.str ")"] else [.ref u]
theorem qbd {a:Ad} {M:Addr->Prop} {H:Hp} {U:VT} {r:Nat} {u:Addr} (h:qB a M H U u):Parts a M H (atP U r) (atV U r u):=by
 unfold atP atV
 split
 ·exact .cons rfl (.cons ⟨u,rfl,h⟩ (.cons rfl .nil))
 ·exact .cons ⟨u,rfl,h⟩ .nil
def qb8 (a:Ad):Sp:=fun vs H Q E=>∃ (M:Addr->Prop) (u:Addr) (U:VT) (r:Nat),vs=[.ref u,.int r]/\qB a M H U u/\∀ H' p,qF H H'->H p=none->H' p=some (.lst (atV U r u))->Q (.ref p) H'
def qcr (a:Ad):Sp:=fun vs H Q E=>∃ (M:Addr->Prop) (g:Addr) (gs:List (List Pt)) (gv:List V) (x:Str),vs=[.ref g,.str x]/\H g=some (.lst gv)/\Jr a M H gs gv/\(btw (.s x) gs).length<=Bd /\
 ∀ H' p ws,qF H H'->H p=none->H' p=some (.lst ws)->Parts a M H' (btw (.s x) gs) ws->Q (.ref p) H'
def spL (a:Ad) (Sh:VT->Prop) (Lf:VT->List Pt):Sp:=fun vs H Q E=>∃ (M:Addr->Prop) (t:Addr) (T:VT),vs=[.ref t]/\qB a M H T t/\Sh T/\(Lf T).length<=Bd/\∀ H' p ws,qF H H'->H p=none->H' p=some (.lst ws)->Parts a M H' (Lf T) ws->Q (.ref p) H'
section
variable {X:Cx} {a:Ad} {M:Addr->Prop} {N:NP} {e e1 e2:Expr} {es:List Expr} {x:Pt} {xs L L1 L2:List Pt} {gs:List (List Pt)} {pos p p2:Pos} {k:Nat} {U:VT}
theorem le_app {A C:List Pt} (h:(A++C).length<=Bd):A.length<=Bd:=by rw [List.length_append] at h; omega
theorem qaG {A C:List Pt} (h:(A++C).length<=Bd):C.length<=Bd:=by rw [List.length_append] at h; omega
theorem zk:PA X [] (qit a M N []):=qg.weak fun σ H Q h=>h.2 [] .nil
theorem qA (he:PE X e (tIt a M N x)) (hr:PA X es (qit a M N xs)) (hs:starEach (e::es) X.env=(false,eval e X.env)::starEach es X.env:=by rfl):PA X (e::es) (qit a M N (x::xs)) :=
 (qa he hr hs).weak fun σ H Q h=>⟨h.1,fun v hv=>⟨h.1,fun vs hvs=>h.2 _ (.cons hv hvs)⟩⟩
theorem zw {x:Str} {j}:PE X (.Constant (.str x) j pos) (tIt a M N (.s x)):=qK.weak fun σ H Q h=>h.2 _ rfl
theorem zC (h:PA X es (qit a M N L)) (hl:L.length<=1000:=by exact Nat.le_of_ble_eq_true rfl):PE X (.List es pos) (tMk a M N L) :=
 (qX h).weak fun σ H Q h=>⟨h.1,fun vs hvs=>⟨by rw [Paired.length hvs]; exact Nat.le_of_lt (QS hl),fun p hp=>h.2 _ p vs (qp hp) hp qc (hvs.s (qp hp))⟩⟩
theorem jK (sN:qgq N) (h1:PE X e1 (tMk a M N L1)) (h2:PE X e2 (tMk a M N L2)) (hl:(L1++L2).length<=Bd):PE X (.BinOp e1 .Add e2 pos) (tMk a M N (L1++L2)) :=
 (QK qfx h1 h2).weak fun σ H Q h=>⟨h.1,fun H1 p1 v1 s1 f1 q1 r1=>⟨sN _ _ _ s1 h.1,fun H2 p2 v2 s2 f2 q2 r2=>⟨p1,p2,v1,v2,rfl,rfl,s2 _ _ q1,q2,by
   rw [Paired.length r1,Paired.length r2,<- List.length_append]; exact Nat.le_of_lt (Nat.lt_of_le_of_lt hl ZG),fun p hp=>
  h.2 _ p _ (s1.trans (s2.trans (qp hp))) (same_none (s1.trans s2) hp) qc (Parts.app (r1.s (s2.trans (qp hp))) (r2.s (qp hp)))⟩⟩⟩
theorem qbe (G:FnAt X.prog X.w X.K X.mg X.base CX0 k "at" ["kid","rank"] (qb8 a)) (hr:qN k X.A) {te:TE} {r:Nat} (hk:PE X e (tIt a M N (.t U))) (h2:PE X e2 te) (w:∀ σ H Q,N σ H->Q (.int (r:Nat)) H->te σ H Q)
  (hg:Gl X "at":=by rfl) (he:starEach [e,e2] X.env=(false,eval e X.env)::starEach [e2] X.env:=by rfl) (he2:starEach [e2] X.env=(false,eval e2 X.env)::starEach [] X.env:=by rfl) (hpl:(backTo pos (starEach [e2] X.env)).any (·.1)=false:=by rfl) :
  PE X (.Call (.Name "at" p) [e,e2] [] pos) (tMk a M N (atP U r)) :=
 (qV G hr qO (qa hk (qa h2 qg he2) he) hg (by decide) he hpl).weak fun σ H Q h=>⟨h.1,fun v ⟨u,ev,hu⟩=>w _ _ _ h.1 ⟨M,u,U,r,by rw [ev]; rfl,hu,fun H' p s f q=>h.2 H' p _ s f q (qbd (hu.s s))⟩⟩
theorem qj5 (G:FnAt X.prog X.w X.K X.mg X.base CX0 k "put_between" ["groups","mark"] (qcr a)) (hr:qN k X.A) {x:Str} {j} (hk:PE X e (tGr a M N gs)) (hl:(btw (.s x) gs).length<=Bd)
  (hg:Gl X "put_between":=by rfl) (he:starEach [e,.Constant (.str x) j p2] X.env=(false,eval e X.env)::starEach [.Constant (.str x) j p2] X.env:=by rfl) (he2:starEach [.Constant (.str x) j p2] X.env=(false,eval (.Constant (.str x) j p2) X.env)::starEach [] X.env:=by rfl) (hpl:(backTo pos (starEach [.Constant (.str x) j p2] X.env)).any (·.1)=false:=by rfl) :
  PE X (.Call (.Name "put_between" p) [e,.Constant (.str x) j p2] [] pos) (tMk a M N (btw (.s x) gs)) :=
 (qV G hr qO (qa hk (qa qK qg he2) he) hg (by decide) he hpl).weak fun σ H Q h=>⟨h.1,fun H1 g gv s1 f1 q1 r1=>⟨M,g,gs,gv,x,rfl,q1,r1,hl,fun H' p ws s f q r=>h.2 H' p ws (s1.trans s) (same_none s1 f) q r⟩⟩
theorem qmC (G:FnAt X.prog X.w X.K X.mg X.base CX0 k "put_between" ["groups","mark"] (qcr a)) (hr:qN k X.A) {te:TE} {x:Str} {j} (hk:PE X e te) (w:∀ σ H Q,N σ H->(∀ g gv,H g=some (.lst gv)->Jr a M H gs gv->Q (.ref g) H)->te σ H Q) (hl:(btw (.s x) gs).length<=Bd)
  (hg:Gl X "put_between":=by rfl) (he:starEach [e,.Constant (.str x) j p2] X.env=(false,eval e X.env)::starEach [.Constant (.str x) j p2] X.env:=by rfl) (he2:starEach [.Constant (.str x) j p2] X.env=(false,eval (.Constant (.str x) j p2) X.env)::starEach [] X.env:=by rfl) (hpl:(backTo pos (starEach [.Constant (.str x) j p2] X.env)).any (·.1)=false:=by rfl) :
  PE X (.Call (.Name "put_between" p) [e,.Constant (.str x) j p2] [] pos) (tMk a M N (btw (.s x) gs)) :=
 (qV G hr qO (qa hk (qa qK qg he2) he) hg (by decide) he hpl).weak fun σ H Q h=>w _ _ _ h.1 fun g gv q1 r1=>⟨M,g,gs,gv,x,rfl,q1,r1,hl,fun H' p ws s f q r=>h.2 H' p ws s f q r⟩
theorem qgr {fn:Str} {Sh:VT->Prop} {Lf:VT->List Pt} {T:VT} {ty:Pos} {n:Str} (G:FnAt X.prog X.w X.K X.mg X.base CX0 k fn ["node"] (spL a Sh Lf)) (hr:qN k X.A) (hS:Sh T) (hl:(Lf T).length<=Bd)
  (hv:PE X (.Name n ty) (zM 0)) (hg:Gl X fn:=by rfl) (hdb:(fn == ("__debug__" : Str))=false:=by decide) (he:starEach [.Name n ty] X.env=(false,eval (.Name n ty) X.env)::starEach [] X.env:=by rfl) :
  PE X (.Call (.Name fn p) [.Name n ty] [] pos) (tMk a M (ju a M T) (Lf T)) :=
 (qV G hr qO (qa hv qg he) hg hdb he rfl).weak fun σ H Q ⟨⟨t,et,ht⟩,h⟩=>⟨.ref t,et,M,t,T,rfl,ht,hS,hl,h⟩
variable {kd:Vastoa.Kind} {ls:List (List Nat)} {l:List VT}
def qiu (a:Ad) (M:Addr->Prop) (N:NP) (l:List VT):TE:=fun σ H Q=>N σ H/\∀ ka ks,H ka=some (.lst (ks.map V.ref))->qy a M H l ks->Q (.ref ka) H
def qlH (M:Addr->Prop) (N:NP) (ls:List (List Nat)):TE:=fun σ H Q=>N σ H/\∀ la lb,H la=some (.lst (lb.map V.ref))->qaC M H lb ls->Q (.ref la) H
theorem Qt (hN:∀ σ H,N σ H->ju a M (.node kd ls l) σ H) (c:Cls X.K a.Node) (n:qx X.K a.Node "kids") (h:PE X e (qaa X.K (zM 0) "kids")):PE X e (qiu a M N l) :=
 h.weak fun σ H Q ⟨hn,q⟩=>by
  obtain ⟨t,et,ht⟩:=hN _ _ hn
  unfold qB at ht
  obtain ⟨dx,la,ka,lb,ks,h1,h2,h3,h4,h5⟩:=ht
  exact ⟨_,et,t,_,dx,_,_,rfl,h1.1,c,n,QV _ _ _ _,q ka ks h4.1 h5⟩
theorem qcZ (hN:∀ σ H,N σ H->ju a M (.node kd ls l) σ H) (c:Cls X.K a.Node) (n:qx X.K a.Node "labels") (h:PE X e (qaa X.K (zM 0) "labels")):PE X e (qlH M N ls) :=
 h.weak fun σ H Q ⟨hn,q⟩=>by
  obtain ⟨t,et,ht⟩:=hN _ _ hn
  unfold qB at ht
  obtain ⟨dx,la,ka,lb,ks,h1,h2,h3,h4,h5⟩:=ht
  exact ⟨_,et,t,_,dx,_,_,rfl,h1.1,c,n,qak _ _ _ _,q la lb h2.1 h3⟩
theorem qlj (hN:∀ σ H,N σ H->ju a M (.node kd ls l) σ H) (c:Cls X.K a.Node) (n:qx X.K a.Node "kind") (h:PE X e (qaa X.K (zM 0) "kind")):PE X e (tIt a M N (.s (kindS kd))) :=
 h.weak fun σ H Q ⟨hn,q⟩=>by
  obtain ⟨t,et,ht⟩:=hN _ _ hn
  unfold qB at ht
  obtain ⟨dx,la,ka,lb,ks,h1,h2,h3,h4,h5⟩:=ht
  exact ⟨_,et,t,_,dx,_,_,rfl,h1.1,c,n,jM _ _ _ _,q _ rfl⟩
theorem QY {H:Hp} {i:Nat} (hi:l[i]? = some U) {ks:List Addr} (h:qy a M H l ks):∃ u,ks[i]? = some u/\qB a M H U u:=by
 obtain ⟨u,e1,e2⟩:=zU (za.mp h) hi
 exact ⟨u,e1,e2⟩
theorem qgs {i:Nat} {ti:TE} (hk:PE X e (qiu a M N l)) (h2:PE X e2 ti) (w:∀ σ H Q,Q (.int (i:Nat)) H->ti σ H Q) (hi:l[i]? = some U) (hs:qcf e2):PE X (.Subscript e e2 pos) (tIt a M N (.t U)) :=
 (jj zp hk h2 hs).weak fun σ H Q ⟨hn,q⟩=>⟨hn,fun ka ks h1 h3=>w _ _ _ (by
  obtain ⟨u,e1,e2⟩:=QY hi h3
  exact ⟨ka,_,_,_,rfl,rfl,SqL.of h1,jF (j:=i) (v:=V.ref u) (by rw [List.getElem?_map,e1]; rfl),q _ ⟨u,rfl,e2⟩⟩)⟩
theorem qhB {ti:TE} (hk:PE X e (qiu a M N l)) (h2:PE X e2 ti) (w:∀ σ H Q,Q (.int (-1)) H->ti σ H Q) (hi:l.getLast? = some U) (hs:qcf e2):PE X (.Subscript e e2 pos) (tIt a M N (.t U)) :=
 (jj zp hk h2 hs).weak fun σ H Q ⟨hn,q⟩=>⟨hn,fun ka ks h1 h3=>w _ _ _ (by
  have hl:ks.length=l.length:=Paired.length (za.mp h3)
  have hne:l≠[]:=fun y=>by rw [y] at hi; cases hi
  have hpos:0<l.length:=List.length_pos_iff.mpr hne
  rw [List.getLast?_eq_getElem?] at hi
  obtain ⟨u,e1,e2⟩:=QY hi h3
  have e3:ks=ks.dropLast++[u]:=by
   have hn':ks≠[]:=fun y=>by rw [y] at hl; simp at hl; omega
   have:=List.dropLast_concat_getLast hn'
   rw [List.getLast_eq_getElem] at this
   have hq:ks[ks.length - 1]'(by omega)=u:=by
    rw [<- hl] at e1
    exact (List.getElem?_eq_some_iff.mp e1).2
   rw [hq] at this
   exact this.symm
  refine ⟨ka,_,_,_,rfl,rfl,SqL.of h1,?_,q (V.ref u) ⟨u,rfl,e2⟩⟩
  rw [e3,List.map_append]
  exact Zo _ _)⟩
theorem qnD {i:Nat} {ti:TE} {b:List Nat} (hk:PE X e (qlH M N ls)) (h2:PE X e2 ti) (w:∀ σ H Q,Q (.int (i:Nat)) H->ti σ H Q) (hi:ls[i]? = some b) (hs:qcf e2):PE X (.Subscript e e2 pos) (tIt a M N (.l b)) :=
 (jj zp hk h2 hs).weak fun σ H Q ⟨hn,q⟩=>⟨hn,fun la lb h1 h3=>w _ _ _ (by
  obtain ⟨u,e1,e2⟩:=zU h3 hi
  exact ⟨la,_,_,_,rfl,rfl,SqL.of h1,jF (j:=i) (v:=V.ref u) (by rw [List.getElem?_map,e1]; rfl),q _ ⟨u,rfl,e2⟩⟩)⟩
theorem Zn (i:Nat) {n:Str} {j} {p1 p3:Pos} (c:Cls X.K a.Node) (nk:qx X.K a.Node "kids") (hi:l[i]? = some U) (hv:PE X (.Name n p) (zM 0)) (hb:attributeBase (.Name n p) "kids" X.env (eval (.Name n p) X.env)=eval (.Name n p) X.env:=by rfl) :
  PE X (.Subscript (.Attribute (.Name n p) "kids" p1) (.Constant (.int (i:Nat)) j p3) pos) (tIt a M (ju a M (.node kd ls l)) (.t U)) :=
 qgs (i:=i) (Qt (fun _ _ h=>h) c nk (qj hv hb)) qr (fun _ _ _ h=>h) hi (fun _ _=>rfl)
theorem qcs {b:List Nat} (i:Nat) {n:Str} {j} {p1 p3:Pos} (c:Cls X.K a.Node) (nk:qx X.K a.Node "labels") (hi:ls[i]? = some b) (hv:PE X (.Name n p) (zM 0)) (hb:attributeBase (.Name n p) "labels" X.env (eval (.Name n p) X.env)=eval (.Name n p) X.env:=by rfl) :
  PE X (.Subscript (.Attribute (.Name n p) "labels" p1) (.Constant (.int (i:Nat)) j p3) pos) (tIt a M (ju a M (.node kd ls l)) (.l b)) :=
 qnD (i:=i) (qcZ (fun _ _ h=>h) c nk (qj hv hb)) qr (fun _ _ _ h=>h) hi (fun _ _=>rfl)
theorem qnE {n:Str} {j} {p1 p3 p4:Pos} (c:Cls X.K a.Node) (nk:qx X.K a.Node "kids") (hi:l.getLast? = some U) (hv:PE X (.Name n p) (zM 0)) (hb:attributeBase (.Name n p) "kids" X.env (eval (.Name n p) X.env)=eval (.Name n p) X.env:=by rfl) :
  PE X (.Subscript (.Attribute (.Name n p) "kids" p1) (.UnaryOp .USub (.Constant (.int 1) j p3) p4) pos) (tIt a M (ju a M (.node kd ls l)) (.t U)) :=
 qhB (Qt (fun _ _ h=>h) c nk (qj hv hb)) (Ja Ze qr) (fun _ _ _ h=>⟨_,rfl,h⟩) hi (fun _ _=>rfl)
end
end RT
end
section
namespace L2
open PySem PySem.Spec PyProof.Rows
theorem qlk {K:PySem.W.Frag} {a:Addr} {xs:List V} {g:TG} {tb:TS} {D:Ends} {σ : L2.St} {H:Hp} (Pv:Nat->L2.St->Hp->Prop) (h0:Pv 0 σ H) (hl:∀ i σ H,i<=xs.length->Pv i σ H->SqL K H a xs)
  (hs:∀ i x σ H T,xs[i]? = some x->Pv i σ H->H T=none->g (.ref T) σ (upd H T (.tup [.int (i:Nat),x])) fun σ2 H2=>tb { D with nx:=Pv (i+1),ct:=Pv (i+1),bk:=D.nx } σ2 H2) (hd:∀ σ H,Pv xs.length σ H->D.nx σ H) :
  ∃ W:Nat->Nat->L2.St->Hp->Prop,(∃ m,W 0 m σ H)/\∀ i m σ H,W i m σ H ->
   ((Ite K a).stop i H/\D.nx σ H) \/ ((Ite K a).go i H/\∃ N:L2.St->Hp->Prop,(∀ σ' H',N σ' H'->∃ m',m'<m/\W (i+1) m' σ' H')/\∀ x H',(Ite K a).yld i H x H'->g x σ H' fun σ2 H2=>tb { D with nx:=N,ct:=N,bk:=D.nx } σ2 H2):=by
 refine ⟨fun i m σ H=>m=xs.length - i/\i<=xs.length/\Pv i σ H,⟨xs.length,by simp,Nat.zero_le _,h0⟩,?_⟩
 rintro i m σ H ⟨rfl,hi,p⟩
 have q:=hl i σ H hi p
 by_cases hlt:i<xs.length
 ·refine .inr ⟨⟨xs,xs[i],q,by simp [hlt]⟩,Pv (i+1),fun σ' H' p'=>⟨xs.length - (i+1),by omega,rfl,hlt,p'⟩,fun x H' y=>?_⟩
  obtain ⟨T,z,rfl,hT,rfl,y⟩:=y
  exact hs i z σ _ T (y xs q) p hT
 ·have e:i=xs.length:=by omega
  subst e
  exact .inl ⟨⟨xs,q,Nat.le_refl _⟩,hd σ H p⟩
theorem qnF {K:PySem.W.Frag} {a b:Addr} {xs ys:List V} (hxy:xs.length<=ys.length) {g:TG} {tt:TT} {te:TE} {vs:List Nat} {σ : L2.St} {H1:Hp} {D:Addr} {Qd:Hp->Prop} (Pv:Nat->Hp->Prop) (h0:Pv 0 (upd H1 D (.lst []))) (hl:∀ i H,i<=xs.length->Pv i H->SqL K H a xs/\SqL K H b ys)
  (hs:∀ i x y H T,xs[i]? = some x->ys[i]? = some y->Pv i H->H T=none->g (.ref T) (wipe σ vs) (upd H T (.tup [x,y])) fun σ2 H2=>wipe σ2 vs=wipe σ vs/\tt σ2 H2 fun b H3=>
   if b=true then te σ2 H3 fun y H4=>∃ acc,H4 D=some (.lst acc)/\acc.length<sizeLine/\Pv (i+1) (upd H4 D (.lst (acc++[y]))) else Pv (i+1) H3) (hd:∀ H,Pv xs.length H->Qd H) :
  ∃ W:Nat->Nat->Hp->Prop,(∃ m,W 0 m (upd H1 D (.lst [])))/\∀ i m H,W i m H ->
   ((Itz K a b).stop i H/\Qd H) \/ ((Itz K a b).go i H/\∃ Nx:Hp->Prop,(∀ H',Nx H'->∃ m',m'<m/\W (i+1) m' H')/\∀ x H',(Itz K a b).yld i H x H'->g x (wipe σ vs) H' fun σ2 H2=>wipe σ2 vs=wipe σ vs/\tt σ2 H2 fun b H3=>
    if b=true then te σ2 H3 fun y H4=>∃ acc,H4 D=some (.lst acc)/\acc.length<sizeLine/\Nx (upd H4 D (.lst (acc++[y]))) else Nx H3):=by
 refine ⟨fun i m H=>m=xs.length - i/\i<=xs.length/\Pv i H,⟨xs.length,by simp,Nat.zero_le _,h0⟩,?_⟩
 rintro i m H ⟨rfl,hi,p⟩
 obtain ⟨q,q2⟩:=hl i H hi p
 by_cases hlt:i<xs.length
 ·have hly:i<ys.length:=by omega
  refine .inr ⟨⟨xs,ys,xs[i],ys[i],q,q2,by simp [hlt],by simp [hly]⟩,Pv (i+1),fun H' p'=>⟨xs.length - (i+1),by omega,rfl,hlt,p'⟩,fun x H' y=>?_⟩
  obtain ⟨T,z,z',rfl,hT,rfl,y,y'⟩:=y
  exact hs i z z' _ T (y xs q) (y' ys q2) p hT
 ·have e:i=xs.length:=by omega
  subst e
  exact .inl ⟨⟨xs,ys,q,q2,.inl (Nat.le_refl _)⟩,hd H p⟩
end L2
namespace RT
open PySem PySem.Spec PyProof.Rows L2
def Jj:List (Key × V):=([("fn",0),("fields",0),("fields..",0),("let",0),("if",0),("must",0),("or",1),("and",2),("not",3),("==",4),("!=",4),("<",4),("<=",4),("has",4),("//",5),("++",6),("+",7),("-",7),("*",8),("neg",9),("app",10),("get",11)]:List (String × Int)).map fun p=>(Sum.inr (Str.ofString p.1),V.int p.2)
def qdC:List Str:=["or","and","+","-","*"].map Str.ofString
def JX:List Str:=["//","++"].map Str.ofString
structure Ap where
 ranks:Addr
 left:Addr
 right:Addr
structure Tp (P:Program) (w:World) (K:PySem.W.Frag) (mg:Str->Option Value) (r:Ap):Prop where
 gR:GlV mg "RANKS" (.ref r.ranks)
 dR:QM P w K r.ranks Jj
 gH:GlV mg "HIGHEST_RANK" (.int 12)
 gL:GlV mg "GATHERED_FROM_LEFT" (.ref r.left)
 tL:qah K r.left (qdC.map V.str)
 gG:GlV mg "GATHERED_FROM_RIGHT" (.ref r.right)
 tG:qah K r.right (JX.map V.str)
 bE:mg "enumerate" = none
 bZ:mg "zip" = none
 bI:mg "isinstance" = none
 bS:mg "str" = none
theorem qll (k:Vastoa.Kind):(zz Jj (Sum.inr (kindS k))).getD (.int 12)=.int (k.rank:Nat):=by
 cases k with
 | op o=>cases o <;> kernel_rfl
 | _=>kernel_rfl
section
variable {P:Program} {w:World} {K:PySem.W.Frag} {mg:Str->Option Value} {base:Heap} {f:Addr} {fd:FuncData} {a:Ad} {r:Ap}
theorem qn4:qm ["kid","rank"] ["kid","rank"] (qe qdV):=⟨rfl,rfl,rfl,by decide +kernel,rfl,by decide +kernel,by decide +kernel⟩
theorem qn5 (F:Fun K "at" "at" qdV f fd) (T:Tx P w K mg a) (R:Tp P w K mg r):qw P w K mg base CX0 1 f fd ["kid","rank"] (qb8 a):=by
 refine F.ok qn4 (fun vs H Q E h=>?_) (fun cdv A outer s H vs Q E hr h=>?_)
 ·obtain ⟨M,u,U,n,rfl,_⟩:=h; rfl
 ·obtain ⟨M,u,U,n,rfl,hU,k⟩:=h
  refine ⟨_,qi (qQ (qI qff (qli (qL R.gR) (qj (pv 0) rfl) (qL R.gH) ⟨rfl,rfl,rfl,rfl⟩) (pv 1) (qU _)) (qf (qG (qX (qa qK (qa (pv 0) (qa qK qg)))))) zf)
   (qf (qG (qX (qa (pv 0) qg)))),?_⟩
  cases U with
  | node kd ls l=>
  have hU':=hU
  unfold qB at hU'
  obtain ⟨dx,la,ka,lb,ks,⟨h1,_⟩,_⟩:=hU'
  refine ⟨r.ranks,_,rfl,R.dR,_,rfl,u,_,dx,_,_,rfl,h1,T.c_Node,T.n_Node_kind,jM _ _ _ _,Sum.inr (kindS kd),rfl,_,rfl,_,_,qll kd,rfl,_,rfl,zN (fun e=>?_) fun e=>?_⟩
  ·have e:kd.rank<n:=by have:=of_decide_eq_true e; omega
   refine ⟨_,rfl,(by show 3<=sizeLine; decide),fun p hp=>k _ p (qp hp) hp ?_⟩
   unfold atV
   rw [if_pos (show (Vastoa.Tree.node kd ls l).kind.rank<n from e)]
   exact qc
  ·have e:¬ kd.rank<n:=fun y=>e (decide_eq_true (by omega))
   refine ⟨_,rfl,(by show 1<=sizeLine; decide),fun p hp=>k _ p (qp hp) hp ?_⟩
   unfold atV
   rw [if_neg (show ¬ (Vastoa.Tree.node kd ls l).kind.rank<n from e)]
   exact qc
theorem qlm {m:Pt} {gs:List (List Pt)} {i:Nat} {g:List Pt} (h:gs[i]? = some g):btw m (gs.take (i+1))=btw m (gs.take i)++((if 0<i then [m] else [])++g):=by
 induction gs generalizing i with
 | nil=>cases h
 | cons x gs ih=>
  cases i with
  | zero=>cases h; simp [btw]
  | succ i=>
   have h:gs[i]? = some g:=by simpa using h
   have:=ih h
   rw [List.take_succ_cons,List.take_succ_cons,if_pos (Nat.succ_pos i)]
   cases hg:gs with
   | nil=>rw [hg] at h; cases h
   | cons y gs'=>
    rw [hg] at this
    show x++(m::btw m (y::gs'.take i))=_
    rw [List.take_succ_cons] at this
    rw [this]
    cases i with
    | zero=>simp [btw]
    | succ i=>
     rw [List.take_succ_cons,if_pos (Nat.succ_pos i)]
     show _=(x++(m::btw m (y::gs'.take i)))++_
     simp
theorem qj6 (m:Pt):∀ (gs:List (List Pt)) (i:Nat),(btw m (gs.take i)).length<=(btw m gs).length
 | [],i=>by simp
 | [x],0=>by simp [btw]
 | [x],i+1=>by simp
 | x::y::gs,0=>by simp [btw]
 | x::y::gs,1=>by simp [btw]
 | x::y::gs,i+2=>by
  have:=qj6 m (y::gs) (i+1)
  rw [List.take_succ_cons] at this ⊢
  rw [List.take_succ_cons]
  show (x++(m::btw m (y::gs.take i))).length<=(x++(m::btw m (y::gs))).length
  rw [List.length_append,List.length_append,List.length_cons,List.length_cons]
  omega
theorem Za:qm ["groups","mark","parts","k","group"] ["groups","mark"] (qe jY):=⟨rfl,rfl,rfl,by decide +kernel,rfl,by decide +kernel,by decide +kernel⟩
theorem qef (F:Fun K "put_between" "put_between" jY f fd) (R:Tp P w K mg r):qw P w K mg base CX0 1 f fd ["groups","mark"] (qcr a):=by
 refine F.ok Za (fun vs H Q E h=>?_) (fun cdv A outer s H vs Q E hr h=>?_)
 ·obtain ⟨M,g,gs,gv,x,rfl,_⟩:=h; rfl
 ·obtain ⟨M,g,gs,gv,x,rfl,hg,hgs,hlen,k⟩:=h
  refine ⟨_,qi (qZ (i:=2) Za.nd rfl (Or.inl rfl) (qX qg))
   (qi (Jk PassesOwn.never rfl (ql8 rfl R.bE (qa (pv 0) qg)) (qiV rfl (qaM (jv (i:=3) Za.nd rfl (Or.inl rfl)) (qaM (jv (i:=4) Za.nd rfl (Or.inl rfl)) qhd)))
    (qi (qQ (qI Jy (pv 3) qr (qU _)) (qf (qu (zK PySem.F.plainAttrs_list PySem.F.slot_list_append PySem.F.type_list_append zq (pv 2) (qa (pv 1) qg)))) zf)
    (qf (qu (zK PySem.F.plainAttrs_list PySem.F.slot_list_extend PySem.F.type_list_extend jL (pv 2) (qa (pv 4) qg))))))
   (qf (qG (pv 2)))),?_⟩
  have lg:gv.length=gs.length:=Paired.length hgs
  have big:=ZG
  refine ⟨Nat.zero_le _,fun q hq=>?_⟩
  refine ⟨_,rfl,g,gv,rfl,SqL.of (qp hq _ _ hg),qlk (K:=K) (a:=g) (xs:=gv) (fun i σ H'=>∃ (v v':Option V) (ws:List V),σ = [some (.ref g),some (.str x),some (.ref q),v,v']/\qF H H'/\H' q=some (.lst ws)/\Parts a M H (btw (.s x) (gs.take i)) ws)
   ⟨none,none,[],rfl,qp hq,qc,.nil⟩ (fun i σ H' _ ⟨_,_,_,_,s1,_⟩=>SqL.of (s1 _ _ hg)) ?_ ?_⟩
  ·rintro i y σ H1 D hi ⟨v,v',ws,rfl,s1,h1,hp⟩ hD
   obtain ⟨gr,hgr,p,us,ey,hpu,hus⟩:∃ gr,gs[i]? = some gr/\qaF a M H y gr:=by
    have hi':i<gs.length:=by have:=(List.getElem?_eq_some_iff.mp hi).1; omega
    obtain ⟨x',e1,e2⟩:=zU hgs (List.getElem?_eq_getElem hi')
    rw [hi] at e1; cases e1
    exact ⟨_,List.getElem?_eq_getElem hi',e2⟩
   subst ey
   have lt:=qlm (m:=.s x) hgr
   have le:=qj6 (.s x) gs (i+1)
   have lp:=Paired.length hp
   have lu:=Paired.length hus
   rw [lt,List.length_append,List.length_append] at le
   have sD:=qp (o:=.tup [.int (i:Nat),.ref p]) hD
   have hDt:upd H1 D (.tup [.int (i:Nat),.ref p]) D=some (.tup [.int (i:Nat),.ref p]):=qc
   have h1':=sD _ _ h1
   have s1':=s1.trans sD
   generalize upd H1 D (.tup [.int (i:Nat),.ref p])=H2 at sD hDt h1' s1' ⊢
   have pq:p≠q:=qh hpu hq
   refine ⟨D,_,rfl,SqT.of hDt,rfl,_,_,rfl,_,_,rfl,rfl,?_⟩
   refine ⟨_,rfl,_,_,rfl,rfl,_,rfl,zN (fun e=>?_) fun e=>?_⟩
   ·have e:0<i:=by have:=of_decide_eq_true e; omega
    rw [if_pos e] at lt le
    refine ⟨_,rfl,.inl ⟨rfl,_,SqL.of h1'⟩,_,rfl,q,ws,_,rfl,rfl,h1',?_,?_⟩
    ·simp only [List.length_cons,List.length_nil] at le; omega
    refine ⟨_,rfl,.inl ⟨rfl,_,SqL.of qc⟩,_,rfl,q,p,_,_,rfl,rfl,qc,(qd pq).trans (s1' _ _ hpu),?_,?_⟩
    ·simp only [List.length_append,List.length_cons,List.length_nil] at le ⊢; omega
    refine ⟨_,_,_,rfl,fun b o e=>?_,qc,?_⟩
    ·rw [qd (qh e hq),qd (qh e hq)]; exact s1' b o e
    ·rw [lt,List.append_assoc]; exact Parts.app hp (Parts.app (.cons rfl .nil) hus)
   ·have e:¬ 0<i:=fun y=>e (decide_eq_true (by omega))
    rw [if_neg e] at lt le
    refine ⟨_,rfl,.inl ⟨rfl,_,SqL.of h1'⟩,_,rfl,q,p,_,_,rfl,rfl,h1',s1' _ _ hpu,?_,?_⟩
    ·simp only [List.length_nil] at le; omega
    refine ⟨_,_,_,rfl,fun b o e=>?_,qc,?_⟩
    ·rw [qd (qh e hq)]; exact s1' b o e
    ·rw [lt]; exact Parts.app hp hus
  ·rintro σ H1 ⟨v,v',ws,rfl,s1,h1,hp⟩
   rw [lg,List.take_length] at hp
   exact ⟨_,rfl,k H1 q ws s1 hq h1 (hp.s s1)⟩
end
end RT
end
section
namespace RT
open PySem PySem.Spec PyProof.Rows L2
theorem qnG:zz Jj (Sum.inr (Str.ofString "app"))=some (.int (10:Nat)):=by kernel_rfl
theorem qnH:zz Jj (Sum.inr (Str.ofString "get"))=some (.int (11:Nat)):=by kernel_rfl
theorem qnI:zz Jj (Sum.inr (Str.ofString "neg"))=some (.int (9:Nat)):=by kernel_rfl
theorem qnJ:zz Jj (Sum.inr (Str.ofString "not"))=some (.int (3:Nat)):=by kernel_rfl
theorem qnK:zz Jj (Sum.inr (Str.ofString "has"))=some (.int (4:Nat)):=by kernel_rfl
section
variable {P:Program} {w:World} {K:PySem.W.Frag} {mg:Str->Option Value} {base:Heap} {f:Addr} {fd:FuncData} {a:Ad} {r:Ap}
theorem qgt:qm ["node"] ["node"] (qe Qx):=⟨rfl,rfl,rfl,by decide +kernel,rfl,by decide +kernel,by decide +kernel⟩
theorem qgu (F:Fun K "lay_label" "lay_label" Qx f fd) (T:Tx P w K mg a):qw P w K mg base CX0 2 f fd ["node"] (spL a (fun U=>(∃ x,U=.node .num [x] []) \/ ∃ x,U=.node .name [x] []) qH):=by
 refine F.ok qgt (fun vs H Q E h=>?_) (fun cdv A outer s H vs Q E hr h=>?_)
 ·obtain ⟨M,t,U,rfl,_⟩:=h; rfl
 ·obtain ⟨M,t,_,rfl,hU,⟨x,rfl⟩ | ⟨x,rfl⟩,hl,k⟩:=h
  ·exact ⟨_,qf (qG (zC (qA (qcs 0 T.c_Node T.n_Node_labels rfl (pv 0)) zk))),⟨t,rfl,hU⟩,k⟩
  ·exact ⟨_,qf (qG (zC (qA (qcs 0 T.c_Node T.n_Node_labels rfl (pv 0)) zk))),⟨t,rfl,hU⟩,k⟩
theorem qiv:qm ["node"] ["node"] (qe Zx):=⟨rfl,rfl,rfl,by decide +kernel,rfl,by decide +kernel,by decide +kernel⟩
theorem qiw (F:Fun K "lay_yes" "lay_yes" Zx f fd):qw P w K mg base CX0 2 f fd ["node"] (spL a (· = .node .yes [] []) qH):=by
 refine F.ok qiv (fun vs H Q E h=>?_) (fun cdv A outer s H vs Q E hr h=>?_)
 ·obtain ⟨M,t,U,rfl,_⟩:=h; rfl
 ·obtain ⟨M,t,_,rfl,hU,rfl,hl,k⟩:=h
  exact ⟨_,qf (qG (zC (a:=a) (M:=M) (N:=fun _ _=>True) (qA zw zk))),trivial,k⟩
theorem qj7:qm ["node"] ["node"] (qe Z3):=⟨rfl,rfl,rfl,by decide +kernel,rfl,by decide +kernel,by decide +kernel⟩
theorem qj8 (F:Fun K "lay_no" "lay_no" Z3 f fd):qw P w K mg base CX0 2 f fd ["node"] (spL a (· = .node .no [] []) qH):=by
 refine F.ok qj7 (fun vs H Q E h=>?_) (fun cdv A outer s H vs Q E hr h=>?_)
 ·obtain ⟨M,t,U,rfl,_⟩:=h; rfl
 ·obtain ⟨M,t,_,rfl,hU,rfl,hl,k⟩:=h
  exact ⟨_,qf (qG (zC (a:=a) (M:=M) (N:=fun _ _=>True) (qA zw zk))),trivial,k⟩
theorem qg5:qm ["node"] ["node"] (qe Q4):=⟨rfl,rfl,rfl,by decide +kernel,rfl,by decide +kernel,by decide +kernel⟩
theorem qg6 (F:Fun K "lay_none" "lay_none" Q4 f fd):qw P w K mg base CX0 2 f fd ["node"] (spL a (· = .node .none [] []) qH):=by
 refine F.ok qg5 (fun vs H Q E h=>?_) (fun cdv A outer s H vs Q E hr h=>?_)
 ·obtain ⟨M,t,U,rfl,_⟩:=h; rfl
 ·obtain ⟨M,t,_,rfl,hU,rfl,hl,k⟩:=h
  exact ⟨_,qf (qG (zC (a:=a) (M:=M) (N:=fun _ _=>True) (qA zw zk))),trivial,k⟩
theorem qj9:qm ["node"] ["node"] (qe Z4):=⟨rfl,rfl,rfl,by decide +kernel,rfl,by decide +kernel,by decide +kernel⟩
theorem qka (F:Fun K "lay_fn" "lay_fn" Z4 f fd) (T:Tx P w K mg a):qw P w K mg base CX0 2 f fd ["node"] (spL a (fun U=>∃ x e,U=.node .fn [x] [e]) qH):=by
 refine F.ok qj9 (fun vs H Q E h=>?_) (fun cdv A outer s H vs Q E hr h=>?_)
 ·obtain ⟨M,t,U,rfl,_⟩:=h; rfl
 ·obtain ⟨M,t,_,rfl,hU,⟨x,e,rfl⟩,hl,k⟩:=h
  exact ⟨_,qf (qG (zC (qA zw (qA (qcs 0 T.c_Node T.n_Node_labels rfl (pv 0)) (qA zw (qA (Zn 0 T.c_Node T.n_Node_kids rfl (pv 0)) zk)))))),⟨t,rfl,hU⟩,k⟩
theorem qkb:qm ["node"] ["node"] (qe Z5):=⟨rfl,rfl,rfl,by decide +kernel,rfl,by decide +kernel,by decide +kernel⟩
theorem qkc (F:Fun K "lay_if" "lay_if" Z5 f fd) (T:Tx P w K mg a):qw P w K mg base CX0 2 f fd ["node"] (spL a (fun U=>∃ x y z,U=.node .cond [] [x,y,z]) qH):=by
 refine F.ok qkb (fun vs H Q E h=>?_) (fun cdv A outer s H vs Q E hr h=>?_)
 ·obtain ⟨M,t,U,rfl,_⟩:=h; rfl
 ·obtain ⟨M,t,_,rfl,hU,⟨x,y,z,rfl⟩,hl,k⟩:=h
  exact ⟨_,qf (qG (zC (qA zw (qA (Zn 0 T.c_Node T.n_Node_kids rfl (pv 0)) (qA zw (qA (Zn 1 T.c_Node T.n_Node_kids rfl (pv 0)) (qA zw (qA (Zn 2 T.c_Node T.n_Node_kids rfl (pv 0)) zk)))))))),⟨t,rfl,hU⟩,k⟩
theorem qg7:qm ["node"] ["node"] (qe Q7):=⟨rfl,rfl,rfl,by decide +kernel,rfl,by decide +kernel,by decide +kernel⟩
theorem qg8 (F:Fun K "lay_must" "lay_must" Q7 f fd) (T:Tx P w K mg a):qw P w K mg base CX0 2 f fd ["node"] (spL a (fun U=>∃ x y,U=.node .must [] [x,y]) qH):=by
 refine F.ok qg7 (fun vs H Q E h=>?_) (fun cdv A outer s H vs Q E hr h=>?_)
 ·obtain ⟨M,t,U,rfl,_⟩:=h; rfl
 ·obtain ⟨M,t,_,rfl,hU,⟨x,y,rfl⟩,hl,k⟩:=h
  exact ⟨_,qf (qG (zC (qA zw (qA (Zn 0 T.c_Node T.n_Node_kids rfl (pv 0)) (qA zw (qA (Zn 1 T.c_Node T.n_Node_kids rfl (pv 0)) zk)))))),⟨t,rfl,hU⟩,k⟩
theorem qix:qm ["node"] ["node"] (qe ZA):=⟨rfl,rfl,rfl,by decide +kernel,rfl,by decide +kernel,by decide +kernel⟩
theorem qiy (F:Fun K "lay_neg" "lay_neg" ZA f fd) (T:Tx P w K mg a) (R:Tp P w K mg r) (G:FnAt P w K mg base CX0 1 "at" ["kid","rank"] (qb8 a)):qw P w K mg base CX0 2 f fd ["node"] (spL a (fun U=>∃ x,U=.node .neg [] [x]) qH):=by
 refine F.ok qix (fun vs H Q E h=>?_) (fun cdv A outer s H vs Q E hr h=>?_)
 ·obtain ⟨M,t,U,rfl,_⟩:=h; rfl
 ·obtain ⟨M,t,_,rfl,hU,⟨x,rfl⟩,hl,k⟩:=h
  exact ⟨_,qf (qG (jK jJ (zC (qA zw zk)) (qbe G hr (Zn 0 T.c_Node T.n_Node_kids rfl (pv 0)) (Zu (qL R.gR) qK (fun _ _=>rfl)) (fun _ _ _ _ h=>⟨_,_,Sum.inr _,_,rfl,R.dR,rfl,qnI,h⟩)) hl)),⟨t,rfl,hU⟩,k⟩
theorem qiz:qm ["node"] ["node"] (qe ZB):=⟨rfl,rfl,rfl,by decide +kernel,rfl,by decide +kernel,by decide +kernel⟩
theorem qiA (F:Fun K "lay_not" "lay_not" ZB f fd) (T:Tx P w K mg a) (R:Tp P w K mg r) (G:FnAt P w K mg base CX0 1 "at" ["kid","rank"] (qb8 a)):qw P w K mg base CX0 2 f fd ["node"] (spL a (fun U=>∃ x,U=.node .not [] [x]) qH):=by
 refine F.ok qiz (fun vs H Q E h=>?_) (fun cdv A outer s H vs Q E hr h=>?_)
 ·obtain ⟨M,t,U,rfl,_⟩:=h; rfl
 ·obtain ⟨M,t,_,rfl,hU,⟨x,rfl⟩,hl,k⟩:=h
  exact ⟨_,qf (qG (jK jJ (zC (qA zw zk)) (qbe G hr (Zn 0 T.c_Node T.n_Node_kids rfl (pv 0)) (Zu (qL R.gR) qK (fun _ _=>rfl)) (fun _ _ _ _ h=>⟨_,_,Sum.inr _,_,rfl,R.dR,rfl,qnJ,h⟩)) hl)),⟨t,rfl,hU⟩,k⟩
theorem qiB:qm ["node"] ["node"] (qe Zz):=⟨rfl,rfl,rfl,by decide +kernel,rfl,by decide +kernel,by decide +kernel⟩
theorem qiC (F:Fun K "lay_app" "lay_app" Zz f fd) (T:Tx P w K mg a) (R:Tp P w K mg r) (G:FnAt P w K mg base CX0 1 "at" ["kid","rank"] (qb8 a)):qw P w K mg base CX0 2 f fd ["node"] (spL a (fun U=>∃ x y,U=.node .app [] [x,y]) qH):=by
 refine F.ok qiB (fun vs H Q E h=>?_) (fun cdv A outer s H vs Q E hr h=>?_)
 ·obtain ⟨M,t,U,rfl,_⟩:=h; rfl
 ·obtain ⟨M,t,_,rfl,hU,⟨x,y,rfl⟩,hl,k⟩:=h
  exact ⟨_,qf (qG (jK jJ (jK jJ (qbe G hr (Zn 0 T.c_Node T.n_Node_kids rfl (pv 0)) (Zu (qL R.gR) qK (fun _ _=>rfl)) (fun _ _ _ _ h=>⟨_,_,Sum.inr _,_,rfl,R.dR,rfl,qnG,h⟩)) (zC (qA zw zk)) (le_app (C:=atP y 11) hl))
   (qbe G hr (Zn 1 T.c_Node T.n_Node_kids rfl (pv 0)) (Zu (qL R.gR) qK (fun _ _=>rfl)) (fun _ _ _ _ h=>⟨_,_,Sum.inr _,_,rfl,R.dR,rfl,qnH,h⟩)) hl)),⟨t,rfl,hU⟩,k⟩
theorem qiD:qm ["node"] ["node"] (qe ZC):=⟨rfl,rfl,rfl,by decide +kernel,rfl,by decide +kernel,by decide +kernel⟩
theorem qiE (F:Fun K "lay_has" "lay_has" ZC f fd) (T:Tx P w K mg a) (R:Tp P w K mg r) (G:FnAt P w K mg base CX0 1 "at" ["kid","rank"] (qb8 a)):qw P w K mg base CX0 2 f fd ["node"] (spL a (fun U=>∃ x y,U=.node .has [x] [y]) qH):=by
 refine F.ok qiD (fun vs H Q E h=>?_) (fun cdv A outer s H vs Q E hr h=>?_)
 ·obtain ⟨M,t,U,rfl,_⟩:=h; rfl
 ·obtain ⟨M,t,_,rfl,hU,⟨x,y,rfl⟩,hl,k⟩:=h
  exact ⟨_,qf (qG (jK jJ (qbe G hr (r:=5) (Zn 0 T.c_Node T.n_Node_kids rfl (pv 0)) (QK JI (Zu (qL R.gR) qK (fun _ _=>rfl)) qr) (fun _ _ _ _ h=>⟨_,_,Sum.inr _,_,rfl,R.dR,rfl,qnK,_,_,rfl,rfl,h⟩)) (zC (qA zw (qA (qcs 0 T.c_Node T.n_Node_labels rfl (pv 0)) zk))) hl)),⟨t,rfl,hU⟩,k⟩
end
end RT
end
section
namespace RT
open PySem PySem.Spec PyProof.Rows L2
def QH (a:Ad) (M:Addr->Prop) (H H':Hp) (D:Addr) (gs:List (List Pt)) (gv:List V):Prop:=Paired (fun v g=>∃ p ws,v=V.ref p/\p≠D/\H' p=some (.lst ws)/\Parts a M H g ws) gv gs
theorem QH.done {a:Ad} {M:Addr->Prop} {H H':Hp} {D:Addr} {gs:List (List Pt)} {gv:List V} (s:qF H H') (h:QH a M H H' D gs gv):Jr a M H' gs gv:=qW (fun _ _ ⟨p,ws,e,_,h1,h2⟩=>⟨p,ws,e,h1,h2.s s⟩) h
theorem QH.snoc {a:Ad} {M:Addr->Prop} {H H' H2:Hp} {D:Addr} {gs:List (List Pt)} {gv:List V} {g:List Pt} {p:Addr} {ws:List V} (h:QH a M H H' D gs gv) (k:∀ b o,H' b=some o->b≠D->H2 b=some o) (hp:H2 p=some (.lst ws)) (pD:p≠D) (hw:Parts a M H g ws):QH a M H H2 D (gs++[g]) (gv++[.ref p]):=by
 have h':QH a M H H2 D gs gv:=qW (fun _ _ ⟨p,ws,e,n,h1,h2⟩=>⟨p,ws,e,n,k _ _ h1 n,h2⟩) h
 clear h
 induction h' with
 | nil=>exact .cons ⟨p,ws,rfl,pD,hp,hw⟩ .nil
 | cons q r ih=>exact .cons q ih
theorem take_snoc {α : Type} {l:List α} {i:Nat} {x:α} (h:l[i]? = some x):l.take (i+1)=l.take i++[x]:=by rw [List.take_succ,h]; rfl
def qfk (a:Ad) (M:Addr->Prop) (T:VT):NP:=fun σ H=>∃ t v v',σ = [some (.ref t),v,v']/\qB a M H T t
def qfl (a:Ad) (M:Addr->Prop) (T:VT):NP:=fun σ H=>∃ t v,σ = [some (.ref t),v]/\qB a M H T t
theorem qlI {a:Ad} {M:Addr->Prop} {T:VT}:∀ σ H,qfk a M T σ H->ju a M T σ H:=fun _ _ ⟨t,_,_,e,h⟩=>⟨t,by rw [e]; rfl,h⟩
theorem qn6 {a:Ad} {M:Addr->Prop} {T:VT}:∀ σ H,qfl a M T σ H->ju a M T σ H:=fun _ _ ⟨t,_,e,h⟩=>⟨t,by rw [e]; rfl,h⟩
theorem qlJ {a:Ad} {M:Addr->Prop} {T:VT}:qgq (qfl a M T):=fun _ _ _ s ⟨t,v,e,h⟩=>⟨t,v,e,h.s s⟩
def bindL:VT->List Pt
 | .node _ ls l=>Qe ls l
def qln:VT->List Pt
 | .node _ ls l=>Zd ls l
def ShB (U:VT):Prop:=∃ k ls l,U=.node k ls l/\ls.length<=l.length
theorem qc0 (m:Pt):∀ gs:List (List Pt),(∀ g∈gs,0<g.length)->gs.length<=(btw m gs).length
 | [],_=>Nat.zero_le _
 | [g],h=>by have:=h g (by simp); show 1<=g.length; omega
 | g::h::r,hh=>by
  have:=qc0 m (h::r) fun x hx=>hh x (List.mem_cons_of_mem _ hx)
  have e:(btw m (g::h::r)).length=g.length+((btw m (h::r)).length+1):=by
   show (g++(m::btw m (h::r))).length=_
   rw [List.length_append,List.length_cons]
  rw [e]
  simp only [List.length_cons] at this ⊢
  omega
section
variable {P:Program} {w:World} {K:PySem.W.Frag} {mg:Str->Option Value} {base:Heap} {f:Addr} {fd:FuncData} {a:Ad} {r:Ap}
theorem ZV:qm ["node","label","kid"] ["node"] (qe Qz):=⟨rfl,rfl,rfl,by decide +kernel,rfl,by decide +kernel,by decide +kernel⟩
theorem qgv (F:Fun K "lay_binds" "lay_binds" Qz f fd) (T:Tx P w K mg a) (R:Tp P w K mg r) (G:FnAt P w K mg base CX0 1 "put_between" ["groups","mark"] (qcr a)):qw P w K mg base CX0 2 f fd ["node"] (spL a ShB bindL):=by
 refine F.ok ZV (fun vs H Q E h=>?_) (fun cdv A outer s H vs Q E hr h=>?_)
 ·obtain ⟨M,t,U,rfl,_⟩:=h; rfl
 ·obtain ⟨M,t,_,rfl,hU,⟨kd,ls,l,rfl,hll⟩,hl,k⟩:=h
  have hl:(btw (ps " ") (z8 ls l)).length<=Bd:=hl
  have hgl:(z8 ls l).length<=Bd:=Nat.le_trans (qc0 _ _ fun g hg=>by
   unfold z8 at hg
   obtain ⟨p,_,rfl⟩:=List.mem_map.mp hg
   exact Nat.succ_pos _) hl
  refine ⟨_,qf (qG (qj5 (a:=a) (N:=qfk a M (.node kd ls l)) (gs:=z8 ls l) G hr ?_ hl)),⟨t,none,none,rfl,hU⟩,k⟩
  refine PE.weak (qfg (own:=[("label",1),("kid",2)]) (g:=qmR K 2 (qhO (ZH 1) (qhO (ZH 2) qmQ))) (te:=qbA (ji (zM 1) (ji (tC (.str " = ")) (ji (zM 2) (ji (tC (.str ";")) jV))))) rfl ZV.nd
    (qna rfl R.bZ (qa (qcZ (N:=qfk a M (.node kd ls l)) qlI T.c_Node T.n_Node_labels (qj (pv 0) rfl)) (qa (Qt (N:=qfk a M (.node kd ls l)) qlI T.c_Node T.n_Node_kids (qj (pv 0) rfl)) qg)))
    (JN rfl) (fun _ _ _ _ _=>qiV rfl (qaM (jv (i:=1) ZV.nd rfl (Or.inl rfl)) (qaM (jv (i:=2) ZV.nd rfl (Or.inl rfl)) qhd))) (fun _ _ _ _ _=>qar)
    (fun _ _ _ _ _=>qX (qa (pv 1) (qa qK (qa (pv 2) (qa qK qg)))))) ?_
  rintro σ H Q ⟨hN,q⟩
  obtain ⟨t',v,v',rfl,_⟩:=id hN
  refine ⟨hN,fun la lb h1 h3=>⟨hN,fun ka ks h4 h5=>⟨la,ka,_,_,rfl,SqL.of h1,SqL.of h4,fun D hD=>?_⟩⟩⟩
  have l1:lb.length=ls.length:=Paired.length h3
  have l2:ks.length=l.length:=Paired.length (za.mp h5)
  refine qnF (K:=K) (a:=la) (b:=ka) (xs:=lb.map V.ref) (ys:=ks.map V.ref) (by rw [List.length_map,List.length_map]; omega) (fun i H'=>qF H H'/\∃ gv,H' D=some (.lst gv)/\QH a M H H' D ((z8 ls l).take i) gv)
   ⟨qp hD,[],qc,.nil⟩ (fun i H' _ ⟨s1,_⟩=>⟨SqL.of (s1 _ _ h1),SqL.of (s1 _ _ h4)⟩) ?_ ?_
  ·rintro i x y H1 Tu hx hy ⟨s1,gv,g1,g2⟩ hTu
   obtain ⟨xa,hxa,rfl⟩:∃ z,lb[i]? = some z/\V.ref z=x:=by rw [List.getElem?_map] at hx; exact Option.map_eq_some_iff.mp hx
   obtain ⟨ya,hya,rfl⟩:∃ z,ks[i]? = some z/\V.ref z=y:=by rw [List.getElem?_map] at hy; exact Option.map_eq_some_iff.mp hy
   have hi1:i<ls.length:=by have:=(List.getElem?_eq_some_iff.mp hxa).1; omega
   have hi2:i<l.length:=by omega
   obtain ⟨x',e1,e2⟩:=zU h3 (List.getElem?_eq_getElem hi1)
   rw [hxa] at e1; cases e1
   obtain ⟨y',e3,e4⟩:=QY (List.getElem?_eq_getElem hi2) h5
   rw [hya] at e3; cases e3
   have hb:(z8 ls l)[i]? = some [.l ls[i],ps " = ",.t l[i],ps ";"]:=by
    unfold z8
    rw [List.getElem?_map,List.getElem?_zip_eq_some (z:=(ls[i],l[i]))|>.mpr ⟨List.getElem?_eq_getElem hi1,List.getElem?_eq_getElem hi2⟩]
    rfl
   have lgv:gv.length=((z8 ls l).take i).length:=Paired.length g2
   refine ⟨Tu,_,rfl,SqT.of qc,rfl,_,_,rfl,_,_,rfl,rfl,rfl,?_⟩
   have sT:=qp (o:=.tup [V.ref xa,V.ref ya]) hTu
   refine ⟨_,rfl,_,rfl,(by show 4<=sizeLine; decide),fun p hp=>?_⟩
   have sp:=sT.trans (qp (o:=.lst [.ref xa,.str " = ",.ref ya,.str ";"]) hp)
   have pD:p≠D:=fun e=>by rw [e,sT _ _ g1] at hp; cases hp
   refine ⟨gv,sp _ _ g1,?_,fun b o e=>?_,_,qc,?_⟩
   ·rw [lgv,List.length_take]; have:=ZG; omega
   ·rw [qd (qh e hD)]; exact sp _ _ (s1 _ _ e)
   ·rw [take_snoc hb]
    exact g2.snoc (fun b o e n=>by rw [qd n]; exact sp _ _ e) (by rw [qd pD]; exact qc) pD (.cons ⟨xa,rfl,e2⟩ (.cons rfl (.cons ⟨ya,rfl,e4⟩ (.cons rfl .nil))))
  ·rintro H1 ⟨s1,gv,g1,g2⟩
   refine q H1 D gv s1 hD g1 ?_
   rw [List.take_of_length_le (by rw [List.length_map,l1]; unfold z8; simp; omega)] at g2
   exact g2.done s1
theorem qan:qm ["node","kid"] ["node"] (qe Q6):=⟨rfl,rfl,rfl,by decide +kernel,rfl,by decide +kernel,by decide +kernel⟩
theorem qhC {M:Addr->Prop} {j:Nat} {l:List VT} {ks:List Addr} {ka:Addr} {σ : L2.St} {H:Hp} {D:Addr} {Qd:Hp->Prop} (hw:∀ v,wipe ((wipe σ [j]).set j (some v)) [j]=wipe σ [j]) (hv:∀ v,((wipe σ [j]).set j (some v))[j]? = some (some v)) (h4:H ka=some (.lst (ks.map V.ref))) (h5:qy a M H l ks) (hl:l.length<=Bd)
  (hD:H D=none) (q:∀ H' gv,qF H H'->H' D=some (.lst gv)->QH a M H H' D (ones l) gv->Qd H') :
  ∃ W:Nat->Nat->Hp->Prop,(∃ m,W 0 m (upd H D (.lst [])))/\∀ i m H,W i m H ->
   ((Itl K ka).stop i H/\Qd H) \/ ((Itl K ka).go i H/\∃ Nx:Hp->Prop,(∀ H',Nx H'->∃ m',m'<m/\W (i+1) m' H')/\∀ x H',(Itl K ka).yld i H x H'->ZH j x (wipe σ [j]) H' fun σ2 H2=>wipe σ2 [j]=wipe σ [j]/\qkC σ2 H2 fun b H3=>
    if b=true then qbA (ji (zM j) jV) σ2 H3 fun y H4=>∃ acc,H4 D=some (.lst acc)/\acc.length<sizeLine/\Nx (upd H4 D (.lst (acc++[y]))) else Nx H3):=by
 have l2:ks.length=l.length:=Paired.length (za.mp h5)
 refine qhk (K:=K) (a:=ka) (xs:=ks.map V.ref) (fun i H'=>qF H H'/\∃ gv,H' D=some (.lst gv)/\QH a M H H' D ((ones l).take i) gv)
   ⟨qp hD,[],qc,.nil⟩ (fun i H' _ ⟨s1,_⟩=>SqL.of (s1 _ _ h4)) ?_ ?_
 ·rintro i x H1 hx ⟨s1,gv,g1,g2⟩
  obtain ⟨xa,hxa,rfl⟩:∃ z,ks[i]? = some z/\V.ref z=x:=by rw [List.getElem?_map] at hx; exact Option.map_eq_some_iff.mp hx
  have hi2:i<l.length:=by have:=(List.getElem?_eq_some_iff.mp hxa).1; omega
  obtain ⟨y',e3,e4⟩:=QY (List.getElem?_eq_getElem hi2) h5
  rw [hxa] at e3; cases e3
  have hb:(ones l)[i]? = some [.t l[i]]:=by unfold ones; rw [List.getElem?_map,List.getElem?_eq_getElem hi2]; rfl
  have lgv:gv.length=((ones l).take i).length:=Paired.length g2
  refine ⟨hw _,⟨_,hv _,(by show 1<=sizeLine; decide),fun p hp=>?_⟩⟩
  have sp:=qp (o:=.lst [.ref xa]) hp
  have pD:p≠D:=fun e=>by rw [e,g1] at hp; cases hp
  refine ⟨gv,sp _ _ g1,?_,fun b o e=>?_,_,qc,?_⟩
  ·rw [lgv,List.length_take]; unfold ones; rw [List.length_map]; have:=ZG; omega
  ·rw [qd (qh e hD)]; exact sp _ _ (s1 _ _ e)
  ·rw [take_snoc hb]
   exact g2.snoc (fun b o e n=>by rw [qd n]; exact sp _ _ e) (by rw [qd pD]; exact qc) pD (.cons ⟨xa,rfl,e4⟩ .nil)
 ·rintro H1 ⟨s1,gv,g1,g2⟩
  refine q H1 gv s1 g1 ?_
  rw [List.take_of_length_le (by rw [List.length_map,l2]; unfold ones; simp)] at g2
  exact g2
end
end RT
end
section
namespace RT
open PySem PySem.Spec PyProof.Rows L2
theorem qhD {l:List VT} {m:Pt} {d:List (List Pt)} (h:(btw m (ones l++d)).length<=Bd) (hd:∀ g∈d,0<g.length):l.length<=Bd:=by
 have:=qc0 m (ones l++d) (fun g hg=>by
  rcases List.mem_append.mp hg with hg | hg
  ·unfold ones at hg
   obtain ⟨p,_,rfl⟩:=List.mem_map.mp hg
   exact Nat.succ_pos _
  ·exact hd g hg)
 have e:(ones l).length=l.length:=by simp [ones]
 rw [List.length_append,e] at this
 omega
section
variable {P:Program} {w:World} {K:PySem.W.Frag} {mg:Str->Option Value} {base:Heap} {f:Addr} {fd:FuncData} {a:Ad} {r:Ap}
theorem qg9 (F:Fun K "lay_list" "lay_list" Q6 f fd) (T:Tx P w K mg a) (G:FnAt P w K mg base CX0 1 "put_between" ["groups","mark"] (qcr a)):qw P w K mg base CX0 2 f fd ["node"] (spL a (fun U=>∃ l,U=.node .list [] l) qH):=by
 refine F.ok qan (fun vs H Q E h=>?_) (fun cdv A outer s H vs Q E hr h=>?_)
 ·obtain ⟨M,t,U,rfl,_⟩:=h; rfl
 ·obtain ⟨M,t,_,rfl,hU,⟨l,rfl⟩,hl,k⟩:=h
  have hl:([ps "["]++btw (ps ", ") (ones l)++[ps "]"]).length<=Bd:=hl
  have h2:=qaG (le_app hl)
  have hll:l.length<=Bd:=qhD (m:=ps ", ") (d:=[]) (by rw [List.append_nil]; exact h2) (fun g hg=>by cases hg)
  refine ⟨_,qf (qG (jK qlJ (jK qlJ (zC (qA zw zk)) (qj5 (a:=a) (N:=qfl a M (.node .list [] l)) (gs:=ones l) G hr ?_ h2) (le_app hl)) (zC (qA zw zk)) hl)),⟨t,none,rfl,hU⟩,k⟩
  refine PE.weak (qfg (own:=[("kid",1)]) (te:=qbA (ji (zM 1) jV)) rfl qan.nd (ZX (Qt (N:=qfl a M (.node .list [] l)) qn6 T.c_Node T.n_Node_kids (qj (pv 0) rfl)))
    (JN rfl) (fun _ _ _ _ _=>jv (i:=1) qan.nd rfl (Or.inl rfl)) (fun _ _ _ _ _=>qar) (fun _ _ _ _ _=>qX (qa (pv 1) qg))) ?_
  rintro σ H Q ⟨hN,q⟩
  obtain ⟨t',v,rfl,_⟩:=id hN
  exact ⟨hN,fun ka ks h4 h5=>⟨ka,rfl,⟨_,SqL.of h4⟩,fun D hD=>qhC (fun _=>rfl) (fun _=>rfl) h4 h5 hll hD (fun H' gv s e g=>q H' D gv s hD e (g.done s))⟩⟩
theorem qfc:qm ["node"] ["node"] (qe Qh):=⟨rfl,rfl,rfl,by decide +kernel,rfl,by decide +kernel,by decide +kernel⟩
theorem qfd (F:Fun K "lay_record" "lay_record" Qh f fd) (T:Tx P w K mg a) (G:FnAt P w K mg base CX0 2 "lay_binds" ["node"] (spL a ShB bindL)):qw P w K mg base CX0 3 f fd ["node"] (spL a ShB qln):=by
 refine F.ok qfc (fun vs H Q E h=>?_) (fun cdv A outer s H vs Q E hr h=>?_)
 ·obtain ⟨M,t,U,rfl,_⟩:=h; rfl
 ·obtain ⟨M,t,_,rfl,hU,⟨kd,ls,l,rfl,hll⟩,hl,k⟩:=h
  have hb:([ps "{ "]++Qe ls l++[ps " }"]).length<=Bd:=by
   have hl:(Zd ls l).length<=Bd:=hl
   unfold Zd at hl
   cases ls with
   | nil=>show 2<=Bd; decide
   | cons x ls=>exact hl
  refine ⟨_,qi (qQ (qby (QR (qcZ (N:=ju a M (.node kd ls l)) (fun _ _ h=>h) T.c_Node T.n_Node_labels (qj (pv 0) rfl)) (by intro _; rfl))) (qf (qG (zC (a:=a) (M:=M) (N:=ju a M (.node kd ls l)) (qA zw zk)))) zf)
   (qf (qG (jK jJ (jK jJ (zC (qA zw zk)) (qgr (M:=M) (T:=.node kd ls l) G hr ⟨kd,ls,l,rfl,hll⟩ (qaG (le_app hb)) (pv 0)) (le_app hb)) (zC (qA zw zk)) hb))),?_⟩
  refine ⟨⟨t,rfl,hU⟩,fun la lb h1 h3=>⟨_,.inl ⟨_,SqL.of h1,rfl⟩,?_⟩⟩
  have ll:lb.length=ls.length:=Paired.length h3
  cases ls with
  | nil=>
   have:lb=[]:=List.length_eq_zero_iff.mp ll
   subst this
   exact zP ⟨⟨t,rfl,hU⟩,k⟩
  | cons x ls=>
   cases lb with
   | nil=>cases ll
   | cons y lb=>exact zx ⟨⟨t,rfl,hU⟩,k⟩
theorem qgw:qm ["node"] ["node"] (qe QA):=⟨rfl,rfl,rfl,by decide +kernel,rfl,by decide +kernel,by decide +kernel⟩
theorem qgx (F:Fun K "lay_recur" "lay_recur" QA f fd) (G:FnAt P w K mg base CX0 3 "lay_record" ["node"] (spL a ShB qln)):qw P w K mg base CX0 4 f fd ["node"] (spL a (fun U=>∃ ls l,U=.node .recur ls l/\ls.length=l.length) qH):=by
 refine F.ok qgw (fun vs H Q E h=>?_) (fun cdv A outer s H vs Q E hr h=>?_)
 ·obtain ⟨M,t,U,rfl,_⟩:=h; rfl
 ·obtain ⟨M,t,_,rfl,hU,⟨ls,l,rfl,hll⟩,hl,k⟩:=h
  have hl:([ps "rec "]++Zd ls l).length<=Bd:=hl
  exact ⟨_,qf (qG (jK jJ (zC (qA zw zk)) (qgr (M:=M) (T:=.node .recur ls l) G hr ⟨_,ls,l,rfl,Nat.le_of_eq hll⟩ (qaG hl) (pv 0)) hl)),⟨t,rfl,hU⟩,k⟩
theorem qiF:qm ["node"] ["node"] (qe ZD):=⟨rfl,rfl,rfl,by decide +kernel,rfl,by decide +kernel,by decide +kernel⟩
theorem qiG (F:Fun K "lay_let" "lay_let" ZD f fd) (T:Tx P w K mg a) (G:FnAt P w K mg base CX0 2 "lay_binds" ["node"] (spL a ShB bindL)):qw P w K mg base CX0 3 f fd ["node"] (spL a (fun U=>∃ ls l e,U=.node .letIn ls (l++[e])/\ls.length=l.length) qH):=by
 refine F.ok qiF (fun vs H Q E h=>?_) (fun cdv A outer s H vs Q E hr h=>?_)
 ·obtain ⟨M,t,U,rfl,_⟩:=h; rfl
 ·obtain ⟨M,t,_,rfl,hU,⟨ls,l,e,rfl,hll⟩,hl,k⟩:=h
  rw [qdB] at hl k
  exact ⟨_,qf (qG (jK jJ (jK jJ (zC (qA zw zk)) (qgr (M:=M) (T:=.node .letIn ls (l++[e])) G hr ⟨_,ls,_,rfl,by rw [List.length_append,hll]; omega⟩ (qaG (le_app hl)) (pv 0)) (le_app hl))
   (zC (qA zw (qA (qnE T.c_Node T.n_Node_kids (Jq l e) (pv 0)) zk))) hl)),⟨t,rfl,hU⟩,k⟩
theorem qgy:qm ["node"] ["node"] (qe QB):=⟨rfl,rfl,rfl,by decide +kernel,rfl,by decide +kernel,by decide +kernel⟩
theorem qgz (F:Fun K "lay_param" "lay_param" QB f fd) (T:Tx P w K mg a):qw P w K mg base CX0 2 f fd ["node"] (spL a (fun U=>(∃ x,U=.node .param [x] []) \/ ∃ x d,U=.node .param [x] [d]) qH):=by
 refine F.ok qgy (fun vs H Q E h=>?_) (fun cdv A outer s H vs Q E hr h=>?_)
 ·obtain ⟨M,t,U,rfl,_⟩:=h; rfl
 ·obtain ⟨M,t,_,rfl,hU,⟨x,rfl⟩ | ⟨x,d,rfl⟩,hl,k⟩:=h
  ·refine ⟨_,qi (qQ (qby (QR (Qt (N:=ju a M (.node .param [x] [])) (fun _ _ h=>h) T.c_Node T.n_Node_kids (qj (pv 0) rfl)) (by intro _; rfl))) (qf (qG (zC (M:=M) (N:=ju a M (.node .param [x] [])) (qA (qcs 0 T.c_Node T.n_Node_labels rfl (pv 0)) zk)))) zf)
    (qf (qG (qX (qa (jj zp (qj (pv 0) rfl) qr (fun _ _=>rfl)) (qa qK (qa (jj zp (qj (pv 0) rfl) qr (fun _ _=>rfl)) qg)))))),?_⟩
   refine ⟨⟨t,rfl,hU⟩,fun ka ks h4 h5=>⟨_,.inl ⟨_,SqL.of h4,rfl⟩,?_⟩⟩
   unfold qy at h5
   subst h5
   exact zP ⟨⟨t,rfl,hU⟩,k⟩
  ·refine ⟨_,qi (qQ (qby (QR (Qt (N:=ju a M (.node .param [x] [d])) (fun _ _ h=>h) T.c_Node T.n_Node_kids (qj (pv 0) rfl)) (by intro _; rfl))) (qf (qG (qX (qa (jj zp (qj (pv 0) rfl) qr (fun _ _=>rfl)) qg)))) zf)
    (qf (qG (zC (M:=M) (N:=ju a M (.node .param [x] [d])) (qA (qcs 0 T.c_Node T.n_Node_labels rfl (pv 0)) (qA zw (qA (Zn 0 T.c_Node T.n_Node_kids rfl (pv 0)) zk)))))),?_⟩
   refine ⟨⟨t,rfl,hU⟩,fun ka ks h4 h5=>⟨_,.inl ⟨_,SqL.of h4,rfl⟩,?_⟩⟩
   unfold qy at h5
   obtain ⟨u,ks',rfl,_,_⟩:=h5
   exact zx ⟨⟨t,rfl,hU⟩,k⟩
end
end RT
end
section
namespace RT
open PySem PySem.Spec PyProof.Rows L2
theorem qb9 {α β : Type} {f:α -> List β} {l:List α} {i:Nat} {x:α} (h:l[i]? = some x):(l.take (i+1)).flatMap f=(l.take i).flatMap f++f x:=by
 rw [take_snoc h,List.flatMap_append]; simp
theorem qhE {α β : Type} (f:α -> List β) (l:List α) (i:Nat):((l.take i).flatMap f).length<=(l.flatMap f).length:=by
 have:l.flatMap f=(l.take i).flatMap f++(l.drop i).flatMap f:=by rw [<- List.flatMap_append,List.take_append_drop]
 rw [this,List.length_append]; omega
theorem qcG (k:Vastoa.Kind):(V.str (kindS k)=V.str (Str.ofString "piece")) ↔ k=.piece:=by
 constructor
 ·intro h
  have h:kindS k=Str.ofString "piece":=by injection h
  revert h
  cases k with
  | op o=>cases o <;> decide +kernel
  | _=>decide +kernel
 ·rintro rfl; rfl
section
variable {P:Program} {w:World} {K:PySem.W.Frag} {mg:Str->Option Value} {base:Heap} {f:Addr} {fd:FuncData} {a:Ad} {r:Ap}
theorem qao:qm ["node","parts","kid"] ["node"] (qe Q5):=⟨rfl,rfl,rfl,by decide +kernel,rfl,by decide +kernel,by decide +kernel⟩
theorem qha (F:Fun K "lay_text" "lay_text" Q5 f fd) (T:Tx P w K mg a):qw P w K mg base CX0 2 f fd ["node"] (spL a (fun U=>∃ l,U=.node .text [] l) qH):=by
 refine F.ok qao (fun vs H Q E h=>?_) (fun cdv A outer s H vs Q E hr h=>?_)
 ·obtain ⟨M,t,U,rfl,_⟩:=h; rfl
 ·obtain ⟨M,t,_,rfl,hU,⟨l,rfl⟩,hl,k⟩:=h
  have hl:([ps "\""]++l.flatMap jE++[ps "\""]).length<=Bd:=hl
  have big:=ZG
  simp only [List.length_append,List.length_cons,List.length_nil] at hl
  refine ⟨_,qi (qZ (i:=1) qao.nd rfl (Or.inl rfl) (qX (qa qK qg)))
   (qi (Jk PassesOwn.never rfl (ZX (qj (pv 0) rfl)) (jv (i:=2) qao.nd rfl (Or.inl rfl))
    (qf (qQ (qI z9 (qj (pv 2) rfl) qK (qU _)) (qf (qu (zK PySem.F.plainAttrs_list PySem.F.slot_list_append PySem.F.type_list_append zq (pv 1) (qa (pv 2) qg))))
     (qf (qu (zK PySem.F.plainAttrs_list PySem.F.slot_list_extend PySem.F.type_list_extend jL (pv 1) (qa (qX (qa qK (qa (pv 2) (qa qK qg)))) qg)))))))
   (qf (qG (QK qfx (pv 1) (qX (qa qK qg)))))),?_⟩
  have hU':=hU
  unfold qB at hU'
  obtain ⟨dx,la,ka,lb,ks,⟨h1,_⟩,_,_,⟨h4,_⟩,h5⟩:=hU'
  have lk:ks.length=l.length:=Paired.length (za.mp h5)
  refine ⟨(by show 1<=sizeLine; decide),fun q hq=>?_⟩
  have sq:=qp (o:=.lst [V.str "\""]) hq
  refine ⟨_,rfl,t,_,dx,_,_,rfl,sq _ _ h1,T.c_Node,T.n_Node_kids,QV _ _ _ _,ka,rfl,⟨_,SqL.of (sq _ _ h4)⟩,qaO (K:=K) (a:=ka) (xs:=ks.map V.ref) (fun i σ H'=>∃ (v:Option V) (ws:List V),σ = [some (.ref t),some (.ref q),v]/\qF H H'/\H' q=some (.lst ws)/\Parts a M H ([ps "\""]++(l.take i).flatMap jE) ws)
   ⟨none,_,rfl,sq,qc,.cons rfl .nil⟩ (fun i σ H' _ ⟨_,_,_,s1,_⟩=>SqL.of (s1 _ _ h4)) ?_ ?_⟩
  ·rintro i y σ H1 hi ⟨v,ws,rfl,s1,e1,hp⟩
   obtain ⟨xa,hxa,rfl⟩:∃ z,ks[i]? = some z/\V.ref z=y:=by rw [List.getElem?_map] at hi; exact Option.map_eq_some_iff.mp hi
   have hi2:i<l.length:=by have:=(List.getElem?_eq_some_iff.mp hxa).1; omega
   have hli:l[i]? = some l[i]:=List.getElem?_eq_getElem hi2
   obtain ⟨y',e3,e4⟩:=QY hli h5
   rw [hxa] at e3; cases e3
   have lt:=qb9 (f:=jE) hli
   have le:=qhE jE l (i+1)
   rw [lt,List.length_append] at le
   have lws:=Paired.length hp
   rw [List.length_append,List.length_cons,List.length_nil] at lws
   generalize l[i]=U at hli e4 lt le
   cases U with
   | node kd ls' l'=>
   have e4':=e4
   unfold qB at e4'
   obtain ⟨dx',la',ka',lb',ks',⟨g1,_⟩,_⟩:=e4'
   refine ⟨_,rfl,xa,_,dx',_,_,rfl,s1 _ _ g1,T.c_Node,T.n_Node_kind,jM _ _ _ _,rfl,_,rfl,zN (fun e=>?_) fun e=>?_⟩
   ·have e:=(qcG kd).mp (of_decide_eq_true e)
    subst e
    have ep:jE (.node .piece ls' l')=[.t (.node .piece ls' l')]:=by unfold jE; exact if_pos rfl
    rw [ep] at lt le
    refine ⟨_,rfl,.inl ⟨rfl,_,SqL.of e1⟩,_,rfl,q,ws,_,rfl,rfl,e1,?_,?_⟩
    ·simp only [List.length_cons,List.length_nil] at le; omega
    refine ⟨_,_,rfl,fun b o eb=>by rw [qd (qh eb hq)]; exact s1 b o eb,qc,?_⟩
    rw [lt,<- List.append_assoc]
    exact Parts.app hp (.cons ⟨xa,rfl,e4⟩ .nil)
   ·have e:¬ kd=.piece:=fun y=>e (decide_eq_true ((qcG kd).mpr y))
    have ep:jE (.node kd ls' l')=[ps "${",.t (.node kd ls' l'),ps "}"]:=by unfold jE; rw [if_neg (show ¬ (Vastoa.Tree.node kd ls' l').kind=.piece from e)]
    rw [ep] at lt le
    refine ⟨_,rfl,.inl ⟨rfl,_,SqL.of e1⟩,_,rfl,(by show 3<=sizeLine; decide),fun p hp2=>?_⟩
    have pq:q≠p:=qh e1 hp2
    refine ⟨q,p,_,_,rfl,rfl,(qd pq).trans e1,qc,?_,?_⟩
    ·simp only [List.length_cons,List.length_nil] at le ⊢; omega
    refine ⟨_,_,rfl,fun b o eb=>by rw [qd (qh eb hq)]; exact qp hp2 _ _ (s1 b o eb),qc,?_⟩
    rw [lt,<- List.append_assoc]
    exact Parts.app hp (.cons rfl (.cons ⟨xa,rfl,e4⟩ (.cons rfl .nil)))
  ·rintro σ H1 ⟨v,ws,rfl,s1,e1,hp⟩
   rw [List.length_map,lk,List.take_length] at hp
   have lws:=Paired.length hp
   rw [List.length_append,List.length_cons,List.length_nil] at lws
   refine ⟨_,rfl,(by show 1<=sizeLine; decide),fun p hp2=>?_⟩
   have sp:=qp (o:=.lst [V.str "\""]) hp2
   refine ⟨q,p,_,_,rfl,rfl,sp _ _ e1,qc,?_,fun z hz=>?_⟩
   ·simp only [List.length_cons,List.length_nil]; omega
   have sz:=s1.trans (sp.trans (qp (o:=.lst (ws++[V.str "\""])) hz))
   exact k _ z _ sz (same_none (s1.trans sp) hz) qc (Parts.app (hp.s sz) (.cons rfl .nil))
theorem qbf:qm ["node","parts","label"] ["node"] (qe Zy):=⟨rfl,rfl,rfl,by decide +kernel,rfl,by decide +kernel,by decide +kernel⟩
theorem qiH (F:Fun K "lay_get" "lay_get" Zy f fd) (T:Tx P w K mg a) (R:Tp P w K mg r) (G:FnAt P w K mg base CX0 1 "at" ["kid","rank"] (qb8 a)):qw P w K mg base CX0 2 f fd ["node"] (spL a (fun U=>(∃ ls x,U=.node .get ls [x]) \/ ∃ ls x y,U=.node .get ls [x,y]) qH):=by
 refine F.ok qbf (fun vs H Q E h=>?_) (fun cdv A outer s H vs Q E hr h=>?_)
 ·obtain ⟨M,t,U,rfl,_⟩:=h; rfl
 ·obtain ⟨M,t,U,rfl,hU,hS,hl,k⟩:=h
  refine ⟨_,qi (qZ (i:=1) qbf.nd rfl (Or.inl rfl) (qV G hr qO (qa (jj zp (qj (pv 0) rfl) qr (fun _ _=>rfl)) (qa (qL R.gH) qg))))
   (qi (Jk PassesOwn.never rfl (ZX (qj (pv 0) rfl)) (jv (i:=2) qbf.nd rfl (Or.inl rfl))
    (qf (qu (zK PySem.F.plainAttrs_list PySem.F.slot_list_extend PySem.F.type_list_extend jL (pv 1) (qa (qX (qa qK (qa (pv 2) qg))) qg)))))
   (qi (qQ (qI Jy (ja zB (by rfl) T.b_len PySem.boot_len (qa (qj (pv 0) rfl) qg)) qr (qU _))
    (qi (qu (zK PySem.F.plainAttrs_list PySem.F.slot_list_append PySem.F.type_list_append zq (pv 1) (qa qK qg)))
    (qf (qu (zK PySem.F.plainAttrs_list PySem.F.slot_list_extend PySem.F.type_list_extend jL (pv 1) (qa (qV G hr qO (qa (jj zp (qj (pv 0) rfl) qr (fun _ _=>rfl)) (qa (qL R.gH) qg))) qg))))) zf)
   (qf (qG (pv 1))))),?_⟩
  obtain ⟨ls,x,l',rfl,hS'⟩:∃ ls x l',U=.node .get ls (x::l')/\(l'=[] \/ ∃ y,l'=[y]):=by
   rcases hS with ⟨ls,x,rfl⟩ | ⟨ls,x,y,rfl⟩
   ·exact ⟨ls,x,[],rfl,.inl rfl⟩
   ·exact ⟨ls,x,[y],rfl,.inr ⟨y,rfl⟩⟩
  have hU':=hU
  unfold qB at hU'
  obtain ⟨dx,la,ka,lb,ks,⟨h1,_⟩,⟨h2,_⟩,h3,⟨h4,_⟩,h5⟩:=hU'
  have big:=ZG
  obtain ⟨u,eu,hu⟩:=QY (i:=0) (U:=x) rfl h5
  have lk:ks.length=(x::l').length:=Paired.length (za.mp h5)
  have ll:lb.length=ls.length:=Paired.length h3
  have hlen:(atP x 12++js ls).length+(if l'=[] then 0 else 10)<=Bd+10:=by
   rcases hS' with rfl | ⟨y,rfl⟩
   ·have hl:(atP x 12++js ls).length<=Bd:=hl
    rw [if_pos rfl]; omega
   ·have hl:(atP x 12++js ls++[ps " ? "]++atP y 12).length<=Bd:=hl
    have:=le_app (le_app hl)
    split <;> omega
  have hlen':(atP x 12++js ls).length<=Bd:=by
   rcases hS' with rfl | ⟨y,rfl⟩
   ·exact hl
   ·exact le_app (le_app (show (atP x 12++js ls++[ps " ? "]++atP y 12).length<=Bd from hl))
  refine ⟨_,rfl,t,_,dx,_,_,rfl,h1,T.c_Node,T.n_Node_kids,QV _ _ _ _,ka,_,_,_,rfl,rfl,SqL.of h4,jF (j:=0) (v:=V.ref u) (by rw [List.getElem?_map,eu]; rfl),M,u,x,12,rfl,hu,fun H1 q sq hq eq1=>?_⟩
  refine ⟨_,rfl,t,_,dx,_,_,rfl,sq _ _ h1,T.c_Node,T.n_Node_labels,qak _ _ _ _,la,rfl,⟨_,SqL.of (sq _ _ h2)⟩,qaO (K:=K) (a:=la) (xs:=lb.map V.ref) (fun i σ H'=>∃ (v:Option V) (ws:List V),σ = [some (.ref t),some (.ref q),v]/\qF H H'/\H' q=some (.lst ws)/\Parts a M H (atP x 12++js (ls.take i)) ws)
   ⟨none,_,rfl,sq,eq1,by rw [List.take_zero]; show Parts a M H (atP x 12++[]) _; rw [List.append_nil]; exact qbd hu⟩ (fun i σ H' _ ⟨_,_,_,s1,_⟩=>SqL.of (s1 _ _ h2)) ?_ ?_⟩
  ·rintro i y σ H2 hi ⟨v,ws,rfl,s1,e1,hp⟩
   obtain ⟨xa,hxa,rfl⟩:∃ z,lb[i]? = some z/\V.ref z=y:=by rw [List.getElem?_map] at hi; exact Option.map_eq_some_iff.mp hi
   have hi2:i<ls.length:=by have:=(List.getElem?_eq_some_iff.mp hxa).1; omega
   have hli:ls[i]? = some ls[i]:=List.getElem?_eq_getElem hi2
   obtain ⟨y',e3,e4⟩:=zU h3 hli
   rw [hxa] at e3; cases e3
   have lt:js (ls.take (i+1))=js (ls.take i)++[ps ".",.l ls[i]]:=qb9 hli
   have le:(js (ls.take (i+1))).length<=(js ls).length:=qhE _ ls (i+1)
   rw [lt,List.length_append] at le
   have lws:=Paired.length hp
   rw [List.length_append] at lws hlen'
   refine ⟨_,rfl,.inl ⟨rfl,_,SqL.of e1⟩,_,rfl,(by show 2<=sizeLine; decide),fun p hp2=>?_⟩
   have pq:q≠p:=qh e1 hp2
   refine ⟨q,p,_,_,rfl,rfl,(qd pq).trans e1,qc,?_,?_⟩
   ·simp only [List.length_cons,List.length_nil] at le ⊢; omega
   refine ⟨_,_,rfl,fun b o eb=>by rw [qd (qh eb hq)]; exact qp hp2 _ _ (s1 b o eb),qc,?_⟩
   rw [lt,<- List.append_assoc]
   exact Parts.app hp (.cons rfl (.cons ⟨xa,rfl,e4⟩ .nil))
  ·rintro σ H2 ⟨v,ws,rfl,s1,e1,hp⟩
   rw [List.length_map,ll,List.take_length] at hp
   have lws:=Paired.length hp
   refine ⟨_,rfl,t,_,dx,_,_,rfl,s1 _ _ h1,T.c_Node,T.n_Node_kids,QV _ _ _ _,ka,_,rfl,.inl (SqL.of (s1 _ _ h4)),_,_,rfl,rfl,_,rfl,?_⟩
   rw [show (((ks.map V.ref).length:Nat):Int)=((x::l').length:Nat) by rw [List.length_map,lk]]
   rcases hS' with rfl | ⟨y,rfl⟩
   ·exact zx ⟨_,rfl,k H2 q ws s1 hq e1 (hp.s s1)⟩
   ·have hl:(atP x 12++js ls++[ps " ? "]++atP y 12).length<=Bd:=hl
    rw [List.length_append,List.length_append,<- lws] at hl
    obtain ⟨u',eu',hu'⟩:=QY (i:=1) (U:=y) rfl h5
    refine zP ⟨_,rfl,.inl ⟨rfl,_,SqL.of e1⟩,q,ws,_,rfl,rfl,e1,?_,?_⟩
    ·simp only [List.length_cons,List.length_nil] at hl; omega
    have s2:qF H (upd H2 q (.lst (ws++[V.str " ? "]))):=fun b o eb=>by rw [qd (qh eb hq)]; exact s1 b o eb
    have e2:upd H2 q (.lst (ws++[V.str " ? "])) q=some (.lst (ws++[V.str " ? "])):=qc
    generalize upd H2 q (.lst (ws++[V.str " ? "]))=H3 at s2 e2 ⊢
    refine ⟨_,rfl,.inl ⟨rfl,_,SqL.of e2⟩,_,rfl,t,_,dx,_,_,rfl,s2 _ _ h1,T.c_Node,T.n_Node_kids,QV _ _ _ _,ka,_,_,_,rfl,rfl,SqL.of (s2 _ _ h4),jF (j:=1) (v:=V.ref u') (by rw [List.getElem?_map,eu']; rfl),M,u',y,12,rfl,hu'.s s2,fun H4 p s4 hp4 e4=>?_⟩
    refine ⟨q,p,_,_,rfl,rfl,s4 _ _ e2,e4,?_,?_⟩
    ·have:(atV y 12 u').length=(atP y 12).length:=Paired.length (qbd hu')
     simp only [List.length_append,List.length_cons,List.length_nil] at hl ⊢; omega
    have s5:qF H (upd H4 q (.lst (ws++[V.str " ? "]++atV y 12 u'))):=fun b o eb=>by rw [qd (qh eb hq)]; exact s4 _ _ (s2 b o eb)
    refine ⟨_,rfl,k _ q _ s5 hq qc ?_⟩
    exact Parts.s s5 (Parts.app (Parts.app hp (.cons rfl .nil)) (qbd hu'))
end
end RT
end
section
namespace RT
open PySem PySem.Spec PyProof.Rows L2
def qhF (a:Ad):Sp:=fun vs H Q E=>∃ (M:Addr->Prop) (t:Addr) (x:List Nat),vs=[.ref t]/\qB a M H (.node .piece [x] []) t/\x.length<=8000000/\(∀ b,M b->H b≠none)/\∀ H' p ws,qF H H'->H p=none->H' p=some (.lst ws)->Parts a M H' (qH (.node .piece [x] [])) ws->Q (.ref p) H'
theorem qoz (c:Nat):inV (.int (c:Int)) [V.int 34,V.int 92,V.int 36]=decide (c=34 \/ c=92 \/ c=36):=by
 simp only [inV,List.any_cons,List.any_nil,eqV,zH,Bool.or_false]
 rw [Bool.eq_iff_iff]
 simp
 omega
theorem qdD (k:Vastoa.Kind):(V.str (kindS k)=V.str (Str.ofString "fields..")) ↔ k=.openFields:=by
 constructor
 ·intro h
  have h:kindS k=Str.ofString "fields..":=by injection h
  revert h
  cases k with
  | op o=>cases o <;> decide +kernel
  | _=>decide +kernel
 ·rintro rfl; rfl
theorem qkd {xs:List V} (x:V):JL (xs++[x]) none (some (-1))=xs:=by
 unfold JL
 have e1:HT.sIx (xs++[x]).length 0 none=0:=rfl
 have e2:HT.sIx (xs++[x]).length (xs++[x]).length (some (-1))=xs.length:=by
  unfold HT.sIx
  simp
  omega
 rw [e1,e2,List.drop_zero,Nat.sub_zero]
 simp
theorem qdE {a:Ad} {M:Addr->Prop} {H:Hp} {e:VT}:∀ {l:List VT} {ks:List Addr},qy a M H (l++[e]) ks->∃ k1 u,ks=k1++[u]/\qy a M H l k1/\qB a M H e u
 | [],ks,h=>by
  rw [List.nil_append] at h
  unfold qy at h
  obtain ⟨u,r,rfl,h1,h2⟩:=h
  unfold qy at h2
  subst h2
  exact ⟨[],u,rfl,by unfold qy; rfl,h1⟩
 | t::l,ks,h=>by
  rw [List.cons_append] at h
  unfold qy at h
  obtain ⟨u,r,rfl,h1,h2⟩:=h
  obtain ⟨k1,v,rfl,h3,h4⟩:=qdE h2
  exact ⟨u::k1,v,rfl,by unfold qy; exact ⟨u,k1,rfl,h1,h3⟩,h4⟩
def qlK (a:Ad) (M:Addr->Prop) (T:VT) (gs:List (List Pt)):NP:=fun σ H=>ju a M T σ H/\∃ q gv,σ[1]? = some (some (.ref q))/\H q=some (.lst gv)/\Jr a M H gs gv
theorem qlL {a:Ad} {M:Addr->Prop} {T:VT} {gs:List (List Pt)}:qgq (qlK a M T gs):=fun _ _ _ s ⟨h,q,gv,e,h1,h2⟩=>⟨jJ _ _ _ s h,q,gv,e,s _ _ h1,h2.s s⟩
section
variable {P:Program} {w:World} {K:PySem.W.Frag} {mg:Str->Option Value} {base:Heap} {f:Addr} {fd:FuncData} {a:Ad} {r:Ap}
theorem JY:qm ["node","printed","byte"] ["node"] (qe Qy):=⟨rfl,rfl,rfl,by decide +kernel,rfl,by decide +kernel,by decide +kernel⟩
theorem qgA (F:Fun K "lay_piece" "lay_piece" Qy f fd) (T:Tx P w K mg a) (G:FnAt P w K mg base CX0 1 "bytes_of" ["written"] qax):qw P w K mg base CX0 2 f fd ["node"] (qhF a):=by
 refine F.ok JY (fun vs H Q E h=>?_) (fun cdv A outer s H vs Q E hr h=>?_)
 ·obtain ⟨M,t,U,rfl,_⟩:=h; rfl
 ·obtain ⟨M,t,x,rfl,hU,hx,hM,k⟩:=h
  have big:16000100<sizeLine:=by decide
  refine ⟨_,qi (qZ (i:=1) JY.nd rfl (Or.inl rfl) (qX qg))
   (qi (Jk PassesOwn.never rfl (ZX (jj zp (qj (pv 0) rfl) qr (fun _ _=>rfl))) (jv (i:=2) JY.nd rfl (Or.inl rfl))
    (qf (qQ (qjz (pv 2) (qa (qL T.g_QUOTE) (qa (qL T.g_BACKSLASH) (qa (qL T.g_DOLLAR) qg))))
     (qi (qu (zK PySem.F.plainAttrs_list PySem.F.slot_list_append PySem.F.type_list_append zq (pv 1) (qa (qL T.g_BACKSLASH) qg))) (qf (qu (zK PySem.F.plainAttrs_list PySem.F.slot_list_append PySem.F.type_list_append zq (pv 1) (qa (pv 2) qg)))))
     (qf (qQ (qI z9 (pv 2) (qL T.g_LINE_FEED) (qU _)) (qf (qu (zK PySem.F.plainAttrs_list PySem.F.slot_list_extend PySem.F.type_list_extend jL (pv 1) (qa (qV G hr qO (qa qK qg)) qg))))
     (qf (qQ (qI z9 (pv 2) (qL T.g_TAB) (qU _)) (qf (qu (zK PySem.F.plainAttrs_list PySem.F.slot_list_extend PySem.F.type_list_extend jL (pv 1) (qa (qV G hr qO (qa qK qg)) qg))))
     (qf (qu (zK PySem.F.plainAttrs_list PySem.F.slot_list_append PySem.F.type_list_append zq (pv 1) (qa (pv 2) qg)))))))))))
   (qf (qG (qX (qa (pv 1) qg))))),?_⟩
  have hU':=hU
  unfold qB at hU'
  obtain ⟨dx,la,ka,lb,ks,⟨h1,_⟩,⟨h2,_⟩,h3,_⟩:=hU'
  obtain ⟨xa,exa,hxa,_⟩:=zU (j:=0) h3 rfl
  refine ⟨Nat.zero_le _,fun q hq=>?_⟩
  have sq:=qp (o:=.lst []) hq
  have xq:xa≠q:=qh hxa hq
  have fin:∀ (i c:Nat) (H' H2:Hp) (v:Option V),x[i]? = some c->qF H H'->(∀ b o,H b=some o->H2 b=some o)->H2 q=some (.lst (nt ((x.take i).flatMap Vastoa.escaped++Vastoa.escaped c)))->∃ v',[some (V.ref t),some (V.ref q),v]=[some (V.ref t),some (V.ref q),v']/\qF H H2/\H2 q=some (.lst (nt ((x.take (i+1)).flatMap Vastoa.escaped))) :=
   fun i c H' H2 v hc s1 s2 e=>⟨v,rfl,s2,by rw [qb9 hc]; exact e⟩
  refine ⟨_,rfl,t,_,dx,_,_,rfl,sq _ _ h1,T.c_Node,T.n_Node_labels,qak _ _ _ _,la,_,_,_,rfl,rfl,SqL.of (sq _ _ h2),jF (j:=0) (v:=V.ref xa) (by rw [List.getElem?_map,exa]; rfl),xa,rfl,⟨_,SqL.of (sq _ _ hxa)⟩,
   qaO (K:=K) (a:=xa) (xs:=nt x) (fun i σ H'=>∃ v:Option V,σ = [some (.ref t),some (.ref q),v]/\qF H H'/\H' q=some (.lst (nt ((x.take i).flatMap Vastoa.escaped))))
   ⟨none,rfl,sq,qc⟩ (fun i σ H' _ ⟨_,_,s1,_⟩=>SqL.of (s1 _ _ hxa)) ?_ ?_⟩
  ·rintro i y σ H1 hi ⟨v,rfl,s1,e1⟩
   obtain ⟨c,hc,rfl⟩:∃ c:Nat,x[i]? = some c/\V.int (c:Int)=y:=by unfold nt at hi; rw [List.getElem?_map] at hi; exact Option.map_eq_some_iff.mp hi
   have hlen:((x.take i).flatMap Vastoa.escaped).length+4<=sizeLine:=by
    have:=qee (x.take i)
    rw [List.length_take] at this
    omega
   refine ⟨_,rfl,rfl,fun H2 s2=>⟨_,rfl,?_⟩⟩
   have s12:=s1.trans s2
   have e2:=s2 _ _ e1
   show if inV (.int (c:Int)) [V.int 34,V.int 92,V.int 36]=true then _ else _
   rw [qoz]
   refine zN (fun hb=>?_) fun hb=>?_
   ·have hb:=of_decide_eq_true hb
    refine ⟨_,rfl,.inl ⟨rfl,_,SqL.of e2⟩,q,_,_,rfl,rfl,e2,by rw [zt]; omega,?_⟩
    refine ⟨_,rfl,.inl ⟨rfl,_,SqL.of qc⟩,_,rfl,q,_,_,rfl,rfl,qc,by rw [List.length_append,zt]; simp only [List.length_cons,List.length_nil]; omega,?_⟩
    refine fin i c H1 _ _ hc s1 (fun b o eb=>by rw [qd (qh eb hq),qd (qh eb hq)]; exact s12 b o eb) ?_
    rw [qc]
    unfold Vastoa.escaped
    rw [if_pos hb]
    unfold nt
    simp
   have hb:¬ (c=34 \/ c=92 \/ c=36):=fun y=>hb (decide_eq_true y)
   refine ⟨_,rfl,rfl,_,rfl,?_⟩
   rw [jw,zH]
   refine zN (fun h10=>?_) fun h10=>?_
   ·have h10:c=10:=by have:=of_decide_eq_true h10; omega
    subst h10
    refine ⟨_,rfl,.inl ⟨rfl,_,SqL.of e2⟩,_,rfl,(by decide +kernel),fun p hp=>?_⟩
    have pq:q≠p:=qh e2 hp
    refine ⟨q,p,_,_,rfl,rfl,(qd pq).trans e2,qc,by rw [zt,zt]; show _+2<=_; omega,?_⟩
    refine fin i 10 H1 _ _ hc s1 (fun b o eb=>by rw [qd (qh eb hq)]; exact qp hp _ _ (s12 b o eb)) ?_
    rw [qc]
    unfold nt
    rw [List.map_append]
    rfl
   have h10:¬ c=10:=fun y=>h10 (decide_eq_true (by omega))
   refine ⟨_,rfl,rfl,_,rfl,?_⟩
   rw [jw,zH]
   refine zN (fun h9=>?_) fun h9=>?_
   ·have h9:c=9:=by have:=of_decide_eq_true h9; omega
    subst h9
    refine ⟨_,rfl,.inl ⟨rfl,_,SqL.of e2⟩,_,rfl,(by decide +kernel),fun p hp=>?_⟩
    have pq:q≠p:=qh e2 hp
    refine ⟨q,p,_,_,rfl,rfl,(qd pq).trans e2,qc,by rw [zt,zt]; show _+2<=_; omega,?_⟩
    refine fin i 9 H1 _ _ hc s1 (fun b o eb=>by rw [qd (qh eb hq)]; exact qp hp _ _ (s12 b o eb)) ?_
    rw [qc]
    unfold nt
    rw [List.map_append]
    rfl
   have h9:¬ c=9:=fun y=>h9 (decide_eq_true (by omega))
   refine ⟨_,rfl,.inl ⟨rfl,_,SqL.of e2⟩,_,rfl,q,_,_,rfl,rfl,e2,by rw [zt]; omega,?_⟩
   refine fin i c H1 _ _ hc s1 (fun b o eb=>by rw [qd (qh eb hq)]; exact s12 b o eb) ?_
   rw [qc]
   unfold Vastoa.escaped
   rw [if_neg hb,if_neg h10,if_neg h9]
   unfold nt
   simp
  ·rintro σ H1 ⟨v,rfl,s1,e1⟩
   rw [zt,List.take_length] at e1
   refine ⟨_,rfl,(by show 1<=sizeLine; decide),fun p hp=>?_⟩
   have sp:=qp (o:=.lst [V.ref q]) hp
   exact k _ p _ (s1.trans sp) (same_none s1 hp) qc (.cons ⟨q,rfl,sp _ _ e1,fun y=>hM q y hq⟩ .nil)
theorem Jv:qm ["node","groups","kid"] ["node"] (qe Qi):=⟨rfl,rfl,rfl,by decide +kernel,rfl,by decide +kernel,by decide +kernel⟩
theorem qfe (F:Fun K "lay_fields" "lay_fields" Qi f fd) (T:Tx P w K mg a) (G:FnAt P w K mg base CX0 1 "put_between" ["groups","mark"] (qcr a)):qw P w K mg base CX0 2 f fd ["node"] (spL a (fun U=>∃ k l e,(k=.fields \/ k=.openFields)/\U=.node k [] (l++[e])) qH):=by
 refine F.ok Jv (fun vs H Q E h=>?_) (fun cdv A outer s H vs Q E hr h=>?_)
 ·obtain ⟨M,t,U,rfl,_⟩:=h; rfl
 ·obtain ⟨M,t,_,rfl,hU,⟨kd,l,e,hkd,rfl⟩,hl,k⟩:=h
  have hlay:qH (.node kd [] (l++[e]))=[ps "fn {"]++btw (ps ", ") (ones l++if kd=.openFields then [[ps ".."]] else [])++[ps "}: ",.t e]:=by
   rcases hkd with rfl | rfl
   ·rw [if_neg (by decide)]; exact qaE l e []
   ·rw [if_pos rfl]; exact qaE l e [[ps ".."]]
  rw [hlay] at hl k
  have h2:=qaG (le_app hl)
  have hll:l.length<=Bd:=qhD h2 (fun g hg=>by
   split at hg
   ·rw [List.mem_singleton.mp hg]; exact Nat.succ_pos _
   ·cases hg)
  obtain ⟨gs,hgs⟩:∃ gs,gs=ones l++if kd=.openFields then [[ps ".."]] else []:=⟨_,rfl⟩
  rw [<- hgs] at hl k h2
  have hU':=hU
  unfold qB at hU'
  obtain ⟨dx,la,ka,lb,kks,⟨h1,_⟩,_,_,⟨h4,_⟩,h5⟩:=hU'
  obtain ⟨ks,u,rfl,h5,h6⟩:=qdE h5
  refine ⟨_,qi (qkD (i:=1) (own:=[("kid",2)]) (te:=qbA (ji (zM 2) jV)) rfl Jv.nd rfl rfl (ql5 rfl rfl rfl (by decide +kernel)) (ZX (JK qcg (qj (pv 0) rfl) qhh (QZ (Ja Ze qr))))
    (JN rfl) (fun _ _ _ _ _=>jv (i:=2) Jv.nd rfl (Or.inl rfl)) (fun _ _ _ _ _=>qar) (fun _ _ _ _ _=>qX (qa (pv 2) qg)))
   (qi (qQ (qI z9 (qj (pv 0) rfl) qK (qU _)) (qf (qu (zK PySem.F.plainAttrs_list PySem.F.slot_list_append PySem.F.type_list_append zq (pv 1) (qa (qX (qa qK qg)) qg)))) zf)
   (qf (qG (jK qlL (jK qlL (zC (qA zw zk)) (qmC (N:=qlK a M (.node kd [] (l++[e])) gs) G hr (pv 1) (fun σ H Q hN h=>by
     obtain ⟨_,q,gv,e1,e2,e3⟩:=hN
     exact ⟨_,e1,h q gv e2 e3⟩) h2) (le_app hl))
    (zC (qA zw (qA (qhB (Qt (fun _ _ h=>h.1) T.c_Node T.n_Node_kids (qj (pv 0) rfl)) (Ja Ze qr) (fun _ _ _ h=>⟨_,rfl,h⟩) (Jq l e) (fun _ _=>rfl)) zk))) hl)))),?_⟩
  refine ⟨_,rfl,t,_,dx,_,_,rfl,h1,T.c_Node,T.n_Node_kids,QV _ _ _ _,_,rfl,_,rfl,ka,_,rfl,SqL.of h4,fun p hp=>?_⟩
  rw [show JL ((ks++[u]).map V.ref) none (some (-1))=ks.map V.ref by rw [List.map_append]; exact qkd _]
  have sp:=qp (o:=.lst (ks.map V.ref)) hp
  have ep:upd H p (.lst (ks.map V.ref)) p=some (.lst (ks.map V.ref)):=qc
  generalize upd H p (.lst (ks.map V.ref))=H1 at sp ep ⊢
  refine ⟨p,rfl,⟨_,SqL.of ep⟩,fun q hq=>qhC (K:=K) (j:=2) (σ:=[some (V.ref t),none,none]) (fun _=>rfl) (fun _=>rfl) ep (h5.s sp) hll hq (fun H2 gv s2 e2 g2=>?_)⟩
  have s02:=sp.trans s2
  have qn:H q=none:=same_none sp hq
  refine ⟨_,rfl,t,_,dx,_,_,rfl,s02 _ _ h1,T.c_Node,T.n_Node_kind,jM _ _ _ _,rfl,_,rfl,zN (fun hk=>?_) fun hk=>?_⟩
  ·have hk:=(qdD kd).mp (of_decide_eq_true hk)
   rw [if_pos hk] at hgs
   subst hgs
   have lgv:gv.length=(ones l).length:=Paired.length g2
   have lo:(ones l).length=l.length:=by simp [ones]
   have big:=ZG
   refine ⟨_,rfl,.inl ⟨rfl,_,SqL.of e2⟩,(by show 1<=sizeLine; decide),fun z hz=>?_⟩
   have qz:q≠z:=qh e2 hz
   have s3:=qp (o:=.lst [V.str ".."]) hz
   refine ⟨q,gv,_,rfl,rfl,s3 _ _ e2,by omega,?_⟩
   have s4:qF H1 (upd (upd H2 z (.lst [V.str ".."])) q (.lst (gv++[.ref z]))):=fun b o eb=>by rw [qd (qh eb hq)]; exact s3 _ _ (s2 b o eb)
   have g4:QH a M H1 (upd (upd H2 z (.lst [V.str ".."])) q (.lst (gv++[.ref z]))) q (ones l++[[ps ".."]]) (gv++[.ref z]):=g2.snoc (fun b o eb n=>by rw [qd n]; exact s3 _ _ eb) (by rw [qd (Ne.symm qz)]; exact qc) (Ne.symm qz) (.cons rfl .nil)
   have s05:=sp.trans s4
   exact ⟨⟨⟨t,rfl,hU.s s05⟩,q,_,rfl,qc,g4.done s4⟩,fun H' z' ws s3 hz=>k H' z' ws (s05.trans s3) (same_none s05 hz)⟩
  ·have hk:¬ kd=.openFields:=fun y=>hk (decide_eq_true ((qdD kd).mpr y))
   rw [if_neg hk,List.append_nil] at hgs
   subst hgs
   exact ⟨⟨⟨t,rfl,hU.s s02⟩,q,gv,rfl,e2,g2.done s2⟩,fun H' z ws s3 hz=>k H' z ws (s02.trans s3) (same_none s02 hz)⟩
theorem QO:qm ["node","rank","left","right"] ["node"] (qe jQ):=⟨rfl,rfl,rfl,by decide +kernel,rfl,by decide +kernel,by decide +kernel⟩
theorem qn7 (o:Vastoa.Op):zz Jj (Sum.inr (kindS (.op o)))=some (.int (o.rank:Nat)):=by cases o <;> kernel_rfl
theorem qmD (o:Vastoa.Op):(if inV (.str (kindS (.op o))) (qdC.map V.str)=true then o.rank else o.rank+1)=o.leftRank:=by cases o <;> decide +kernel
theorem qlo (o:Vastoa.Op):(if inV (.str (kindS (.op o))) (JX.map V.str)=true then o.rank else o.rank+1)=o.rightRank:=by cases o <;> decide +kernel
def qiI (a:Ad) (M:Addr->Prop) (T:VT) (x y:Nat):NP:=fun σ H=>ju a M T σ H /\ σ[2]? = some (some (.int x)) /\ σ[3]? = some (some (.int y))
theorem qlM {a:Ad} {M:Addr->Prop} {T:VT} {x y:Nat}:qgq (qiI a M T x y):=fun _ _ _ s ⟨h,e⟩=>⟨jJ _ _ _ s h,e⟩
theorem qdF (F:Fun K "lay_operands" "lay_operands" jQ f fd) (T:Tx P w K mg a) (R:Tp P w K mg r) (G:FnAt P w K mg base CX0 1 "at" ["kid","rank"] (qb8 a)):qw P w K mg base CX0 2 f fd ["node"] (spL a (fun U=>∃ o x y,U=.node (.op o) [] [x,y]) qH):=by
 refine F.ok QO (fun vs H Q E h=>?_) (fun cdv A outer s H vs Q E hr h=>?_)
 ·obtain ⟨M,t,U,rfl,_⟩:=h; rfl
 ·obtain ⟨M,t,_,rfl,hU,⟨o,x,y,rfl⟩,hl,k⟩:=h
  have hl:(atP x o.leftRank++[ps " ",.s (kindS (.op o)),ps " "]++atP y o.rightRank).length<=Bd:=hl
  refine ⟨_,qi (qZ (i:=1) QO.nd rfl (Or.inl rfl) (Zu (qL R.gR) (qj (pv 0) rfl) (fun _ _=>rfl)))
   (qi (qZ (i:=2) QO.nd rfl (Or.inl rfl) (qaL (qI Zt (qj (pv 0) rfl) (qL R.gL) (by with_unfolding_all rfl)) (pv 1) (QK JI (pv 1) qr)))
   (qi (qZ (i:=3) QO.nd rfl (Or.inl rfl) (qaL (qI Zt (qj (pv 0) rfl) (qL R.gG) (by with_unfolding_all rfl)) (pv 1) (QK JI (pv 1) qr)))
   (qf (qG (jK qlM (jK qlM (qbe (N:=qiI a M (.node (.op o) [] [x,y]) o.leftRank o.rightRank) G hr (qgs (i:=0) (Qt (fun _ _ h=>h.1) T.c_Node T.n_Node_kids (qj (pv 0) rfl)) qr (fun _ _ _ h=>h) rfl (fun _ _=>rfl)) (pv 2) (fun _ _ _ hN h=>⟨_,hN.2.1,h⟩))
     (zC (qA zw (qA (qlj (fun _ _ h=>h.1) T.c_Node T.n_Node_kind (qj (pv 0) rfl)) (qA zw zk)))) (le_app hl))
    (qbe G hr (qgs (i:=1) (Qt (fun _ _ h=>h.1) T.c_Node T.n_Node_kids (qj (pv 0) rfl)) qr (fun _ _ _ h=>h) rfl (fun _ _=>rfl)) (pv 3) (fun _ _ _ hN h=>⟨_,hN.2.2,h⟩)) hl))))),?_⟩
  have hU':=hU
  unfold qB at hU'
  obtain ⟨dx,la,ka,lb,kks,⟨h1,_⟩,_⟩:=hU'
  refine ⟨_,rfl,t,_,dx,_,_,rfl,h1,T.c_Node,T.n_Node_kind,jM _ _ _ _,r.ranks,_,Sum.inr (kindS (.op o)),_,rfl,R.dR,rfl,qn7 o,?_⟩
  refine ⟨_,rfl,t,_,dx,_,_,rfl,h1,T.c_Node,T.n_Node_kind,jM _ _ _ _,r.left,_,rfl,.inr (R.tL.sq _),rfl,ZF _,_,rfl,?_⟩
  have go:∀ (n m:Nat),n=o.leftRank->m=o.rightRank->tMk a M (qiI a M (.node (.op o) [] [x,y]) o.leftRank o.rightRank) (atP x o.leftRank++[ps " ",.s (kindS (.op o)),ps " "]++atP y o.rightRank) [some (.ref t),some (.int (o.rank:Nat)),some (.int n),some (.int m)] H fun v H'=>Q v H':=by
   rintro n m rfl rfl
   exact ⟨⟨⟨t,rfl,hU⟩,rfl,rfl⟩,k⟩
  have l2:=qmD o
  have r2:=qlo o
  refine zN (fun hb=>?_) fun hb=>?_
  ·rw [if_pos (show inV (.str (kindS (.op o))) (qdC.map V.str)=true from hb)] at l2
   refine ⟨_,rfl,_,rfl,t,_,dx,_,_,rfl,h1,T.c_Node,T.n_Node_kind,jM _ _ _ _,r.right,_,rfl,.inr (R.tG.sq _),rfl,ZF _,_,rfl,?_⟩
   refine zN (fun hc=>?_) fun hc=>?_
   ·rw [if_pos (show inV (.str (kindS (.op o))) (JX.map V.str)=true from hc)] at r2
    exact ⟨_,rfl,go _ _ l2 r2⟩
   ·rw [if_neg (show ¬ inV (.str (kindS (.op o))) (JX.map V.str)=true from hc)] at r2
    exact ⟨_,rfl,_,_,rfl,rfl,go _ _ l2 r2⟩
  ·rw [if_neg (show ¬ inV (.str (kindS (.op o))) (qdC.map V.str)=true from hb)] at l2
   refine ⟨_,rfl,_,_,rfl,rfl,_,rfl,t,_,dx,_,_,rfl,h1,T.c_Node,T.n_Node_kind,jM _ _ _ _,r.right,_,rfl,.inr (R.tG.sq _),rfl,ZF _,_,rfl,?_⟩
   refine zN (fun hc=>?_) fun hc=>?_
   ·rw [if_pos (show inV (.str (kindS (.op o))) (JX.map V.str)=true from hc)] at r2
    exact ⟨_,rfl,go _ _ l2 r2⟩
   ·rw [if_neg (show ¬ inV (.str (kindS (.op o))) (JX.map V.str)=true from hc)] at r2
    exact ⟨_,rfl,_,_,rfl,rfl,go _ _ l2 r2⟩
end
end RT
end
section
namespace RT
open PySem PySem.Spec PyProof.Rows L2
structure Al where
 (piece label yes no none text list record recur get app neg not has fn fields param lt cond must ops:Addr)
def qoA (l:Al):List (String × Addr):=[("piece",l.piece),("num",l.label),("yes",l.yes),("no",l.no),("none",l.none),("name",l.label),("text",l.text),("list",l.list),("record",l.record),("recur",l.recur),("get",l.get),("app",l.app),("neg",l.neg),("not",l.not),("has",l.has),("fn",l.fn),("fields",l.fields),("fields..",l.fields),("param",l.param),("let",l.lt),("if",l.cond),("must",l.must),("or",l.ops),("and",l.ops),("==",l.ops),("!=",l.ops),("<",l.ops),("<=",l.ops),("//",l.ops),("++",l.ops),("+",l.ops),("-",l.ops),("*",l.ops)]
def qeg (l:Al):List (Key × V):=(qoA l).map fun p=>(Sum.inr (Str.ofString p.1),V.ref p.2)
theorem qlp (l:Al):(qeg l).map (·.1)=(qeg ⟨0,0,0,0,0,0,0,0,0,0,0,0,0,0,0,0,0,0,0,0,0⟩).map (·.1):=rfl
def qnL (l:Al):Vastoa.Kind->Addr
 | .piece=>l.piece | .num=>l.label | .yes=>l.yes | .no=>l.no | .none=>l.none | .name=>l.label | .text=>l.text | .list=>l.list | .record=>l.record | .recur=>l.recur
 | .get=>l.get | .app=>l.app | .neg=>l.neg | .not=>l.not | .has=>l.has | .fn=>l.fn | .fields=>l.fields | .openFields=>l.fields | .param=>l.param | .letIn=>l.lt | .cond=>l.cond | .must=>l.must | .op _=>l.ops
theorem qmE (l:Al) (k:Vastoa.Kind):zz (qeg l) (Sum.inr (kindS k))=some (.ref (qnL l k)):=by
 cases k with
 | op o=>cases o <;> kernel_rfl
 | _=>kernel_rfl
def jt (P:Program) (w:World) (K:PySem.W.Frag) (mg:Str->Option Value) (base:Heap) (f:Addr) (sp:Sp):Prop:=∃ fd,qw P w K mg base CX0 4 f fd ["node"] sp/\PySem.W.keepIn K (.ref f)=true/\Binds K fd ["node"] []
structure qnM (P:Program) (w:World) (K:PySem.W.Frag) (mg:Str->Option Value) (base:Heap) (a:Ad) (l:Al):Prop where
 piece:jt P w K mg base l.piece (qhF a)
 label:jt P w K mg base l.label (spL a (fun U=>(∃ x,U=.node .num [x] []) \/ ∃ x,U=.node .name [x] []) qH)
 yes:jt P w K mg base l.yes (spL a (· = .node .yes [] []) qH)
 no:jt P w K mg base l.no (spL a (· = .node .no [] []) qH)
 none:jt P w K mg base l.none (spL a (· = .node .none [] []) qH)
 text:jt P w K mg base l.text (spL a (fun U=>∃ l,U=.node .text [] l) qH)
 list:jt P w K mg base l.list (spL a (fun U=>∃ l,U=.node .list [] l) qH)
 record:jt P w K mg base l.record (spL a ShB qln)
 recur:jt P w K mg base l.recur (spL a (fun U=>∃ ls l,U=.node .recur ls l/\ls.length=l.length) qH)
 get:jt P w K mg base l.get (spL a (fun U=>(∃ ls x,U=.node .get ls [x]) \/ ∃ ls x y,U=.node .get ls [x,y]) qH)
 app:jt P w K mg base l.app (spL a (fun U=>∃ x y,U=.node .app [] [x,y]) qH)
 neg:jt P w K mg base l.neg (spL a (fun U=>∃ x,U=.node .neg [] [x]) qH)
 not:jt P w K mg base l.not (spL a (fun U=>∃ x,U=.node .not [] [x]) qH)
 has:jt P w K mg base l.has (spL a (fun U=>∃ x y,U=.node .has [x] [y]) qH)
 fn:jt P w K mg base l.fn (spL a (fun U=>∃ x e,U=.node .fn [x] [e]) qH)
 fields:jt P w K mg base l.fields (spL a (fun U=>∃ k l e,(k=.fields \/ k=.openFields)/\U=.node k [] (l++[e])) qH)
 param:jt P w K mg base l.param (spL a (fun U=>(∃ x,U=.node .param [x] []) \/ ∃ x d,U=.node .param [x] [d]) qH)
 lt:jt P w K mg base l.lt (spL a (fun U=>∃ ls l e,U=.node .letIn ls (l++[e])/\ls.length=l.length) qH)
 cond:jt P w K mg base l.cond (spL a (fun U=>∃ x y z,U=.node .cond [] [x,y,z]) qH)
 must:jt P w K mg base l.must (spL a (fun U=>∃ x y,U=.node .must [] [x,y]) qH)
 ops:jt P w K mg base l.ops (spL a (fun U=>∃ o x y,U=.node (.op o) [] [x,y]) qH)
def qlN (a:Ad):Sp:=fun vs H Q E=>∃ (M:Addr->Prop) (t:Addr) (T:VT),vs=[.ref t]/\qB a M H T t/\Shp T/\wt T<=Bd/\(∀ b,M b->H b≠none)/\∀ H' p ws,qF H H'->H p=none->H' p=some (.lst ws)->Parts a M H' (qH T) ws->Q (.ref p) H'
section
variable {P:Program} {w:World} {K:PySem.W.Frag} {mg:Str->Option Value} {base:Heap} {f:Addr} {fd:FuncData} {a:Ad} {r:Ap} {l:Al}
theorem qiJ:qm ["node"] ["node"] (qe ZE):=⟨rfl,rfl,rfl,by decide +kernel,rfl,by decide +kernel,by decide +kernel⟩
theorem qiK (F:Fun K "lay_out" "lay_out" ZE f fd) (T:Tx P w K mg a) {la:Addr} (gL:GlV mg "LAYOUTS" (.ref la)) (dL:QM P w K la (qeg l)) (Y:qnM P w K mg base a l):qw P w K mg base CX0 5 f fd ["node"] (qlN a):=by
 refine F.ok qiJ (fun vs H Q E h=>?_) (fun cdv A outer s H vs Q E hr h=>?_)
 ·obtain ⟨M,t,U,rfl,_⟩:=h; rfl
 ·obtain ⟨M,t,U,rfl,hU,hS,hw,hM,k⟩:=h
  refine ⟨_,qf (qG (qlh (k:=4) (Zu (qL gL) (qj (pv 0) rfl) (fun _ _=>rfl)) hr (qa (pv 0) qg))),?_⟩
  have hlen:(qH U).length<=Bd:=by have:=qgo hS; have:=qdA (qH U); omega
  have go:∀ (kd:Vastoa.Kind) (sp:Sp),U.kind=kd->jt P w K mg base (qnL l kd) sp->sp [.ref t] H Q E0->qj3 P w K mg base 4 (qlD P w K (tC (.ref la)) (qaa K (zM 0) "kind")) (ji (zM 0) jV) [some (.ref t)] H Q:=by
   intro kd sp ek Lk hsp
   obtain ⟨fd',F',hk',hb'⟩:=Lk
   cases U with
   | node k0 ls0 l0=>
   cases ek
   unfold qB at hU
   obtain ⟨dx,la',ka,lb,kks,⟨h1,_⟩,_⟩:=hU
   exact ⟨_,rfl,t,_,dx,_,_,rfl,h1,T.c_Node,T.n_Node_kind,jM _ _ _ _,la,_,Sum.inr _,_,rfl,dL,rfl,qmE l _,_,fd',_,sp,rfl,F',hk',hb',_,rfl,hsp⟩
  cases hS with
  | piece x=>exact go _ _ rfl Y.piece ⟨M,t,x,rfl,hU,by simp only [wt,List.map,List.sum_cons,List.sum_nil] at hw; unfold Bd at hw; omega,hM,k⟩
  | num x=>exact go _ _ rfl Y.label ⟨M,t,_,rfl,hU,.inl ⟨x,rfl⟩,hlen,k⟩
  | yes=>exact go _ _ rfl Y.yes ⟨M,t,_,rfl,hU,rfl,hlen,k⟩
  | no=>exact go _ _ rfl Y.no ⟨M,t,_,rfl,hU,rfl,hlen,k⟩
  | none=>exact go _ _ rfl Y.none ⟨M,t,_,rfl,hU,rfl,hlen,k⟩
  | name x=>exact go _ _ rfl Y.label ⟨M,t,_,rfl,hU,.inr ⟨x,rfl⟩,hlen,k⟩
  | text l=>exact go _ _ rfl Y.text ⟨M,t,_,rfl,hU,⟨l,rfl⟩,hlen,k⟩
  | list l=>exact go _ _ rfl Y.list ⟨M,t,_,rfl,hU,⟨l,rfl⟩,hlen,k⟩
  | record ls l h=>exact go _ _ rfl Y.record ⟨M,t,_,rfl,hU,⟨_,ls,l,rfl,Nat.le_of_eq h⟩,hlen,k⟩
  | recur ls l h=>exact go _ _ rfl Y.recur ⟨M,t,_,rfl,hU,⟨ls,l,rfl,h⟩,hlen,k⟩
  | get1 ls x=>exact go _ _ rfl Y.get ⟨M,t,_,rfl,hU,.inl ⟨ls,x,rfl⟩,hlen,k⟩
  | get2 ls x y=>exact go _ _ rfl Y.get ⟨M,t,_,rfl,hU,.inr ⟨ls,x,y,rfl⟩,hlen,k⟩
  | app x y=>exact go _ _ rfl Y.app ⟨M,t,_,rfl,hU,⟨x,y,rfl⟩,hlen,k⟩
  | neg x=>exact go _ _ rfl Y.neg ⟨M,t,_,rfl,hU,⟨x,rfl⟩,hlen,k⟩
  | not x=>exact go _ _ rfl Y.not ⟨M,t,_,rfl,hU,⟨x,rfl⟩,hlen,k⟩
  | has x y=>exact go _ _ rfl Y.has ⟨M,t,_,rfl,hU,⟨x,y,rfl⟩,hlen,k⟩
  | fn x y=>exact go _ _ rfl Y.fn ⟨M,t,_,rfl,hU,⟨x,y,rfl⟩,hlen,k⟩
  | fields l e=>exact go _ _ rfl Y.fields ⟨M,t,_,rfl,hU,⟨_,l,e,.inl rfl,rfl⟩,hlen,k⟩
  | opens l e=>exact go _ _ rfl Y.fields ⟨M,t,_,rfl,hU,⟨_,l,e,.inr rfl,rfl⟩,hlen,k⟩
  | param0 x=>exact go _ _ rfl Y.param ⟨M,t,_,rfl,hU,.inl ⟨x,rfl⟩,hlen,k⟩
  | param1 x d=>exact go _ _ rfl Y.param ⟨M,t,_,rfl,hU,.inr ⟨x,d,rfl⟩,hlen,k⟩
  | letIn ls l e h=>exact go _ _ rfl Y.lt ⟨M,t,_,rfl,hU,⟨ls,l,e,rfl,h⟩,hlen,k⟩
  | cond x y z=>exact go _ _ rfl Y.cond ⟨M,t,_,rfl,hU,⟨x,y,z,rfl⟩,hlen,k⟩
  | must x y=>exact go _ _ rfl Y.must ⟨M,t,_,rfl,hU,⟨x,y,rfl⟩,hlen,k⟩
  | op o x y=>exact go _ _ rfl Y.ops ⟨M,t,_,rfl,hU,⟨o,x,y,rfl⟩,hlen,k⟩
end
end RT
end
section
namespace RT
open PySem PySem.Spec PyProof.Rows L2
def OkP (K:List VT):Pt->Prop
 | .t U=>U∈K
 | .s x=>x.cps.size<=8
 | .l _=>True
def AllP (K:List VT) (L:List Pt):Prop:=∀ x∈L,OkP K x
theorem okA {K:List VT} {A B:List Pt} (h:AllP K A) (g:AllP K B):AllP K (A++B):=fun x hx=>(List.mem_append.mp hx).elim (h x) (g x)
theorem okC {K:List VT} {x:Pt} {L:List Pt} (h:OkP K x) (g:AllP K L):AllP K (x::L):=fun y hy=>(List.mem_cons.mp hy).elim (fun e=>e ▸ h) (g y)
theorem okN {K:List VT}:AllP K []:=fun x hx=>by cases hx
theorem okS {K:List VT} (x:String) (h:(Str.ofString x).cps.size<=8:=by decide +kernel):OkP K (ps x):=h
theorem qap {K:List VT} {U:VT} {n:Nat} (h:U∈K):AllP K (atP U n):=by
 unfold atP
 split
 ·exact okC (okS "(") (okC h (okC (okS ")") okN))
 ·exact okC h okN
theorem qdG {K:List VT} {m:Pt} (hm:OkP K m):∀ {gs:List (List Pt)},(∀ g∈gs,AllP K g)->AllP K (btw m gs)
 | [],_=>okN
 | [g],h=>h g (by simp)
 | g::k::r,h=>okA (A:=g) (B:=m::btw m (k::r)) (h g (by simp)) (okC hm (qdG hm fun x hx=>h x (List.mem_cons_of_mem _ hx)))
theorem qgB {K l:List VT} (h:∀ U∈l,U∈K):∀ g∈ones l,AllP K g:=fun g hg=>by
 unfold ones at hg
 obtain ⟨U,hU,rfl⟩:=List.mem_map.mp hg
 exact okC (h U hU) okN
theorem qhG {K:List VT} {ls:List (List Nat)} {l:List VT} (h:∀ U∈l,U∈K):AllP K (Qe ls l):=qdG (okS " ") fun g hg=>by
 unfold z8 at hg
 obtain ⟨⟨x,U⟩,hU,rfl⟩:=List.mem_map.mp hg
 exact okC trivial (okC (okS " = ") (okC (h U (List.of_mem_zip hU).2) (okC (okS ";") okN)))
theorem qlO {K:List VT} {ls:List (List Nat)} {l:List VT} (h:∀ U∈l,U∈K):AllP K (Zd ls l):=by
 unfold Zd
 split
 ·exact okC (okS "{}") okN
 ·exact okA (okA (okC (okS "{ ") okN) (qhG h)) (okC (okS " }") okN)
theorem qke {α : Type} {K:List VT} {f:α -> List Pt} {l:List α} (h:∀ U∈l,AllP K (f U)):AllP K (l.flatMap f):=fun x hx=>by
 obtain ⟨U,h1,h2⟩:=List.mem_flatMap.mp hx
 exact h U h1 x h2
theorem qkf {K:List VT} {ls:List (List Nat)}:AllP K (js ls):=qke fun x _=>okC (okS ".") (okC trivial okN)
theorem qlq (o:Vastoa.Op):(kindS (.op o)).cps.size<=8:=by cases o <;> decide +kernel
theorem qkg {T:VT} (hS:Shp T):AllP T.kids (qH T):=by
 cases hS with
 | piece x=>exact okC trivial okN
 | num x=>exact okC trivial okN
 | yes=>exact okC (okS "true") okN
 | no=>exact okC (okS "false") okN
 | none=>exact okC (okS "none") okN
 | name x=>exact okC trivial okN
 | text l=>
  refine okA (okA (okC (okS "\"") okN) (qke fun U hU=>?_)) (okC (okS "\"") okN)
  unfold jE
  split
  ·exact okC hU okN
  ·exact okC (okS "${") (okC hU (okC (okS "}") okN))
 | list l=>exact okA (okA (okC (okS "[") okN) (qdG (okS ", ") (qgB fun _ h=>h))) (okC (okS "]") okN)
 | record ls l _=>exact qlO fun _ h=>h
 | recur ls l _=>exact okA (okC (okS "rec ") okN) (qlO fun _ h=>h)
 | get1 ls x=>exact okA (qap List.mem_cons_self) qkf
 | get2 ls x y=>exact okA (okA (okA (qap List.mem_cons_self) qkf) (okC (okS " ? ") okN)) (qap (List.mem_cons_of_mem _ List.mem_cons_self))
 | app x y=>exact okA (okA (qap List.mem_cons_self) (okC (okS " ") okN)) (qap (List.mem_cons_of_mem _ List.mem_cons_self))
 | neg x=>exact okA (okC (okS "-") okN) (qap List.mem_cons_self)
 | not x=>exact okA (okC (okS "not ") okN) (qap List.mem_cons_self)
 | has x y=>exact okA (qap List.mem_cons_self) (okC (okS " has ") (okC trivial okN))
 | fn x y=>exact okC (okS "fn ") (okC trivial (okC (okS ": ") (okC List.mem_cons_self okN)))
 | fields l e=>
  show AllP (l++[e]) (fnP (l++[e]) [])
  rw [qaE,List.append_nil]
  exact okA (okA (okC (okS "fn {") okN) (qdG (okS ", ") (qgB fun _ h=>List.mem_append_left _ h))) (okC (okS "}: ") (okC (List.mem_append_right _ List.mem_cons_self) okN))
 | opens l e=>
  show AllP (l++[e]) (fnP (l++[e]) [[ps ".."]])
  rw [qaE]
  refine okA (okA (okC (okS "fn {") okN) (qdG (okS ", ") fun g hg=>?_)) (okC (okS "}: ") (okC (List.mem_append_right _ List.mem_cons_self) okN))
  rcases List.mem_append.mp hg with hg | hg
  ·exact qgB (fun _ h=>List.mem_append_left _ h) g hg
  ·rw [List.mem_singleton.mp hg]; exact okC (okS "..") okN
 | param0 x=>exact okC trivial okN
 | param1 x d=>exact okC trivial (okC (okS " ? ") (okC List.mem_cons_self okN))
 | letIn ls l e _=>
  rw [qdB]
  exact okA (okA (okC (okS "let ") okN) (qhG fun _ h=>h)) (okC (okS " in ") (okC (show e∈l++[e] from List.mem_append_right _ List.mem_cons_self) okN))
 | cond x y z=>exact okC (okS "if ") (okC (by simp [Vastoa.Tree.kids,OkP]) (okC (okS " then ") (okC (by simp [Vastoa.Tree.kids,OkP]) (okC (okS " else ") (okC (by simp [Vastoa.Tree.kids,OkP]) okN)))))
 | must x y=>exact okC (okS "must ") (okC (by simp [Vastoa.Tree.kids,OkP]) (okC (okS "; ") (okC (by simp [Vastoa.Tree.kids,OkP]) okN)))
 | op o x y=>exact okA (okA (qap List.mem_cons_self) (okC (okS " ") (okC (qlq o) (okC (okS " ") okN)))) (qap (List.mem_cons_of_mem _ List.mem_cons_self))
theorem qgC:∀ {l:List VT} {U:VT},RM.qJ l=true->U∈l->RM.good U=true
 | t::r,U,h,hm=>by
  unfold RM.qJ at h
  rw [Bool.and_eq_true] at h
  rcases List.mem_cons.mp hm with rfl | hm
  ·exact h.1
  ·exact qgC h.2 hm
theorem qeY {T U:VT} (h:RM.good T=true) (hm:U∈T.kids):RM.good U=true:=by
 cases T with
 | node k ls l=>
  unfold RM.good at h
  rw [Bool.and_eq_true] at h
  exact qgC h.1 hm
end RT
end
section
namespace RT
open PySem PySem.Spec PyProof.Rows L2
theorem Parts.keep {a:Ad} {M:Addr->Prop} {H H':Hp} (k:∀ b o,H b=some o->¬ M b->H' b=some o) {L:List Pt} {vs:List V} (h:Parts a M H L vs):Parts a M H' L vs:=by
 refine qW (fun v x q=>?_) h
 cases x with
 | s x=>exact q
 | t T=>obtain ⟨u,e,q⟩:=q; exact ⟨u,e,qB.pass (fun b o e n=>⟨k b o e n,n⟩) _ _ q⟩
 | l b=>obtain ⟨u,e,q,n⟩:=q; exact ⟨u,e,k _ _ q n,n⟩
structure Ti (K:PySem.W.Frag) (N:Addr):Prop where
 ha:PySem.W.findIn K (.ref N) "__class__" = some (some (.builtin "object.__class__"))
 hn:PySem.W.specialIn K (.builtin "object.__class__") "__get__" = some (some (.builtin "getset_descriptor.__get__"))
 ht:PySem.W.takesIn K (.builtin "object.__class__")=some true
 hm:PySem.W.mroIn K N (.type "object")=some true
 k1:PySem.W.kitOne K (.ref N) (.ref N)=some true
 k2:PySem.W.kitOne K (.type "str") (.ref N)=some false
 k3:PySem.W.kitOne K (.type "list") (.ref N)=some false
 k4:PySem.W.kitOne K (.type "str") (.type "str")=some true
 k5:PySem.W.kitOne K (.type "list") (.type "str")=some false
theorem qkh:bootBuiltins "str" = some (.type "str"):=by decide +kernel
def gdP:Pt->Prop
 | .t U=>RM.good U=true
 | .s x=>x.cps.size<=1000
 | .l _=>True
theorem qki {T:VT} (h:RM.good T=true):∀ x∈qH T,gdP x:=fun x hx=>by
 have:=qkg (qdz h) x hx
 cases x with
 | s x=>exact Nat.le_trans this (by decide)
 | t U=>exact qeY h this
 | l b=>trivial
def qhH (a:Ad):Sp:=fun vs H Q E=>∃ (t:Addr) (T:VT),vs=[.ref t]/\qB a M0 H T t/\RM.good T=true/\wt T<=Bd/\∀ H' p,qF H H'->H p=none->H' p=some (.lst (nt (Vastoa.shown T)))->Q (.ref p) H'
section
variable {P:Program} {w:World} {K:PySem.W.Frag} {mg:Str->Option Value} {base:Heap} {f:Addr} {fd:FuncData} {a:Ad} {r:Ap}
theorem Zb:qm ["tree","printed","waiting","part"] ["tree"] (qe jZ):=⟨rfl,rfl,rfl,by decide +kernel,rfl,by decide +kernel,by decide +kernel⟩
theorem qeh (F:Fun K "print_whole" "print_whole" jZ f fd) (T:Tx P w K mg a) (R:Tp P w K mg r) (gN:mg "Node" = some (.ref a.Node)) (ti:Ti K a.Node)
  (Go:FnAt P w K mg base CX0 5 "lay_out" ["node"] (qlN a)) (Gb:FnAt P w K mg base CX0 1 "bytes_of" ["written"] qax):qw P w K mg base CX0 6 f fd ["tree"] (qhH a):=by
 refine F.ok Zb (fun vs H Q E h=>?_) (fun cdv A outer s H vs Q E hr h=>?_)
 ·obtain ⟨t,U,rfl,_⟩:=h; rfl
 ·obtain ⟨t,U,rfl,hU,hg,hw,k⟩:=h
  have hr1:qN 1 _:=hr.mono (by decide)
  refine ⟨_,qi (qZ (i:=1) Zb.nd rfl (Or.inl rfl) (qX qg))
   (qi (qZ (i:=2) Zb.nd rfl (Or.inl rfl) (qX (qa (pv 0) qg)))
   (qi (QQ PassesOwn.never (QR (pv 2) (by intro _; rfl))
    (qi (qZ (i:=3) Zb.nd rfl (Or.inl rfl) (qbD PySem.F.plainAttrs_list PySem.F.slot_list_pop PySem.F.type_list_pop qbE (pv 2)))
    (qf (qQ (QP (qhA (c:=.ref a.Node) (pv 3) R.bI (fun _ _ _ _ _ I q=>Zs I rfl gN q)))
     (qf (qu (zK PySem.F.plainAttrs_list PySem.F.slot_list_extend PySem.F.type_list_extend jL (pv 2) (qa (qfZ (qV Go hr qO (qa (pv 3) qg))) qg))))
     (qf (qQ (QP (qhA (c:=.type "str") (pv 3) R.bI (fun _ _ _ _ _ I q=>JH I rfl R.bS qkh q)))
      (qf (qu (zK PySem.F.plainAttrs_list PySem.F.slot_list_extend PySem.F.type_list_extend jL (pv 1) (qa (qV Gb hr1 qO (qa (pv 3) qg)) qg))))
      (qf (qu (zK PySem.F.plainAttrs_list PySem.F.slot_list_extend PySem.F.type_list_extend jL (pv 1) (qa (pv 3) qg))))))))))
   (qf (qG (pv 1))))),?_⟩
  have big:=ZG
  refine ⟨Nat.zero_le _,fun pl hpl=>?_⟩
  refine ⟨_,rfl,(by show 1<=sizeLine; decide),fun wl hwl=>?_⟩
  have wn:wl≠pl:=fun e=>by rw [e,qc] at hwl; cases hwl
  rw [qd wn] at hwl
  obtain ⟨M,hMd⟩:∃ M:Addr->Prop,M=fun b=>b=pl \/ b=wl:=⟨_,rfl⟩
  have hMf:∀ {b o},H b=some o->¬ M b:=fun {b o} e y=>by
   rw [hMd] at y
   rcases y with y | y
   ·rw [y,hpl] at e; cases e
   ·rw [y,hwl] at e; cases e
  have hMk:∀ {H1:Hp} {b:Addr} {o u:HO},M b->(∀ c x,H1 c=some x->¬ M c->upd H1 b o c=some x):=fun {H1 b o u} hb c x e n=>by
   have:c≠b:=fun y=>n (by rw [y]; exact hb)
   rw [qd this]; exact e
  have mp:M pl:=by rw [hMd]; exact .inl rfl
  have mw:M wl:=by rw [hMd]; exact .inr rfl
  refine ⟨fun m σ H'=>∃ (v:Option V) (D:List Nat) (W:List Pt) (ws:List V),σ = [some (.ref t),some (.ref pl),some (.ref wl),v]/\qF H H'/\H' pl=some (.lst (nt D))/\H' wl=some (.lst ws.reverse)/\Parts a M H' W ws/\(∀ x∈W,gdP x)/\Vastoa.shown U=D++qT W/\D.length+wP W<=wt U/\wP W=m,
   ⟨_,none,[],[.t U],[.ref t],rfl,fun b o e=>?_,?_,qc,?_,?_,?_,?_,rfl⟩,?_⟩
  ·rw [qd (qh e hwl),qd (qh e hpl)]; exact e
  ·rw [qd (Ne.symm wn),qc]; rfl
  ·exact .cons ⟨t,rfl,qB.pass (fun b o e _=>⟨by rw [qd (qh e hwl),qd (qh e hpl)]; exact e,hMf e⟩) _ _ hU⟩ .nil
  ·intro x hx
   rw [List.mem_singleton.mp hx]; exact hg
  ·simp [qT,z7]
  ·show 0+(wt U+0)<=wt U; omega
  rintro m σ H1 ⟨v,D,W,ws,rfl,s1,e1,e2,hP,hG,hsh,hwt,rfl⟩
  have lw:ws.length=W.length:=Paired.length hP
  refine ⟨_,rfl,_,.inl ⟨_,SqL.of e2,rfl⟩,?_⟩
  cases W with
  | nil=>
   have:ws=[]:=List.length_eq_zero_iff.mp lw
   subst this
   refine zx ⟨_,rfl,?_⟩
   refine k H1 pl s1 hpl ?_
   rw [hsh,e1]; simp [qT]
  | cons x W=>
   cases hP with
   | @cons v' _ ws' _ hx hP=>
   rw [show (!(v'::ws').reverse.isEmpty)=true by simp]
   refine zP ⟨_,fun σ' H' q=>q,?_⟩
   refine ⟨_,rfl,.inl ⟨rfl,_,SqL.of e2⟩,wl,_,v',rfl,rfl,e2,by simp,?_⟩
   rw [show ((v'::ws').reverse).dropLast=ws'.reverse by simp]
   have k2:∀ b o,H1 b=some o->¬ M b->upd H1 wl (.lst ws'.reverse) b=some o:=hMk (u:=.lst []) mw
   have s2:qF H (upd H1 wl (.lst ws'.reverse)):=fun b o e=>k2 b o (s1 b o e) (hMf e)
   have w2:upd H1 wl (.lst ws'.reverse) wl=some (.lst ws'.reverse):=qc
   have p2:upd H1 wl (.lst ws'.reverse) pl=some (.lst (nt D)):=by rw [qd (Ne.symm wn)]; exact e1
   generalize upd H1 wl (.lst ws'.reverse)=H2 at k2 s2 w2 p2 ⊢
   have hP:Parts a M H1 W ws':=hP
   have hP2:=hP.keep k2
   have hGx:=hG x List.mem_cons_self
   have hGW:∀ y∈W,gdP y:=fun y hy=>hG y (List.mem_cons_of_mem _ hy)
   rw [JF] at hwt
   have hpw:=qj1 x
   have lenW:=qdA W
   have lws:ws'.length=W.length:=Paired.length hP
   cases x with
   | t S=>
    obtain ⟨u,rfl,hu⟩:=hx
    have hu2:qB a M H2 S u:=qB.pass (fun b o e n=>⟨k2 b o e n,n⟩) _ _ hu
    obtain ⟨dx,y1,y2,y3,hin⟩:=hu2.depth
    have hS:=qdz hGx
    have hlw:=qgo hS
    have hll:=qdA (qH S)
    have hwS:wp (.t S)=wt S:=rfl
    refine ⟨_,rfl,_,true,.ins hin T.c_Node ti.ha ti.hn ti.ht ti.hm,ti.k1,_,rfl,zP ?_⟩
    have hMd2:∀ b,M b->H2 b≠none:=fun b hb=>by
     rw [hMd] at hb
     rcases hb with rfl | rfl
     ·rw [p2]; simp
     ·rw [w2]; simp
    refine ⟨_,rfl,.inl ⟨rfl,_,SqL.of w2⟩,_,rfl,M,u,S,rfl,hu2,hS,by omega,hMd2,fun H3 p zs s3 hp e3 q3=>?_⟩
    refine ⟨p,_,rfl,SqL.of e3,fun q hq=>?_⟩
    have s4:=s3.trans (qp (o:=.lst zs.reverse) hq)
    have lz:zs.length=(qH S).length:=Paired.length q3
    refine ⟨wl,q,_,_,rfl,rfl,s4 _ _ w2,qc,?_,?_⟩
    ·rw [List.length_reverse,List.length_reverse]; omega
    have k5:∀ b o,upd H3 q (.lst zs.reverse) b=some o->¬ M b->upd (upd H3 q (.lst zs.reverse)) wl (.lst (ws'.reverse++zs.reverse)) b=some o:=hMk (u:=.lst []) mw
    refine ⟨_,?_,_,D,qH S++W,zs++ws',rfl,fun b o e=>k5 b o (s4 _ _ (s2 b o e)) (hMf e),?_,?_,?_,?_,?_,?_,rfl⟩
    ·rw [zo,JF]; omega
    ·rw [qd (Ne.symm wn)]; exact s4 _ _ p2
    ·rw [qc,List.reverse_append]
    ·exact Parts.app ((q3.s (qp hq)).keep k5) ((hP2.s s4).keep k5)
    ·intro y hy
     rcases List.mem_append.mp hy with hy | hy
     ·exact qki hGx y hy
     ·exact hGW y hy
    ·rw [hsh,zd]
     show D++(Vastoa.shown S++qT W)=_
     rw [qgp hS]
    ·rw [zo]; omega
   | s x=>
    have hx:v'=.str x:=hx
    subst hx
    have hwS:wp (.s x)=1+x.cps.size:=rfl
    have hxl:x.cps.toList.length=x.cps.size:=Array.length_toList
    refine ⟨_,rfl,_,false,.str x,ti.k2,_,rfl,zx ?_⟩
    refine ⟨_,rfl,_,true,.str x,ti.k4,_,rfl,zP ?_⟩
    refine ⟨_,rfl,.inl ⟨rfl,_,SqL.of p2⟩,_,rfl,x,rfl,hGx,fun p hp=>?_⟩
    have s3:=qp (o:=.lst (nt x.cps.toList)) hp
    refine ⟨pl,p,_,_,rfl,rfl,s3 _ _ p2,qc,?_,?_⟩
    ·rw [zt,zt]; omega
    have k5:∀ b o,upd H2 p (.lst (nt x.cps.toList)) b=some o->¬ M b->upd (upd H2 p (.lst (nt x.cps.toList))) pl (.lst (nt D++nt x.cps.toList)) b=some o:=hMk (u:=.lst []) mp
    refine ⟨_,?_,_,D++bts x,W,ws',rfl,fun b o e=>k5 b o (s3 _ _ (s2 b o e)) (hMf e),?_,?_,(hP2.s s3).keep k5,hGW,?_,?_,rfl⟩
    ·rw [JF]; omega
    ·rw [qc]; unfold nt bts; rw [List.map_append]
    ·rw [qd wn]; exact s3 _ _ w2
    ·rw [hsh]; show D++(bts x++qT W)=_; rw [List.append_assoc]
    ·unfold bts; rw [List.length_append]; omega
   | l b=>
    obtain ⟨u,rfl,hu,hn⟩:=hx
    have hu2:=k2 _ _ hu hn
    have hwS:wp (.l b)=1+b.length:=rfl
    refine ⟨_,rfl,_,false,.lst hu2,ti.k3,_,rfl,zx ?_⟩
    refine ⟨_,rfl,_,false,.lst hu2,ti.k5,_,rfl,zx ?_⟩
    refine ⟨_,rfl,.inl ⟨rfl,_,SqL.of p2⟩,_,rfl,pl,u,_,_,rfl,rfl,p2,hu2,?_,?_⟩
    ·rw [zt,zt]; omega
    have k5:∀ c o,H2 c=some o->¬ M c->upd H2 pl (.lst (nt D++nt b)) c=some o:=hMk (u:=.lst []) mp
    refine ⟨_,?_,_,D++b,W,ws',rfl,fun c o e=>k5 c o (s2 c o e) (hMf e),?_,?_,hP2.keep k5,hGW,?_,?_,rfl⟩
    ·rw [JF]; omega
    ·rw [qc]; unfold nt; rw [List.map_append]
    ·rw [qd wn]; exact w2
    ·rw [hsh]; show D++(b++qT W)=_; rw [List.append_assoc]
    ·rw [List.length_append]; omega
end
end RT
end
section
namespace RT
open PySem PySem.Spec PyProof.Rows L2
mutual
theorem qlP:∀ T:VT,wt T+24<=36 * RM.tw T+2 * RM.lw T+12
 | .node k ls l=>by
  have:=qhI l
  unfold wt RM.tw RM.lw
  omega
theorem qhI:∀ l:List VT,zn l+12 * l.length<=36 * RM.Qq l+2 * RM.QT l
 | []=>by unfold zn; simp
 | t::r=>by have:=qlP t; have:=qhI r; unfold zn RM.Qq RM.QT; rw [List.length_cons]; omega
end
structure Xc (K:PySem.W.Frag) (C S:Addr):Prop where
 x:jD K C
 nn:qx K C "number"
 np:qx K C "place"
 u:subB K C S
def qei (a:Ad) (K:PySem.W.Frag):Sp:=fun vs H Q E=>∃ (t:Addr) (T:VT),vs=[.ref t]/\qB a M0 H T t/\RM.good T=true/\wt T<=Bd/\(2048<(Vastoa.shown T).length->XW K a.Refusal H 8 0 E)/\(¬ 2048<(Vastoa.shown T).length->∀ H' p,qF H H'->H p=none->H' p=some (.lst (nt (Vastoa.shown T)))->Q (.ref p) H')
def JG (T:VT):List V:=if 2048<(Vastoa.shown T).length then [.int (-8)] else .int 0::nt (Vastoa.shown T)
theorem JZ {K:PySem.W.Frag} {H H':Hp} {p:Addr} {xs:List V} (s:qF H H') (h:SqL K H p xs):SqL K H' p xs:=by
 rcases h with (h | ⟨o,h⟩) | h
 ·exact .inl (.inl (s _ _ h))
 ·exact .inl (.inr ⟨o,s _ _ h⟩)
 ·exact .inr h
end RT
end
section
namespace RT
open PySem PySem.Spec PyProof.Rows L2
section
variable {P:Program} {w:World} {K:PySem.W.Frag} {mg:Str->Option Value} {base:Heap} {f:Addr} {fd:FuncData} {a:Ad} {C:Addr}
theorem qbg:qm ["self"] ["self"] (qe zZ):=⟨rfl,rfl,rfl,by decide +kernel,rfl,by decide +kernel,by decide +kernel⟩
theorem qbh (F:Fun K "__init__" "PrintTooLong.__init__" zZ f fd) (c:Xc K C a.Refusal) (G:ClsAt P w K mg base 1 a.Refusal "Refusal" "__init__" ["self","number","place"] (Jf K)):qw P w K mg base CX0 2 f fd ["self"] (spX C 8 false):=by
 refine F.ok qbg (fun vs H Q E h=>?_) (fun cdv A outer s H vs Q E hr h=>?_)
 ·obtain ⟨e,xs,p,rfl,_⟩:=h; rfl
 ·obtain ⟨e,xs,p,rfl,hp,he,k⟩:=h
  refine ⟨_,qf (qu (Zv G hr (qa (pv 0) (qa qr (qa qr qg))))),?_⟩
  have hp0:=hp rfl
  subst hp0
  exact ⟨_,rfl,e,C,xs,8,0,rfl,he,c.x,c.nn,c.np,k⟩
theorem qaH:qm ["tree","printed"] ["tree"] (qe j4):=⟨rfl,rfl,rfl,by decide +kernel,rfl,by decide +kernel,by decide +kernel⟩
theorem qej (F:Fun K "print_short" "print_short" j4 f fd) (T:Tx P w K mg a) (c:Xc K C a.Refusal) (gM:GlV mg "MOST_PRINTED_BYTES" (.int 2048)) (Gx:QL P w K mg base 2 C "PrintTooLong" ["self"] (spX C 8 false))
  (Gp:FnAt P w K mg base CX0 6 "print_whole" ["tree"] (qhH a)):qw P w K mg base (CXR P w) 7 f fd ["tree"] (qei a K):=by
 refine F.okR qaH (fun vs H Q E h=>?_) (fun cdv A outer s H vs Q E hr h=>?_)
 ·obtain ⟨t,U,rfl,_⟩:=h; rfl
 ·obtain ⟨t,U,rfl,hU,hg,hw,kx,ko⟩:=h
  have hr3:qN 3 _:=hr.mono (by decide)
  refine ⟨_,qi (qZ (i:=1) qaH.nd rfl (Or.inl rfl) (qV Gp hr qO (qa (pv 0) qg)))
   (qi (qQ (qI Jy (ja zB (by rfl) T.b_len PySem.boot_len (qa (pv 1) qg)) (qL gM) (qU _)) (qf (ZO Gx hr3)) zf)
   (qf (qG (pv 1)))),?_⟩
  refine ⟨_,rfl,t,U,rfl,hU,hg,hw,fun H1 p s1 hp e1=>?_⟩
  refine ⟨_,rfl,p,_,rfl,.inl (SqL.of e1),_,_,rfl,rfl,_,rfl,zN (fun hl=>?_) fun hl=>?_⟩
  ·have hl:2048<(Vastoa.shown U).length:=by have:=of_decide_eq_true hl; rw [zt] at this; omega
   exact qav c.x c.u c.nn c.np (fun C dx H' s' x=>kx hl C dx H' (s1.trans s') x)
  ·have hl:¬ 2048<(Vastoa.shown U).length:=fun y=>hl (decide_eq_true (by rw [zt]; omega))
   exact ⟨_,rfl,ko hl H1 p s1 hp e1⟩
end
end RT
end
section
namespace RT
open PySem PySem.Spec PyProof.Rows L2
def noS:List Str:=["piece","param"].map Str.ofString
theorem qn8 (k:Vastoa.Kind):inV (.str (kindS k)) (noS.map V.str)=decide (k=.piece \/ k=.param):=by
 cases k with
 | op o=>cases o <;> decide +kernel
 | _=>decide +kernel
inductive Cx2 (a:Ad) (H:Hp):VT->List Int->List Addr->VT->Addr->Prop
 | nil {T:VT} {u:Addr} (h:qB a M0 H T u):Cx2 a H T [] [] T u
 | snoc {T U V:VT} {p:List Int} {us:List Addr} {u v:Addr} {k:Int} (h:Cx2 a H T p us U u) (hk:Vastoa.kidAt U k=some V) (hv:qB a M0 H V v):Cx2 a H T (p++[k]) (us++[u]) V v
theorem Cx2.at {a:Ad} {H:Hp} {T U:VT} {p:List Int} {us:List Addr} {u:Addr} (h:Cx2 a H T p us U u):qB a M0 H U u:=by
 cases h with
 | nil h=>exact h
 | snoc _ _ h=>exact h
theorem Cx2.follow {a:Ad} {H:Hp} {T U:VT} {p:List Int} {us:List Addr} {u:Addr} (h:Cx2 a H T p us U u):∀ q:List Int,Vastoa.follow T (p++q)=Vastoa.follow U q:=by
 induction h with
 | nil _=>intro q; rfl
 | @snoc U' V p us u v k _ hk _ ih=>
  intro q
  rw [List.append_assoc,ih]
  show (Vastoa.kidAt U' k).bind _=_
  rw [hk]; rfl
def qgD (a:Ad) (K:PySem.W.Frag):Sp:=fun vs H Q E=>∃ (t pa:Addr) (T:VT) (p:List Int),vs=[.ref t,.ref pa]/\qB a M0 H T t/\SqL K H pa (p.map V.int)/\p.length<=1000/\(Vastoa.follow T p=none->XW K a.Refusal H 7 0 E) /\
 ∀ U,Vastoa.follow T p=some U->∀ H' m us u,qF H H'->H m=none->H' m=some (.lst ((us++[u]).map V.ref))->Cx2 a H T p us U u->Q (.ref m) H'
def qc1 (a:Ad) (K:PySem.W.Frag):Sp:=fun vs H Q E=>∃ (t pa:Addr) (T:VT) (p:List Int),vs=[.ref t,.ref pa]/\qB a M0 H T t/\SqL K H pa (p.map V.int)/\p.length<=1000/\(Vastoa.follow T p=none->XW K a.Refusal H 7 0 E) /\
 ∀ U,Vastoa.follow T p=some U->∀ H' u,qF H H'->qB a M0 H U u->Q (.ref u) H'
section
variable {P:Program} {w:World} {K:PySem.W.Frag} {mg:Str->Option Value} {base:Heap} {f:Addr} {fd:FuncData} {a:Ad} {C na:Addr}
theorem qbw:qm ["self"] ["self"] (qe jf):=⟨rfl,rfl,rfl,by decide +kernel,rfl,by decide +kernel,by decide +kernel⟩
theorem qbx (F:Fun K "__init__" "PathNowhere.__init__" jf f fd) (c:Xc K C a.Refusal) (G:ClsAt P w K mg base 1 a.Refusal "Refusal" "__init__" ["self","number","place"] (Jf K)):qw P w K mg base CX0 2 f fd ["self"] (spX C 7 false):=by
 refine F.ok qbw (fun vs H Q E h=>?_) (fun cdv A outer s H vs Q E hr h=>?_)
 ·obtain ⟨e,xs,p,rfl,_⟩:=h; rfl
 ·obtain ⟨e,xs,p,rfl,hp,he,k⟩:=h
  refine ⟨_,qf (qu (Zv G hr (qa (pv 0) (qa qr (qa qr qg))))),?_⟩
  have hp0:=hp rfl
  subst hp0
  exact ⟨_,rfl,e,C,xs,7,0,rfl,he,c.x,c.nn,c.np,k⟩
theorem J8:qm ["tree","path","met","k","kids"] ["tree","path"] (qe Z2):=⟨rfl,rfl,rfl,by decide +kernel,rfl,by decide +kernel,by decide +kernel⟩
theorem qkj (F:Fun K "follow" "follow" Z2 f fd) (T:Tx P w K mg a) (c:Xc K C a.Refusal) (gN:GlV mg "NO_RECIPES" (.ref na)) (tN:qah K na (noS.map V.str)) (Gx:QL P w K mg base 2 C "PathNowhere" ["self"] (spX C 7 false)) :
  qw P w K mg base (CXR P w) 4 f fd ["tree","path"] (qgD a K):=by
 refine F.okR J8 (fun vs H Q E h=>?_) (fun cdv A outer s H vs Q E hr h=>?_)
 ·obtain ⟨t,pa,U,p,rfl,_⟩:=h; rfl
 ·obtain ⟨t,pa,U,p,rfl,hU,hpa,hlen,kx,ko⟩:=h
  refine ⟨_,qi (qZ (i:=2) J8.nd rfl (Or.inl rfl) (qX (qa (pv 0) qg)))
   (qi (Jk PassesOwn.leaving rfl (ZX (pv 1)) (jv (i:=3) J8.nd rfl (Or.inl rfl))
    (qi (qZ (i:=4) J8.nd rfl (Or.inl rfl) (qj (jj zp (pv 2) (Ja Ze qr) (fun _ _=>rfl)) rfl))
    (qi (qQ (qlt (qI qff (pv 3) qr (qU _)) (qiT (qI qnT (pv 3) (ja zB (by rfl) T.b_len PySem.boot_len (qa (pv 4) qg)) (qU _)))).pt (qf (ZO Gx hr)) zf)
    (qf (qu (zK PySem.F.plainAttrs_list PySem.F.slot_list_append PySem.F.type_list_append zq (pv 2) (qa (jj zp (pv 4) (pv 3) (fun _ _=>rfl)) qg)))))))
   (qi (qQ (qI Zt (qj (jj zp (pv 2) (Ja Ze qr) (fun _ _=>rfl)) rfl) (qL gN) (by with_unfolding_all rfl)) (qf (ZO Gx hr)) zf)
   (qf (qG (pv 2))))),?_⟩
  refine ⟨_,rfl,(by show 1<=sizeLine; decide),fun ml hml=>?_⟩
  have s0:=qp (o:=.lst [V.ref t]) hml
  refine ⟨_,rfl,pa,rfl,⟨_,JZ s0 hpa⟩,qaO (K:=K) (a:=pa) (xs:=p.map V.int) (fun i σ H'=>∃ (v v':Option V) (S:VT) (us:List Addr) (u:Addr),σ = [some (.ref t),some (.ref pa),some (.ref ml),v,v']/\qF H H'/\H' ml=some (.lst ((us++[u]).map V.ref))/\Cx2 a H U (p.take i) us S u/\us.length=i)
   ⟨none,none,U,[],t,rfl,s0,qc,.nil hU,rfl⟩ (fun i σ H' _ ⟨_,_,_,_,_,_,s1,_⟩=>JZ s1 hpa) ?_ ?_⟩
  ·rintro i y σ H1 hi ⟨v,v',S,us,u,rfl,s1,e1,hc,hus⟩
   obtain ⟨k,hk,rfl⟩:∃ k,p[i]? = some k/\V.int k=y:=by rw [List.getElem?_map] at hi; exact Option.map_eq_some_iff.mp hi
   have hil:i<p.length:=(List.getElem?_eq_some_iff.mp hk).1
   have hS:=hc.at
   cases S with
   | node kd ls l=>
   have hS':=hS
   unfold qB at hS'
   obtain ⟨dx,la,ka,lb,ks,⟨h1,_⟩,_,_,⟨h4,_⟩,h5⟩:=hS'
   have lk:ks.length=l.length:=Paired.length (za.mp h5)
   have hfol:=hc.follow (p.drop i)
   have hdrop:p.drop i=k::p.drop (i+1):=by
    obtain ⟨h1,h2⟩:=List.getElem?_eq_some_iff.mp hk
    rw [<- h2]; exact List.drop_eq_getElem_cons h1
   rw [List.take_append_drop,hdrop] at hfol
   have hfol:Vastoa.follow U p=(Vastoa.kidAt (.node kd ls l) k).bind fun W=>Vastoa.follow W (p.drop (i+1)):=hfol
   refine ⟨_,rfl,_,rfl,ml,_,_,_,rfl,rfl,SqL.of e1,by rw [List.map_append]; exact Zo _ _,u,_,dx,_,_,rfl,s1 _ _ h1,T.c_Node,T.n_Node_kids,QV _ _ _ _,?_⟩
   dsimp only [ZH,qfq,qhN]
   refine qhv (decide (k<0)) (decide ((l.length:Int)<=k)) (fun Q q=>?_) (fun _ Q q=>?_) ?_
   ·exact ⟨_,rfl,_,_,rfl,rfl,_,rfl,q⟩
   ·refine ⟨_,rfl,_,rfl,ka,_,rfl,.inl (SqL.of (s1 _ _ h4)),_,_,rfl,rfl,_,rfl,?_⟩
    rw [List.length_map,lk]; exact q
   refine zN (fun hb=>?_) fun hb=>?_
   ·have hn:Vastoa.kidAt (.node kd ls l) k=none:=by
     rw [Bool.or_eq_true,decide_eq_true_eq,decide_eq_true_eq] at hb
     unfold Vastoa.kidAt
     by_cases hk0:k<0
     ·rw [if_pos hk0]
     ·rw [if_neg hk0]
      refine List.getElem?_eq_none ?_
      show l.length<=k.toNat
      omega
    rw [hn] at hfol
    exact qav c.x c.u c.nn c.np (fun C dx H' s' x=>kx hfol C dx H' (s1.trans s') x)
   ·have hb1:¬ k<0:=fun y=>hb (by rw [decide_eq_true y]; rfl)
    have hb2:¬ (l.length:Int)<=k:=fun y=>hb (by rw [decide_eq_true y,Bool.or_true])
    have hkl:k.toNat<l.length:=by omega
    have hkk:((k.toNat:Nat):Int)=k:=Int.toNat_of_nonneg (by omega)
    have hat:Vastoa.kidAt (.node kd ls l) k=some l[k.toNat]:=by
     unfold Vastoa.kidAt
     rw [if_neg hb1]
     exact List.getElem?_eq_getElem hkl
    obtain ⟨x,ex,hx⟩:=QY (List.getElem?_eq_getElem hkl) h5
    have hatI:atI (ks.map V.ref) k=some (V.ref x):=by
     have:=jF (xs:=ks.map V.ref) (j:=k.toNat) (v:=V.ref x) (by rw [List.getElem?_map,ex]; rfl)
     rw [hkk] at this; exact this
    refine ⟨_,rfl,.inl ⟨rfl,_,SqL.of e1⟩,_,rfl,_,rfl,ka,_,k,_,rfl,rfl,SqL.of (s1 _ _ h4),hatI,ml,_,_,rfl,rfl,e1,?_,?_⟩
    ·rw [List.length_map,List.length_append,hus]; simp only [List.length_cons,List.length_nil]; exact jC (by omega)
    refine ⟨_,_,l[k.toNat],us++[u],x,rfl,fun b o e=>by rw [qd (qh e hml)]; exact s1 b o e,?_,?_,by rw [List.length_append,hus]; rfl⟩
    ·rw [qc,List.map_append (l₁:=us++[u])]; rfl
    ·rw [take_snoc hk]; exact hc.snoc hat hx
  ·rintro σ H1 ⟨v,v',S,us,u,rfl,s1,e1,hc,hus⟩
   rw [List.length_map,List.take_length] at hc
   have hfol:=hc.follow []
   rw [List.append_nil] at hfol
   have hS:=hc.at
   cases S with
   | node kd ls l=>
   have hS':=hS
   unfold qB at hS'
   obtain ⟨dx,la,ka,lb,ks,⟨h1,_⟩,_⟩:=hS'
   have hfol:Vastoa.follow U p=if kd=.piece \/ kd=.param then none else some (.node kd ls l):=hfol
   refine ⟨_,rfl,_,rfl,ml,_,_,_,rfl,rfl,SqL.of e1,by rw [List.map_append]; exact Zo _ _,u,_,dx,_,_,rfl,s1 _ _ h1,T.c_Node,T.n_Node_kind,jM _ _ _ _,na,_,rfl,.inr (tN.sq _),rfl,ZF _,_,rfl,?_⟩
   show if inV (.str (kindS kd)) (noS.map V.str)=true then _ else _
   rw [qn8]
   refine zN (fun hb=>?_) fun hb=>?_
   ·have hb:=of_decide_eq_true hb
    rw [if_pos hb] at hfol
    exact qav c.x c.u c.nn c.np (fun C dx H' s' x=>kx hfol C dx H' (s1.trans s') x)
   ·have hb:¬ (kd=.piece \/ kd=.param):=fun y=>hb (decide_eq_true y)
    rw [if_neg hb] at hfol
    exact ⟨_,rfl,ko _ hfol H1 ml us u s1 hml e1 hc⟩
theorem qiL:qm ["tree","path"] ["tree","path"] (qe Zw):=⟨rfl,rfl,rfl,by decide +kernel,rfl,by decide +kernel,by decide +kernel⟩
theorem qiM (F:Fun K "part_at" "part_at" Zw f fd) (G:FnAt P w K mg base (CXR P w) 4 "follow" ["tree","path"] (qgD a K)):qw P w K mg base (CXR P w) 5 f fd ["tree","path"] (qc1 a K):=by
 refine F.okR qiL (fun vs H Q E h=>?_) (fun cdv A outer s H vs Q E hr h=>?_)
 ·obtain ⟨t,pa,U,p,rfl,_⟩:=h; rfl
 ·obtain ⟨t,pa,U,p,rfl,hU,hpa,hlen,kx,ko⟩:=h
  refine ⟨_,qf (qG (jj zp (qV G hr jU (qa (pv 0) (qa (pv 1) qg))) (Ja Ze qr) (fun _ _=>rfl))),?_⟩
  refine ⟨_,rfl,_,rfl,t,pa,U,p,rfl,hU,hpa,hlen,kx,fun S hS H' m us u s1 hm e1 hc=>?_⟩
  exact ⟨_,rfl,m,_,_,_,rfl,rfl,SqL.of e1,by rw [List.map_append]; exact Zo _ _,ko S hS H' u s1 hc.at⟩
end
end RT
end
section
namespace RT
open PySem PySem.Spec PyProof.Rows L2
theorem qkk:∀ {l:List VT} {U:VT},U∈l->wt U<=zn l
 | t::r,U,h=>by
  unfold zn
  rcases List.mem_cons.mp h with rfl | h
  ·omega
  ·have:=qkk h; omega
theorem qkl {T U:VT} {k:Int} (h:Vastoa.kidAt T k=some U):U∈T.kids:=by
 unfold Vastoa.kidAt at h
 split at h
 ·cases h
 ·exact List.mem_of_getElem? h
theorem qmF {T U:VT} (h:U∈T.kids):wt U<=wt T:=by
 cases T with
 | node k ls l=>
  have:=qkk (l:=l) h
  have e:wt (.node k ls l)=12 * (2+ls.length+l.length)+2 * (ls.map List.length).sum+zn l:=by rw [wt]
  omega
theorem qeZ:∀ {p:List Int} {T U:VT},Vastoa.follow T p=some U->RM.good T=true->RM.good U=true/\wt U<=wt T
 | [],T,U,h,g=>by
  unfold Vastoa.follow at h
  split at h
  ·cases h
  ·cases h; exact ⟨g,Nat.le_refl _⟩
 | k::p,T,U,h,g=>by
  unfold Vastoa.follow at h
  obtain ⟨S,h1,h2⟩:=Option.bind_eq_some_iff.mp h
  have hm:=qkl h1
  obtain ⟨h3,h4⟩:=qeZ h2 (qeY g hm)
  exact ⟨h3,Nat.le_trans h4 (qmF hm)⟩
def ZW (txt:List Nat) (p:List Int):List V:=match Vastoa.read txt with
 | .ok T=>(match Vastoa.follow T p with
  | some U=>JG U
  | none=>[.int (-7)])
 | .error x=>[.int (-(x.kind:Int))]
def qgE (K:PySem.W.Frag):Sp:=fun vs H Q E=>∃ (ta pa:Addr) (txt:List Nat) (p:List Int),vs=[.ref ta,.ref pa]/\SqL K H ta (nt txt)/\SqL K H pa (p.map V.int)/\p.length<=1000/\∀ (H':Hp) (q:Addr),H' q=some (.lst (ZW txt p))->Q (.ref q) H'
section
variable {P:Program} {w:World} {K:PySem.W.Frag} {mg:Str->Option Value} {base:Heap} {f:Addr} {fd:FuncData} {a:Ad}
theorem qhJ:qm ["text","path","refusal"] ["text","path"] (qe ZQ):=⟨rfl,rfl,rfl,by decide +kernel,rfl,by decide +kernel,by decide +kernel⟩
theorem qmG (F:Fun K "part" "part" ZQ f fd) (T:Tx P w K mg a) (gR:mg "Refusal" = some (.ref a.Refusal)) (Gr:FnAt P w K mg base (CXR P w) 8 "read" ["text"] (qgj a K)) (Gp:FnAt P w K mg base (CXR P w) 5 "part_at" ["tree","path"] (qc1 a K)) (Gs:FnAt P w K mg base (CXR P w) 7 "print_short" ["tree"] (qei a K)) :
  qw P w K mg base CX0 9 f fd ["text","path"] (qgE K):=by
 refine F.ok qhJ (fun vs H Q E h=>?_) (fun cdv A outer s H vs Q E hr h=>?_)
 ·obtain ⟨ta,pa,txt,p,rfl,_⟩:=h; rfl
 ·obtain ⟨ta,pa,txt,p,rfl,ht,hpa,hpl,k⟩:=h
  have hr7:qN 7 _:=hr.mono (by decide)
  have hr5:qN 5 _:=hr.mono (by decide)
  refine ⟨_,qf (qne (tb:=fun E1=>qcI (tOp qm1 (qbA (ji (tC (.int 0)) jV)) (Jz (qei a K) [] E1 (ji (Jz (qc1 a K) [] E1 (ji (Jz (qgj a K) [] E1 (ji (zM 0) jV)) (ji (zM 1) jV))) jV)))) (ts:=qcI (qbA (ji (tUn (rU fun i=>.int (-i)) (qh0 K (zM 2) "number")) jV))) (i:=2) rfl rfl rfl qhJ.nd rfl rfl rfl gR T.x_Refusal
   (fun xe pn E1 hp=>qf (qG (QK qfx (qX (qa qr qg)) (qV Gs hr7 hp (qa (qV Gp hr5 hp (qa (qV Gr hr hp (qa (pv 0) qg)) (qa (pv 1) qg))) qg))))) (fun e=>qf (qG (qX (qa (Ja Ze (qmb (pv 2) rfl)) qg))))),?_⟩
  refine ⟨(by show 1<=sizeLine; decide),fun zl hzl=>?_⟩
  have sz:=qp (o:=.lst [V.int 0]) hzl
  have z0:upd H zl (.lst [V.int 0]) zl=some (.lst [V.int 0]):=qc
  have ht0:SqL K (upd H zl (.lst [V.int 0])) ta (nt txt):=JZ sz ht
  have hp0:SqL K (upd H zl (.lst [V.int 0])) pa (p.map V.int):=JZ sz hpa
  generalize upd H zl (.lst [V.int 0])=H0 at sz z0 ht0 hp0 ⊢
  have bad:∀ (n q:Int) (C dx:Addr) (H2:Hp),XAt K a.Refusal C dx H2 n q->ZW txt p=[.int (-n)]->∃ C' d,Value.ref C=.ref C'/\(some dx:Option Addr)=some d/\jD K C'/\subB K C' a.Refusal/\∀ e xs,H2 e=none ->
    (qcI (qbA (ji (tUn (rU fun i=>.int (-i)) (qh0 K (zM 2) "number")) jV))) { nx:=fun _ _=>False,rt:=Q } ((List.replicate 3 none).set 2 (some (.ref e))) (upd H2 e (XOb e C' xs (some d))):=by
   intro n q C dx H2 xa eq
   refine ⟨C,dx,rfl,rfl,xa.cls,xa.sub,fun e xs he=>?_⟩
   have hd:(upd H2 e (XOb e C xs (some dx))) dx=some (XDi dx (rfF n q)):=by rw [qd (qh xa.di he)]; exact xa.di
   refine ⟨_,rfl,e,C,xs,dx,_,_,rfl,qc,hd,xa.cls,xa.nn,rfl,_,rfl,(by show 1<=sizeLine; decide),fun z hz=>?_⟩
   refine k _ z ?_
   rw [qc,eq]
  refine ⟨_,rfl,ta,txt,rfl,ht0,fun U eU gU hw hl H' t s' hT=>?_,fun x ex C dx H' s' xa=>?_⟩
  ·have hwt:=qlP U
   refine ⟨_,rfl,t,pa,U,p,rfl,hT,JZ s' hp0,hpl,fun hf C dx H2 s2 xa=>?_,fun S hS H2 u s2 hu=>?_⟩
   ·exact bad 7 0 C dx H2 xa (by unfold ZW; rw [eU]; simp only [hf])
   ·obtain ⟨gS,wS⟩:=qeZ hS gU
    refine ⟨u,S,rfl,hu.s s2,gS,by unfold Bd; omega,fun hlen C dx H3 s3 xa=>?_,fun hlen H3 q s3 hq hq3=>?_⟩
    ·exact bad 8 0 C dx H3 xa (by unfold ZW JG; rw [eU]; simp only [hS,if_pos hlen])
    ·have big:(1000000:Nat)<sizeLine:=by decide
     refine ⟨zl,q,_,_,rfl,rfl,s3 _ _ (s2 _ _ (s' _ _ z0)),hq3,?_,fun z hz=>?_⟩
     ·rw [zt]; simp only [List.length_cons,List.length_nil]; omega
     refine k _ z ?_
     rw [qc]
     unfold ZW JG
     rw [eU]
     simp only [hS,if_neg hlen]
     rfl
  ·exact bad _ _ C dx H' xa (by unfold ZW; rw [ex])
end
theorem qkm (T:VT):(VastoaNeutral.encode (Vastoa.printed T)).map V.int=JG T:=by
 unfold Vastoa.printed JG Vastoa.MOST
 split
 ·rfl
 ·show V.int 0::((Vastoa.shown T).map Int.ofNat).map V.int=_
  rw [List.map_map]; rfl
theorem qlr (l p:List Int) (h:NeutralIO.bytes l=true):ZW (VastoaNeutral.text l) p=(PyVastoa.part l p).map V.int:=by
 have ans:∀ t:List Nat,(VastoaNeutral.encode (Vastoa.answer (.part t p))).map V.int=ZW t p:=fun t=>by
  show (VastoaNeutral.encode (match Vastoa.read t with
   | .error f=>Vastoa.faulty 0 f
   | .ok t=>match Vastoa.follow t p with
    | none=>Vastoa.refused (-7)
    | some u=>Vastoa.printed u)).map V.int=_
  unfold ZW
  cases Vastoa.read t with
  | ok T=>
   show (VastoaNeutral.encode (match Vastoa.follow T p with | none=>Vastoa.refused (-7) | some u=>Vastoa.printed u)).map V.int=match Vastoa.follow T p with | some U=>JG U | none=>[.int (-7)]
   cases Vastoa.follow T p with
   | none=>rfl
   | some U=>exact qkm U
  | error x=>
   show [V.int (-(x.kind:Int) - 0)]=_
   rw [Int.sub_zero]
 rw [<- ans]
 have e:VastoaNeutral.callOf [[4],l,p]=some (.part (VastoaNeutral.text l) p):=by show (if NeutralIO.bytes l=true then _ else _)=_; rw [if_pos h]
 unfold PyVastoa.part VastoaNeutral.step
 rw [e]
 rfl
end RT
end
section
namespace RT
open PySem PySem.Spec PyProof.Rows L2
theorem qiN:(Q1.map fun r=>(Sum.inr r.1:Key)).Nodup:=by decide +kernel
theorem qnN {P:Program} {w:World} {K:PySem.W.Frag} {h:Heap} {mg:Str->Option Value} {fa:Addr}
  {c1z:Addr} {c08:Addr} {c0U:Addr} {c03:Addr} {c1c:Addr} {c1p:Addr} {c1v:Addr} {c1O:Addr} {c1K:Addr} {c0D:Addr} {c0Q:Addr} {c1E:Addr} {c14:Addr} {c10:Addr} {f1q:Addr} {f1w:Addr} {f1P:Addr} {f1L:Addr} {f0E:Addr} {f0R:Addr} {f1F:Addr} {f11:Addr} {f15:Addr} {f0W:Addr} {f2D:Addr} {f1Z:Addr} {f2y:Addr} {f1U:Addr} {f1T:Addr} {f2B:Addr} {f2c:Addr} {f2r:Addr} {f2h:Addr} {f2i:Addr} {f2n:Addr} {f2q:Addr} {f2e:Addr} {f26:Addr} {f2o:Addr} {f2p:Addr} {f29:Addr} {f25:Addr} {f2g:Addr} {f2j:Addr} {f2a:Addr} {f28:Addr} {f27:Addr} {f2m:Addr} {f2d:Addr} {f2b:Addr} {f2f:Addr} {f2k:Addr} {f2l:Addr} {f2A:Addr} {f2z:Addr} {f1B:Addr} {f22:Addr} {f20:Addr} {f21:Addr} {f24:Addr} {f0l:Addr} {f0a:Addr} {f09:Addr} {f0e:Addr} {f0o:Addr} {f0c:Addr} {f0d:Addr} {f0g:Addr} {f0h:Addr} {f0b:Addr} {f0f:Addr} {f0m:Addr} {f0j:Addr} {f1W:Addr} {f05:Addr} {f1Y:Addr} {f1V:Addr} {f2v:Addr} {f1j:Addr} {f1m:Addr} {f1l:Addr} {f1d:Addr} {f1i:Addr} {f1h:Addr} {f2C:Addr} {f2x:Addr} {o1q d1q p1q v1q e1q t1q:Value} {x1q y1q:Option Addr} {z1q:Array (Option Value)} {o1w d1w p1w v1w e1w t1w:Value} {x1w y1w:Option Addr} {z1w:Array (Option Value)} {o1P d1P p1P v1P e1P t1P:Value} {x1P y1P:Option Addr} {z1P:Array (Option Value)} {o1L d1L p1L v1L e1L t1L:Value} {x1L y1L:Option Addr} {z1L:Array (Option Value)} {o0E d0E p0E v0E e0E t0E:Value} {x0E y0E:Option Addr} {z0E:Array (Option Value)} {o0R d0R p0R v0R e0R t0R:Value} {x0R y0R:Option Addr} {z0R:Array (Option Value)} {o1F d1F p1F v1F e1F t1F:Value} {x1F y1F:Option Addr} {z1F:Array (Option Value)} {o11 d11 p11 v11 e11 t11:Value} {x11 y11:Option Addr} {z11:Array (Option Value)} {o15 d15 p15 v15 e15 t15:Value} {x15 y15:Option Addr} {z15:Array (Option Value)} {o0W d0W p0W v0W e0W t0W:Value} {x0W y0W:Option Addr} {z0W:Array (Option Value)} {o2D d2D p2D v2D e2D t2D:Value} {x2D y2D:Option Addr} {z2D:Array (Option Value)} {o1Z d1Z p1Z v1Z e1Z t1Z:Value} {x1Z y1Z:Option Addr} {z1Z:Array (Option Value)} {o2y d2y p2y v2y e2y t2y:Value} {x2y y2y:Option Addr} {z2y:Array (Option Value)} {o1U d1U p1U v1U e1U t1U:Value} {x1U y1U:Option Addr} {z1U:Array (Option Value)} {o1T d1T p1T v1T e1T t1T:Value} {x1T y1T:Option Addr} {z1T:Array (Option Value)} {o2B d2B p2B v2B e2B t2B:Value} {x2B y2B:Option Addr} {z2B:Array (Option Value)} {o2c d2c p2c v2c e2c t2c:Value} {x2c y2c:Option Addr} {z2c:Array (Option Value)} {o2r d2r p2r v2r e2r t2r:Value} {x2r y2r:Option Addr} {z2r:Array (Option Value)} {o2h d2h p2h v2h e2h t2h:Value} {x2h y2h:Option Addr} {z2h:Array (Option Value)} {o2i d2i p2i v2i e2i t2i:Value} {x2i y2i:Option Addr} {z2i:Array (Option Value)} {o2n d2n p2n v2n e2n t2n:Value} {x2n y2n:Option Addr} {z2n:Array (Option Value)} {o2q d2q p2q v2q e2q t2q:Value} {x2q y2q:Option Addr} {z2q:Array (Option Value)} {o2e d2e p2e v2e e2e t2e:Value} {x2e y2e:Option Addr} {z2e:Array (Option Value)} {o26 d26 p26 v26 e26 t26:Value} {x26 y26:Option Addr} {z26:Array (Option Value)} {o2o d2o p2o v2o e2o t2o:Value} {x2o y2o:Option Addr} {z2o:Array (Option Value)} {o2p d2p p2p v2p e2p t2p:Value} {x2p y2p:Option Addr} {z2p:Array (Option Value)} {o29 d29 p29 v29 e29 t29:Value} {x29 y29:Option Addr} {z29:Array (Option Value)} {o25 d25 p25 v25 e25 t25:Value} {x25 y25:Option Addr} {z25:Array (Option Value)} {o2g d2g p2g v2g e2g t2g:Value} {x2g y2g:Option Addr} {z2g:Array (Option Value)} {o2j d2j p2j v2j e2j t2j:Value} {x2j y2j:Option Addr} {z2j:Array (Option Value)} {o2a d2a p2a v2a e2a t2a:Value} {x2a y2a:Option Addr} {z2a:Array (Option Value)} {o28 d28 p28 v28 e28 t28:Value} {x28 y28:Option Addr} {z28:Array (Option Value)} {o27 d27 p27 v27 e27 t27:Value} {x27 y27:Option Addr} {z27:Array (Option Value)} {o2m d2m p2m v2m e2m t2m:Value} {x2m y2m:Option Addr} {z2m:Array (Option Value)} {o2d d2d p2d v2d e2d t2d:Value} {x2d y2d:Option Addr} {z2d:Array (Option Value)} {o2b d2b p2b v2b e2b t2b:Value} {x2b y2b:Option Addr} {z2b:Array (Option Value)} {o2f d2f p2f v2f e2f t2f:Value} {x2f y2f:Option Addr} {z2f:Array (Option Value)} {o2k d2k p2k v2k e2k t2k:Value} {x2k y2k:Option Addr} {z2k:Array (Option Value)} {o2l d2l p2l v2l e2l t2l:Value} {x2l y2l:Option Addr} {z2l:Array (Option Value)} {o2A d2A p2A v2A e2A t2A:Value} {x2A y2A:Option Addr} {z2A:Array (Option Value)} {o2z d2z p2z v2z e2z t2z:Value} {x2z y2z:Option Addr} {z2z:Array (Option Value)} {o1B d1B p1B v1B e1B t1B:Value} {x1B y1B:Option Addr} {z1B:Array (Option Value)} {o22 d22 p22 v22 e22 t22:Value} {x22 y22:Option Addr} {z22:Array (Option Value)} {o20 d20 p20 v20 e20 t20:Value} {x20 y20:Option Addr} {z20:Array (Option Value)} {o21 d21 p21 v21 e21 t21:Value} {x21 y21:Option Addr} {z21:Array (Option Value)} {o24 d24 p24 v24 e24 t24:Value} {x24 y24:Option Addr} {z24:Array (Option Value)} {o0l d0l p0l v0l e0l t0l:Value} {x0l y0l:Option Addr} {z0l:Array (Option Value)} {o0a d0a p0a v0a e0a t0a:Value} {x0a y0a:Option Addr} {z0a:Array (Option Value)} {o09 d09 p09 v09 e09 t09:Value} {x09 y09:Option Addr} {z09:Array (Option Value)} {o0e d0e p0e v0e e0e t0e:Value} {x0e y0e:Option Addr} {z0e:Array (Option Value)} {o0o d0o p0o v0o e0o t0o:Value} {x0o y0o:Option Addr} {z0o:Array (Option Value)} {o0c d0c p0c v0c e0c t0c:Value} {x0c y0c:Option Addr} {z0c:Array (Option Value)} {o0d d0d p0d v0d e0d t0d:Value} {x0d y0d:Option Addr} {z0d:Array (Option Value)} {o0g d0g p0g v0g e0g t0g:Value} {x0g y0g:Option Addr} {z0g:Array (Option Value)} {o0h d0h p0h v0h e0h t0h:Value} {x0h y0h:Option Addr} {z0h:Array (Option Value)} {o0b d0b p0b v0b e0b t0b:Value} {x0b y0b:Option Addr} {z0b:Array (Option Value)} {o0f d0f p0f v0f e0f t0f:Value} {x0f y0f:Option Addr} {z0f:Array (Option Value)} {o0m d0m p0m v0m e0m t0m:Value} {x0m y0m:Option Addr} {z0m:Array (Option Value)} {o0j d0j p0j v0j e0j t0j:Value} {x0j y0j:Option Addr} {z0j:Array (Option Value)} {o1W d1W p1W v1W e1W t1W:Value} {x1W y1W:Option Addr} {z1W:Array (Option Value)} {o05 d05 p05 v05 e05 t05:Value} {x05 y05:Option Addr} {z05:Array (Option Value)} {o1Y d1Y p1Y v1Y e1Y t1Y:Value} {x1Y y1Y:Option Addr} {z1Y:Array (Option Value)} {o1V d1V p1V v1V e1V t1V:Value} {x1V y1V:Option Addr} {z1V:Array (Option Value)} {o2v d2v p2v v2v e2v t2v:Value} {x2v y2v:Option Addr} {z2v:Array (Option Value)} {o1j d1j p1j v1j e1j t1j:Value} {x1j y1j:Option Addr} {z1j:Array (Option Value)} {o1m d1m p1m v1m e1m t1m:Value} {x1m y1m:Option Addr} {z1m:Array (Option Value)} {o1l d1l p1l v1l e1l t1l:Value} {x1l y1l:Option Addr} {z1l:Array (Option Value)} {o1d d1d p1d v1d e1d t1d:Value} {x1d y1d:Option Addr} {z1d:Array (Option Value)} {o1i d1i p1i v1i e1i t1i:Value} {x1i y1i:Option Addr} {z1i:Array (Option Value)} {o1h d1h p1h v1h e1h t1h:Value} {x1h y1h:Option Addr} {z1h:Array (Option Value)} {o2C d2C p2C v2C e2C t2C:Value} {x2C y2C:Option Addr} {z2C:Array (Option Value)} {o2x d2x p2x v2x e2x t2x:Value} {x2x y2x:Option Addr} {z2x:Array (Option Value)} {j1u:Tok} {j0C:Tok} {j1a:Tok} {j02:Tok} {j18:Tok} {j0x:Tok} {j0s:Tok} {j0H:Tok} {j1S:Tok} {j01:Tok} {j1I:Tok} {j0B:Tok} {j1b:Tok} {j0L:Tok} {j0J:Tok} {j0O:Tok} {j0N:Tok} {j0K:Tok} {j0I:Tok} {t1J:Addr} {t1t:Addr} {t00:Addr} {t0t:Addr} {e0t:Array DictEntry} {m0t:Nat} {t0w:Addr} {e0w:Array DictEntry} {m0w:Nat} {j0y:Tok} {j0M:Tok} {t0u:Addr} {t0v:Addr} {t0P:Addr} {t19:Addr} {e19:Array DictEntry} {m19:Nat} {t0A:Addr} {e0A:Array DictEntry} {m0A:Nat}
  (X:K.In h) (G:h.Ns mainGlobals mg) (hfa:mg "part" = some (.ref fa))
  (a1z:PySem.W.nsIn K mainGlobals "Token" = some (some (.ref c1z)))
  (a08:PySem.W.nsIn K mainGlobals "Cutter" = some (some (.ref c08)))
  (a0U:PySem.W.nsIn K mainGlobals "Node" = some (some (.ref c0U)))
  (a03:PySem.W.nsIn K mainGlobals "Begun" = some (some (.ref c03)))
  (a1c:PySem.W.nsIn K mainGlobals "Reader" = some (some (.ref c1c)))
  (a1p:PySem.W.nsIn K mainGlobals "Refusal" = some (some (.ref c1p)))
  (a1v:PySem.W.nsIn K mainGlobals "TextTooLong" = some (some (.ref c1v)))
  (a1O:PySem.W.nsIn K mainGlobals "WrongToken" = some (some (.ref c1O)))
  (a1K:PySem.W.nsIn K mainGlobals "WrongSyntax" = some (some (.ref c1K)))
  (a0D:PySem.W.nsIn K mainGlobals "LevelTooDeep" = some (some (.ref c0D)))
  (a0Q:PySem.W.nsIn K mainGlobals "NameTwice" = some (some (.ref c0Q)))
  (a1E:PySem.W.nsIn K mainGlobals "TreeTooDeep" = some (some (.ref c1E)))
  (a14:PySem.W.nsIn K mainGlobals "PrintTooLong" = some (some (.ref c14)))
  (a10:PySem.W.nsIn K mainGlobals "PathNowhere" = some (some (.ref c10)))
  (a1q:PySem.W.findIn K (.ref c1p) "__init__" = some (some (.ref f1q)))
  (a1w:PySem.W.findIn K (.ref c1v) "__init__" = some (some (.ref f1w)))
  (a1P:PySem.W.findIn K (.ref c1O) "__init__" = some (some (.ref f1P)))
  (a1L:PySem.W.findIn K (.ref c1K) "__init__" = some (some (.ref f1L)))
  (a0E:PySem.W.findIn K (.ref c0D) "__init__" = some (some (.ref f0E)))
  (a0R:PySem.W.findIn K (.ref c0Q) "__init__" = some (some (.ref f0R)))
  (a1F:PySem.W.findIn K (.ref c1E) "__init__" = some (some (.ref f1F)))
  (a11:PySem.W.findIn K (.ref c10) "__init__" = some (some (.ref f11)))
  (a15:PySem.W.findIn K (.ref c14) "__init__" = some (some (.ref f15)))
  (a0W:PySem.W.findIn K (.ref c0U) "__init__" = some (some (.ref f0W)))
  (a2D:PySem.W.nsIn K mainGlobals "refuse_deep" = some (some (.ref f2D)))
  (a1Z:PySem.W.nsIn K mainGlobals "follow" = some (some (.ref f1Z)))
  (a2y:PySem.W.nsIn K mainGlobals "part_at" = some (some (.ref f2y)))
  (a1U:PySem.W.nsIn K mainGlobals "bytes_of" = some (some (.ref f1U)))
  (a1T:PySem.W.nsIn K mainGlobals "at" = some (some (.ref f1T)))
  (a2B:PySem.W.nsIn K mainGlobals "put_between" = some (some (.ref f2B)))
  (a2c:PySem.W.nsIn K mainGlobals "lay_label" = some (some (.ref f2c)))
  (a2r:PySem.W.nsIn K mainGlobals "lay_yes" = some (some (.ref f2r)))
  (a2h:PySem.W.nsIn K mainGlobals "lay_no" = some (some (.ref f2h)))
  (a2i:PySem.W.nsIn K mainGlobals "lay_none" = some (some (.ref f2i)))
  (a2n:PySem.W.nsIn K mainGlobals "lay_piece" = some (some (.ref f2n)))
  (a2q:PySem.W.nsIn K mainGlobals "lay_text" = some (some (.ref f2q)))
  (a2e:PySem.W.nsIn K mainGlobals "lay_list" = some (some (.ref f2e)))
  (a26:PySem.W.nsIn K mainGlobals "lay_binds" = some (some (.ref f26)))
  (a2o:PySem.W.nsIn K mainGlobals "lay_record" = some (some (.ref f2o)))
  (a2p:PySem.W.nsIn K mainGlobals "lay_recur" = some (some (.ref f2p)))
  (a29:PySem.W.nsIn K mainGlobals "lay_get" = some (some (.ref f29)))
  (a25:PySem.W.nsIn K mainGlobals "lay_app" = some (some (.ref f25)))
  (a2g:PySem.W.nsIn K mainGlobals "lay_neg" = some (some (.ref f2g)))
  (a2j:PySem.W.nsIn K mainGlobals "lay_not" = some (some (.ref f2j)))
  (a2a:PySem.W.nsIn K mainGlobals "lay_has" = some (some (.ref f2a)))
  (a28:PySem.W.nsIn K mainGlobals "lay_fn" = some (some (.ref f28)))
  (a27:PySem.W.nsIn K mainGlobals "lay_fields" = some (some (.ref f27)))
  (a2m:PySem.W.nsIn K mainGlobals "lay_param" = some (some (.ref f2m)))
  (a2d:PySem.W.nsIn K mainGlobals "lay_let" = some (some (.ref f2d)))
  (a2b:PySem.W.nsIn K mainGlobals "lay_if" = some (some (.ref f2b)))
  (a2f:PySem.W.nsIn K mainGlobals "lay_must" = some (some (.ref f2f)))
  (a2k:PySem.W.nsIn K mainGlobals "lay_operands" = some (some (.ref f2k)))
  (a2l:PySem.W.nsIn K mainGlobals "lay_out" = some (some (.ref f2l)))
  (a2A:PySem.W.nsIn K mainGlobals "print_whole" = some (some (.ref f2A)))
  (a2z:PySem.W.nsIn K mainGlobals "print_short" = some (some (.ref f2z)))
  (a1B:PySem.W.findIn K (.ref c1z) "__init__" = some (some (.ref f1B)))
  (a22:PySem.W.nsIn K mainGlobals "is_letter" = some (some (.ref f22)))
  (a20:PySem.W.nsIn K mainGlobals "is_digit" = some (some (.ref f20)))
  (a21:PySem.W.nsIn K mainGlobals "is_in_name" = some (some (.ref f21)))
  (a24:PySem.W.nsIn K mainGlobals "kind_of_name" = some (some (.ref f24)))
  (a0l:PySem.W.findIn K (.ref c08) "__init__" = some (some (.ref f0l)))
  (a0a:PySem.W.findIn K (.ref c08) "byte_at" = some (some (.ref f0a)))
  (a09:PySem.W.findIn K (.ref c08) "add_token" = some (some (.ref f09)))
  (a0e:PySem.W.findIn K (.ref c08) "cut_outside" = some (some (.ref f0e)))
  (a0o:PySem.W.findIn K (.ref c08) "pass_comment" = some (some (.ref f0o)))
  (a0c:PySem.W.findIn K (.ref c08) "cut_name" = some (some (.ref f0c)))
  (a0d:PySem.W.findIn K (.ref c08) "cut_number" = some (some (.ref f0d)))
  (a0g:PySem.W.findIn K (.ref c08) "cut_right_brace" = some (some (.ref f0g)))
  (a0h:PySem.W.findIn K (.ref c08) "cut_sign" = some (some (.ref f0h)))
  (a0b:PySem.W.findIn K (.ref c08) "cut_literal" = some (some (.ref f0b)))
  (a0f:PySem.W.findIn K (.ref c08) "cut_piece" = some (some (.ref f0f)))
  (a0m:PySem.W.findIn K (.ref c08) "is_piece_over" = some (some (.ref f0m)))
  (a0j:PySem.W.findIn K (.ref c08) "gather_byte" = some (some (.ref f0j)))
  (a1W:PySem.W.nsIn K mainGlobals "cut" = some (some (.ref f1W)))
  (a05:PySem.W.findIn K (.ref c03) "__init__" = some (some (.ref f05)))
  (a1Y:PySem.W.nsIn K mainGlobals "fits" = some (some (.ref f1Y)))
  (a1V:PySem.W.nsIn K mainGlobals "choose" = some (some (.ref f1V)))
  (a2v:PySem.W.nsIn K mainGlobals "meet_name" = some (some (.ref f2v)))
  (a1j:PySem.W.findIn K (.ref c1c) "__init__" = some (some (.ref f1j)))
  (a1m:PySem.W.findIn K (.ref c1c) "step" = some (some (.ref f1m)))
  (a1l:PySem.W.findIn K (.ref c1c) "read_token" = some (some (.ref f1l)))
  (a1d:PySem.W.findIn K (.ref c1c) "act" = some (some (.ref f1d)))
  (a1i:PySem.W.findIn K (.ref c1c) "enter_level" = some (some (.ref f1i)))
  (a1h:PySem.W.findIn K (.ref c1c) "end_node" = some (some (.ref f1h)))
  (a2C:PySem.W.nsIn K mainGlobals "read" = some (some (.ref f2C)))
  (a2x:PySem.W.nsIn K mainGlobals "part" = some (some (.ref f2x)))
  (l1q:K.lookup f1q=some ⟨o1q,x1q,.func (PySem.W.fnOf "__init__" "Refusal.__init__" (ql jP) (qk jP) (qe jP) .none v1q d1q p1q y1q e1q t1q),z1q⟩)
  (b1q:PySem.W.codeIn K e1q "Refusal.__init__" = true)
  (k1q:PySem.W.keepIn K (.ref f1q)=true)
  (i1q:PySem.W.isFn K (.ref f1q)=true)
  (l1w:K.lookup f1w=some ⟨o1w,x1w,.func (PySem.W.fnOf "__init__" "TextTooLong.__init__" (ql jc) (qk jc) (qe jc) .none v1w d1w p1w y1w e1w t1w),z1w⟩)
  (b1w:PySem.W.codeIn K e1w "TextTooLong.__init__" = true)
  (k1w:PySem.W.keepIn K (.ref f1w)=true)
  (i1w:PySem.W.isFn K (.ref f1w)=true)
  (l1P:K.lookup f1P=some ⟨o1P,x1P,.func (PySem.W.fnOf "__init__" "WrongToken.__init__" (ql jm) (qk jm) (qe jm) .none v1P d1P p1P y1P e1P t1P),z1P⟩)
  (b1P:PySem.W.codeIn K e1P "WrongToken.__init__" = true)
  (k1P:PySem.W.keepIn K (.ref f1P)=true)
  (i1P:PySem.W.isFn K (.ref f1P)=true)
  (l1L:K.lookup f1L=some ⟨o1L,x1L,.func (PySem.W.fnOf "__init__" "WrongSyntax.__init__" (ql jd) (qk jd) (qe jd) .none v1L d1L p1L y1L e1L t1L),z1L⟩)
  (b1L:PySem.W.codeIn K e1L "WrongSyntax.__init__" = true)
  (k1L:PySem.W.keepIn K (.ref f1L)=true)
  (i1L:PySem.W.isFn K (.ref f1L)=true)
  (l0E:K.lookup f0E=some ⟨o0E,x0E,.func (PySem.W.fnOf "__init__" "LevelTooDeep.__init__" (ql zY) (qk zY) (qe zY) .none v0E d0E p0E y0E e0E t0E),z0E⟩)
  (b0E:PySem.W.codeIn K e0E "LevelTooDeep.__init__" = true)
  (k0E:PySem.W.keepIn K (.ref f0E)=true)
  (i0E:PySem.W.isFn K (.ref f0E)=true)
  (l0R:K.lookup f0R=some ⟨o0R,x0R,.func (PySem.W.fnOf "__init__" "NameTwice.__init__" (ql jx) (qk jx) (qe jx) .none v0R d0R p0R y0R e0R t0R),z0R⟩)
  (b0R:PySem.W.codeIn K e0R "NameTwice.__init__" = true)
  (k0R:PySem.W.keepIn K (.ref f0R)=true)
  (i0R:PySem.W.isFn K (.ref f0R)=true)
  (l1F:K.lookup f1F=some ⟨o1F,x1F,.func (PySem.W.fnOf "__init__" "TreeTooDeep.__init__" (ql je) (qk je) (qe je) .none v1F d1F p1F y1F e1F t1F),z1F⟩)
  (b1F:PySem.W.codeIn K e1F "TreeTooDeep.__init__" = true)
  (k1F:PySem.W.keepIn K (.ref f1F)=true)
  (i1F:PySem.W.isFn K (.ref f1F)=true)
  (l11:K.lookup f11=some ⟨o11,x11,.func (PySem.W.fnOf "__init__" "PathNowhere.__init__" (ql jf) (qk jf) (qe jf) .none v11 d11 p11 y11 e11 t11),z11⟩)
  (b11:PySem.W.codeIn K e11 "PathNowhere.__init__" = true)
  (k11:PySem.W.keepIn K (.ref f11)=true)
  (i11:PySem.W.isFn K (.ref f11)=true)
  (l15:K.lookup f15=some ⟨o15,x15,.func (PySem.W.fnOf "__init__" "PrintTooLong.__init__" (ql zZ) (qk zZ) (qe zZ) .none v15 d15 p15 y15 e15 t15),z15⟩)
  (b15:PySem.W.codeIn K e15 "PrintTooLong.__init__" = true)
  (k15:PySem.W.keepIn K (.ref f15)=true)
  (i15:PySem.W.isFn K (.ref f15)=true)
  (l0W:K.lookup f0W=some ⟨o0W,x0W,.func (PySem.W.fnOf "__init__" "Node.__init__" (ql Qw) (qk Qw) (qe Qw) .none v0W d0W p0W y0W e0W t0W),z0W⟩)
  (b0W:PySem.W.codeIn K e0W "Node.__init__" = true)
  (k0W:PySem.W.keepIn K (.ref f0W)=true)
  (i0W:PySem.W.isFn K (.ref f0W)=true)
  (l2D:K.lookup f2D=some ⟨o2D,x2D,.func (PySem.W.fnOf "refuse_deep" "refuse_deep" (ql jX) (qk jX) (qe jX) .none v2D d2D p2D y2D e2D t2D),z2D⟩)
  (b2D:PySem.W.codeIn K e2D "refuse_deep" = true)
  (k2D:PySem.W.keepIn K (.ref f2D)=true)
  (l1Z:K.lookup f1Z=some ⟨o1Z,x1Z,.func (PySem.W.fnOf "follow" "follow" (ql Z2) (qk Z2) (qe Z2) .none v1Z d1Z p1Z y1Z e1Z t1Z),z1Z⟩)
  (b1Z:PySem.W.codeIn K e1Z "follow" = true)
  (k1Z:PySem.W.keepIn K (.ref f1Z)=true)
  (l2y:K.lookup f2y=some ⟨o2y,x2y,.func (PySem.W.fnOf "part_at" "part_at" (ql Zw) (qk Zw) (qe Zw) .none v2y d2y p2y y2y e2y t2y),z2y⟩)
  (b2y:PySem.W.codeIn K e2y "part_at" = true)
  (k2y:PySem.W.keepIn K (.ref f2y)=true)
  (l1U:K.lookup f1U=some ⟨o1U,x1U,.func (PySem.W.fnOf "bytes_of" "bytes_of" (ql Q3) (qk Q3) (qe Q3) .none v1U d1U p1U y1U e1U t1U),z1U⟩)
  (b1U:PySem.W.codeIn K e1U "bytes_of" = true)
  (k1U:PySem.W.keepIn K (.ref f1U)=true)
  (l1T:K.lookup f1T=some ⟨o1T,x1T,.func (PySem.W.fnOf "at" "at" (ql qdV) (qk qdV) (qe qdV) .none v1T d1T p1T y1T e1T t1T),z1T⟩)
  (b1T:PySem.W.codeIn K e1T "at" = true)
  (k1T:PySem.W.keepIn K (.ref f1T)=true)
  (l2B:K.lookup f2B=some ⟨o2B,x2B,.func (PySem.W.fnOf "put_between" "put_between" (ql jY) (qk jY) (qe jY) .none v2B d2B p2B y2B e2B t2B),z2B⟩)
  (b2B:PySem.W.codeIn K e2B "put_between" = true)
  (k2B:PySem.W.keepIn K (.ref f2B)=true)
  (l2c:K.lookup f2c=some ⟨o2c,x2c,.func (PySem.W.fnOf "lay_label" "lay_label" (ql Qx) (qk Qx) (qe Qx) .none v2c d2c p2c y2c e2c t2c),z2c⟩)
  (b2c:PySem.W.codeIn K e2c "lay_label" = true)
  (k2c:PySem.W.keepIn K (.ref f2c)=true)
  (l2r:K.lookup f2r=some ⟨o2r,x2r,.func (PySem.W.fnOf "lay_yes" "lay_yes" (ql Zx) (qk Zx) (qe Zx) .none v2r d2r p2r y2r e2r t2r),z2r⟩)
  (b2r:PySem.W.codeIn K e2r "lay_yes" = true)
  (k2r:PySem.W.keepIn K (.ref f2r)=true)
  (l2h:K.lookup f2h=some ⟨o2h,x2h,.func (PySem.W.fnOf "lay_no" "lay_no" (ql Z3) (qk Z3) (qe Z3) .none v2h d2h p2h y2h e2h t2h),z2h⟩)
  (b2h:PySem.W.codeIn K e2h "lay_no" = true)
  (k2h:PySem.W.keepIn K (.ref f2h)=true)
  (l2i:K.lookup f2i=some ⟨o2i,x2i,.func (PySem.W.fnOf "lay_none" "lay_none" (ql Q4) (qk Q4) (qe Q4) .none v2i d2i p2i y2i e2i t2i),z2i⟩)
  (b2i:PySem.W.codeIn K e2i "lay_none" = true)
  (k2i:PySem.W.keepIn K (.ref f2i)=true)
  (l2n:K.lookup f2n=some ⟨o2n,x2n,.func (PySem.W.fnOf "lay_piece" "lay_piece" (ql Qy) (qk Qy) (qe Qy) .none v2n d2n p2n y2n e2n t2n),z2n⟩)
  (b2n:PySem.W.codeIn K e2n "lay_piece" = true)
  (k2n:PySem.W.keepIn K (.ref f2n)=true)
  (l2q:K.lookup f2q=some ⟨o2q,x2q,.func (PySem.W.fnOf "lay_text" "lay_text" (ql Q5) (qk Q5) (qe Q5) .none v2q d2q p2q y2q e2q t2q),z2q⟩)
  (b2q:PySem.W.codeIn K e2q "lay_text" = true)
  (k2q:PySem.W.keepIn K (.ref f2q)=true)
  (l2e:K.lookup f2e=some ⟨o2e,x2e,.func (PySem.W.fnOf "lay_list" "lay_list" (ql Q6) (qk Q6) (qe Q6) .none v2e d2e p2e y2e e2e t2e),z2e⟩)
  (b2e:PySem.W.codeIn K e2e "lay_list" = true)
  (k2e:PySem.W.keepIn K (.ref f2e)=true)
  (l26:K.lookup f26=some ⟨o26,x26,.func (PySem.W.fnOf "lay_binds" "lay_binds" (ql Qz) (qk Qz) (qe Qz) .none v26 d26 p26 y26 e26 t26),z26⟩)
  (b26:PySem.W.codeIn K e26 "lay_binds" = true)
  (k26:PySem.W.keepIn K (.ref f26)=true)
  (l2o:K.lookup f2o=some ⟨o2o,x2o,.func (PySem.W.fnOf "lay_record" "lay_record" (ql Qh) (qk Qh) (qe Qh) .none v2o d2o p2o y2o e2o t2o),z2o⟩)
  (b2o:PySem.W.codeIn K e2o "lay_record" = true)
  (k2o:PySem.W.keepIn K (.ref f2o)=true)
  (l2p:K.lookup f2p=some ⟨o2p,x2p,.func (PySem.W.fnOf "lay_recur" "lay_recur" (ql QA) (qk QA) (qe QA) .none v2p d2p p2p y2p e2p t2p),z2p⟩)
  (b2p:PySem.W.codeIn K e2p "lay_recur" = true)
  (k2p:PySem.W.keepIn K (.ref f2p)=true)
  (l29:K.lookup f29=some ⟨o29,x29,.func (PySem.W.fnOf "lay_get" "lay_get" (ql Zy) (qk Zy) (qe Zy) .none v29 d29 p29 y29 e29 t29),z29⟩)
  (b29:PySem.W.codeIn K e29 "lay_get" = true)
  (k29:PySem.W.keepIn K (.ref f29)=true)
  (l25:K.lookup f25=some ⟨o25,x25,.func (PySem.W.fnOf "lay_app" "lay_app" (ql Zz) (qk Zz) (qe Zz) .none v25 d25 p25 y25 e25 t25),z25⟩)
  (b25:PySem.W.codeIn K e25 "lay_app" = true)
  (k25:PySem.W.keepIn K (.ref f25)=true)
  (l2g:K.lookup f2g=some ⟨o2g,x2g,.func (PySem.W.fnOf "lay_neg" "lay_neg" (ql ZA) (qk ZA) (qe ZA) .none v2g d2g p2g y2g e2g t2g),z2g⟩)
  (b2g:PySem.W.codeIn K e2g "lay_neg" = true)
  (k2g:PySem.W.keepIn K (.ref f2g)=true)
  (l2j:K.lookup f2j=some ⟨o2j,x2j,.func (PySem.W.fnOf "lay_not" "lay_not" (ql ZB) (qk ZB) (qe ZB) .none v2j d2j p2j y2j e2j t2j),z2j⟩)
  (b2j:PySem.W.codeIn K e2j "lay_not" = true)
  (k2j:PySem.W.keepIn K (.ref f2j)=true)
  (l2a:K.lookup f2a=some ⟨o2a,x2a,.func (PySem.W.fnOf "lay_has" "lay_has" (ql ZC) (qk ZC) (qe ZC) .none v2a d2a p2a y2a e2a t2a),z2a⟩)
  (b2a:PySem.W.codeIn K e2a "lay_has" = true)
  (k2a:PySem.W.keepIn K (.ref f2a)=true)
  (l28:K.lookup f28=some ⟨o28,x28,.func (PySem.W.fnOf "lay_fn" "lay_fn" (ql Z4) (qk Z4) (qe Z4) .none v28 d28 p28 y28 e28 t28),z28⟩)
  (b28:PySem.W.codeIn K e28 "lay_fn" = true)
  (k28:PySem.W.keepIn K (.ref f28)=true)
  (l27:K.lookup f27=some ⟨o27,x27,.func (PySem.W.fnOf "lay_fields" "lay_fields" (ql Qi) (qk Qi) (qe Qi) .none v27 d27 p27 y27 e27 t27),z27⟩)
  (b27:PySem.W.codeIn K e27 "lay_fields" = true)
  (k27:PySem.W.keepIn K (.ref f27)=true)
  (l2m:K.lookup f2m=some ⟨o2m,x2m,.func (PySem.W.fnOf "lay_param" "lay_param" (ql QB) (qk QB) (qe QB) .none v2m d2m p2m y2m e2m t2m),z2m⟩)
  (b2m:PySem.W.codeIn K e2m "lay_param" = true)
  (k2m:PySem.W.keepIn K (.ref f2m)=true)
  (l2d:K.lookup f2d=some ⟨o2d,x2d,.func (PySem.W.fnOf "lay_let" "lay_let" (ql ZD) (qk ZD) (qe ZD) .none v2d d2d p2d y2d e2d t2d),z2d⟩)
  (b2d:PySem.W.codeIn K e2d "lay_let" = true)
  (k2d:PySem.W.keepIn K (.ref f2d)=true)
  (l2b:K.lookup f2b=some ⟨o2b,x2b,.func (PySem.W.fnOf "lay_if" "lay_if" (ql Z5) (qk Z5) (qe Z5) .none v2b d2b p2b y2b e2b t2b),z2b⟩)
  (b2b:PySem.W.codeIn K e2b "lay_if" = true)
  (k2b:PySem.W.keepIn K (.ref f2b)=true)
  (l2f:K.lookup f2f=some ⟨o2f,x2f,.func (PySem.W.fnOf "lay_must" "lay_must" (ql Q7) (qk Q7) (qe Q7) .none v2f d2f p2f y2f e2f t2f),z2f⟩)
  (b2f:PySem.W.codeIn K e2f "lay_must" = true)
  (k2f:PySem.W.keepIn K (.ref f2f)=true)
  (l2k:K.lookup f2k=some ⟨o2k,x2k,.func (PySem.W.fnOf "lay_operands" "lay_operands" (ql jQ) (qk jQ) (qe jQ) .none v2k d2k p2k y2k e2k t2k),z2k⟩)
  (b2k:PySem.W.codeIn K e2k "lay_operands" = true)
  (k2k:PySem.W.keepIn K (.ref f2k)=true)
  (l2l:K.lookup f2l=some ⟨o2l,x2l,.func (PySem.W.fnOf "lay_out" "lay_out" (ql ZE) (qk ZE) (qe ZE) .none v2l d2l p2l y2l e2l t2l),z2l⟩)
  (b2l:PySem.W.codeIn K e2l "lay_out" = true)
  (k2l:PySem.W.keepIn K (.ref f2l)=true)
  (l2A:K.lookup f2A=some ⟨o2A,x2A,.func (PySem.W.fnOf "print_whole" "print_whole" (ql jZ) (qk jZ) (qe jZ) .none v2A d2A p2A y2A e2A t2A),z2A⟩)
  (b2A:PySem.W.codeIn K e2A "print_whole" = true)
  (k2A:PySem.W.keepIn K (.ref f2A)=true)
  (l2z:K.lookup f2z=some ⟨o2z,x2z,.func (PySem.W.fnOf "print_short" "print_short" (ql j4) (qk j4) (qe j4) .none v2z d2z p2z y2z e2z t2z),z2z⟩)
  (b2z:PySem.W.codeIn K e2z "print_short" = true)
  (k2z:PySem.W.keepIn K (.ref f2z)=true)
  (l1B:K.lookup f1B=some ⟨o1B,x1B,.func (PySem.W.fnOf "__init__" "Token.__init__" (ql Qj) (qk Qj) (qe Qj) .none v1B d1B p1B y1B e1B t1B),z1B⟩)
  (b1B:PySem.W.codeIn K e1B "Token.__init__" = true)
  (k1B:PySem.W.keepIn K (.ref f1B)=true)
  (i1B:PySem.W.isFn K (.ref f1B)=true)
  (l22:K.lookup f22=some ⟨o22,x22,.func (PySem.W.fnOf "is_letter" "is_letter" (ql QC) (qk QC) (qe QC) .none v22 d22 p22 y22 e22 t22),z22⟩)
  (b22:PySem.W.codeIn K e22 "is_letter" = true)
  (k22:PySem.W.keepIn K (.ref f22)=true)
  (l20:K.lookup f20=some ⟨o20,x20,.func (PySem.W.fnOf "is_digit" "is_digit" (ql Q8) (qk Q8) (qe Q8) .none v20 d20 p20 y20 e20 t20),z20⟩)
  (b20:PySem.W.codeIn K e20 "is_digit" = true)
  (k20:PySem.W.keepIn K (.ref f20)=true)
  (l21:K.lookup f21=some ⟨o21,x21,.func (PySem.W.fnOf "is_in_name" "is_in_name" (ql Qk) (qk Qk) (qe Qk) .none v21 d21 p21 y21 e21 t21),z21⟩)
  (b21:PySem.W.codeIn K e21 "is_in_name" = true)
  (k21:PySem.W.keepIn K (.ref f21)=true)
  (l24:K.lookup f24=some ⟨o24,x24,.func (PySem.W.fnOf "kind_of_name" "kind_of_name" (ql jR) (qk jR) (qe jR) .none v24 d24 p24 y24 e24 t24),z24⟩)
  (b24:PySem.W.codeIn K e24 "kind_of_name" = true)
  (k24:PySem.W.keepIn K (.ref f24)=true)
  (l0l:K.lookup f0l=some ⟨o0l,x0l,.func (PySem.W.fnOf "__init__" "Cutter.__init__" (ql j6) (qk j6) (qe j6) .none v0l d0l p0l y0l e0l t0l),z0l⟩)
  (b0l:PySem.W.codeIn K e0l "Cutter.__init__" = true)
  (k0l:PySem.W.keepIn K (.ref f0l)=true)
  (i0l:PySem.W.isFn K (.ref f0l)=true)
  (l0a:K.lookup f0a=some ⟨o0a,x0a,.func (PySem.W.fnOf "byte_at" "Cutter.byte_at" (ql jy) (qk jy) (qe jy) .none v0a d0a p0a y0a e0a t0a),z0a⟩)
  (b0a:PySem.W.codeIn K e0a "Cutter.byte_at" = true)
  (k0a:PySem.W.keepIn K (.ref f0a)=true)
  (i0a:PySem.W.isFn K (.ref f0a)=true)
  (l09:K.lookup f09=some ⟨o09,x09,.func (PySem.W.fnOf "add_token" "Cutter.add_token" (ql jg) (qk jg) (qe jg) .none v09 d09 p09 y09 e09 t09),z09⟩)
  (b09:PySem.W.codeIn K e09 "Cutter.add_token" = true)
  (k09:PySem.W.keepIn K (.ref f09)=true)
  (i09:PySem.W.isFn K (.ref f09)=true)
  (l0e:K.lookup f0e=some ⟨o0e,x0e,.func (PySem.W.fnOf "cut_outside" "Cutter.cut_outside" (ql zQ) (qk zQ) (qe zQ) .none v0e d0e p0e y0e e0e t0e),z0e⟩)
  (b0e:PySem.W.codeIn K e0e "Cutter.cut_outside" = true)
  (k0e:PySem.W.keepIn K (.ref f0e)=true)
  (i0e:PySem.W.isFn K (.ref f0e)=true)
  (l0o:K.lookup f0o=some ⟨o0o,x0o,.func (PySem.W.fnOf "pass_comment" "Cutter.pass_comment" (ql zJ) (qk zJ) (qe zJ) .none v0o d0o p0o y0o e0o t0o),z0o⟩)
  (b0o:PySem.W.codeIn K e0o "Cutter.pass_comment" = true)
  (k0o:PySem.W.keepIn K (.ref f0o)=true)
  (i0o:PySem.W.isFn K (.ref f0o)=true)
  (l0c:K.lookup f0c=some ⟨o0c,x0c,.func (PySem.W.fnOf "cut_name" "Cutter.cut_name" (ql jn) (qk jn) (qe jn) .none v0c d0c p0c y0c e0c t0c),z0c⟩)
  (b0c:PySem.W.codeIn K e0c "Cutter.cut_name" = true)
  (k0c:PySem.W.keepIn K (.ref f0c)=true)
  (i0c:PySem.W.isFn K (.ref f0c)=true)
  (l0d:K.lookup f0d=some ⟨o0d,x0d,.func (PySem.W.fnOf "cut_number" "Cutter.cut_number" (ql z5) (qk z5) (qe z5) .none v0d d0d p0d y0d e0d t0d),z0d⟩)
  (b0d:PySem.W.codeIn K e0d "Cutter.cut_number" = true)
  (k0d:PySem.W.keepIn K (.ref f0d)=true)
  (i0d:PySem.W.isFn K (.ref f0d)=true)
  (l0g:K.lookup f0g=some ⟨o0g,x0g,.func (PySem.W.fnOf "cut_right_brace" "Cutter.cut_right_brace" (ql zu) (qk zu) (qe zu) .none v0g d0g p0g y0g e0g t0g),z0g⟩)
  (b0g:PySem.W.codeIn K e0g "Cutter.cut_right_brace" = true)
  (k0g:PySem.W.keepIn K (.ref f0g)=true)
  (i0g:PySem.W.isFn K (.ref f0g)=true)
  (l0h:K.lookup f0h=some ⟨o0h,x0h,.func (PySem.W.fnOf "cut_sign" "Cutter.cut_sign" (ql jo) (qk jo) (qe jo) .none v0h d0h p0h y0h e0h t0h),z0h⟩)
  (b0h:PySem.W.codeIn K e0h "Cutter.cut_sign" = true)
  (k0h:PySem.W.keepIn K (.ref f0h)=true)
  (i0h:PySem.W.isFn K (.ref f0h)=true)
  (l0b:K.lookup f0b=some ⟨o0b,x0b,.func (PySem.W.fnOf "cut_literal" "Cutter.cut_literal" (ql zR) (qk zR) (qe zR) .none v0b d0b p0b y0b e0b t0b),z0b⟩)
  (b0b:PySem.W.codeIn K e0b "Cutter.cut_literal" = true)
  (k0b:PySem.W.keepIn K (.ref f0b)=true)
  (i0b:PySem.W.isFn K (.ref f0b)=true)
  (l0f:K.lookup f0f=some ⟨o0f,x0f,.func (PySem.W.fnOf "cut_piece" "Cutter.cut_piece" (ql jh) (qk jh) (qe jh) .none v0f d0f p0f y0f e0f t0f),z0f⟩)
  (b0f:PySem.W.codeIn K e0f "Cutter.cut_piece" = true)
  (k0f:PySem.W.keepIn K (.ref f0f)=true)
  (i0f:PySem.W.isFn K (.ref f0f)=true)
  (l0m:K.lookup f0m=some ⟨o0m,x0m,.func (PySem.W.fnOf "is_piece_over" "Cutter.is_piece_over" (ql zE) (qk zE) (qe zE) .none v0m d0m p0m y0m e0m t0m),z0m⟩)
  (b0m:PySem.W.codeIn K e0m "Cutter.is_piece_over" = true)
  (k0m:PySem.W.keepIn K (.ref f0m)=true)
  (i0m:PySem.W.isFn K (.ref f0m)=true)
  (l0j:K.lookup f0j=some ⟨o0j,x0j,.func (PySem.W.fnOf "gather_byte" "Cutter.gather_byte" (ql zS) (qk zS) (qe zS) .none v0j d0j p0j y0j e0j t0j),z0j⟩)
  (b0j:PySem.W.codeIn K e0j "Cutter.gather_byte" = true)
  (k0j:PySem.W.keepIn K (.ref f0j)=true)
  (i0j:PySem.W.isFn K (.ref f0j)=true)
  (l1W:K.lookup f1W=some ⟨o1W,x1W,.func (PySem.W.fnOf "cut" "cut" (ql qcm) (qk qcm) (qe qcm) .none v1W d1W p1W y1W e1W t1W),z1W⟩)
  (b1W:PySem.W.codeIn K e1W "cut" = true)
  (k1W:PySem.W.keepIn K (.ref f1W)=true)
  (l05:K.lookup f05=some ⟨o05,x05,.func (PySem.W.fnOf "__init__" "Begun.__init__" (ql Ql) (qk Ql) (qe Ql) .none v05 d05 p05 y05 e05 t05),z05⟩)
  (b05:PySem.W.codeIn K e05 "Begun.__init__" = true)
  (k05:PySem.W.keepIn K (.ref f05)=true)
  (i05:PySem.W.isFn K (.ref f05)=true)
  (l1Y:K.lookup f1Y=some ⟨o1Y,x1Y,.func (PySem.W.fnOf "fits" "fits" (ql qat) (qk qat) (qe qat) .none v1Y d1Y p1Y y1Y e1Y t1Y),z1Y⟩)
  (b1Y:PySem.W.codeIn K e1Y "fits" = true)
  (k1Y:PySem.W.keepIn K (.ref f1Y)=true)
  (l1V:K.lookup f1V=some ⟨o1V,x1V,.func (PySem.W.fnOf "choose" "choose" (ql Z6) (qk Z6) (qe Z6) .none v1V d1V p1V y1V e1V t1V),z1V⟩)
  (b1V:PySem.W.codeIn K e1V "choose" = true)
  (k1V:PySem.W.keepIn K (.ref f1V)=true)
  (l2v:K.lookup f2v=some ⟨o2v,x2v,.func (PySem.W.fnOf "meet_name" "meet_name" (ql QD) (qk QD) (qe QD) .none v2v d2v p2v y2v e2v t2v),z2v⟩)
  (b2v:PySem.W.codeIn K e2v "meet_name" = true)
  (k2v:PySem.W.keepIn K (.ref f2v)=true)
  (l1j:K.lookup f1j=some ⟨o1j,x1j,.func (PySem.W.fnOf "__init__" "Reader.__init__" (ql j7) (qk j7) (qe j7) .none v1j d1j p1j y1j e1j t1j),z1j⟩)
  (b1j:PySem.W.codeIn K e1j "Reader.__init__" = true)
  (k1j:PySem.W.keepIn K (.ref f1j)=true)
  (i1j:PySem.W.isFn K (.ref f1j)=true)
  (l1m:K.lookup f1m=some ⟨o1m,x1m,.func (PySem.W.fnOf "step" "Reader.step" (ql j8) (qk j8) (qe j8) .none v1m d1m p1m y1m e1m t1m),z1m⟩)
  (b1m:PySem.W.codeIn K e1m "Reader.step" = true)
  (k1m:PySem.W.keepIn K (.ref f1m)=true)
  (i1m:PySem.W.isFn K (.ref f1m)=true)
  (l1l:K.lookup f1l=some ⟨o1l,x1l,.func (PySem.W.fnOf "read_token" "Reader.read_token" (ql z6) (qk z6) (qe z6) .none v1l d1l p1l y1l e1l t1l),z1l⟩)
  (b1l:PySem.W.codeIn K e1l "Reader.read_token" = true)
  (k1l:PySem.W.keepIn K (.ref f1l)=true)
  (i1l:PySem.W.isFn K (.ref f1l)=true)
  (l1d:K.lookup f1d=some ⟨o1d,x1d,.func (PySem.W.fnOf "act" "Reader.act" (ql Qm) (qk Qm) (qe Qm) .none v1d d1d p1d y1d e1d t1d),z1d⟩)
  (b1d:PySem.W.codeIn K e1d "Reader.act" = true)
  (k1d:PySem.W.keepIn K (.ref f1d)=true)
  (i1d:PySem.W.isFn K (.ref f1d)=true)
  (l1i:K.lookup f1i=some ⟨o1i,x1i,.func (PySem.W.fnOf "enter_level" "Reader.enter_level" (ql zT) (qk zT) (qe zT) .none v1i d1i p1i y1i e1i t1i),z1i⟩)
  (b1i:PySem.W.codeIn K e1i "Reader.enter_level" = true)
  (k1i:PySem.W.keepIn K (.ref f1i)=true)
  (i1i:PySem.W.isFn K (.ref f1i)=true)
  (l1h:K.lookup f1h=some ⟨o1h,x1h,.func (PySem.W.fnOf "end_node" "Reader.end_node" (ql jp) (qk jp) (qe jp) .none v1h d1h p1h y1h e1h t1h),z1h⟩)
  (b1h:PySem.W.codeIn K e1h "Reader.end_node" = true)
  (k1h:PySem.W.keepIn K (.ref f1h)=true)
  (i1h:PySem.W.isFn K (.ref f1h)=true)
  (l2C:K.lookup f2C=some ⟨o2C,x2C,.func (PySem.W.fnOf "read" "read" (ql qau) (qk qau) (qe qau) .none v2C d2C p2C y2C e2C t2C),z2C⟩)
  (b2C:PySem.W.codeIn K e2C "read" = true)
  (k2C:PySem.W.keepIn K (.ref f2C)=true)
  (l2x:K.lookup f2x=some ⟨o2x,x2x,.func (PySem.W.fnOf "part" "part" (ql ZQ) (qk ZQ) (qe ZQ) .none v2x d2x p2x y2x e2x t2x),z2x⟩)
  (b2x:PySem.W.codeIn K e2x "part" = true)
  (k2x:PySem.W.keepIn K (.ref f2x)=true)
  (pg1z:PySem.W.plainGet K c1z Str.empty=true)
  (hd1z:PySem.W.hasDictIn K c1z=true)
  (po1z:PySem.W.plainOver K c1z=true)
  (sa1z:PySem.W.findIn K (.ref c1z) "__setattr__" = some (some (.builtin "object.__setattr__")))
  (mk1z:PySem.W.makesIn K c1z=true)
  (kc1z:PySem.W.keepIn K (.ref c1z)=true)
  (n1C:PySem.W.findIn K (.ref c1z) "kind" = some none)
  (n1D:PySem.W.findIn K (.ref c1z) "place" = some none)
  (n1A:PySem.W.findIn K (.ref c1z) "held" = some none)
  (pg08:PySem.W.plainGet K c08 Str.empty=true)
  (hd08:PySem.W.hasDictIn K c08=true)
  (po08:PySem.W.plainOver K c08=true)
  (sa08:PySem.W.findIn K (.ref c08) "__setattr__" = some (some (.builtin "object.__setattr__")))
  (mk08:PySem.W.makesIn K c08=true)
  (kc08:PySem.W.keepIn K (.ref c08)=true)
  (n0q:PySem.W.findIn K (.ref c08) "text" = some none)
  (n0p:PySem.W.findIn K (.ref c08) "place" = some none)
  (n0r:PySem.W.findIn K (.ref c08) "tokens" = some none)
  (n0n:PySem.W.findIn K (.ref c08) "opened" = some none)
  (n0k:PySem.W.findIn K (.ref c08) "in_literal" = some none)
  (n0i:PySem.W.findIn K (.ref c08) "ended" = some none)
  (pg0U:PySem.W.plainGet K c0U Str.empty=true)
  (hd0U:PySem.W.hasDictIn K c0U=true)
  (po0U:PySem.W.plainOver K c0U=true)
  (sa0U:PySem.W.findIn K (.ref c0U) "__setattr__" = some (some (.builtin "object.__setattr__")))
  (mk0U:PySem.W.makesIn K c0U=true)
  (kc0U:PySem.W.keepIn K (.ref c0U)=true)
  (n0Y:PySem.W.findIn K (.ref c0U) "kind" = some none)
  (n0Z:PySem.W.findIn K (.ref c0U) "labels" = some none)
  (n0X:PySem.W.findIn K (.ref c0U) "kids" = some none)
  (n0V:PySem.W.findIn K (.ref c0U) "depth" = some none)
  (pg03:PySem.W.plainGet K c03 Str.empty=true)
  (hd03:PySem.W.hasDictIn K c03=true)
  (po03:PySem.W.plainOver K c03=true)
  (sa03:PySem.W.findIn K (.ref c03) "__setattr__" = some (some (.builtin "object.__setattr__")))
  (mk03:PySem.W.makesIn K c03=true)
  (kc03:PySem.W.keepIn K (.ref c03)=true)
  (n04:PySem.W.findIn K (.ref c03) "first" = some none)
  (n06:PySem.W.findIn K (.ref c03) "labels" = some none)
  (n07:PySem.W.findIn K (.ref c03) "names" = some none)
  (pg1c:PySem.W.plainGet K c1c Str.empty=true)
  (hd1c:PySem.W.hasDictIn K c1c=true)
  (po1c:PySem.W.plainOver K c1c=true)
  (sa1c:PySem.W.findIn K (.ref c1c) "__setattr__" = some (some (.builtin "object.__setattr__")))
  (mk1c:PySem.W.makesIn K c1c=true)
  (kc1c:PySem.W.keepIn K (.ref c1c)=true)
  (n1n:PySem.W.findIn K (.ref c1c) "tokens" = some none)
  (n1e:PySem.W.findIn K (.ref c1c) "at" = some none)
  (n1k:PySem.W.findIn K (.ref c1c) "level" = some none)
  (n1o:PySem.W.findIn K (.ref c1c) "waiting" = some none)
  (n1g:PySem.W.findIn K (.ref c1c) "built" = some none)
  (n1f:PySem.W.findIn K (.ref c1c) "begun" = some none)
  (x1p:ZJ K c1p=true)
  (sa1p:PySem.W.findIn K (.ref c1p) "__setattr__" = some (some (.builtin "object.__setattr__")))
  (ga1p:PySem.W.findIn K (.ref c1p) "__getattribute__" = some (some (.builtin "BaseException.__getattribute__")))
  (gh1p:PySem.W.findIn K (.ref c1p) "__getattr__" = some none)
  (u1p:ZT K c1p c1p=true)
  (kc1p:PySem.W.keepIn K (.ref c1p)=true)
  (n1r:PySem.W.findIn K (.ref c1p) "number" = some none)
  (n1s:PySem.W.findIn K (.ref c1p) "place" = some none)
  (x1v:ZJ K c1v=true)
  (sa1v:PySem.W.findIn K (.ref c1v) "__setattr__" = some (some (.builtin "object.__setattr__")))
  (ga1v:PySem.W.findIn K (.ref c1v) "__getattribute__" = some (some (.builtin "BaseException.__getattribute__")))
  (gh1v:PySem.W.findIn K (.ref c1v) "__getattr__" = some none)
  (u1v:ZT K c1v c1p=true)
  (kc1v:PySem.W.keepIn K (.ref c1v)=true)
  (n1x:PySem.W.findIn K (.ref c1v) "number" = some none)
  (n1y:PySem.W.findIn K (.ref c1v) "place" = some none)
  (x1O:ZJ K c1O=true)
  (sa1O:PySem.W.findIn K (.ref c1O) "__setattr__" = some (some (.builtin "object.__setattr__")))
  (ga1O:PySem.W.findIn K (.ref c1O) "__getattribute__" = some (some (.builtin "BaseException.__getattribute__")))
  (gh1O:PySem.W.findIn K (.ref c1O) "__getattr__" = some none)
  (u1O:ZT K c1O c1p=true)
  (kc1O:PySem.W.keepIn K (.ref c1O)=true)
  (n1Q:PySem.W.findIn K (.ref c1O) "number" = some none)
  (n1R:PySem.W.findIn K (.ref c1O) "place" = some none)
  (x1K:ZJ K c1K=true)
  (sa1K:PySem.W.findIn K (.ref c1K) "__setattr__" = some (some (.builtin "object.__setattr__")))
  (ga1K:PySem.W.findIn K (.ref c1K) "__getattribute__" = some (some (.builtin "BaseException.__getattribute__")))
  (gh1K:PySem.W.findIn K (.ref c1K) "__getattr__" = some none)
  (u1K:ZT K c1K c1p=true)
  (kc1K:PySem.W.keepIn K (.ref c1K)=true)
  (n1M:PySem.W.findIn K (.ref c1K) "number" = some none)
  (n1N:PySem.W.findIn K (.ref c1K) "place" = some none)
  (x0D:ZJ K c0D=true)
  (sa0D:PySem.W.findIn K (.ref c0D) "__setattr__" = some (some (.builtin "object.__setattr__")))
  (ga0D:PySem.W.findIn K (.ref c0D) "__getattribute__" = some (some (.builtin "BaseException.__getattribute__")))
  (gh0D:PySem.W.findIn K (.ref c0D) "__getattr__" = some none)
  (u0D:ZT K c0D c1p=true)
  (kc0D:PySem.W.keepIn K (.ref c0D)=true)
  (n0F:PySem.W.findIn K (.ref c0D) "number" = some none)
  (n0G:PySem.W.findIn K (.ref c0D) "place" = some none)
  (x0Q:ZJ K c0Q=true)
  (sa0Q:PySem.W.findIn K (.ref c0Q) "__setattr__" = some (some (.builtin "object.__setattr__")))
  (ga0Q:PySem.W.findIn K (.ref c0Q) "__getattribute__" = some (some (.builtin "BaseException.__getattribute__")))
  (gh0Q:PySem.W.findIn K (.ref c0Q) "__getattr__" = some none)
  (u0Q:ZT K c0Q c1p=true)
  (kc0Q:PySem.W.keepIn K (.ref c0Q)=true)
  (n0S:PySem.W.findIn K (.ref c0Q) "number" = some none)
  (n0T:PySem.W.findIn K (.ref c0Q) "place" = some none)
  (x1E:ZJ K c1E=true)
  (sa1E:PySem.W.findIn K (.ref c1E) "__setattr__" = some (some (.builtin "object.__setattr__")))
  (ga1E:PySem.W.findIn K (.ref c1E) "__getattribute__" = some (some (.builtin "BaseException.__getattribute__")))
  (gh1E:PySem.W.findIn K (.ref c1E) "__getattr__" = some none)
  (u1E:ZT K c1E c1p=true)
  (kc1E:PySem.W.keepIn K (.ref c1E)=true)
  (n1G:PySem.W.findIn K (.ref c1E) "number" = some none)
  (n1H:PySem.W.findIn K (.ref c1E) "place" = some none)
  (cg:PySem.W.specialIn K (.ref c1p) "__getattribute__" = some (some (.builtin "type.__getattribute__")))
  (cr:PySem.W.readsIn K c1p (.type "type")=true)
  (cf:PySem.W.findCls K (.ref c1p) (.type "type") "__init__" = some (.val (.ref f1q)))
  (g1u:PySem.W.nsIn K mainGlobals "TAB" = some (some (.int (9) j1u)))
  (g0C:PySem.W.nsIn K mainGlobals "LINE_FEED" = some (some (.int (10) j0C)))
  (g1a:PySem.W.nsIn K mainGlobals "RETURN" = some (some (.int (13) j1a)))
  (g02:PySem.W.nsIn K mainGlobals "BLANK" = some (some (.int (32) j02)))
  (g18:PySem.W.nsIn K mainGlobals "QUOTE" = some (some (.int (34) j18)))
  (g0x:PySem.W.nsIn K mainGlobals "HASH" = some (some (.int (35) j0x)))
  (g0s:PySem.W.nsIn K mainGlobals "DOLLAR" = some (some (.int (36) j0s)))
  (g0H:PySem.W.nsIn K mainGlobals "MINUS" = some (some (.int (45) j0H)))
  (g1S:PySem.W.nsIn K mainGlobals "ZERO" = some (some (.int (48) j1S)))
  (g01:PySem.W.nsIn K mainGlobals "BACKSLASH" = some (some (.int (92) j01)))
  (g1I:PySem.W.nsIn K mainGlobals "UNDERSCORE" = some (some (.int (95) j1I)))
  (g0B:PySem.W.nsIn K mainGlobals "LEFT_BRACE" = some (some (.int (123) j0B)))
  (g1b:PySem.W.nsIn K mainGlobals "RIGHT_BRACE" = some (some (.int (125) j1b)))
  (g0L:PySem.W.nsIn K mainGlobals "MOST_NAME_BYTES" = some (some (.int (32) j0L)))
  (g0J:PySem.W.nsIn K mainGlobals "MOST_DIGITS" = some (some (.int (30) j0J)))
  (g0O:PySem.W.nsIn K mainGlobals "NOTHING" = some (some (.int (-1) j0O)))
  (g0N:PySem.W.nsIn K mainGlobals "MOST_TEXT_BYTES" = some (some (.int (2048) j0N)))
  (g0K:PySem.W.nsIn K mainGlobals "MOST_LEVELS" = some (some (.int (40) j0K)))
  (g0I:PySem.W.nsIn K mainGlobals "MOST_DEPTH" = some (some (.int (40) j0I)))
  (g2s:PySem.W.nsIn K mainGlobals "len" = some none)
  (g2w:PySem.W.nsIn K mainGlobals "ord" = some none)
  (g2u:PySem.W.nsIn K mainGlobals "max" = some none)
  (g2G:PySem.W.nsIn K mainGlobals "tuple" = some none)
  (g1J:PySem.W.nsIn K mainGlobals "WORDS" = some (some (.ref t1J)))
  (h1J:JC K t1J JS=true)
  (g1t:PySem.W.nsIn K mainGlobals "SIGNS" = some (some (.ref t1t)))
  (h1t:JC K t1t Zg=true)
  (g00:PySem.W.nsIn K mainGlobals "ATOM_BEGINNINGS" = some (some (.ref t00)))
  (h00:JC K t00 qdm=true)
  (g0t:PySem.W.nsIn K mainGlobals "ESCAPES" = some (some (.ref t0t)))
  (h0t:K.lookup t0t=some ⟨.type "dict",none,.dict e0t m0t,#[]⟩)
  (s0t:(t0t == sysModules)=false)
  (g0w:PySem.W.nsIn K mainGlobals "GRAMMAR" = some (some (.ref t0w)))
  (h0w:K.lookup t0w=some ⟨.type "dict",none,.dict e0w m0w,#[]⟩)
  (s0w:(t0w == sysModules)=false)
  (p0t:Paired (qco w) qai e0t.toList)
  (p0w:Paired (qco w) (Q1.map fun r=>(Sum.inr r.1,V.ref (Z9 e0w r.1))) e0w.toList)
  (q0w:(Q1.all fun r=>JC K (Z9 e0w r.1) r.2)=true)
  (x14:ZJ K c14=true)
  (sa14:PySem.W.findIn K (.ref c14) "__setattr__" = some (some (.builtin "object.__setattr__")))
  (ga14:PySem.W.findIn K (.ref c14) "__getattribute__" = some (some (.builtin "BaseException.__getattribute__")))
  (gh14:PySem.W.findIn K (.ref c14) "__getattr__" = some none)
  (u14:ZT K c14 c1p=true)
  (kc14:PySem.W.keepIn K (.ref c14)=true)
  (n16:PySem.W.findIn K (.ref c14) "number" = some none)
  (n17:PySem.W.findIn K (.ref c14) "place" = some none)
  (x10:ZJ K c10=true)
  (sa10:PySem.W.findIn K (.ref c10) "__setattr__" = some (some (.builtin "object.__setattr__")))
  (ga10:PySem.W.findIn K (.ref c10) "__getattribute__" = some (some (.builtin "BaseException.__getattribute__")))
  (gh10:PySem.W.findIn K (.ref c10) "__getattr__" = some none)
  (u10:ZT K c10 c1p=true)
  (kc10:PySem.W.keepIn K (.ref c10)=true)
  (n12:PySem.W.findIn K (.ref c10) "number" = some none)
  (n13:PySem.W.findIn K (.ref c10) "place" = some none)
  (g0y:PySem.W.nsIn K mainGlobals "HIGHEST_RANK" = some (some (.int (12) j0y)))
  (g0M:PySem.W.nsIn K mainGlobals "MOST_PRINTED_BYTES" = some (some (.int (2048) j0M)))
  (g0u:PySem.W.nsIn K mainGlobals "GATHERED_FROM_LEFT" = some (some (.ref t0u)))
  (h0u:JC K t0u qdC=true)
  (g0v:PySem.W.nsIn K mainGlobals "GATHERED_FROM_RIGHT" = some (some (.ref t0v)))
  (h0v:JC K t0v JX=true)
  (g0P:PySem.W.nsIn K mainGlobals "NO_RECIPES" = some (some (.ref t0P)))
  (h0P:JC K t0P noS=true)
  (g1X:PySem.W.nsIn K mainGlobals "enumerate" = some none)
  (g2H:PySem.W.nsIn K mainGlobals "zip" = some none)
  (g23:PySem.W.nsIn K mainGlobals "isinstance" = some none)
  (g2F:PySem.W.nsIn K mainGlobals "str" = some none)
  (g19:PySem.W.nsIn K mainGlobals "RANKS" = some (some (.ref t19)))
  (h19:K.lookup t19=some ⟨.type "dict",none,.dict e19 m19,#[]⟩)
  (s19:(t19 == sysModules)=false)
  (g0A:PySem.W.nsIn K mainGlobals "LAYOUTS" = some (some (.ref t0A)))
  (h0A:K.lookup t0A=some ⟨.type "dict",none,.dict e0A m0A,#[]⟩)
  (s0A:(t0A == sysModules)=false)
  (p19:Paired (qco w) Jj e19.toList)
  (p0A:Paired (qco w) (qeg ⟨f2n,f2c,f2r,f2h,f2i,f2q,f2e,f2o,f2p,f29,f25,f2g,f2j,f2a,f28,f27,f2m,f2d,f2b,f2f,f2k⟩) e0A.toList)
  (i1:PySem.W.findIn K (.ref c0U) "__class__" = some (some (.builtin "object.__class__")))
  (i2:PySem.W.specialIn K (.builtin "object.__class__") "__get__" = some (some (.builtin "getset_descriptor.__get__")))
  (i3:PySem.W.takesIn K (.builtin "object.__class__")=some true)
  (i4:PySem.W.mroIn K c0U (.type "object")=some true)
  (i5:PySem.W.kitOne K (.ref c0U) (.ref c0U)=some true)
  (i6:PySem.W.kitOne K (.type "str") (.ref c0U)=some false)
  (i7:PySem.W.kitOne K (.type "list") (.ref c0U)=some false)
  (i8:PySem.W.kitOne K (.type "str") (.type "str")=some true)
  (i9:PySem.W.kitOne K (.type "list") (.type "str")=some false)
  : ∃ fd:FuncData,(∀ (s:Shared) (us:List Value),us.length=(["text","path"]:List Str).length->BindsTo s fd ⟨us,[]⟩ ((["text","path"]:List Str).zip us))/\∀ base:Heap,K.In base->base.Ns mainGlobals mg->qw P w K mg base CX0 9 fa fd ["text","path"] (qgE K):=by
 have e:=hfa.symm.trans (PySem.W.mg_of X G a2x)
 cases e
 have nE:(qai.map (·.1)).Nodup:=by decide +kernel
 have nG:((Q1.map fun r=>((Sum.inr r.1:Key),V.ref (Z9 e0w r.1))).map (·.1)).Nodup:=by rw [List.map_map]; exact qiN
 have T:Tx P w K mg ⟨c1z,c08,c0U,c03,c1c,c1p,c1v,c1O,c1K,c0D,c0Q,c1E,t1J,t1t,t00,t0t,t0w,Z9 e0w⟩:=⟨⟨pg1z,hd1z,po1z,sa1z⟩,n1C,n1D,n1A,⟨pg08,hd08,po08,sa08⟩,n0q,n0p,n0r,n0n,n0k,n0i,⟨pg0U,hd0U,po0U,sa0U⟩,n0Y,n0Z,n0X,n0V,⟨pg03,hd03,po03,sa03⟩,n04,n06,n07,⟨pg1c,hd1c,po1c,sa1c⟩,n1n,n1e,n1k,n1o,n1g,n1f,⟨x1p,sa1p,ga1p,gh1p⟩,n1r,n1s,ZU u1p,⟨x1v,sa1v,ga1v,gh1v⟩,n1x,n1y,ZU u1v,⟨x1O,sa1O,ga1O,gh1O⟩,n1Q,n1R,ZU u1O,⟨x1K,sa1K,ga1K,gh1K⟩,n1M,n1N,ZU u1K,⟨x0D,sa0D,ga0D,gh0D⟩,n0F,n0G,ZU u0D,⟨x0Q,sa0Q,ga0Q,gh0Q⟩,n0S,n0T,ZU u0Q,⟨x1E,sa1E,ga1E,gh1E⟩,n1G,n1H,ZU u1E,zF X G g1u,zF X G g0C,zF X G g1a,zF X G g02,zF X G g18,zF X G g0x,zF X G g0s,zF X G g0H,zF X G g1S,zF X G g01,zF X G g1I,zF X G g0B,zF X G g1b,zF X G g0L,zF X G g0J,zF X G g0O,zF X G g0N,zF X G g0K,zF X G g0I,QF X G g1J,Z8 h1J,QF X G g1t,Z8 h1t,QF X G g00,Z8 h00,QF X G g0t,qba h0t s0t p0t nE,QF X G g0w,qba h0w s0w p0w nG,fun r hr=>Z8 (List.all_eq_true.mp q0w r hr),PySem.W.mg_none_of X G g2s,PySem.W.mg_none_of X G g2w,PySem.W.mg_none_of X G g2u,PySem.W.mg_none_of X G g2G⟩
 have F1q:=qt (st:=jP) l1q b1q k1q
 have B1q:=F1q.binds (ps:=["self","number","place"]) fun _ _ _ _ _ _ us hl=>match us,hl with | [_,_,_],_=>rfl
 have F1w:=qt (st:=jc) l1w b1w k1w
 have B1w:=F1w.binds (ps:=["self"]) fun _ _ _ _ _ _ us hl=>match us,hl with | [_],_=>rfl
 have F1P:=qt (st:=jm) l1P b1P k1P
 have B1P:=F1P.binds (ps:=["self","place"]) fun _ _ _ _ _ _ us hl=>match us,hl with | [_,_],_=>rfl
 have F1L:=qt (st:=jd) l1L b1L k1L
 have B1L:=F1L.binds (ps:=["self","place"]) fun _ _ _ _ _ _ us hl=>match us,hl with | [_,_],_=>rfl
 have F0E:=qt (st:=zY) l0E b0E k0E
 have B0E:=F0E.binds (ps:=["self","place"]) fun _ _ _ _ _ _ us hl=>match us,hl with | [_,_],_=>rfl
 have F0R:=qt (st:=jx) l0R b0R k0R
 have B0R:=F0R.binds (ps:=["self","place"]) fun _ _ _ _ _ _ us hl=>match us,hl with | [_,_],_=>rfl
 have F1F:=qt (st:=je) l1F b1F k1F
 have B1F:=F1F.binds (ps:=["self"]) fun _ _ _ _ _ _ us hl=>match us,hl with | [_],_=>rfl
 have F11:=qt (st:=jf) l11 b11 k11
 have B11:=F11.binds (ps:=["self"]) fun _ _ _ _ _ _ us hl=>match us,hl with | [_],_=>rfl
 have F15:=qt (st:=zZ) l15 b15 k15
 have B15:=F15.binds (ps:=["self"]) fun _ _ _ _ _ _ us hl=>match us,hl with | [_],_=>rfl
 have F0W:=qt (st:=Qw) l0W b0W k0W
 have B0W:=F0W.binds (ps:=["self","kind","labels","kids"]) fun _ _ _ _ _ _ us hl=>match us,hl with | [_,_,_,_],_=>rfl
 have F2D:=qt (st:=jX) l2D b2D k2D
 have B2D:=F2D.binds (ps:=["tree"]) fun _ _ _ _ _ _ us hl=>match us,hl with | [_],_=>rfl
 have F1Z:=qt (st:=Z2) l1Z b1Z k1Z
 have B1Z:=F1Z.binds (ps:=["tree","path"]) fun _ _ _ _ _ _ us hl=>match us,hl with | [_,_],_=>rfl
 have F2y:=qt (st:=Zw) l2y b2y k2y
 have B2y:=F2y.binds (ps:=["tree","path"]) fun _ _ _ _ _ _ us hl=>match us,hl with | [_,_],_=>rfl
 have F1U:=qt (st:=Q3) l1U b1U k1U
 have B1U:=F1U.binds (ps:=["written"]) fun _ _ _ _ _ _ us hl=>match us,hl with | [_],_=>rfl
 have F1T:=qt (st:=qdV) l1T b1T k1T
 have B1T:=F1T.binds (ps:=["kid","rank"]) fun _ _ _ _ _ _ us hl=>match us,hl with | [_,_],_=>rfl
 have F2B:=qt (st:=jY) l2B b2B k2B
 have B2B:=F2B.binds (ps:=["groups","mark"]) fun _ _ _ _ _ _ us hl=>match us,hl with | [_,_],_=>rfl
 have F2c:=qt (st:=Qx) l2c b2c k2c
 have B2c:=F2c.binds (ps:=["node"]) fun _ _ _ _ _ _ us hl=>match us,hl with | [_],_=>rfl
 have F2r:=qt (st:=Zx) l2r b2r k2r
 have B2r:=F2r.binds (ps:=["node"]) fun _ _ _ _ _ _ us hl=>match us,hl with | [_],_=>rfl
 have F2h:=qt (st:=Z3) l2h b2h k2h
 have B2h:=F2h.binds (ps:=["node"]) fun _ _ _ _ _ _ us hl=>match us,hl with | [_],_=>rfl
 have F2i:=qt (st:=Q4) l2i b2i k2i
 have B2i:=F2i.binds (ps:=["node"]) fun _ _ _ _ _ _ us hl=>match us,hl with | [_],_=>rfl
 have F2n:=qt (st:=Qy) l2n b2n k2n
 have B2n:=F2n.binds (ps:=["node"]) fun _ _ _ _ _ _ us hl=>match us,hl with | [_],_=>rfl
 have F2q:=qt (st:=Q5) l2q b2q k2q
 have B2q:=F2q.binds (ps:=["node"]) fun _ _ _ _ _ _ us hl=>match us,hl with | [_],_=>rfl
 have F2e:=qt (st:=Q6) l2e b2e k2e
 have B2e:=F2e.binds (ps:=["node"]) fun _ _ _ _ _ _ us hl=>match us,hl with | [_],_=>rfl
 have F26:=qt (st:=Qz) l26 b26 k26
 have B26:=F26.binds (ps:=["node"]) fun _ _ _ _ _ _ us hl=>match us,hl with | [_],_=>rfl
 have F2o:=qt (st:=Qh) l2o b2o k2o
 have B2o:=F2o.binds (ps:=["node"]) fun _ _ _ _ _ _ us hl=>match us,hl with | [_],_=>rfl
 have F2p:=qt (st:=QA) l2p b2p k2p
 have B2p:=F2p.binds (ps:=["node"]) fun _ _ _ _ _ _ us hl=>match us,hl with | [_],_=>rfl
 have F29:=qt (st:=Zy) l29 b29 k29
 have B29:=F29.binds (ps:=["node"]) fun _ _ _ _ _ _ us hl=>match us,hl with | [_],_=>rfl
 have F25:=qt (st:=Zz) l25 b25 k25
 have B25:=F25.binds (ps:=["node"]) fun _ _ _ _ _ _ us hl=>match us,hl with | [_],_=>rfl
 have F2g:=qt (st:=ZA) l2g b2g k2g
 have B2g:=F2g.binds (ps:=["node"]) fun _ _ _ _ _ _ us hl=>match us,hl with | [_],_=>rfl
 have F2j:=qt (st:=ZB) l2j b2j k2j
 have B2j:=F2j.binds (ps:=["node"]) fun _ _ _ _ _ _ us hl=>match us,hl with | [_],_=>rfl
 have F2a:=qt (st:=ZC) l2a b2a k2a
 have B2a:=F2a.binds (ps:=["node"]) fun _ _ _ _ _ _ us hl=>match us,hl with | [_],_=>rfl
 have F28:=qt (st:=Z4) l28 b28 k28
 have B28:=F28.binds (ps:=["node"]) fun _ _ _ _ _ _ us hl=>match us,hl with | [_],_=>rfl
 have F27:=qt (st:=Qi) l27 b27 k27
 have B27:=F27.binds (ps:=["node"]) fun _ _ _ _ _ _ us hl=>match us,hl with | [_],_=>rfl
 have F2m:=qt (st:=QB) l2m b2m k2m
 have B2m:=F2m.binds (ps:=["node"]) fun _ _ _ _ _ _ us hl=>match us,hl with | [_],_=>rfl
 have F2d:=qt (st:=ZD) l2d b2d k2d
 have B2d:=F2d.binds (ps:=["node"]) fun _ _ _ _ _ _ us hl=>match us,hl with | [_],_=>rfl
 have F2b:=qt (st:=Z5) l2b b2b k2b
 have B2b:=F2b.binds (ps:=["node"]) fun _ _ _ _ _ _ us hl=>match us,hl with | [_],_=>rfl
 have F2f:=qt (st:=Q7) l2f b2f k2f
 have B2f:=F2f.binds (ps:=["node"]) fun _ _ _ _ _ _ us hl=>match us,hl with | [_],_=>rfl
 have F2k:=qt (st:=jQ) l2k b2k k2k
 have B2k:=F2k.binds (ps:=["node"]) fun _ _ _ _ _ _ us hl=>match us,hl with | [_],_=>rfl
 have F2l:=qt (st:=ZE) l2l b2l k2l
 have B2l:=F2l.binds (ps:=["node"]) fun _ _ _ _ _ _ us hl=>match us,hl with | [_],_=>rfl
 have F2A:=qt (st:=jZ) l2A b2A k2A
 have B2A:=F2A.binds (ps:=["tree"]) fun _ _ _ _ _ _ us hl=>match us,hl with | [_],_=>rfl
 have F2z:=qt (st:=j4) l2z b2z k2z
 have B2z:=F2z.binds (ps:=["tree"]) fun _ _ _ _ _ _ us hl=>match us,hl with | [_],_=>rfl
 have F1B:=qt (st:=Qj) l1B b1B k1B
 have B1B:=F1B.binds (ps:=["self","kind","place","held"]) fun _ _ _ _ _ _ us hl=>match us,hl with | [_,_,_,_],_=>rfl
 have F22:=qt (st:=QC) l22 b22 k22
 have B22:=F22.binds (ps:=["byte"]) fun _ _ _ _ _ _ us hl=>match us,hl with | [_],_=>rfl
 have F20:=qt (st:=Q8) l20 b20 k20
 have B20:=F20.binds (ps:=["byte"]) fun _ _ _ _ _ _ us hl=>match us,hl with | [_],_=>rfl
 have F21:=qt (st:=Qk) l21 b21 k21
 have B21:=F21.binds (ps:=["byte"]) fun _ _ _ _ _ _ us hl=>match us,hl with | [_],_=>rfl
 have F24:=qt (st:=jR) l24 b24 k24
 have B24:=F24.binds (ps:=["held"]) fun _ _ _ _ _ _ us hl=>match us,hl with | [_],_=>rfl
 have F0l:=qt (st:=j6) l0l b0l k0l
 have B0l:=F0l.binds (ps:=["self","text"]) fun _ _ _ _ _ _ us hl=>match us,hl with | [_,_],_=>rfl
 have F0a:=qt (st:=jy) l0a b0a k0a
 have B0a:=F0a.binds (ps:=["self","place"]) fun _ _ _ _ _ _ us hl=>match us,hl with | [_,_],_=>rfl
 have F09:=qt (st:=jg) l09 b09 k09
 have B09:=F09.binds (ps:=["self","kind","length","held"]) fun _ _ _ _ _ _ us hl=>match us,hl with | [_,_,_,_],_=>rfl
 have F0e:=qt (st:=zQ) l0e b0e k0e
 have B0e:=F0e.binds (ps:=["self"]) fun _ _ _ _ _ _ us hl=>match us,hl with | [_],_=>rfl
 have F0o:=qt (st:=zJ) l0o b0o k0o
 have B0o:=F0o.binds (ps:=["self"]) fun _ _ _ _ _ _ us hl=>match us,hl with | [_],_=>rfl
 have F0c:=qt (st:=jn) l0c b0c k0c
 have B0c:=F0c.binds (ps:=["self"]) fun _ _ _ _ _ _ us hl=>match us,hl with | [_],_=>rfl
 have F0d:=qt (st:=z5) l0d b0d k0d
 have B0d:=F0d.binds (ps:=["self"]) fun _ _ _ _ _ _ us hl=>match us,hl with | [_],_=>rfl
 have F0g:=qt (st:=zu) l0g b0g k0g
 have B0g:=F0g.binds (ps:=["self"]) fun _ _ _ _ _ _ us hl=>match us,hl with | [_],_=>rfl
 have F0h:=qt (st:=jo) l0h b0h k0h
 have B0h:=F0h.binds (ps:=["self"]) fun _ _ _ _ _ _ us hl=>match us,hl with | [_],_=>rfl
 have F0b:=qt (st:=zR) l0b b0b k0b
 have B0b:=F0b.binds (ps:=["self"]) fun _ _ _ _ _ _ us hl=>match us,hl with | [_],_=>rfl
 have F0f:=qt (st:=jh) l0f b0f k0f
 have B0f:=F0f.binds (ps:=["self"]) fun _ _ _ _ _ _ us hl=>match us,hl with | [_],_=>rfl
 have F0m:=qt (st:=zE) l0m b0m k0m
 have B0m:=F0m.binds (ps:=["self"]) fun _ _ _ _ _ _ us hl=>match us,hl with | [_],_=>rfl
 have F0j:=qt (st:=zS) l0j b0j k0j
 have B0j:=F0j.binds (ps:=["self"]) fun _ _ _ _ _ _ us hl=>match us,hl with | [_],_=>rfl
 have F1W:=qt (st:=qcm) l1W b1W k1W
 have B1W:=F1W.binds (ps:=["text"]) fun _ _ _ _ _ _ us hl=>match us,hl with | [_],_=>rfl
 have F05:=qt (st:=Ql) l05 b05 k05
 have B05:=F05.binds (ps:=["self","first"]) fun _ _ _ _ _ _ us hl=>match us,hl with | [_,_],_=>rfl
 have F1Y:=qt (st:=qat) l1Y b1Y k1Y
 have B1Y:=F1Y.binds (ps:=["first","kind"]) fun _ _ _ _ _ _ us hl=>match us,hl with | [_,_],_=>rfl
 have F1V:=qt (st:=Z6) l1V b1V k1V
 have B1V:=F1V.binds (ps:=["part","kind"]) fun _ _ _ _ _ _ us hl=>match us,hl with | [_,_],_=>rfl
 have F2v:=qt (st:=QD) l2v b2v k2v
 have B2v:=F2v.binds (ps:=["names","token"]) fun _ _ _ _ _ _ us hl=>match us,hl with | [_,_],_=>rfl
 have F1j:=qt (st:=j7) l1j b1j k1j
 have B1j:=F1j.binds (ps:=["self","tokens"]) fun _ _ _ _ _ _ us hl=>match us,hl with | [_,_],_=>rfl
 have F1m:=qt (st:=j8) l1m b1m k1m
 have B1m:=F1m.binds (ps:=["self"]) fun _ _ _ _ _ _ us hl=>match us,hl with | [_],_=>rfl
 have F1l:=qt (st:=z6) l1l b1l k1l
 have B1l:=F1l.binds (ps:=["self","kind"]) fun _ _ _ _ _ _ us hl=>match us,hl with | [_,_],_=>rfl
 have F1d:=qt (st:=Qm) l1d b1d k1d
 have B1d:=F1d.binds (ps:=["self","action"]) fun _ _ _ _ _ _ us hl=>match us,hl with | [_,_],_=>rfl
 have F1i:=qt (st:=zT) l1i b1i k1i
 have B1i:=F1i.binds (ps:=["self"]) fun _ _ _ _ _ _ us hl=>match us,hl with | [_],_=>rfl
 have F1h:=qt (st:=jp) l1h b1h k1h
 have B1h:=F1h.binds (ps:=["self","kind"]) fun _ _ _ _ _ _ us hl=>match us,hl with | [_,_],_=>rfl
 have F2C:=qt (st:=qau) l2C b2C k2C
 have B2C:=F2C.binds (ps:=["text"]) fun _ _ _ _ _ _ us hl=>match us,hl with | [_],_=>rfl
 have F2x:=qt (st:=ZQ) l2x b2x k2x
 have B2x:=F2x.binds (ps:=["text","path"]) fun _ _ _ _ _ _ us hl=>match us,hl with | [_,_],_=>rfl
 refine ⟨PySem.W.fnOf "part" "part" (ql ZQ) (qk ZQ) (qe ZQ) .none v2x d2x p2x y2x e2x t2x,fun s us hu=>match us,hu with | [_,_],_=>.of_eq rfl,fun base _ _=>?_⟩
 have O1q:=qdr (P:=P) (w:=w) (mg:=mg) (base:=base) F1q
 have GR:ClsAt P w K mg base 1 c1p "Refusal" "__init__" ["self","number","place"] (Jf K):=⟨f1q,_,PySem.W.mg_of X G a1p,⟨cg,cr,cf,k1q⟩,O1q,B1q⟩
 have O1w:=qbr (P:=P) (w:=w) (mg:=mg) (base:=base) F1w T GR
 have O1P:=qbU (P:=P) (w:=w) (mg:=mg) (base:=base) F1P T GR
 have O1L:=qbt (P:=P) (w:=w) (mg:=mg) (base:=base) F1L T GR
 have O0E:=qa4 (P:=P) (w:=w) (mg:=mg) (base:=base) F0E T GR
 have O0R:=qcv (P:=P) (w:=w) (mg:=mg) (base:=base) F0R T GR
 have O1F:=qbv (P:=P) (w:=w) (mg:=mg) (base:=base) F1F T GR
 have O22:=qf3 (P:=P) (w:=w) (mg:=mg) (base:=base) F22
 have O20:=qgW (P:=P) (w:=w) (mg:=mg) (base:=base) F20
 have O21:=qe5 (P:=P) (w:=w) (mg:=mg) (base:=base) F21 T ⟨f22,_,PySem.W.mg_of X G a22,O22,k22,B22⟩ ⟨f20,_,PySem.W.mg_of X G a20,O20,k20,B20⟩
 have O1U:=qgX (P:=P) (w:=w) (mg:=mg) (base:=base) F1U T
 have O24:=qds (P:=P) (w:=w) (mg:=mg) (base:=base) F24 T ⟨f1U,_,PySem.W.mg_of X G a1U,O1U,k1U,B1U⟩
 have O1B:=qe7 (P:=P) (w:=w) (mg:=mg) (base:=base) F1B T
 have O0l:=qd1 (P:=P) (w:=w) (mg:=mg) (base:=base) F0l T
 have O0a:=qii (P:=P) (w:=w) (mg:=mg) (base:=base) F0a T
 have O09:=qf5 (P:=P) (w:=w) (mg:=mg) (base:=base) F09 T ⟨f1B,_,PySem.W.mg_of X G a1z,⟨mk1z,a1B,i1B,kc1z⟩,O1B,B1B⟩
 have O0o:=qdu (P:=P) (w:=w) (mg:=mg) (base:=base) F0o T ⟨f0a,_,⟨a0a,i0a,k0a⟩,O0a,B0a⟩
 have O0c:=qgY (P:=P) (w:=w) (mg:=mg) (base:=base) F0c T ⟨f0a,_,⟨a0a,i0a,k0a⟩,O0a,B0a⟩ ⟨f21,_,PySem.W.mg_of X G a21,O21,k21,B21⟩ ⟨f24,_,PySem.W.mg_of X G a24,O24,k24,B24⟩ ⟨f09,_,⟨a09,i09,k09⟩,O09,B09⟩ ⟨f1P,_,PySem.W.mg_of X G a1O,⟨T.x_WrongToken,a1P,i1P,kc1O⟩,O1P,B1P⟩
 have O0d:=qe8 (P:=P) (w:=w) (mg:=mg) (base:=base) F0d T ⟨f0a,_,⟨a0a,i0a,k0a⟩,O0a,B0a⟩ ⟨f20,_,PySem.W.mg_of X G a20,O20,k20,B20⟩ ⟨f09,_,⟨a09,i09,k09⟩,O09,B09⟩ ⟨f1P,_,PySem.W.mg_of X G a1O,⟨T.x_WrongToken,a1P,i1P,kc1O⟩,O1P,B1P⟩
 have O0g:=qbY (P:=P) (w:=w) (mg:=mg) (base:=base) F0g T ⟨f09,_,⟨a09,i09,k09⟩,O09,B09⟩
 have O0h:=qg1 (P:=P) (w:=w) (mg:=mg) (base:=base) F0h T ⟨f1U,_,PySem.W.mg_of X G a1U,O1U,k1U,B1U⟩ ⟨f09,_,⟨a09,i09,k09⟩,O09,B09⟩ ⟨f1P,_,PySem.W.mg_of X G a1O,⟨T.x_WrongToken,a1P,i1P,kc1O⟩,O1P,B1P⟩
 have O0m:=qcY (P:=P) (w:=w) (mg:=mg) (base:=base) F0m T ⟨f0a,_,⟨a0a,i0a,k0a⟩,O0a,B0a⟩
 have O0j:=qdX (P:=P) (w:=w) (mg:=mg) (base:=base) F0j T ⟨f0a,_,⟨a0a,i0a,k0a⟩,O0a,B0a⟩ ⟨f1P,_,PySem.W.mg_of X G a1O,⟨T.x_WrongToken,a1P,i1P,kc1O⟩,O1P,B1P⟩
 have O0f:=qga (P:=P) (w:=w) (mg:=mg) (base:=base) F0f T ⟨f0m,_,⟨a0m,i0m,k0m⟩,O0m,B0m⟩ ⟨f0j,_,⟨a0j,i0j,k0j⟩,O0j,B0j⟩ ⟨f1B,_,PySem.W.mg_of X G a1z,⟨mk1z,a1B,i1B,kc1z⟩,O1B,B1B⟩
 have O0b:=qdY (P:=P) (w:=w) (mg:=mg) (base:=base) F0b T ⟨f0a,_,⟨a0a,i0a,k0a⟩,O0a,B0a⟩ ⟨f0f,_,⟨a0f,i0f,k0f⟩,O0f,B0f⟩ ⟨f09,_,⟨a09,i09,k09⟩,O09,B09⟩ ⟨f1P,_,PySem.W.mg_of X G a1O,⟨T.x_WrongToken,a1P,i1P,kc1O⟩,O1P,B1P⟩
 have O0e:=qdZ (P:=P) (w:=w) (mg:=mg) (base:=base) F0e T ⟨f0a,_,⟨a0a,i0a,k0a⟩,O0a,B0a⟩ ⟨f09,_,⟨a09,i09,k09⟩,O09,B09⟩ ⟨f22,_,PySem.W.mg_of X G a22,O22,k22,B22⟩ ⟨f20,_,PySem.W.mg_of X G a20,O20,k20,B20⟩ ⟨f0o,_,⟨a0o,i0o,k0o⟩,O0o,B0o⟩ ⟨f0c,_,⟨a0c,i0c,k0c⟩,O0c,B0c⟩ ⟨f0d,_,⟨a0d,i0d,k0d⟩,O0d,B0d⟩ ⟨f0g,_,⟨a0g,i0g,k0g⟩,O0g,B0g⟩ ⟨f0h,_,⟨a0h,i0h,k0h⟩,O0h,B0h⟩
 have O1W:=qns (P:=P) (w:=w) (mg:=mg) (base:=base) F1W T ⟨f0l,_,PySem.W.mg_of X G a08,⟨mk08,a0l,i0l,kc08⟩,O0l,B0l⟩ ⟨f0b,_,⟨a0b,i0b,k0b⟩,O0b,B0b⟩ ⟨f0e,_,⟨a0e,i0e,k0e⟩,O0e,B0e⟩
 have O1Y:=qmw (P:=P) (w:=w) (mg:=mg) (base:=base) F1Y T
 have O1V:=qjQ (P:=P) (w:=w) (mg:=mg) (base:=base) F1V T ⟨f1Y,_,PySem.W.mg_of X G a1Y,O1Y,k1Y,B1Y⟩
 have O2v:=qgh (P:=P) (w:=w) (mg:=mg) (base:=base) F2v T ⟨f0R,_,PySem.W.mg_of X G a0Q,⟨T.x_NameTwice,a0R,i0R,kc0Q⟩,O0R,B0R⟩
 have O0W:=qgg (P:=P) (w:=w) (mg:=mg) (base:=base) F0W T
 have O05:=qfa (P:=P) (w:=w) (mg:=mg) (base:=base) F05 T
 have O1j:=qd9 (P:=P) (w:=w) (mg:=mg) (base:=base) F1j T
 have O1l:=qfb (P:=P) (w:=w) (mg:=mg) (base:=base) F1l T ⟨f1L,_,PySem.W.mg_of X G a1K,⟨T.x_WrongSyntax,a1L,i1L,kc1K⟩,O1L,B1L⟩
 have O1i:=qd6 (P:=P) (w:=w) (mg:=mg) (base:=base) F1i T ⟨f0E,_,PySem.W.mg_of X G a0D,⟨T.x_LevelTooDeep,a0E,i0E,kc0D⟩,O0E,B0E⟩
 have O1h:=qg3 (P:=P) (w:=w) (mg:=mg) (base:=base) F1h T ⟨f0W,_,PySem.W.mg_of X G a0U,⟨mk0U,a0W,i0W,kc0U⟩,O0W,B0W⟩
 have O1d:=qnw (P:=P) (w:=w) (mg:=mg) (base:=base) F1d T ⟨f05,_,PySem.W.mg_of X G a03,⟨mk03,a05,i05,kc03⟩,O05,B05⟩ ⟨f2v,_,PySem.W.mg_of X G a2v,O2v,k2v,B2v⟩ ⟨f1i,_,⟨a1i,i1i,k1i⟩,O1i,B1i⟩ ⟨f1h,_,⟨a1h,i1h,k1h⟩,O1h,B1h⟩
 have O1m:=qmy (P:=P) (w:=w) (mg:=mg) (base:=base) F1m T ⟨f1V,_,PySem.W.mg_of X G a1V,O1V,k1V,B1V⟩ ⟨f1d,_,⟨a1d,i1d,k1d⟩,O1d,B1d⟩ ⟨f1l,_,⟨a1l,i1l,k1l⟩,O1l,B1l⟩
 have O2D:=qeb (P:=P) (w:=w) (mg:=mg) (base:=base) F2D T ⟨f1F,_,PySem.W.mg_of X G a1E,⟨T.x_TreeTooDeep,a1F,i1F,kc1E⟩,O1F,B1F⟩
 have O2C:=qmA (P:=P) (w:=w) (mg:=mg) (base:=base) F2C T ⟨f1w,_,PySem.W.mg_of X G a1v,⟨T.x_TextTooLong,a1w,i1w,kc1v⟩,O1w,B1w⟩ ⟨f1W,_,PySem.W.mg_of X G a1W,O1W,k1W,B1W⟩ ⟨f1j,_,PySem.W.mg_of X G a1c,⟨mk1c,a1j,i1j,kc1c⟩,O1j,B1j⟩ ⟨f1m,_,⟨a1m,i1m,k1m⟩,O1m,B1m⟩ ⟨f2D,_,PySem.W.mg_of X G a2D,O2D,k2D,B2D⟩
 have Q14:Xc K c14 c1p:=⟨⟨x14,sa14,ga14,gh14⟩,n16,n17,ZU u14⟩
 have Q10:Xc K c10 c1p:=⟨⟨x10,sa10,ga10,gh10⟩,n12,n13,ZU u10⟩
 have nR:(Jj.map (·.1)).Nodup:=by decide +kernel
 have nL:((qeg ⟨f2n,f2c,f2r,f2h,f2i,f2q,f2e,f2o,f2p,f29,f25,f2g,f2j,f2a,f28,f27,f2m,f2d,f2b,f2f,f2k⟩).map (·.1)).Nodup:=by rw [qlp]; decide +kernel
 have R:Tp P w K mg ⟨t19,t0u,t0v⟩:=⟨QF X G g19,qba h19 s19 p19 nR,zF X G g0y,QF X G g0u,Z8 h0u,QF X G g0v,Z8 h0v,PySem.W.mg_none_of X G g1X,PySem.W.mg_none_of X G g2H,PySem.W.mg_none_of X G g23,PySem.W.mg_none_of X G g2F⟩
 have O1T:=qn5 (P:=P) (w:=w) (mg:=mg) (base:=base) F1T T R
 have O2B:=qef (P:=P) (w:=w) (mg:=mg) (base:=base) (a:=⟨c1z,c08,c0U,c03,c1c,c1p,c1v,c1O,c1K,c0D,c0Q,c1E,t1J,t1t,t00,t0t,t0w,Z9 e0w⟩) F2B R
 have O2c:=qgu (P:=P) (w:=w) (mg:=mg) (base:=base) F2c T
 have O2r:=qiw (P:=P) (w:=w) (mg:=mg) (base:=base) (a:=⟨c1z,c08,c0U,c03,c1c,c1p,c1v,c1O,c1K,c0D,c0Q,c1E,t1J,t1t,t00,t0t,t0w,Z9 e0w⟩) F2r
 have O2h:=qj8 (P:=P) (w:=w) (mg:=mg) (base:=base) (a:=⟨c1z,c08,c0U,c03,c1c,c1p,c1v,c1O,c1K,c0D,c0Q,c1E,t1J,t1t,t00,t0t,t0w,Z9 e0w⟩) F2h
 have O2i:=qg6 (P:=P) (w:=w) (mg:=mg) (base:=base) (a:=⟨c1z,c08,c0U,c03,c1c,c1p,c1v,c1O,c1K,c0D,c0Q,c1E,t1J,t1t,t00,t0t,t0w,Z9 e0w⟩) F2i
 have O2n:=qgA (P:=P) (w:=w) (mg:=mg) (base:=base) F2n T ⟨f1U,_,PySem.W.mg_of X G a1U,O1U,k1U,B1U⟩
 have O2q:=qha (P:=P) (w:=w) (mg:=mg) (base:=base) F2q T
 have O2e:=qg9 (P:=P) (w:=w) (mg:=mg) (base:=base) F2e T ⟨f2B,_,PySem.W.mg_of X G a2B,O2B,k2B,B2B⟩
 have O26:=qgv (P:=P) (w:=w) (mg:=mg) (base:=base) F26 T R ⟨f2B,_,PySem.W.mg_of X G a2B,O2B,k2B,B2B⟩
 have O2o:=qfd (P:=P) (w:=w) (mg:=mg) (base:=base) F2o T ⟨f26,_,PySem.W.mg_of X G a26,O26,k26,B26⟩
 have O2p:=qgx (P:=P) (w:=w) (mg:=mg) (base:=base) (a:=⟨c1z,c08,c0U,c03,c1c,c1p,c1v,c1O,c1K,c0D,c0Q,c1E,t1J,t1t,t00,t0t,t0w,Z9 e0w⟩) F2p ⟨f2o,_,PySem.W.mg_of X G a2o,O2o,k2o,B2o⟩
 have O29:=qiH (P:=P) (w:=w) (mg:=mg) (base:=base) F29 T R ⟨f1T,_,PySem.W.mg_of X G a1T,O1T,k1T,B1T⟩
 have O25:=qiC (P:=P) (w:=w) (mg:=mg) (base:=base) F25 T R ⟨f1T,_,PySem.W.mg_of X G a1T,O1T,k1T,B1T⟩
 have O2g:=qiy (P:=P) (w:=w) (mg:=mg) (base:=base) F2g T R ⟨f1T,_,PySem.W.mg_of X G a1T,O1T,k1T,B1T⟩
 have O2j:=qiA (P:=P) (w:=w) (mg:=mg) (base:=base) F2j T R ⟨f1T,_,PySem.W.mg_of X G a1T,O1T,k1T,B1T⟩
 have O2a:=qiE (P:=P) (w:=w) (mg:=mg) (base:=base) F2a T R ⟨f1T,_,PySem.W.mg_of X G a1T,O1T,k1T,B1T⟩
 have O28:=qka (P:=P) (w:=w) (mg:=mg) (base:=base) F28 T
 have O27:=qfe (P:=P) (w:=w) (mg:=mg) (base:=base) F27 T ⟨f2B,_,PySem.W.mg_of X G a2B,O2B,k2B,B2B⟩
 have O2m:=qgz (P:=P) (w:=w) (mg:=mg) (base:=base) F2m T
 have O2d:=qiG (P:=P) (w:=w) (mg:=mg) (base:=base) F2d T ⟨f26,_,PySem.W.mg_of X G a26,O26,k26,B26⟩
 have O2b:=qkc (P:=P) (w:=w) (mg:=mg) (base:=base) F2b T
 have O2f:=qg8 (P:=P) (w:=w) (mg:=mg) (base:=base) F2f T
 have O2k:=qdF (P:=P) (w:=w) (mg:=mg) (base:=base) F2k T R ⟨f1T,_,PySem.W.mg_of X G a1T,O1T,k1T,B1T⟩
 have Y:qnM P w K mg base ⟨c1z,c08,c0U,c03,c1c,c1p,c1v,c1O,c1K,c0D,c0Q,c1E,t1J,t1t,t00,t0t,t0w,Z9 e0w⟩ ⟨f2n,f2c,f2r,f2h,f2i,f2q,f2e,f2o,f2p,f29,f25,f2g,f2j,f2a,f28,f27,f2m,f2d,f2b,f2f,f2k⟩:=⟨⟨_,O2n.mono (by decide),k2n,B2n⟩,⟨_,O2c.mono (by decide),k2c,B2c⟩,⟨_,O2r.mono (by decide),k2r,B2r⟩,⟨_,O2h.mono (by decide),k2h,B2h⟩,⟨_,O2i.mono (by decide),k2i,B2i⟩,⟨_,O2q.mono (by decide),k2q,B2q⟩,⟨_,O2e.mono (by decide),k2e,B2e⟩,⟨_,O2o.mono (by decide),k2o,B2o⟩,⟨_,O2p.mono (by decide),k2p,B2p⟩,⟨_,O29.mono (by decide),k29,B29⟩,⟨_,O25.mono (by decide),k25,B25⟩,⟨_,O2g.mono (by decide),k2g,B2g⟩,⟨_,O2j.mono (by decide),k2j,B2j⟩,⟨_,O2a.mono (by decide),k2a,B2a⟩,⟨_,O28.mono (by decide),k28,B28⟩,⟨_,O27.mono (by decide),k27,B27⟩,⟨_,O2m.mono (by decide),k2m,B2m⟩,⟨_,O2d.mono (by decide),k2d,B2d⟩,⟨_,O2b.mono (by decide),k2b,B2b⟩,⟨_,O2f.mono (by decide),k2f,B2f⟩,⟨_,O2k.mono (by decide),k2k,B2k⟩⟩
 have O2l:=qiK (P:=P) (w:=w) (mg:=mg) (base:=base) F2l T (QF X G g0A) (qba h0A s0A p0A nL) Y
 have O2A:=qeh (P:=P) (w:=w) (mg:=mg) (base:=base) F2A T R (PySem.W.mg_of X G a0U) ⟨i1,i2,i3,i4,i5,i6,i7,i8,i9⟩ ⟨f2l,_,PySem.W.mg_of X G a2l,O2l,k2l,B2l⟩ ⟨f1U,_,PySem.W.mg_of X G a1U,O1U,k1U,B1U⟩
 have O15:=qbh (P:=P) (w:=w) (mg:=mg) (base:=base) (a:=⟨c1z,c08,c0U,c03,c1c,c1p,c1v,c1O,c1K,c0D,c0Q,c1E,t1J,t1t,t00,t0t,t0w,Z9 e0w⟩) F15 Q14 GR
 have O2z:=qej (P:=P) (w:=w) (mg:=mg) (base:=base) F2z T Q14 (zF X G g0M) ⟨f15,_,PySem.W.mg_of X G a14,⟨Q14.x,a15,i15,kc14⟩,O15,B15⟩ ⟨f2A,_,PySem.W.mg_of X G a2A,O2A,k2A,B2A⟩
 have O11:=qbx (P:=P) (w:=w) (mg:=mg) (base:=base) (a:=⟨c1z,c08,c0U,c03,c1c,c1p,c1v,c1O,c1K,c0D,c0Q,c1E,t1J,t1t,t00,t0t,t0w,Z9 e0w⟩) F11 Q10 GR
 have O1Z:=qkj (P:=P) (w:=w) (mg:=mg) (base:=base) F1Z T Q10 (QF X G g0P) (Z8 h0P) ⟨f11,_,PySem.W.mg_of X G a10,⟨Q10.x,a11,i11,kc10⟩,O11,B11⟩
 have O2y:=qiM (P:=P) (w:=w) (mg:=mg) (base:=base) (a:=⟨c1z,c08,c0U,c03,c1c,c1p,c1v,c1O,c1K,c0D,c0Q,c1E,t1J,t1t,t00,t0t,t0w,Z9 e0w⟩) F2y ⟨f1Z,_,PySem.W.mg_of X G a1Z,O1Z,k1Z,B1Z⟩
 exact qmG (P:=P) (w:=w) (mg:=mg) (base:=base) F2x T (PySem.W.mg_of X G a1p) ⟨f2C,_,PySem.W.mg_of X G a2C,O2C,k2C,B2C⟩ ⟨f2y,_,PySem.W.mg_of X G a2y,O2y,k2y,B2y⟩ ⟨f2z,_,PySem.W.mg_of X G a2z,O2z,k2z,B2z⟩
end RT
end
def PySem.W.Fast.tw11720322050666405793:=()
def PySem.W.Fast.tw6038559943340668843:=()
def PySem.W.Fast.tw12572947449380677843:=()
def PySem.W.Fast.tw11530173327469523278:=()
def PySem.W.Fast.tw9010253644777702595:=()
def PySem.W.Fast.tw17675860365495279213:=()
def PySem.W.Fast.tw8571234922605094723:=()
def PySem.W.Fast.tw4713439162038925572:=()
def PySem.W.Fast.tw4835594858612793913:=()
def PySem.W.Fast.tw9405736518359864089:=()
def PySem.W.Fast.tw12192086702947579213:=()
def PySem.W.Fast.tw493161344897032137:=()
def PySem.W.Fast.tw13391466313492943091:=()
def PySem.W.Fast.tw8665543302416479685:=()
def PySem.W.Fast.tw13193999929364173872:=()
def PySem.W.Fast.tw4117704505913150416:=()
def PySem.W.Fast.tw6571719164350107725:=()
def PySem.W.Fast.tw8013756034833931968:=()
def PySem.W.Fast.tw3468266806285040546:=()
def PySem.W.Fast.tw11974455677628260977:=()
def PySem.W.Fast.tw10647184786489827718:=()
def PySem.W.Fast.tw5291327419072223307:=()
def PySem.W.Fast.tw3181385634539917695:=()
def PySem.W.Fast.tw7407822164451117678:=()
def PySem.W.Fast.tw12708130983884139585:=()
def PySem.W.Fast.tw15012973839321018550:=()
def PySem.W.Fast.tw16828195604736740914:=()
def PySem.W.Fast.tw17461617238942202263:=()
def PySem.W.Fast.tw715437571582753516:=()
def PySem.W.Fast.tw9096779324292872977:=()
def PySem.W.Fast.tw17340551064606677853:=()
def PySem.W.Fast.tw9955727458207385567:=()
def PySem.W.Fast.tw15811477473414940471:=()
def PySem.W.Fast.tw7192242077531357584:=()
def PySem.W.Fast.tw17428056124925384665:=()
def PySem.W.Fast.tw8617156851828259720:=()
def PySem.W.Fast.tw4913016091885880110:=()
def PySem.W.Fast.tw16947285244808866246:=()
def PySem.W.Fast.tw6125073231396552299:=()
def PySem.W.Fast.tw17575160952465580832:=()
def PySem.W.Fast.tw376915260688254943:=()
def PySem.W.Fast.tw14587805560211751638:=()
def PySem.W.Fast.tw7522986207572042702:=()
def PySem.W.Fast.tw2127606767409662516:=()
def PySem.W.Fast.tw15922154356109058245:=()
def PySem.W.Fast.tw5193219660816639216:=()
def PySem.W.Fast.tw224081537911040970:=()
def PySem.W.Fast.tw2048616734822023348:=()
def PySem.W.Fast.tw10386875137050415824:=()
def PySem.W.Fast.tw1356463512403201042:=()
def PySem.W.Fast.tw2797844766657907132:=()
def PySem.W.Fast.tw15689091138476455588:=()
def PySem.W.Fast.tw6028252467895358827:=()
def PySem.W.Fast.tw4771596866741570400:=()
def PySem.W.Fast.tw9754608994751380949:=()
def PySem.W.Fast.tw7455613126251993255:=()
def PySem.W.Fast.tw16564004089918152840:=()
def PySem.W.Fast.tw8382245965457859364:=()
def PySem.W.Fast.tw13586752602943896742:=()
def PySem.W.Fast.tw14943734283194268554:=()
def PySem.W.Fast.tw12030783286844551759:=()
def PySem.W.Fast.tw1117928859943389924:=()
def PySem.W.Fast.tw8025315201676188241:=()
def PySem.W.Fast.tw876429431800648665:=()
def PySem.W.Fast.tw14529994772971406235:=()
def PySem.W.Fast.tw17190813422812194219:=()
def PySem.W.Fast.tw4681994742967711636:=()
def PySem.W.Fast.tw11921059748635434874:=()
def PySem.W.Fast.tw835459174884102385:=()
def PySem.W.Fast.tw4813241837658139144:=()
def PySem.W.Fast.tw6412311607588423627:=()
def PySem.W.Fast.tw2141892314426228527:=()
def PySem.W.Fast.tw17557081061726911333:=()
def PySem.W.Fast.tw17405602269927419863:=()
def PySem.W.Fast.tw11412423029026951573:=()
def PySem.W.Fast.tw7071406116858660884:=()
def PySem.W.Fast.tw16859580531578313433:=()
def PySem.W.Fast.tw4193274929863649128:=()
def PySem.W.Fast.tw14694537928499212463:=()
def PySem.W.Fast.tw14198636817657705800:=()
def PySem.W.Fast.tw17325910299895491846:=()
def PySem.W.Fast.tw8180028902899713574:=()
def PySem.W.Fast.tw16096103836547775297:=()
def PySem.W.Fast.tw2100699176734474628:=()
def PySem.W.Fast.tw1959613130349229627:=()
def PySem.W.Fast.tw17964958488039998783:=()
def PySem.W.Fast.tw3640220579214177907:=()
def PySem.W.Fast.tw7143527654424749156:=()
def PySem.W.Fast.tw3230897811967291722:=()
def PySem.W.Fast.tw4165548953785322764:=()
def PySem.W.Fast.tw16592779119743995655:=()
def PySem.W.Fast.tw13946770638479003734:=()
def PySem.W.Fast.tw13614445538062936259:=()
def PySem.W.Fast.tw5828997917369740721:=()
def PySem.W.Fast.tw788345489997878223:=()
def PySem.W.Fast.tw7953757577370864372:=()
def PySem.W.Fast.tw10083497262131250160:=()
def PySem.W.Fast.tw5561136198659516032:=()
def PySem.W.Fast.tw1243509465836230081:=()
def PySem.W.Fast.tw11960527227968143460:=()
def PySem.W.Fast.tw8550722499010841474:=()
def PySem.W.Fast.tw10820757557865729691:=()
def PySem.W.Fast.tw3125075478783487581:=()
def PySem.W.Fast.tw12423778803790510285:=()
def PySem.W.Fast.tw13134837207538631774:=()
def PySem.W.Fast.tw5773421155057459801:=()
def PySem.W.Fast.tw17515795594345356495:=()
def PySem.W.Fast.tw9326317401709265104:=()
def PySem.W.Fast.tw2242948013253090269:=()
def PySem.W.Fast.tw10151366630049486279:=()
def PySem.W.Fast.tw11303161672961873583:=()
def PySem.W.Fast.tw7969631411286237559:=()
def PySem.W.Fast.tw16142252945877045176:=()
def PySem.W.Fast.tw8873835783462635034:=()
def PySem.W.Fast.tw378839048532743494:=()
def PySem.W.Fast.tw8779126312522997505:=()
def PySem.W.Fast.tw4046223122191267045:=()
def PySem.W.Fast.tw14171687339129733075:=()
def PySem.W.Fast.tw13524664790985762073:=()
def PySem.W.Fast.tw3252216030055031110:=()
def PySem.W.Fast.tw17617025957245595681:=()
def PySem.W.Fast.tw4514729678047493705:=()
def PySem.W.Fast.tw8805294301365562347:=()
def PySem.W.Fast.tw4947585642120690291:=()
def PySem.W.Fast.tw7904194482676194381:=()
def PySem.W.Fast.tw15564926145358785135:=()
def PySem.W.Fast.tw13250869623588133996:=()
def PySem.W.Fast.tw11860844564172430299:=()
def PySem.W.Fast.tw9704189861691155523:=()
def PySem.W.Fast.tw589519742395563082:=()
def PySem.W.Fast.tw1291918382518192966:=()
def PySem.W.Fast.tw3279685253256935683:=()
def PySem.W.Fast.tw914394200595857081:=()
def PySem.W.Fast.tw3372134547003347778:=()
def PySem.W.Fast.tw5104602970222704550:=()
def PySem.W.Fast.tw16411417225742988353:=()
def PySem.W.Fast.tw4136780417847479601:=()
def PySem.W.Fast.tw11994009390754382207:=()
def PySem.W.Fast.tw6790061950294306265:=()
def PySem.W.Fast.tw8877638568763933330:=()
def PySem.W.Fast.tw17047700635468963853:=()
def PySem.W.Fast.tw17380043286460407878:=()
def PySem.W.Fast.tw12212625939031759688:=()
def PySem.W.Fast.tw5702944105861592457:=()
def PySem.W.Fast.tw4404995201262392997:=()
def PySem.W.Fast.tw6435581254649741048:=()
def PySem.W.Fast.tw3459978435878812071:=()
def PySem.W.Fast.tw16810922132368181572:=()
def PySem.W.Fast.tw5950947271591775493:=()
def PySem.W.Fast.tw1718908899302238768:=()
def PySem.W.Fast.tw17182310822924166671:=()
def PySem.W.Fast.tw4840674046872122756:=()
def PySem.W.Fast.tw1322254614444692189:=()
def PySem.W.Fast.tw12371757418551818734:=()
def PySem.W.Fast.tw10368786157852668225:=()
def PySem.W.Fast.tw5973755129735230502:=()
def PySem.W.Fast.tw6051739163769931210:=()
def PySem.W.Fast.tw6312240577837849574:=()
def PySem.W.Fast.tw4863153647128827451:=()
def PySem.W.Fast.tw3637629787956817474:=()
def PySem.W.Fast.tw8130789045065849793:=()
def PySem.W.Fast.tw12414375354186823895:=()
def PySem.W.Fast.tw11541349757214916737:=()
def PySem.W.Fast.tw6376062675687407984:=()
def PySem.W.Fast.tw13938740190572227052:=()
def PySem.W.Fast.tw11292189899308648027:=()
def PySem.W.Fast.tw10137112836488724489:=()
def PySem.W.Fast.tw2228564583049148526:=()
def PySem.W.Fast.tw5853064444097924520:=()
def PySem.W.Fast.tw555681052448593705:=()
def PySem.W.Fast.tw5417926389011170092:=()
def PySem.W.Fast.tw10565964460519182278:=()
def PySem.W.Fast.tw3420588178712493174:=()
def PySem.W.Fast.tw14855026317948266802:=()
def PySem.W.Fast.tw9592037943937020112:=()
def PySem.W.Fast.tw17462494733055395894:=()
def PySem.W.Fast.tw17105607248688982983:=()
def PySem.W.Fast.tw16449805863451711082:=()
def PySem.W.Fast.tw12840795213238475558:=()
def PySem.W.Fast.tw5339356453392609363:=()
def PySem.W.Fast.tw3233090504602728432:=()
def PySem.W.Fast.tw11147597621661701591:=()
def PySem.W.Fast.tw5037466075379191156:=()
def PySem.W.Fast.tw18233787736135220419:=()
def PySem.W.Fast.tw13191504622386301706:=()
def PySem.W.Fast.tw16550563277024114821:=()
def PySem.W.Fast.tw8388400847271722398:=()
def PySem.W.Fast.tw17635905344511828332:=()
def PySem.W.Fast.tw5097375172388000062:=()
def PySem.W.Fast.tw8828550386043171688:=()
def PySem.W.Fast.tw1297841978254260795:=()
def PySem.W.Fast.tw8595146013364093514:=()
def PySem.W.Fast.tw10331988638333021676:=()
def PySem.W.Fast.tw412902866615715342:=()
def PySem.W.Fast.tw9292518703749940584:=()
def PySem.W.Fast.tw17520656925432834067:=()
def PySem.W.Fast.tw15413296172863706999:=()
def PySem.W.Fast.tw2242527327949672312:=()
def PySem.W.Fast.tw6068355801879064689:=()
def PySem.W.Fast.tw12448405260729305631:=()
def PySem.W.Fast.tw9185450149015080940:=()
def PySem.W.Fast.tw14461190456867198029:=()
def PySem.W.Fast.tw2612862481210957309:=()
def PySem.W.Fast.tw17800028159193572743:=()
def PySem.W.Fast.tw12702248813389909800:=()
def PySem.W.Fast.tw3992452409929886072:=()
def PySem.W.Fast.tw3640685492391061251:=()
def PySem.W.Fast.tw15377228373687330939:=()
def PySem.W.Fast.tw513486997737739807:=()
def PySem.W.Fast.tw9565990626733736979:=()
def PySem.W.Fast.tw1420443025236943426:=()
def PySem.W.Fast.tw16060562563860172012:=()
def PySem.W.Fast.tw1760299948198844304:=()
def PySem.W.Fast.tw3845466025425757901:=()
def PySem.W.Fast.tw7732249097443500849:=()
def PySem.W.Fast.tw2601225801721255040:=()
def PySem.W.Fast.tw1933176776360304025:=()
def PySem.W.Fast.tw9679590305573550446:=()
def PySem.W.Fast.tw14638065093125928669:=()
def PySem.W.Fast.tw11151790748285339096:=()
def PySem.W.Fast.tw1657011956572746244:=()
def PySem.W.Fast.tw2654047437741128557:=()
def PySem.W.Fast.tw14233339828810728018:=()
def PySem.W.Fast.tw2558162411402754294:=()
def PySem.W.Fast.tw2222104176788513835:=()
def PySem.W.Fast.tw1102782803672264661:=()
def PySem.W.Fast.tw10810536409365914471:=()
def PySem.W.Fast.tw819528924026691207:=()
def PySem.W.Fast.tw12318532755950656672:=()
def PySem.W.Fast.tw4038206069812176660:=()
def PySem.W.Fast.tw11330213203531782038:=()
def PySem.W.Fast.tw9787456595012141774:=()
def PySem.W.Fast.tw14547694413585325169:=()
def PySem.W.Fast.tw7940037323837074265:=()
def PySem.W.Fast.tw10730856805908848242:=()
def PySem.W.Fast.tw9014316538513266441:=()
def PySem.W.Fast.tw15810108217045364836:=()
def PySem.W.Fast.tw8233773680816606346:=()
def PySem.W.Fast.tw797120971666848511:=()
def PySem.W.Fast.tw8008590370929445811:=()
def PySem.W.Fast.tw14777378162187634306:=()
def PySem.W.Fast.tw9112351695145185351:=()
def PySem.W.Fast.tw1089506483833144229:=()
def PySem.W.Fast.tw17209190822847557307:=()
def PySem.W.Fast.tw17884750816029100538:=()
def PySem.W.Fast.tw13798896920335362211:=()
def PySem.W.Fast.tw1161589170651304489:=()
def PySem.W.Fast.tw9525979965603351849:=()
def PySem.W.Fast.tw13703035177382452458:=()
def PySem.W.Fast.tw17798282206344949031:=()
def PySem.W.Fast.tw6833566488857658601:=()
def PySem.W.Fast.tw16679938845452081911:=()
def PySem.W.Fast.tw873119161707848755:=()
def PySem.W.Fast.tw16427483106792412891:=()
def PySem.W.Fast.tw17178575691923405103:=()
def PySem.W.Fast.tw13267705254286266972:=()
def PySem.W.Fast.tw5570608167026799260:=()
def PySem.W.Fast.tw11304338547474614054:=()
def PySem.W.Fast.tw15017238231595113136:=()
def PySem.W.Fast.tw3906865910761783096:=()
def PySem.W.Fast.tw14547637522403180618:=()
open PySem PySem.W PyProof.Rows
set_option maxRecDepth 100000 in
set_option maxHeartbeats 0 in
theorem PySem.Challenge.cw_recipetexts_s05_part_holds : PySem.Challenge.rw_recipetexts_s05_part.Holds := by
 w_on; k_headS; (case hw=>exact ⟨[.list [],.list []],by decide +kernel,by decide +kernel⟩)
 k_fillS
 refine L2.qh3 (r:=PySem.Challenge.rw_recipetexts_s05_part) (k:=9) (CX:=L2.CX0) (ps:=["text","path"]) (sp:=RT.qgE) (by decide +kernel) rfl rfl ⟨rfl,by decide,by decide⟩ (fun w h Y=>PySem.W.kIn_of Y) ?F ?S (fun _ _ _ _ z=>z)
 case F=>
  intro w mg fa h Y KX G hmg
  refine' RT.qnN KX G hmg ?a1z ?a08 ?a0U ?a03 ?a1c ?a1p ?a1v ?a1O ?a1K ?a0D ?a0Q ?a1E ?a14 ?a10 ?a1q ?a1w ?a1P ?a1L ?a0E ?a0R ?a1F ?a11 ?a15 ?a0W ?a2D ?a1Z ?a2y ?a1U ?a1T ?a2B ?a2c ?a2r ?a2h ?a2i ?a2n ?a2q ?a2e ?a26 ?a2o ?a2p ?a29 ?a25 ?a2g ?a2j ?a2a ?a28 ?a27 ?a2m ?a2d ?a2b ?a2f ?a2k ?a2l ?a2A ?a2z ?a1B ?a22 ?a20 ?a21 ?a24 ?a0l ?a0a ?a09 ?a0e ?a0o ?a0c ?a0d ?a0g ?a0h ?a0b ?a0f ?a0m ?a0j ?a1W ?a05 ?a1Y ?a1V ?a2v ?a1j ?a1m ?a1l ?a1d ?a1i ?a1h ?a2C ?a2x ?l1q ?b1q ?k1q ?i1q ?l1w ?b1w ?k1w ?i1w ?l1P ?b1P ?k1P ?i1P ?l1L ?b1L ?k1L ?i1L ?l0E ?b0E ?k0E ?i0E ?l0R ?b0R ?k0R ?i0R ?l1F ?b1F ?k1F ?i1F ?l11 ?b11 ?k11 ?i11 ?l15 ?b15 ?k15 ?i15 ?l0W ?b0W ?k0W ?i0W ?l2D ?b2D ?k2D ?l1Z ?b1Z ?k1Z ?l2y ?b2y ?k2y ?l1U ?b1U ?k1U ?l1T ?b1T ?k1T ?l2B ?b2B ?k2B ?l2c ?b2c ?k2c ?l2r ?b2r ?k2r ?l2h ?b2h ?k2h ?l2i ?b2i ?k2i ?l2n ?b2n ?k2n ?l2q ?b2q ?k2q ?l2e ?b2e ?k2e ?l26 ?b26 ?k26 ?l2o ?b2o ?k2o ?l2p ?b2p ?k2p ?l29 ?b29 ?k29 ?l25 ?b25 ?k25 ?l2g ?b2g ?k2g ?l2j ?b2j ?k2j ?l2a ?b2a ?k2a ?l28 ?b28 ?k28 ?l27 ?b27 ?k27 ?l2m ?b2m ?k2m ?l2d ?b2d ?k2d ?l2b ?b2b ?k2b ?l2f ?b2f ?k2f ?l2k ?b2k ?k2k ?l2l ?b2l ?k2l ?l2A ?b2A ?k2A ?l2z ?b2z ?k2z ?l1B ?b1B ?k1B ?i1B ?l22 ?b22 ?k22 ?l20 ?b20 ?k20 ?l21 ?b21 ?k21 ?l24 ?b24 ?k24 ?l0l ?b0l ?k0l ?i0l ?l0a ?b0a ?k0a ?i0a ?l09 ?b09 ?k09 ?i09 ?l0e ?b0e ?k0e ?i0e ?l0o ?b0o ?k0o ?i0o ?l0c ?b0c ?k0c ?i0c ?l0d ?b0d ?k0d ?i0d ?l0g ?b0g ?k0g ?i0g ?l0h ?b0h ?k0h ?i0h ?l0b ?b0b ?k0b ?i0b ?l0f ?b0f ?k0f ?i0f ?l0m ?b0m ?k0m ?i0m ?l0j ?b0j ?k0j ?i0j ?l1W ?b1W ?k1W ?l05 ?b05 ?k05 ?i05 ?l1Y ?b1Y ?k1Y ?l1V ?b1V ?k1V ?l2v ?b2v ?k2v ?l1j ?b1j ?k1j ?i1j ?l1m ?b1m ?k1m ?i1m ?l1l ?b1l ?k1l ?i1l ?l1d ?b1d ?k1d ?i1d ?l1i ?b1i ?k1i ?i1i ?l1h ?b1h ?k1h ?i1h ?l2C ?b2C ?k2C ?l2x ?b2x ?k2x ?pg1z ?hd1z ?po1z ?sa1z ?mk1z ?kc1z ?n1C ?n1D ?n1A ?pg08 ?hd08 ?po08 ?sa08 ?mk08 ?kc08 ?n0q ?n0p ?n0r ?n0n ?n0k ?n0i ?pg0U ?hd0U ?po0U ?sa0U ?mk0U ?kc0U ?n0Y ?n0Z ?n0X ?n0V ?pg03 ?hd03 ?po03 ?sa03 ?mk03 ?kc03 ?n04 ?n06 ?n07 ?pg1c ?hd1c ?po1c ?sa1c ?mk1c ?kc1c ?n1n ?n1e ?n1k ?n1o ?n1g ?n1f ?x1p ?sa1p ?ga1p ?gh1p ?u1p ?kc1p ?n1r ?n1s ?x1v ?sa1v ?ga1v ?gh1v ?u1v ?kc1v ?n1x ?n1y ?x1O ?sa1O ?ga1O ?gh1O ?u1O ?kc1O ?n1Q ?n1R ?x1K ?sa1K ?ga1K ?gh1K ?u1K ?kc1K ?n1M ?n1N ?x0D ?sa0D ?ga0D ?gh0D ?u0D ?kc0D ?n0F ?n0G ?x0Q ?sa0Q ?ga0Q ?gh0Q ?u0Q ?kc0Q ?n0S ?n0T ?x1E ?sa1E ?ga1E ?gh1E ?u1E ?kc1E ?n1G ?n1H ?cg ?cr ?cf ?g1u ?g0C ?g1a ?g02 ?g18 ?g0x ?g0s ?g0H ?g1S ?g01 ?g1I ?g0B ?g1b ?g0L ?g0J ?g0O ?g0N ?g0K ?g0I ?g2s ?g2w ?g2u ?g2G ?g1J ?h1J ?g1t ?h1t ?g00 ?h00 ?g0t ?h0t ?s0t ?g0w ?h0w ?s0w ?p0t ?p0w ?q0w ?x14 ?sa14 ?ga14 ?gh14 ?u14 ?kc14 ?n16 ?n17 ?x10 ?sa10 ?ga10 ?gh10 ?u10 ?kc10 ?n12 ?n13 ?g0y ?g0M ?g0u ?h0u ?g0v ?h0v ?g0P ?h0P ?g1X ?g2H ?g23 ?g2F ?g19 ?h19 ?s19 ?g0A ?h0A ?s0A ?p19 ?p0A ?i1 ?i2 ?i3 ?i4 ?i5 ?i6 ?i7 ?i8 ?i9
  (case a1z=>k_is)
  (case a08=>k_is)
  (case a0U=>k_is)
  (case a03=>k_is)
  (case a1c=>k_is)
  (case a1p=>k_is)
  (case a1v=>k_is)
  (case a1O=>k_is)
  (case a1K=>k_is)
  (case a0D=>k_is)
  (case a0Q=>k_is)
  (case a1E=>k_is)
  (case a14=>k_is)
  (case a10=>k_is)
  (case a1q=>k_is)
  (case a1w=>k_is)
  (case a1P=>k_is)
  (case a1L=>k_is)
  (case a0E=>k_is)
  (case a0R=>k_is)
  (case a1F=>k_is)
  (case a11=>k_is)
  (case a15=>k_is)
  (case a0W=>k_is)
  (case a2D=>k_is)
  (case a1Z=>k_is)
  (case a2y=>k_is)
  (case a1U=>k_is)
  (case a1T=>k_is)
  (case a2B=>k_is)
  (case a2c=>k_is)
  (case a2r=>k_is)
  (case a2h=>k_is)
  (case a2i=>k_is)
  (case a2n=>k_is)
  (case a2q=>k_is)
  (case a2e=>k_is)
  (case a26=>k_is)
  (case a2o=>k_is)
  (case a2p=>k_is)
  (case a29=>k_is)
  (case a25=>k_is)
  (case a2g=>k_is)
  (case a2j=>k_is)
  (case a2a=>k_is)
  (case a28=>k_is)
  (case a27=>k_is)
  (case a2m=>k_is)
  (case a2d=>k_is)
  (case a2b=>k_is)
  (case a2f=>k_is)
  (case a2k=>k_is)
  (case a2l=>k_is)
  (case a2A=>k_is)
  (case a2z=>k_is)
  (case a1B=>k_is)
  (case a22=>k_is)
  (case a20=>k_is)
  (case a21=>k_is)
  (case a24=>k_is)
  (case a0l=>k_is)
  (case a0a=>k_is)
  (case a09=>k_is)
  (case a0e=>k_is)
  (case a0o=>k_is)
  (case a0c=>k_is)
  (case a0d=>k_is)
  (case a0g=>k_is)
  (case a0h=>k_is)
  (case a0b=>k_is)
  (case a0f=>k_is)
  (case a0m=>k_is)
  (case a0j=>k_is)
  (case a1W=>k_is)
  (case a05=>k_is)
  (case a1Y=>k_is)
  (case a1V=>k_is)
  (case a2v=>k_is)
  (case a1j=>k_is)
  (case a1m=>k_is)
  (case a1l=>k_is)
  (case a1d=>k_is)
  (case a1i=>k_is)
  (case a1h=>k_is)
  (case a2C=>k_is)
  (case a2x=>k_is)
  (case l1q=>k_is)
  (case b1q=>k_is)
  (case k1q=>k_is)
  (case i1q=>k_is)
  (case l1w=>k_is)
  (case b1w=>k_is)
  (case k1w=>k_is)
  (case i1w=>k_is)
  (case l1P=>k_is)
  (case b1P=>k_is)
  (case k1P=>k_is)
  (case i1P=>k_is)
  (case l1L=>k_is)
  (case b1L=>k_is)
  (case k1L=>k_is)
  (case i1L=>k_is)
  (case l0E=>k_is)
  (case b0E=>k_is)
  (case k0E=>k_is)
  (case i0E=>k_is)
  (case l0R=>k_is)
  (case b0R=>k_is)
  (case k0R=>k_is)
  (case i0R=>k_is)
  (case l1F=>k_is)
  (case b1F=>k_is)
  (case k1F=>k_is)
  (case i1F=>k_is)
  (case l11=>k_is)
  (case b11=>k_is)
  (case k11=>k_is)
  (case i11=>k_is)
  (case l15=>k_is)
  (case b15=>k_is)
  (case k15=>k_is)
  (case i15=>k_is)
  (case l0W=>k_is)
  (case b0W=>k_is)
  (case k0W=>k_is)
  (case i0W=>k_is)
  (case l2D=>k_is)
  (case b2D=>k_is)
  (case k2D=>k_is)
  (case l1Z=>k_is)
  (case b1Z=>k_is)
  (case k1Z=>k_is)
  (case l2y=>k_is)
  (case b2y=>k_is)
  (case k2y=>k_is)
  (case l1U=>k_is)
  (case b1U=>k_is)
  (case k1U=>k_is)
  (case l1T=>k_is)
  (case b1T=>k_is)
  (case k1T=>k_is)
  (case l2B=>k_is)
  (case b2B=>k_is)
  (case k2B=>k_is)
  (case l2c=>k_is)
  (case b2c=>k_is)
  (case k2c=>k_is)
  (case l2r=>k_is)
  (case b2r=>k_is)
  (case k2r=>k_is)
  (case l2h=>k_is)
  (case b2h=>k_is)
  (case k2h=>k_is)
  (case l2i=>k_is)
  (case b2i=>k_is)
  (case k2i=>k_is)
  (case l2n=>k_is)
  (case b2n=>k_is)
  (case k2n=>k_is)
  (case l2q=>k_is)
  (case b2q=>k_is)
  (case k2q=>k_is)
  (case l2e=>k_is)
  (case b2e=>k_is)
  (case k2e=>k_is)
  (case l26=>k_is)
  (case b26=>k_is)
  (case k26=>k_is)
  (case l2o=>k_is)
  (case b2o=>k_is)
  (case k2o=>k_is)
  (case l2p=>k_is)
  (case b2p=>k_is)
  (case k2p=>k_is)
  (case l29=>k_is)
  (case b29=>k_is)
  (case k29=>k_is)
  (case l25=>k_is)
  (case b25=>k_is)
  (case k25=>k_is)
  (case l2g=>k_is)
  (case b2g=>k_is)
  (case k2g=>k_is)
  (case l2j=>k_is)
  (case b2j=>k_is)
  (case k2j=>k_is)
  (case l2a=>k_is)
  (case b2a=>k_is)
  (case k2a=>k_is)
  (case l28=>k_is)
  (case b28=>k_is)
  (case k28=>k_is)
  (case l27=>k_is)
  (case b27=>k_is)
  (case k27=>k_is)
  (case l2m=>k_is)
  (case b2m=>k_is)
  (case k2m=>k_is)
  (case l2d=>k_is)
  (case b2d=>k_is)
  (case k2d=>k_is)
  (case l2b=>k_is)
  (case b2b=>k_is)
  (case k2b=>k_is)
  (case l2f=>k_is)
  (case b2f=>k_is)
  (case k2f=>k_is)
  (case l2k=>k_is)
  (case b2k=>k_is)
  (case k2k=>k_is)
  (case l2l=>k_is)
  (case b2l=>k_is)
  (case k2l=>k_is)
  (case l2A=>k_is)
  (case b2A=>k_is)
  (case k2A=>k_is)
  (case l2z=>k_is)
  (case b2z=>k_is)
  (case k2z=>k_is)
  (case l1B=>k_is)
  (case b1B=>k_is)
  (case k1B=>k_is)
  (case i1B=>k_is)
  (case l22=>k_is)
  (case b22=>k_is)
  (case k22=>k_is)
  (case l20=>k_is)
  (case b20=>k_is)
  (case k20=>k_is)
  (case l21=>k_is)
  (case b21=>k_is)
  (case k21=>k_is)
  (case l24=>k_is)
  (case b24=>k_is)
  (case k24=>k_is)
  (case l0l=>k_is)
  (case b0l=>k_is)
  (case k0l=>k_is)
  (case i0l=>k_is)
  (case l0a=>k_is)
  (case b0a=>k_is)
  (case k0a=>k_is)
  (case i0a=>k_is)
  (case l09=>k_is)
  (case b09=>k_is)
  (case k09=>k_is)
  (case i09=>k_is)
  (case l0e=>k_is)
  (case b0e=>k_is)
  (case k0e=>k_is)
  (case i0e=>k_is)
  (case l0o=>k_is)
  (case b0o=>k_is)
  (case k0o=>k_is)
  (case i0o=>k_is)
  (case l0c=>k_is)
  (case b0c=>k_is)
  (case k0c=>k_is)
  (case i0c=>k_is)
  (case l0d=>k_is)
  (case b0d=>k_is)
  (case k0d=>k_is)
  (case i0d=>k_is)
  (case l0g=>k_is)
  (case b0g=>k_is)
  (case k0g=>k_is)
  (case i0g=>k_is)
  (case l0h=>k_is)
  (case b0h=>k_is)
  (case k0h=>k_is)
  (case i0h=>k_is)
  (case l0b=>k_is)
  (case b0b=>k_is)
  (case k0b=>k_is)
  (case i0b=>k_is)
  (case l0f=>k_is)
  (case b0f=>k_is)
  (case k0f=>k_is)
  (case i0f=>k_is)
  (case l0m=>k_is)
  (case b0m=>k_is)
  (case k0m=>k_is)
  (case i0m=>k_is)
  (case l0j=>k_is)
  (case b0j=>k_is)
  (case k0j=>k_is)
  (case i0j=>k_is)
  (case l1W=>k_is)
  (case b1W=>k_is)
  (case k1W=>k_is)
  (case l05=>k_is)
  (case b05=>k_is)
  (case k05=>k_is)
  (case i05=>k_is)
  (case l1Y=>k_is)
  (case b1Y=>k_is)
  (case k1Y=>k_is)
  (case l1V=>k_is)
  (case b1V=>k_is)
  (case k1V=>k_is)
  (case l2v=>k_is)
  (case b2v=>k_is)
  (case k2v=>k_is)
  (case l1j=>k_is)
  (case b1j=>k_is)
  (case k1j=>k_is)
  (case i1j=>k_is)
  (case l1m=>k_is)
  (case b1m=>k_is)
  (case k1m=>k_is)
  (case i1m=>k_is)
  (case l1l=>k_is)
  (case b1l=>k_is)
  (case k1l=>k_is)
  (case i1l=>k_is)
  (case l1d=>k_is)
  (case b1d=>k_is)
  (case k1d=>k_is)
  (case i1d=>k_is)
  (case l1i=>k_is)
  (case b1i=>k_is)
  (case k1i=>k_is)
  (case i1i=>k_is)
  (case l1h=>k_is)
  (case b1h=>k_is)
  (case k1h=>k_is)
  (case i1h=>k_is)
  (case l2C=>k_is)
  (case b2C=>k_is)
  (case k2C=>k_is)
  (case l2x=>k_is)
  (case b2x=>k_is)
  (case k2x=>k_is)
  (case pg1z=>k_is)
  (case hd1z=>k_is)
  (case po1z=>k_is)
  (case sa1z=>k_is)
  (case mk1z=>k_is)
  (case kc1z=>k_is)
  (case n1C=>k_is)
  (case n1D=>k_is)
  (case n1A=>k_is)
  (case pg08=>k_is)
  (case hd08=>k_is)
  (case po08=>k_is)
  (case sa08=>k_is)
  (case mk08=>k_is)
  (case kc08=>k_is)
  (case n0q=>k_is)
  (case n0p=>k_is)
  (case n0r=>k_is)
  (case n0n=>k_is)
  (case n0k=>k_is)
  (case n0i=>k_is)
  (case pg0U=>k_is)
  (case hd0U=>k_is)
  (case po0U=>k_is)
  (case sa0U=>k_is)
  (case mk0U=>k_is)
  (case kc0U=>k_is)
  (case n0Y=>k_is)
  (case n0Z=>k_is)
  (case n0X=>k_is)
  (case n0V=>k_is)
  (case pg03=>k_is)
  (case hd03=>k_is)
  (case po03=>k_is)
  (case sa03=>k_is)
  (case mk03=>k_is)
  (case kc03=>k_is)
  (case n04=>k_is)
  (case n06=>k_is)
  (case n07=>k_is)
  (case pg1c=>k_is)
  (case hd1c=>k_is)
  (case po1c=>k_is)
  (case sa1c=>k_is)
  (case mk1c=>k_is)
  (case kc1c=>k_is)
  (case n1n=>k_is)
  (case n1e=>k_is)
  (case n1k=>k_is)
  (case n1o=>k_is)
  (case n1g=>k_is)
  (case n1f=>k_is)
  (case x1p=>kernel_rfl)
  (case sa1p=>k_is)
  (case ga1p=>k_is)
  (case gh1p=>k_is)
  (case u1p=>kernel_rfl)
  (case kc1p=>k_is)
  (case n1r=>k_is)
  (case n1s=>k_is)
  (case x1v=>kernel_rfl)
  (case sa1v=>k_is)
  (case ga1v=>k_is)
  (case gh1v=>k_is)
  (case u1v=>kernel_rfl)
  (case kc1v=>k_is)
  (case n1x=>k_is)
  (case n1y=>k_is)
  (case x1O=>kernel_rfl)
  (case sa1O=>k_is)
  (case ga1O=>k_is)
  (case gh1O=>k_is)
  (case u1O=>kernel_rfl)
  (case kc1O=>k_is)
  (case n1Q=>k_is)
  (case n1R=>k_is)
  (case x1K=>kernel_rfl)
  (case sa1K=>k_is)
  (case ga1K=>k_is)
  (case gh1K=>k_is)
  (case u1K=>kernel_rfl)
  (case kc1K=>k_is)
  (case n1M=>k_is)
  (case n1N=>k_is)
  (case x0D=>kernel_rfl)
  (case sa0D=>k_is)
  (case ga0D=>k_is)
  (case gh0D=>k_is)
  (case u0D=>kernel_rfl)
  (case kc0D=>k_is)
  (case n0F=>k_is)
  (case n0G=>k_is)
  (case x0Q=>kernel_rfl)
  (case sa0Q=>k_is)
  (case ga0Q=>k_is)
  (case gh0Q=>k_is)
  (case u0Q=>kernel_rfl)
  (case kc0Q=>k_is)
  (case n0S=>k_is)
  (case n0T=>k_is)
  (case x1E=>kernel_rfl)
  (case sa1E=>k_is)
  (case ga1E=>k_is)
  (case gh1E=>k_is)
  (case u1E=>kernel_rfl)
  (case kc1E=>k_is)
  (case n1G=>k_is)
  (case n1H=>k_is)
  (case cg=>k_is)
  (case cr=>k_is)
  (case cf=>k_is)
  (case g1u=>k_is)
  (case g0C=>k_is)
  (case g1a=>k_is)
  (case g02=>k_is)
  (case g18=>k_is)
  (case g0x=>k_is)
  (case g0s=>k_is)
  (case g0H=>k_is)
  (case g1S=>k_is)
  (case g01=>k_is)
  (case g1I=>k_is)
  (case g0B=>k_is)
  (case g1b=>k_is)
  (case g0L=>k_is)
  (case g0J=>k_is)
  (case g0O=>k_is)
  (case g0N=>k_is)
  (case g0K=>k_is)
  (case g0I=>k_is)
  (case g2s=>k_is)
  (case g2w=>k_is)
  (case g2u=>k_is)
  (case g2G=>k_is)
  (case g1J=>k_is)
  (case h1J=>kernel_rfl)
  (case g1t=>k_is)
  (case h1t=>kernel_rfl)
  (case g00=>k_is)
  (case h00=>kernel_rfl)
  (case g0t=>k_is)
  (case h0t=>k_is)
  (case s0t=>rfl)
  (case g0w=>k_is)
  (case h0w=>k_is)
  (case s0w=>rfl)
  (case p0t=>repeat' (first | exact .nil | refine .cons ⟨(by kernel_rfl),(by kernel_rfl),⟨_,rfl⟩⟩ ?_))
  (case p0w=>repeat' (first | exact .nil | refine .cons ⟨(by kernel_rfl),(by kernel_rfl),(show DictEntry.val _=Value.ref _ by kernel_rfl)⟩ ?_))
  (case q0w=>kernel_rfl)
  (case x14=>kernel_rfl)
  (case sa14=>k_is)
  (case ga14=>k_is)
  (case gh14=>k_is)
  (case u14=>kernel_rfl)
  (case kc14=>k_is)
  (case n16=>k_is)
  (case n17=>k_is)
  (case x10=>kernel_rfl)
  (case sa10=>k_is)
  (case ga10=>k_is)
  (case gh10=>k_is)
  (case u10=>kernel_rfl)
  (case kc10=>k_is)
  (case n12=>k_is)
  (case n13=>k_is)
  (case g0y=>k_is)
  (case g0M=>k_is)
  (case g0u=>k_is)
  (case h0u=>kernel_rfl)
  (case g0v=>k_is)
  (case h0v=>kernel_rfl)
  (case g0P=>k_is)
  (case h0P=>kernel_rfl)
  (case g1X=>k_is)
  (case g2H=>k_is)
  (case g23=>k_is)
  (case g2F=>k_is)
  (case g19=>k_is)
  (case h19=>k_is)
  (case s19=>rfl)
  (case g0A=>k_is)
  (case h0A=>k_is)
  (case s0A=>rfl)
  (case p19=>repeat' (first | exact .nil | refine .cons ⟨(by kernel_rfl),(by kernel_rfl),⟨_,rfl⟩⟩ ?_))
  (case p0A=>repeat' (first | exact .nil | refine .cons ⟨(by kernel_rfl),(by kernel_rfl),(show DictEntry.val _=Value.ref _ by kernel_rfl)⟩ ?_))
  (case i1=>k_is)
  (case i2=>k_is)
  (case i3=>kernel_rfl)
  (case i4=>kernel_rfl)
  (case i5=>kernel_rfl)
  (case i6=>kernel_rfl)
  (case i7=>kernel_rfl)
  (case i8=>kernel_rfl)
  (case i9=>kernel_rfl)
 case S=>
  intro K H xs a hO hwi hask hx
  cases hx with
  | cons h1 h2=>
   cases h2 with
   | cons h2 h3=>
   cases h3
   cases h1 with
   | lst hs ha=>
   cases h2 with
   | lst hs2 ha2=>
    have e:=L2.qdL a.1 _ ha
    subst e
    have e2:=L2.qdL a.2.1 _ ha2
    subst e2
    have q:((Codec.inLen 0 4096 a.1&&a.1.all (Codec.inInt 0 255))&&((Codec.inLen 0 64 a.2.1&&a.2.1.all (Codec.inInt (-1000000000000000000) 1000000000000000000))&&true))=true:=hwi
    simp only [Bool.and_eq_true] at q
    have hb:NeutralIO.bytes a.1=true:=List.all_eq_true.mpr fun x hx=>by
     have:=List.all_eq_true.mp q.1.2 x hx
     exact this
    have hl:a.2.1.length<=1000:=by
     have z:(decide (0<=a.2.1.length)&&decide (a.2.1.length<=64))=true:=q.2.1.1
     simp only [Bool.and_eq_true,decide_eq_true_eq] at z
     omega
    refine ⟨_,_,VastoaNeutral.text a.1,a.2.1,rfl,?_,hs2,hl,fun H' p hp=>.lst (L2.SqL.of hp) ?_⟩
    ·rw [RT.qmB a.1 hb]; exact hs
    ·rw [RT.qlr a.1 a.2.1 hb]; exact L2.qhm _
