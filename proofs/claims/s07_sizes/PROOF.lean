import PyProof.Rows.All
import Wide.All
import OpenK.AllK
import Wide.FinOn
import PyProof.StationsW
import OpenK.KGet
import PyProof.ExcInit
import PyProof.ExcBaseAll.Exception
import OpenK.KMake
import PyProof.InstStoreFacts
import PyProof.ExcArgs
import PyProof.EqAt
import PyProof.EqKinds
import PyProof.TupleCall
import KE.BitLaws
import Open.SpecLaws
import KE.OsHead
import KE.SpHead
import KE.OsShapes
import PyProof.WalkInts
import KE.KMinKey
import KE.OsGo
import PySem.Challenge.RW_recipetexts_s07_sizes
set_option Elab.async false
set_option linter.all false
set_option maxRecDepth 100000
set_option maxHeartbeats 4000000
section
namespace LX
open PySem PySem.Spec PyProof.Rows
def Tr (h B:Heap) (e C dx:Addr) (fl:Value):Prop :=
 ∃ (oe:Obj) (vs:Array Value) (T:Addr) (oT:Obj) (ts:Array Value),(h.get? e=some oe/\oe.cls=.ref C/\oe.dict=some dx/\oe.data=.fields vs/\vs[1]? = some (.ref T))/\(B.get? T=none/\T≠e)/\h.get? T=some oT/\oT.data=.fields ts/\ts[3]? = some fl
structure Note (B:Heap) (l:List Env) (e C dx:Addr) (fl:Value) (h h':Heap):Prop where
 st:B.StaysIn h'
 ff:h'.FunFrames B l
 tr:Tr h' B e C dx fl
 up:h.UpToSlots h'
structure Fly (B:Heap) (l:List Env) (e C dx:Addr) (fl:Value) (h:Heap):Prop where
 st:B.StaysIn h
 nw:B.get? e=none
 ff:h.FunFrames B l
 tr:Tr h B e C dx fl
section
variable {M:Model} {A:Around} {E:Value->Shared->Prop} {s:Shared} {B:Heap} {env:Env} {outer:List Env} {L e C dx:Addr} {Q:Unit->Shared->Prop}
theorem qgT {oe:Obj} {vs:Array Value} {head:Value} {had:Bool}
  (hfr:A.frames=some (env::outer)) (hl:s.heap.FunFrames B (env::outer)) (hf:env.frame=some L)
  (he:s.heap.get? e=some oe) (hc:oe.cls=.ref C) (hdx:oe.dict=some dx) (hd:oe.data=.fields vs) (hsz:1<vs.size) (hst:B.StaysIn s.heap) (hnw:B.get? e=none)
  (h:∀ h',Note B (env::outer) e C dx (rawInt L) s.heap h'->Q () { s with heap:=h' }) :
  wpAny M A (do let a <- frameOf env; let pl <- entryPlaceOf L had; let b <- EntryCells.newEntry head a .none (rawInt L) .none pl; setField (.ref e) 1 b) Q E s:=by
 have nofr:e∉(env::outer).filterMap (·.frame):=by
  intro hm
  obtain ⟨_,o,ho,hnf⟩:=hl.mem hm
  obtain rfl:oe=o:=Option.some.inj (he.symm.trans ho)
  exact hnf vs hd
 refine wpAny_bind (wpAny_frameOf_fun hfr hl hf fun h1 hs1=>?_)
 refine wpAny_bind (wpAny_entryPlaceOf fun pl hpl=>?_)
 unfold EntryCells.newEntry newFields
 refine wpAny_bind (wpAny_newObj_type ?_ (hpl.sizeOk5 _ _ _ _ _))
 have e1:h1.get? e=some oe:=(hs1.2.1 e nofr).trans he
 have st1:B.StaysIn h1:=fun b o q=>(hs1.2.1 b fun hm=>by
  have z:=(hl.mem hm).1
  rw [q] at z
  cases z).trans (hst b o q)
 generalize hN:({ cls:=.type "traceback",dict:=none,data:=.fields ([head,.ref L,.none,rawInt L,.none]++(if pl.isEmpty then List.replicate 6 Value.none else pl)).toArray }:Obj)=nT
 have dT:nT.data=.fields ([head,.ref L,.none,rawInt L,.none]++(if pl.isEmpty then List.replicate 6 Value.none else pl)).toArray:=by rw [<- hN]
 have fT:nT.isFreed=false:=by rw [<- hN]; rfl
 have e2:=Heap.get?_push_of_some (h:=h1) nT e1
 refine wpAny_setField e2 hd hsz (h _ ?_)
 have Te:h1.objs.size≠e:=Nat.ne_of_gt (Heap.lt_size e1)
 have d3:=Obj.data_mapFields hd (·.setIfInBounds 1 (Value.ref h1.objs.size))
 have e3:=Heap.get?_update_self (Obj.mapFields (·.setIfInBounds 1 (Value.ref h1.objs.size))) e2 (Obj.isFreed_of_fields d3)
 have T3:=(Heap.get?_update_other (h1.push nT) (Obj.mapFields (·.setIfInBounds 1 (Value.ref h1.objs.size))) (Ne.symm Te)).trans (Heap.get?_push_size h1 fT)
 have kp:∀ b o,b≠e->h1.get? b=some o->((h1.push nT).update e (Obj.mapFields (·.setIfInBounds 1 (Value.ref h1.objs.size)))).get? b=some o:=by
  intro b o be q
  rw [Heap.get?_update_other _ _ (Ne.symm be)]
  exact Heap.get?_push_of_some _ q
 have rec_ne:∀ b o,s.heap.get? b=some o->(∀ ws,o.data≠.fields ws)->b≠e:=by
  intro b o q hnf z
  subst z
  obtain rfl:oe=o:=Option.some.inj (he.symm.trans q)
  exact hnf vs hd
 refine ⟨fun b o q=>kp b o (fun z=>by subst z; rw [hnw] at q; cases q) (st1 b o q),hl.of_keeps fun b o q hnf=>?_,?_,fun b o q hnf=>?_⟩
 ·obtain ⟨sl,hs⟩:=hs1.2.2 b o q
  exact ⟨_,kp b _ (rec_ne b o q hnf) hs,rfl⟩
 ·refine ⟨_,_,h1.objs.size,nT,_,⟨e3,?_,?_,d3,by simp [hsz]⟩,⟨st1.fresh,Te⟩,T3,dT,?_⟩
  ·rw [Obj.cls_mapFields]; exact hc
  ·have:∀ (f:Array Value->Array Value) (o:Obj),(Obj.mapFields f o).dict=o.dict:=fun f o=>by
    obtain ⟨c,d,dt,sl⟩:=o
    cases dt <;> rfl
   rw [this]; exact hdx
  ·first
    | (simp; done)
    | (rcases hpl with rfl | ⟨_,_,_,_,_,_,_,rfl⟩ <;> simp)
 ·obtain ⟨sl,hs⟩:=hs1.2.2 b o q
  exact ⟨sl,kp b _ (rec_ne b o q hnf) hs⟩
theorem qht {oe:Obj} {vs:Array Value}
  (hfr:A.frames=some (env::outer)) (hl:s.heap.FunFrames B (env::outer)) (hf:env.frame=some L)
  (he:s.heap.get? e=some oe) (hc:oe.cls=.ref C) (hdx:oe.dict=some dx) (hd:oe.data=.fields vs) (h1:vs[1]? = some .none) (hst:B.StaysIn s.heap) (hnw:B.get? e=none)
  (h:∀ h',Note B (env::outer) e C dx (rawInt L) s.heap h'->Q () { s with heap:=h' }):wpAny M A (noteFrame (.ref e) env) Q E s:=by
 unfold noteFrame
 simp only [hf]
 refine wpAny_bind (wpAny_field he hd h1 ?_)
 rw [if_neg (by decide)]
 exact qgT hfr hl hf he hc hdx hd (Array.getElem?_eq_some_iff.mp h1).1 hst hnw h
theorem qd6 (hfr:A.frames=some (env::outer)) (hf:env.frame=some L) (F:Fly B (env::outer) e C dx .none s.heap)
  (h:∀ h',Note B (env::outer) e C dx (rawInt L) s.heap h'->Q () { s with heap:=h' }):wpAny M A (noteFrame (.ref e) env) Q E s:=by
 obtain ⟨hst,hnw,hl,oe,vs,T,oT,ts,⟨he,hc,hdx,hd,h1⟩,⟨hnT,hTe⟩,hT,hdT,h3⟩:=F
 unfold noteFrame
 simp only [hf]
 refine wpAny_bind (wpAny_field he hd h1 ?_)
 have t1:(Value.ref T != Value.none)=true:=by simp
 rw [if_pos t1]
 refine wpAny_bind (wpAny_field hT hdT h3 ?_)
 have t2:¬ ((Value.none == rawInt L)=true):=by simp [rawInt]
 rw [if_neg t2]
 refine wpAny_bind (wpAny_setField hT hdT (Array.getElem?_eq_some_iff.mp h3).1 ?_)
 have oth:∀ b,b≠T->(s.heap.update T (Obj.mapFields (·.setIfInBounds 3 Value.none))).get? b=s.heap.get? b:=fun b z=>Heap.get?_update_other _ _ (Ne.symm z)
 have rec_ne:∀ b o,s.heap.get? b=some o->(∀ ws,o.data≠.fields ws)->b≠T:=by
  intro b o q hnf z
  subst z
  obtain rfl:oT=o:=Option.some.inj (hT.symm.trans q)
  exact hnf ts hdT
 refine qgT hfr (hl.of_keeps fun b o q hnf=>⟨o,(oth b (rec_ne b o q hnf)).trans q,rfl⟩) hf ((oth e (Ne.symm hTe)).trans he) hc hdx hd (Array.getElem?_eq_some_iff.mp h1).1
  (fun b o q=>(oth b fun z=>by subst z; rw [hnT] at q; cases q).trans (hst b o q)) hnw fun h' N=>h h' ⟨N.st,N.ff,N.tr,fun b o q hnf=>N.up b o ((oth b (rec_ne b o q hnf)).trans q) hnf⟩
theorem Jd {l:List Env} {fl:Value} (F:Fly B l e C dx fl s.heap) (h:∀ h',Fly B l e C dx .none h'->s.heap.UpToSlots h'->Q () { s with heap:=h' }):wpAny M A (setFlight (.ref e) none) Q E s:=by
 obtain ⟨hst,hnw,hl,oe,vs,T,oT,ts,⟨he,hc,hdx,hd,h1⟩,⟨hnT,hTe⟩,hT,hdT,h3⟩:=F
 have h3s:3<ts.size:=(Array.getElem?_eq_some_iff.mp h3).1
 have oth:∀ b,b≠T->(s.heap.update T (Obj.mapFields (·.setIfInBounds 3 ((none:Option Addr).elim Value.none fun f=>rawInt f)))).get? b=s.heap.get? b:=fun b z=>Heap.get?_update_other _ _ (Ne.symm z)
 have rec_ne:∀ b o,s.heap.get? b=some o->(∀ ws,o.data≠.fields ws)->b≠T:=by
  intro b o q hnf z
  subst z
  obtain rfl:oT=o:=Option.some.inj (hT.symm.trans q)
  exact hnf ts hdT
 unfold setFlight
 refine wpAny_bind (wpAny_field he hd h1 ?_)
 have t1:(Value.ref T != Value.none)=true:=by simp
 rw [if_pos t1]
 refine wpAny_setField hT hdT h3s (h _ ⟨fun b o q=>(oth b fun z=>by subst z; rw [hnT] at q; cases q).trans (hst b o q),hnw,hl.of_keeps fun b o q hnf=>⟨o,(oth b (rec_ne b o q hnf)).trans q,rfl⟩,?_⟩ fun b o q hnf=>⟨o.slots,(oth b (rec_ne b o q hnf)).trans q⟩)
 exact ⟨oe,vs,T,_,_,⟨(oth e (Ne.symm hTe)).trans he,hc,hdx,hd,h1⟩,⟨hnT,hTe⟩,Heap.get?_update_self _ hT (Obj.isFreed_of_fields (Obj.data_mapFields hdT _)),Obj.data_mapFields hdT _,by simp [h3s]⟩
theorem qe6 {fl:Value} {h:Heap} (F:Fly B (env::outer) e C dx fl h):Fly B outer e C dx fl h:=⟨F.st,F.nw,F.ff.2.2,F.tr⟩
theorem qgm {oe:Obj} {vs:Array Value}
  (hfr:A.frames=some (env::outer)) (hl:s.heap.FunFrames B (env::outer)) (hf:env.frame=some L)
  (he:s.heap.get? e=some oe) (hc:oe.cls=.ref C) (hdx:oe.dict=some dx) (hd:oe.data=.fields vs) (h1:vs[1]? = some .none) (hst:B.StaysIn s.heap) (hnw:B.get? e=none)
  (h:∀ h',Fly B outer e C dx .none h'->s.heap.UpToSlots h'->Q () { s with heap:=h' }):wpAny M A (leaving env (.ref e)) Q E s:=by
 unfold leaving
 refine wpAny_bind (qht hfr hl hf he hc hdx hd h1 hst hnw fun h1 N=>?_)
 exact Jd (s:={ s with heap:=h1 }) ⟨N.st,hnw,N.ff,N.tr⟩ fun h2 F2 u2=>h h2 (qe6 F2) (N.up.trans u2)
theorem qhu (hfr:A.frames=some (env::outer)) (hf:env.frame=some L) (F:Fly B (env::outer) e C dx .none s.heap)
  (h:∀ h',Fly B outer e C dx .none h'->s.heap.UpToSlots h'->Q () { s with heap:=h' }):wpAny M A (leaving env (.ref e)) Q E s:=by
 unfold leaving
 refine wpAny_bind (qd6 hfr hf F fun h1 N=>?_)
 exact Jd (s:={ s with heap:=h1 }) ⟨N.st,F.nw,N.ff,N.tr⟩ fun h2 F2 u2=>h h2 (qe6 F2) (N.up.trans u2)
theorem qiv (hfr:A.frames=some (env::outer)) (hf:env.frame=some L) (F:Fly B (env::outer) e C dx .none s.heap)
  (h:∀ h',Fly B (env::outer) e C dx .none h'->s.heap.UpToSlots h'->Q () { s with heap:=h' }):wpAny M A (noteFrame (.ref e) env) (fun _ s'=>wpAny M A (setFlight (.ref e) none) Q E s') E s:=by
 refine qd6 hfr hf F fun h1 N=>?_
 exact Jd (s:={ s with heap:=h1 }) ⟨N.st,F.nw,N.ff,N.tr⟩ fun h2 F2 u2=>h h2 F2 (N.up.trans u2)
end
end LX
end
section
namespace LX
open PySem PySem.Spec PyProof.Rows
open Sem (wp)
section
variable {prog:Program} {w:World} {A:Around} {E:Value->Shared->Prop} {h:Heap} {g:Array GenState} {d:Drawn} {t:Nat} {os:OsState}
variable {nm q:Str} {C N:Addr} {bs bm:List Value} {hdct:Bool} {sn:List Str} {sub:List Value} {ab:Bool} {col:Option Bool} {dd:Option Addr} {k0 k1 k2 k3 k5:Option Value}
abbrev XC (h:Heap) (nm q:Str) (C N:Addr) (bs bm:List Value) (hdct:Bool) (sn:List Str) (sub:List Value) (ab:Bool) (col:Option Bool) (dd:Option Addr) (k0 k1 k2 k3 k5:Option Value):Prop :=
 h.get? C=some (excClassObj nm q C N bs bm hdct sn sub ab col dd k0 k1 k2 k3 k5 "Exception.__new__")
structure Under (bm:List Value):Prop where
 b1:bm.contains (.type "Exception")=true
 b2:bm.contains (.type "BaseException")=true
 b3:bm.contains (.type "AttributeError")=false
 b4:bm.contains (.type "NameError")=false
theorem qgn {M:Model} {rest:List Value} {Q:Unit->Shared->Prop} (U:Under bm) (hC:XC h nm q C N bs bm hdct sn sub ab col dd k0 k1 k2 k3 k5) (hq:Q () ⟨h,g,d,t,os⟩) :
  wpAny M A (checkBuiltinCall "Exception.__new__" ⟨.ref C::rest,[]⟩) Q E ⟨h,g,d,t,os⟩:=by
 have F:=PySem.F.excBase_Exception
 have hst:=F.noStar
 have hco:(Value.ref C::bm).contains (.type "Exception")=true:=by rw [List.contains_cons,U.b1]; exact Bool.or_true _
 simp only [checkBuiltinCall,F.newKind,F.newSplit,F.newRow]
 repeat (first
  | refine wpAny_loadPart_at hC ?_
  | (refine wpAny_isSubtype_exc hC ?_; rw [hco])
  | refine wpAny_staticBase_exc hC ?_
  | refine wpAny_madeBy_exc hC ?_
  | simp only [bne_self_eq_false,Bool.false_eq_true,if_false]
  | wp_step)
 exact hq
theorem qnu {R:Result->Shared->Prop} {rest:List Value} (U:Under bm) (hC:XC h nm q C N bs bm hdct sn sub ab col dd k0 k1 k2 k3 k5) (hr:rest.length<=sizeLine)
  (hq:R (.ok (.ret (.ref (h.objs.size+1)))) ⟨(h.push { cls:=.type "tuple",data:=.seq rest.toArray }).push { cls:=.ref C,data:=.fields #[.ref h.objs.size,.none,.none,.none,.bool false,.none] },g,d,t,os⟩) :
  codeAny (model prog w) A (.builtin "Exception.__new__" ⟨.ref C::rest,[]⟩) R ⟨h,g,d,t,os⟩:=by
 have F:=PySem.F.excBase_Exception
 have hen:=F.ends
 have c1:(Value.ref C::bm).contains (.type "Exception")=true:=by rw [List.contains_cons,U.b1]; exact Bool.or_true _
 have c3:(Value.ref C::bm).contains (.type "AttributeError")=false:=by rw [List.contains_cons,U.b3]; rfl
 have c4:(Value.ref C::bm).contains (.type "NameError")=false:=by rw [List.contains_cons,U.b4]; rfl
 have hrest:=hr
 refine codeAny_builtinAt F.entry ?_
 unfold Builtin.«BaseException.__new__»
 refine PySem.wpAt_bind ?_
 show PySem.wpAt _ _ _ (stack >>= _) _ _ _
 refine PySem.wpAt_bind (PySem.wpAt_stack fun p below=>PySem.wpAt_of_wpAny ?_)
 wp_walk
 refine PySem.wpAt_of_wpAny ?_
 rw [F.owner]
 repeat (first
  | with_reducible refine wpAny_madeHere_exc F.canon hC ?_
  | with_reducible refine wpAny_loadPart_at hC ?_
  | (with_reducible refine wpAny_isSubtype_exc hC ?_; first | rw [c1] | rw [c3] | rw [c4])
  | wp_step)
 show R _ _
 rw [Heap.size_push]
 exact hq
theorem qgo {rest:List Value} {fI:Addr} {oI:Obj} {Q:Fin->Shared->Prop} (U:Under bm)
  (hC:XC h nm q C N bs bm hdct sn sub ab col dd k0 k1 k2 k3 k5) (hi:PySem.W.Looks (model prog w) h (typeLookup (.ref C) "__init__") (some (.ref fI))) (hfI:h.get? fI=some oI) (hfc:oI.cls=.type "function") (hr:rest.length<=sizeLine)
  (hq:∀ h' e,h.objs.size<=e->Heap.MadeExcOf h h' e (.ref C) rest->wpAny (model prog w) A (call (.ref fI) (.ref e::rest)) (fun r s'=>r=.none/\Q (.done (.ret (.ref e))) s') E ⟨h',g,d,t,os⟩) :
  wpAny (model prog w) A (Builtin.«type.__call__» ⟨.ref C::rest,[]⟩) Q E ⟨h,g,d,t,os⟩:=by
 have F:=PySem.F.excBase_Exception
 repeat (first | with_reducible refine wpAny_loadPart_at hC ?_ | with_reducible refine wpAny_madeBy_exc hC ?_ | wp_step)
 refine codeAny_call_builtin_code (Code.quiet_builtin _ F.quiet) (qgn U hC ?_)
 refine qnu U hC hr ?_
 show wpAny _ _ _ _ _ _
 generalize hT:({ cls:=.type "tuple",data:=.seq rest.toArray }:Obj)=oT
 generalize hO:({ cls:=.ref C,data:=.fields #[.ref h.objs.size,.none,.none,.none,.bool false,.none] }:Obj)=oE
 have kp:∀ b o,h.get? b=some o->((h.push oT).push oE).get? b=some o:=fun b o z=>Heap.get?_push_of_some _ (Heap.get?_push_of_some _ z)
 have hC1:XC ((h.push oT).push oE) nm q C N bs bm hdct sn sub ab col dd k0 k1 k2 k3 k5:=kp _ _ hC
 have hf1:=kp _ _ hfI
 have hi1:=hi.keeps kp
 have hE:((h.push oT).push oE).get? (h.objs.size+1)=some oE:=by subst hT hO; heap_get
 have cE:oE.cls=.ref C:=by subst hO; rfl
 have cC:(Value.ref C::bm).contains (.ref C)=true:=by simp
 unfold isInstance
 repeat (first | (with_reducible refine wpAny_loadPart_at hE ?_; rw [cE]) | (with_reducible refine wpAny_isSubtype_exc hC1 ?_; rw [cC]) | wp_step)
 show wpAny _ _ (typeLookup (.ref C) _) _ _ _
 refine hi1.at ?_
 refine wpAny_holding (wpAny_bind ?_)
 unfold bindSpecial
 refine wpAny_bind (wpAny_typeOf (T:= "function") ⟨_,hf1,hfc⟩ ?_)
 rw [if_pos (by decide)]
 refine wpAny_pure (wpAny_bind (wpAny_mono (hq _ (h.objs.size+1) (Nat.le_succ _) ⟨kp,Heap.get?_none_of_le (Nat.le_succ _),h.objs.size,by rw [hE,<- hO],Heap.get?_none_of_le (Nat.le_refl _),?_⟩) (fun r s' z=>?_) fun _ _ x=>x))
 ·rw [hT]
  exact Heap.get?_push_of_some _ (Heap.get?_push_at rfl (by subst hT; rfl))
 ·obtain ⟨rfl,z⟩:=z
  wp_walk
  exact z
theorem x_call {rest:List Value} {fI:Addr} {oI:Obj} {Q:Value->Shared->Prop} (U:Under bm)
  (hC:XC h nm q C N bs bm hdct sn sub ab col dd k0 k1 k2 k3 k5) (hi:PySem.W.Looks (model prog w) h (typeLookup (.ref C) "__init__") (some (.ref fI))) (hfI:h.get? fI=some oI) (hfc:oI.cls=.type "function") (hr:rest.length<=sizeLine)
  (hq:∀ h' e,h.objs.size<=e->Heap.MadeExcOf h h' e (.ref C) rest->wpAny (model prog w) (A.under (.builtin "type.__call__" ⟨.ref C::rest,[]⟩)) (call (.ref fI) (.ref e::rest)) (fun r s'=>r=.none/\Q (.ref e) s') E ⟨h',g,d,t,os⟩) :
  wpAny (model prog w) A (call (.ref C) rest) Q E ⟨h,g,d,t,os⟩:=by
 have f1:=tc_lookup
 have f2:=tc_bind (.ref C)
 have hT:(⟨h,g,d,t,os⟩:Shared).TypeIs (.ref C) "type":=⟨_,hC,rfl⟩
 refine wpAny_call (codeAny_of_tree ?_)
 show wpAny _ _ (callAny (.ref C) _) _ _ _
 repeat (any_goals (first
  | assumption
  | with_reducible refine wpAny_loadPart_at hC ?_
  | wp_step))
 refine ⟨rfl,?_⟩
 refine codeAny_call_builtin_at (Code.quiet_builtin _ (by decide +kernel)) entry_typeCall (wpAny_check_type_call_sub hC ?_)
 exact qgo U hC hi hfI hfc hr fun h' e hs hm=>hq h' e hs hm
end
section
variable {M:Model} {A:Around} {E:Value->Shared->Prop} {env:Env}
variable {nm q:Str} {C N:Addr} {bs bm:List Value} {hdct:Bool} {sn:List Str} {sub:List Value} {ab:Bool} {col:Option Bool} {dd:Option Addr} {k0 k1 k2 k3 k5:Option Value}
theorem x_raise {s:Shared} {x:Sem Value} {Q:Flow->Shared->Prop} (U:Under bm) (hh:A.handled=none)
  (h:wpAny M A x (fun v s1=>∃ (e t:Addr) (dx:Option Addr) (sl:Array (Option Value)),v=.ref e/\XC s1.heap nm q C N bs bm hdct sn sub ab col dd k0 k1 k2 k3 k5 /\
   s1.heap.get? e=some { cls:=.ref C,dict:=dx,data:=.fields #[.ref t,.none,.none,.none,.bool false,.none],slots:=sl }/\E (.ref e) s1) E s) :
  wpAny M A (raiseStmt env (some x) none) Q E s:=by
 have cB:(Value.ref C::bm).contains (.type "BaseException")=true:=by rw [List.contains_cons,U.b2]; exact Bool.or_true _
 unfold raiseStmt
 refine wpAny_bind (wpAny_mono h (fun v s1 z=>?_) fun _ _ x=>x)
 obtain ⟨e,t,dx,sl,rfl,hC,he,hE⟩:=z
 obtain ⟨hp,g,d,tk,os⟩:=s1
 repeat (first
  | with_reducible refine wpAny_loadPart_at he ?_
  | with_reducible refine wpAny_loadPart_at hC ?_
  | (with_reducible refine wpAny_isSubtype_exc hC ?_; rw [cB])
  | wp_step)
 exact wpAny_raiseNew_none hh hE
theorem qiw {h:Heap} {g:Array GenState} {d:Drawn} {t:Nat} {os:OsState} {e S NS:Addr} {oe:Obj} {nmS qS:Str} {bsS bmS:List Value} {hdS:Bool} {snS:List Str} {subS:List Value} {abS:Bool} {colS:Option Bool} {ddS:Option Addr} {j0 j1 j2 j3 j5:Option Value} {Q:Bool->Shared->Prop}
  (US:Under bmS) (hC:XC h nm q C N bs bm hdct sn sub ab col dd k0 k1 k2 k3 k5) (hS:XC h nmS qS S NS bsS bmS hdS snS subS abS colS ddS j0 j1 j2 j3 j5) (hcs:(Value.ref C::bm).contains (.ref S)=true)
  (he:h.get? e=some oe) (hcls:oe.cls=.ref C) (hq:Q true ⟨h,g,d,t,os⟩):wpAny M A (excMatches (.ref e) (.ref S)) Q E ⟨h,g,d,t,os⟩:=by
 have cB:(Value.ref S::bmS).contains (.type "BaseException")=true:=by rw [List.contains_cons,US.b2]; exact Bool.or_true _
 have f:=tc_notTuple
 unfold excMatches
 repeat (first
  | (with_reducible refine wpAny_loadPart_at he ?_; rw [hcls])
  | with_reducible refine wpAny_loadPart_at hS ?_
  | (with_reducible refine wpAny_isSubtype_exc hS ?_; rw [cB])
  | (with_reducible refine wpAny_isSubtype_exc hC ?_; rw [hcs])
  | wp_step)
 exact hq
end
end LX
end
section
namespace LX
open PySem PySem.Spec PyProof.Rows Builtin Builtin.ObjectAttr
open PySem.W (Frag InstAt Looks clsIn findIn takerIn findObj handedIn looks_findIn looks_clsIn looks_mroIn mroIn)
def QD:List Value->Bool
 | [.type a,.type b,.type c]=>a == "Exception" && b == "BaseException" && c == "object"
 | .ref _::r=>QD r
 | _=>false
theorem qch (self:Value):∀ {l:List Value},QD l=true->refuseLoop self "__setattr__" l=pure ()
 | [.type a,.type b,.type c],e=>by
  simp only [QD,Bool.and_eq_true,beq_iff_eq] at e
  obtain ⟨⟨rfl,rfl⟩,rfl⟩:=e
  exact PySem.F.store_Exception.passes self
 | .ref c::r,e=>by rw [refuseLoop_ref]; exact qch self (l:=r) e
theorem qe7:∀ {l:List Value},QD l=true->l.contains (.type "object")=true
 | [.type a,.type b,.type c],e=>by
  simp only [QD,Bool.and_eq_true,beq_iff_eq] at e
  obtain ⟨⟨rfl,rfl⟩,rfl⟩:=e
  decide
 | .ref c::r,e=>by rw [List.contains_cons,qe7 (l:=r) e,Bool.or_true]
theorem qgU {l:List Value} (e:QD l=true):l.isEmpty=false:=by
 cases l with
 | nil=>cases e
 | cons _ _=>rfl
section
variable {prog:Program} {w:World} {A:Around} {E:Value->Shared->Prop} {s:Shared} {K:Frag} {x C:Addr} {ox:Obj} {od:Option Obj} {name:Str} {v:Value} {cd:ClassData}
theorem qk9 {tk:Tok} {R:Result->Shared->Prop} (X:K.In s.heap) (I:InstAt s.heap x ox C od) (hc:clsIn K C=some cd) (hp:QD cd.mro=true) (ht:findIn K (.ref C) name=some none)
  (h:wpAny (model prog w) A.in1 (storeInOwnDict (.ref x) (.ref C) (.str name tk) name v false)
   (fun fin s'=>match fin with | .done f=>R (.ok f) s' | .again c'=>c'.quiet=true/\codeAny (model prog w) A c' R s') (fun e s'=>R (.error e) s') s) :
  codeAny (model prog w) A (.call (.builtin "object.__setattr__") ⟨[.ref x,.str name tk,v],[]⟩) R s:=by
 have SF:=PySem.F.store_object
 have ne:=qgU hp
 have sub:Looks (model prog w) s.heap (isInstance (.ref x) (.type "object")) true:=I.type.andThen (looks_mroIn X (by unfold mroIn; rw [hc,Option.bind_some,if_neg (by rw [ne]; decide),qe7 hp]))
 refine codeAny_call_builtin SF.slot.plain SF.entry (@PySem.W.check_slot (model prog w) _ _ s "object.__setattr__" "object" "__setattr__" (.ref x) [.str name tk,v] [] _ SF.kind SF.split sub (SF.args (.ref x) (.str name tk) v) ?_)
 have hm:Looks (model prog w) s.heap (mroOf (.ref C)) cd.mro:=(looks_clsIn X hc).andThen .now
 rw [PySem.W.osa_eq,refuse_eq]
 refine wpAny_bind (wpAny_bind (I.type.here (wpAny_bind (hm.here ?_))))
 rw [qch _ hp]
 refine wpAny_pure (wpAny_bind (I.type.here (wpAny_bind ((looks_findIn X ht).here (wpAny_bind ?_)))))
 exact wpAny_pure h
theorem qmn {vs:Array Value} {sl:Array (Option Value)} {Q:Unit->Shared->Prop} (X:K.In s.heap) (hx:s.heap.get? x=some ⟨.ref C,none,.fields vs,sl⟩) (hc:clsIn K C=some cd) (hp:QD cd.mro=true) (hd:cd.hasDict=true)
  (hs:findIn K (.ref C) "__setattr__" = some (some (.builtin "object.__setattr__"))) (ht:findIn K (.ref C) name=some none)
  (h:∀ h' tk,h'.get? x=some ⟨.ref C,some s.heap.objs.size,.fields vs,sl⟩->h'.Ns1 s.heap.objs.size (fun y=>if y=name then some v else none)->(∀ b o,b≠x->s.heap.get? b=some o->h'.get? b=some o)->Q () { s with heap:=h',toks:=tk }) :
  wpAny (model prog w) A (setAttr (.ref x) name v) Q E s:=by
 have I:InstAt s.heap x ⟨.ref C,none,.fields vs,sl⟩ C none:=⟨hx,rfl,rfl,trivial⟩
 refine PySem.W.set_plain X I hs (qk9 (s:={ s with toks:=s.toks+1 }) X I hc hp ht ?_)
 have L:=looks_clsIn (M:=model prog w) X hc
 unfold storeInOwnDict
 have e1:ownStreamTells (.ref x) (.ref C)=pure ():=rfl
 rw [e1]
 refine wpAny_bind (wpAny_pure ?_)
 rw [if_neg (show ¬ ((Value.ref C == Value.type "module")=true) by simp)]
 refine wpAny_bind ?_
 show wpAny _ _ (instanceDict x true) _ _ _
 unfold instanceDict
 refine wpAny_bind (wpAny_loadPart (s:={ s with toks:=s.toks+1 }) hx ?_)
 dsimp only
 refine wpAny_bind (L.here (s:={ s with toks:=s.toks+1 }) ?_)
 rw [hd]
 simp only [Bool.not_true,Bool.false_eq_true,if_false,typeHasDict,Bool.false_or]
 have hx1:(s.heap.push { cls:=.type "dict",data:=.dict #[] }).get? x=some ⟨.ref C,none,.fields vs,sl⟩:=Heap.get?_push_of_some _ hx
 have hxs:x≠s.heap.objs.size:=Nat.ne_of_lt (Heap.lt_size hx)
 refine wpAny_bind (wpAny_alloc (wpAny_bind (wpAny_update hx1 ?_)))
 refine wpAny_pure (a:=some s.heap.objs.size) ?_
 have hgd:((s.heap.push { cls:=.type "dict",data:=.dict #[] }).update x fun o=>{ o with dict:=some s.heap.objs.size }).get? s.heap.objs.size=some { cls:=.type "dict",data:=.dict #[] } :=
  (Heap.get?_update_ne _ _ _ _ hxs.symm).trans (Heap.get?_push_at rfl rfl)
 have hnd:((s.heap.push { cls:=.type "dict",data:=.dict #[] }).update x fun o=>{ o with dict:=some s.heap.objs.size }).Ns s.heap.objs.size (fun _=>none) :=
  ⟨_,#[],_,hgd,rfl,fun e he=>absurd he (by simp),fun _=>rfl⟩
 show wpAny _ _ (storeInDict s.heap.objs.size (.str name s.toks) name v) _ _ _
 unfold storeInDict newKeyGuard
 refine wpAny_bind (wpAny_pure (wpAny_bind (wpAny_nsSet1 (Heap.Ns1.of_empty hnd) fun h' hn' hs'=>?_)))
 obtain ⟨oD,esD,epD,hoD,hdD,hcD⟩:=hn'.count (Within.cons name v Within.nil)
 refine wpAny_bind (wpAny_lookBehind hoD (by rw [hdD]; exact pastItsLine_dict (Nat.le_trans hcD (by rw [List.length_cons,List.length_nil,sizeLine_eq]; omega))) ?_)
 refine wpAny_pure (h h' _ ?_ hn' fun b o hb q=>?_)
 ·exact (hs'.2 x hxs).trans (Heap.get?_update_self _ hx1 rfl)
 ·exact (hs'.2 b (Nat.ne_of_lt (Heap.lt_size q))).trans ((Heap.get?_update_ne _ _ _ _ hb).trans (Heap.get?_push_of_some _ q))
theorem qmo {vs:Array Value} {sl:Array (Option Value)} {dx:Addr} {mA:Str->Option Value} {ns:List Str} {Q:Unit->Shared->Prop} (X:K.In s.heap) (hx:s.heap.get? x=some ⟨.ref C,some dx,.fields vs,sl⟩) (hn:s.heap.Ns1 dx mA)
  (hw:PySem.Within mA ns) (hsz:ns.length<=1000) (hc:clsIn K C=some cd) (hp:QD cd.mro=true) (hd:cd.hasDict=true)
  (hs:findIn K (.ref C) "__setattr__" = some (some (.builtin "object.__setattr__"))) (ht:findIn K (.ref C) name=some none)
  (h:∀ h' tk,h'.Ns1 dx (fun y=>if y=name then some v else mA y)->Heap.SameBut dx s.heap h'->Q () { s with heap:=h',toks:=tk }) :
  wpAny (model prog w) A (setAttr (.ref x) name v) Q E s:=by
 obtain ⟨od,eod⟩:∃ od,s.heap.get? dx=some od:=let ⟨o,_,_,e,_⟩:=hn; ⟨o,e⟩
 have I:InstAt s.heap x ⟨.ref C,some dx,.fields vs,sl⟩ C (some od):=⟨hx,rfl,rfl,eod⟩
 refine PySem.W.set_plain X I hs (qk9 (s:={ s with toks:=s.toks+1 }) X I hc hp ht ?_)
 have L:=looks_clsIn (M:=model prog w) X hc
 unfold storeInOwnDict
 have e1:ownStreamTells (.ref x) (.ref C)=pure ():=rfl
 rw [e1]
 refine wpAny_bind (wpAny_pure ?_)
 rw [if_neg (show ¬ ((Value.ref C == Value.type "module")=true) by simp)]
 refine wpAny_bind ?_
 show wpAny _ _ (instanceDict x true) _ _ _
 unfold instanceDict
 refine wpAny_bind (wpAny_loadPart (s:={ s with toks:=s.toks+1 }) hx ?_)
 dsimp only
 refine wpAny_bind (L.here (s:={ s with toks:=s.toks+1 }) ?_)
 rw [hd]
 refine wpAny_pure (a:=some dx) ?_
 show wpAny _ _ (storeInDict dx (.str name s.toks) name v) _ _ _
 unfold storeInDict newKeyGuard
 refine wpAny_bind (wpAny_pure (wpAny_bind (wpAny_nsSet1 (s:={ s with toks:=s.toks+1 }) hn fun h' hn' hs'=>?_)))
 obtain ⟨oD,esD,epD,hoD,hdD,hcD⟩:=hn'.count (Within.cons name v hw)
 refine wpAny_bind (wpAny_lookBehind hoD (by rw [hdD]; exact pastItsLine_dict (Nat.le_trans hcD (by rw [List.length_cons,sizeLine_eq]; omega))) ?_)
 exact wpAny_pure (h h' _ hn' hs')
theorem qlx:builtinKind "BaseException.__getattribute__" = some .slot:=by decide +kernel
theorem qj3:splitId "BaseException.__getattribute__" = some ("BaseException","__getattribute__"):=by decide +kernel
theorem qj4:plainId "BaseException.__getattribute__" = true:=by decide +kernel
theorem qly (self:Value):bindSpecial (.builtin "BaseException.__getattribute__") self=pure (.builtin "BaseException.__getattribute__",[self]):=PySem.F.excAttr_ValueError.ga.bind self
theorem qnv {expr:Bool} {Q:Value->Shared->Prop} (X:K.In s.heap) (I:InstAt s.heap x ox C od) (hga:findIn K (.ref C) "__getattribute__" = some (some (.builtin "BaseException.__getattribute__")))
  (hk:findIn K (.ref C) "__getattr__" = some none) (hsub:mroIn K C (.type "BaseException")=some true) (hf:findObj K C od name=some (.value v)) (hh:handedIn v=true) (h:Q v { s with toks:=s.toks+1 }) :
  wpAny (model prog w) A (getAttr (.ref x) name expr) Q E s:=by
 obtain ⟨hp,g,d,t,os⟩:=s
 have L0:=I.type (M:=model prog w)
 have L1:=looks_findIn (M:=model prog w) X hga
 have L2:=looks_findIn (M:=model prog w) X hk
 have L3:=PySem.W.looks_find (M:=model prog w) X I hf
 have L4:Looks (model prog w) hp (isInstance (.ref x) (.type "BaseException")) true:=L0.andThen (looks_mroIn X hsub)
 unfold getAttr getAttrBy
 refine wpAny_bind (wpAny_mkText (wpAny_holding (wpAny_bind (L0.at (wpAny_bind (L1.at ?_))))))
 show wpAny _ _ (getAttrByItsOwn _ _ _ _ _ _) _ _ _
 unfold getAttrByItsOwn hookBefore
 refine wpAny_bind (L2.at ?_)
 refine wpAny_bind (wpAny_attempt (wpAny_holding ?_))
 have e0:(expr&&onTheHeap (Value.builtin "BaseException.__getattribute__"))=false:=by cases expr <;> rfl
 unfold callGetattribute
 rw [e0]
 show wpAny _ _ (boundAndCalled _ _ _) _ _ _
 unfold boundAndCalled
 rw [qly]
 refine wpAny_bind (wpAny_pure (wpAny_call ?_))
 refine codeAny_call_builtin qj4 PySem.F.entry_bexc_ga (@PySem.W.check_slot (model prog w) _ _ ⟨hp,g,d,t+1,os⟩ "BaseException.__getattribute__" "BaseException" "__getattribute__" (.ref x) [.str name t] [] _ qlx qj3 L4 (PySem.F.args_bexc_ga _ _) ?_)
 unfold Builtin.«object.__getattribute__»
 refine wpAny_bind (wpAny_pure (wpAny_bind (wpAny_pure (wpAny_bind (L0.at (wpAny_bind (L3.at ?_)))))))
 refine wpAny_pure ?_
 show wpAny _ _ (handedOut v) _ _ _
 rw [PySem.W.handedOut_of hh]
 exact wpAny_pure h
end
end LX
end
section
namespace L2
open PySem PySem.Spec PyProof.Rows
abbrev Key:=Sum Int Str
def Je:Key->Value->Bool
 | .inl k,v=>Value.isInt k v
 | .inr x,v=>Value.isStrOf x v
def qj5 (w:World):Key->Int
 | .inl k=>hashInt k
 | .inr x=>hashStr w x
theorem js:∀ {k:Key} {v:Value},Je k v=true->(∃ i t,k=Sum.inl i/\v=Value.int i t) \/ (∃ x t,k=Sum.inr x/\v=Value.str x t)
 | .inl i,v,h=>by
  obtain ⟨t,e⟩:=Value.isInt_shape (k:=i) (v:=v) h
  exact .inl ⟨i,t,rfl,e⟩
 | .inr x,v,h=>by
  obtain ⟨t,e⟩:=Value.isStrOf_shape (x:=x) (v:=v) h
  exact .inr ⟨x,t,rfl,e⟩
theorem qix (i:Int) (t:Tok):Je (.inl i) (.int i t)=true:=by simp [Je,Value.isInt]
theorem qiy (x:Str) (t:Tok):Je (.inr x) (.str x t)=true:=by simp [Je,Value.isStrOf]
theorem qmp (a b:Int):decide ((Sum.inl a:Key)=Sum.inl b)=(a == b):=by
 by_cases e:a=b
 ·subst e; simp
 ·have h:¬ (Sum.inl a:Key)=Sum.inl b:=fun q=>e (Sum.inl.inj q)
  rw [decide_eq_false h]
  exact (beq_eq_false_iff_ne.mpr e).symm
theorem qmq (a b:Str):decide ((Sum.inr a:Key)=Sum.inr b)=decide (a=b):=by
 by_cases e:a=b
 ·subst e; simp
 ·have h:¬ (Sum.inr a:Key)=Sum.inr b:=fun q=>e (Sum.inr.inj q)
  rw [decide_eq_false h,decide_eq_false e]
theorem qmr (a:Int) (b:Str):decide ((Sum.inl a:Key)=Sum.inr b)=false:=decide_eq_false (fun q=>nomatch q)
theorem qms (a:Str) (b:Int):decide ((Sum.inr a:Key)=Sum.inl b)=false:=decide_eq_false (fun q=>nomatch q)
def zU (prog:Program) (w:World):PySem.KeyKind prog w Key where
 is:=Je
 hash:=qj5 w
 inj:=fun v a b ha hb=>by
  rcases js ha with ⟨i,t,rfl,rfl⟩ | ⟨x,t,rfl,rfl⟩
  ·rcases js hb with ⟨j,u,rfl,e⟩ | ⟨y,u,rfl,e⟩
   ·injection e with e1 _; rw [e1]
   ·exact nomatch e
  ·rcases js hb with ⟨j,u,rfl,e⟩ | ⟨y,u,rfl,e⟩
   ·exact nomatch e
   ·injection e with e1 _; rw [e1]
 byValue:=fun k v h=>by
  rcases js h with ⟨i,t,rfl,rfl⟩ | ⟨x,t,rfl,rfl⟩ <;> rfl
 pyHash:=fun hv h=>by
  rcases js hv with ⟨i,t,rfl,rfl⟩ | ⟨x,t,rfl,rfl⟩
  ·exact wpAny_pyHash_int h
  ·exact wpAny_pyHash_str h
 eqBool:=fun hu hv h=>by
  rcases js hu with ⟨i,t,rfl,rfl⟩ | ⟨x,t,rfl,rfl⟩
  ·rcases js hv with ⟨j,u,rfl,rfl⟩ | ⟨y,u,rfl,rfl⟩
   ·rw [qmp] at h; exact wpAny_eqBool_int h
   ·rw [qmr] at h; exact SeqAt.EqAt.int_str i t y u _ _ _ _ h
  ·rcases js hv with ⟨j,u,rfl,rfl⟩ | ⟨y,u,rfl,rfl⟩
   ·rw [qms] at h; exact SeqAt.EqAt.str_int x t j u _ _ _ _ h
   ·rw [qmq] at h; exact wpAny_eqBool_str h
 «strs»:=fun k x t v h=>by
  rcases js h with ⟨i,u,rfl,e⟩ | ⟨y,u,rfl,e⟩
  ·exact nomatch e
  ·injection e with e1 _
   subst e1
   cases v <;> rfl
theorem qgp (prog:Program) (w:World) (i:Int) (t:Tok):(zU prog w).is (.inl i) (.int i t)=true:=qix i t
theorem qgq (prog:Program) (w:World) (x:Str) (t:Tok):(zU prog w).is (.inr x) (.str x t)=true:=qiy x t
end L2
namespace L2
open PySem PySem.Spec PyProof.Rows
inductive V where
 | non | bl (b:Bool) | int (i:Int) | str (x:Str) | byt (b:Array UInt8) | flt (b:UInt64) | ref (a:Addr) | ty (n:String)
 deriving DecidableEq
def RelV:V->Value->Prop
 | .non,u=>u=Value.none
 | .bl b,u=>u=Value.bool b
 | .int i,u=>∃ t,u=Value.int i t
 | .str x,u=>∃ t,u=Value.str x t
 | .byt b,u=>∃ t,u=Value.bytes b t
 | .flt b,u=>∃ t,u=Value.float b t
 | .ref a,u=>u=Value.ref a
 | .ty n,u=>u=Value.type n
abbrev qD:List V->List Value->Prop:=Paired RelV
theorem qD.length {xs:List V} {us:List Value} (r:qD xs us):xs.length=us.length:=Paired.length r
theorem qD.get:∀ {xs:List V} {us:List Value} {i:Nat} {x:V},qD xs us->xs[i]? = some x->∃ u,us[i]? = some u/\RelV x u
 | _,_,_,_,.nil,e=>by simp at e
 | _,_,0,_,.cons r _,e=>by simp at e; subst e; exact ⟨_,rfl,r⟩
 | _,_,i+1,x,.cons _ t,e=>by
  obtain ⟨u,h1,h2⟩:=qD.get (i:=i) (x:=x) t (by simpa using e)
  exact ⟨u,by simpa using h1,h2⟩
theorem qD.append:∀ {xs ys:List V} {us ws:List Value},qD xs us->qD ys ws->qD (xs++ys) (us++ws)
 | _,_,_,_,.nil,s=>s
 | _,_,_,_,.cons r t,s=>.cons r (qD.append t s)
theorem qD.take:∀ {xs:List V} {us:List Value} (n:Nat),qD xs us->qD (xs.take n) (us.take n)
 | _,_,0,_=>.nil
 | _,_,_+1,.nil=>.nil
 | _,_,n+1,.cons r t=>.cons r (qD.take n t)
theorem qD.drop:∀ {xs:List V} {us:List Value} (n:Nat),qD xs us->qD (xs.drop n) (us.drop n)
 | _,_,0,r=>r
 | _,_,_+1,.nil=>.nil
 | _,_,n+1,.cons _ t=>qD.drop n t
def jO:Option V->Option Value->Prop
 | some v,some u=>RelV v u
 | none,none=>True
 | _,_=>False
def KV {κ : Type}:List (κ × V)->List (κ × Value)->Prop:=Paired fun (p:κ × V) (q:κ × Value)=>p.1=q.1/\RelV p.2 q.2
def kV:Key->V
 | .inl i=>.int i
 | .inr x=>.str x
inductive HO where
 | lst (xs:List V)
 | tup (xs:List V)
 | dK (kvs:List (Key × V)) | dT (kvs:List (List Key × V))
 | set (S:Int->Bool) (n:Nat)
 | ins (C dx:Addr) (fs:List (Str × V))
 | own (x:Addr)
 | xd (fs:List (Str × V))
 | met (f x:Addr)
 | rng (lo hi:Int)
 | frz (o:Obj) (u:HO)
 | tbl (ps:Array Value)
 | ext (φ : Heap->Prop)
abbrev Hp:=Addr->Option HO
def upd (H:Hp) (a:Addr) (o:HO):Hp:=fun b=>if b=a then some o else H b
theorem qc {H:Hp} {a:Addr} {o:HO}:upd H a o a=some o:=by unfold upd; rw [if_pos rfl]
theorem qd {H:Hp} {a b:Addr} {o:HO} (h:b≠a):upd H a o b=H b:=by unfold upd; rw [if_neg h]
theorem jI {H:Hp} {a:Addr} {o u:HO}:upd (upd H a o) a u=upd H a u:=by
 funext b; unfold upd; split <;> rfl
theorem qbV {H:Hp} {a b:Addr} {o u:HO} (h:H a=some o) (h':H b=some u) (d:o≠u):a≠b:=by
 intro e; subst e; rw [h] at h'; exact d (Option.some.inj h')
theorem qg {H:Hp} {a b:Addr} {o:HO} (h:H a=some o) (h':H b=none):a≠b:=by
 intro e; subst e; rw [h] at h'; cases h'
section
variable (P:Program) (w:World)
def zk (H:Hp) (h:Heap) (a:Addr):HO->Prop
 | .lst xs=>xs.length<=sizeLine/\∃ (its:List Value) (n:Nat),qD xs its/\h.get? a=some { cls:=.type "list",data:=.seq its.toArray n }
 | .tup xs=>xs.length<=sizeLine/\∃ its:List Value,qD xs its/\IsTup h a its.toArray
 | .dK kvs=>kvs.length<=sizeLine/\(a == sysModules)=false/\∃ vs,KV kvs vs/\h.DictOf (zU P w) a vs
 | .dT kvs=>kvs.length<=sizeLine/\(a == sysModules)=false/\∃ xs:List (List Key × Addr × Value),
   Paired (fun (p:List Key × V) (q:List Key × Addr × Value)=>p.1=q.1/\H q.2.1=some (.tup (p.1.map kV))/\RelV p.2 q.2.2) kvs xs /\
   ∃ o es ep,h.get? a=some o/\o.ExactDict/\o.data=.dict es ep/\es.toList=xs.map (entryOfKey (tupleKind (zU P w)))/\(xs.map (·.1)).Nodup
 | .set S n=>h.SetOf (intKind P w) a S n
 | .ins C dx fs=>H dx=some (.own a)/\fs.length<=1000/\dx≠a/\h.get? a=some (PySem.W.instObj C dx) /\
   ∃ mA,h.Ns1 dx mA/\(∀ f,jO (fs.lookup f) (mA f))/\PySem.Within mA (fs.map (·.1))
 | .own _=>∃ o,h.get? a=some o
 | .xd fs=>∃ mA,h.Ns1 a mA/\∀ f,jO (fs.lookup f) (mA f)
 | .rng lo hi=>∃ t u v,h.get? a=some { cls:=.type "range",data:=.fields #[.int lo t,.int hi u,.int 1 v] }
 | .frz o u=>h.get? a=some o/\zk H h a u
 | .tbl ps=>h.get? a=some { cls:=.none,data:=.fields ps }
 | .met f x=>h.get? a=some (PySem.W.methodObj (.ref f) (.ref x))
 | .ext φ=>φ h/\(∃ o,h.get? a=some o)/\∀ h1 h2:Heap,φ h1->(∀ o,h1.get? a=some o->h2.get? a=some o) -> φ h2
def HOk (H:Hp) (h:Heap):Prop:=∀ a o,H a=some o->zk P w H h a o
end
section
variable {P:Program} {w:World} {H H':Hp} {h h':Heap} {a:Addr} {o:HO}
theorem zk.lt (x:zk P w H h a o):a<h.objs.size:=by
 cases o with
 | lst xs=>obtain ⟨_,_,_,_,e⟩:=x; exact Heap.lt_size e
 | tup xs=>obtain ⟨_,_,_,p⟩:=x; exact p.lt
 | dK kvs=>obtain ⟨_,_,_,_,o,_,_,e,_⟩:=x; exact Heap.lt_size e
 | dT kvs=>obtain ⟨_,_,_,_,o,_,_,e,_⟩:=x; exact Heap.lt_size e
 | set S n=>obtain ⟨o,_,_,_,e,_⟩:=x; exact Heap.lt_size e
 | ins C dx fs=>obtain ⟨_,_,_,e,_⟩:=x; exact Heap.lt_size e
 | own y=>obtain ⟨_,e⟩:=x; exact Heap.lt_size e
 | xd fs=>obtain ⟨_,⟨_,_,_,e,_⟩,_⟩:=x; exact Heap.lt_size e
 | rng lo hi=>obtain ⟨_,_,_,e⟩:=x; exact Heap.lt_size e
 | frz ob u=>obtain ⟨e,_⟩:=x; exact Heap.lt_size e
 | tbl ps=>exact Heap.lt_size (show h.get? a=some _ from x)
 | met f y=>exact Heap.lt_size (show h.get? a=some _ from x)
 | ext φ=>obtain ⟨_,⟨_,e⟩,_⟩:=x; exact Heap.lt_size e
theorem Paired.mapP {α β : Type} {F G:α -> β -> Prop}:∀ {l₁ : List α} {l₂ : List β},Paired F l₁ l₂ -> (∀ a b,F a b->G a b)->Paired G l₁ l₂
 | _,_,.nil,_=>.nil
 | _,_,.cons r t,f=>.cons (f _ _ r) (Paired.mapP t f)
theorem zk.stay (x:zk P w H h a o) (k:∀ b u,(b=a \/ H b=some (.own a))->h.get? b=some u->h'.get? b=some u)
  (ho:∀ b,H b=some (.own a)->H' b=some (.own a)) (ht:∀ b xs,H b=some (.tup xs)->H' b=some (.tup xs)):zk P w H' h' a o:=by
 induction o with
 | lst xs=>obtain ⟨z,its,n,r,e⟩:=x; exact ⟨z,its,n,r,k _ _ (.inl rfl) e⟩
 | tup xs=>obtain ⟨z,its,r,ob,e,c⟩:=x; exact ⟨z,its,r,ob,k _ _ (.inl rfl) e,c⟩
 | dK kvs=>obtain ⟨z,y,vs,r,ob,es,ep,e,c⟩:=x; exact ⟨z,y,vs,r,ob,es,ep,k _ _ (.inl rfl) e,c⟩
 | dT kvs=>
  obtain ⟨z,y,xs,r,ob,es,ep,e,c⟩:=x
  exact ⟨z,y,xs,Paired.mapP r fun p q z=>⟨z.1,ht _ _ z.2.1,z.2.2⟩,ob,es,ep,k _ _ (.inl rfl) e,c⟩
 | set S n=>obtain ⟨ob,es,ep,t,e,c⟩:=x; exact ⟨ob,es,ep,t,k _ _ (.inl rfl) e,c⟩
 | ins C dx fs=>
  obtain ⟨d,z,ne,e,mA,⟨od,es,ep,e2,c⟩,r⟩:=x
  exact ⟨ho _ d,z,ne,k _ _ (.inl rfl) e,mA,⟨od,es,ep,k _ _ (.inr d) e2,c⟩,r⟩
 | own y=>obtain ⟨ob,e⟩:=x; exact ⟨ob,k _ _ (.inl rfl) e⟩
 | xd fs=>obtain ⟨mA,⟨od,es,ep,e,c⟩,r⟩:=x; exact ⟨mA,⟨od,es,ep,k _ _ (.inl rfl) e,c⟩,r⟩
 | rng lo hi=>obtain ⟨t,u,v,e⟩:=x; exact ⟨t,u,v,k _ _ (.inl rfl) e⟩
 | frz ob u ih=>obtain ⟨e,q⟩:=x; exact ⟨k _ _ (.inl rfl) e,ih q⟩
 | tbl ps=>
  have e:h.get? a=some { cls:=.none,data:=.fields ps }:=x
  show h'.get? a=some { cls:=.none,data:=.fields ps }
  exact k a _ (.inl rfl) e
 | met f y=>
  have e:h.get? a=some (PySem.W.methodObj (.ref f) (.ref y)):=x
  show h'.get? a=some (PySem.W.methodObj (.ref f) (.ref y))
  exact k a _ (.inl rfl) e
 | ext φ=>obtain ⟨p,⟨o,e⟩,st⟩:=x; exact ⟨st _ _ p fun o q=>k _ _ (.inl rfl) q,⟨o,k _ _ (.inl rfl) e⟩,st⟩
theorem HOk.lt (x:HOk P w H h) (e:H a=some o):a<h.objs.size:=(x a o e).lt
theorem HOk.fresh (x:HOk P w H h) (e:h.objs.size<=a):H a=none:=by
 cases q:H a with
 | none=>rfl
 | some u=>exact absurd (Nat.lt_of_lt_of_le (x.lt q) e) (Nat.lt_irrefl _)
theorem HOk.kept (x:HOk P w H h) (k:∀ b u,h.get? b=some u->h'.get? b=some u):HOk P w H h':=fun a o e=>
 (x a o e).stay (fun b u _ q=>k b u q) (fun _ q=>q) fun _ _ q=>q
theorem HOk.laid (x:HOk P w H h) (k:∀ b u,h.get? b=some u->h'.get? b=some u) (hp:h.objs.size<=a) (new:zk P w (upd H a o) h' a o):HOk P w (upd H a o) h':=fun b u e=>by
 have hn:=x.fresh hp
 by_cases hb:b=a
 ·subst hb; rw [qc] at e; cases e; exact new
 ·rw [qd hb] at e
  exact (x b u e).stay (fun c v _ q=>k c v q) (fun c q=>by rw [qd (qg q hn)]; exact q) fun c xs q=>by rw [qd (qg q hn)]; exact q
end
def Rd (H:Hp) (a:Addr) (u:HO):Prop:=H a=some u \/ ∃ o,H a=some (.frz o u)
theorem Rd.ok {P:Program} {w:World} {H:Hp} {h:Heap} {a:Addr} {u:HO} (r:Rd H a u) (x:HOk P w H h):zk P w H h a u:=by
 rcases r with r | ⟨o,r⟩
 ·exact x a u r
 ·obtain ⟨_,q⟩:=x a _ r
  exact q
def Mut:Option HO->Prop
 | some (.lst _)=>True
 | some (.dK _)=>True
 | some (.dT _)=>True
 | some (.set _ _)=>True
 | some (.ins _ _ _)=>True
 | some (.ext _)=>True
 | _=>False
section
variable {P:Program} {w:World} {H:Hp} {h h':Heap} {x e:Addr} {o':HO}
theorem HOk.write (ok:HOk P w H h) (mu:Mut (H x)) (he:e=x \/ H e=some (.own x)) (k:∀ b u,b≠e->h.get? b=some u->h'.get? b=some u) (heo:∃ u,h'.get? e=some u)
  (new:zk P w (upd H x o') h' x o'):HOk P w (upd H x o') h':=fun b u q=>by
 have nown:∀ c y,H c=some (.own y)->c≠x:=fun c y r z=>by subst z; rw [r] at mu; exact mu
 have ntup:∀ c xs,H c=some (.tup xs)->c≠x:=fun c xs r z=>by subst z; rw [r] at mu; exact mu
 by_cases hb:b=x
 ·subst hb; rw [qc] at q; cases q; exact new
 ·rw [qd hb] at q
  by_cases hbe:b=e
  ·have q':H b=some (.own x):=by
    rcases he with z | z
    ·exact absurd (hbe.trans z) hb
    ·rw [hbe]; exact z
   rw [q] at q'; cases q'
   obtain ⟨v,hv⟩:=heo
   exact ⟨v,by rw [hbe]; exact hv⟩
  ·refine (ok b u q).stay (fun c v hc r=>k c v ?_ r) (fun c r=>by rw [qd (nown c b r)]; exact r) fun c xs r=>by rw [qd (ntup c xs r)]; exact r
   rcases hc with rfl | hc
   ·exact hbe
   ·rintro rfl
    rcases he with z | z
    ·exact nown c b hc z
    ·rw [hc] at z; cases z; exact hb rfl
end
structure Un (fs ex:List Addr) (H H':Hp) (h h':Heap):Prop where
 keep:∀ b o,h.get? b=some o->H b=none->b∉fs->b∉ex->h'.get? b=some o
 slot:∀ b o,h.get? b=some o->H b=none->b∈fs->b∉ex->∃ sl,h'.get? b=some { o with slots:=sl }
 free:∀ b o,h.get? b=some o->H b=none->b∉ex->H' b=none
 there:∀ b o,h.get? b=some o->b∉ex->∃ o',h'.get? b=some o'
 tups:∀ b xs,H b=some (.tup xs)->H' b=some (.tup xs)
 frzs:∀ b o u,H b=some (.frz o u)->H' b=some (.frz o u)
 tbls:∀ b ps,H b=some (.tbl ps)->∃ more,H' b=some (.tbl (ps++more))
section
variable {fs fs' ex ex':List Addr} {H H1 H2:Hp} {h h1 h2 h':Heap} {a x e:Addr} {o:HO}
theorem Un.any (u:Un fs ex H H1 h h1) {b:Addr} {ob:Obj} (q:h.get? b=some ob) (n:H b=none) (hx:b∉ex):∃ sl,h1.get? b=some { ob with slots:=sl }:=by
 by_cases hb:b∈fs
 ·exact u.slot b ob q n hb hx
 ·exact ⟨ob.slots,u.keep b ob q n hb hx⟩
theorem Un.kept (k:∀ b u,h.get? b=some u->h'.get? b=some u):Un fs ex H H h h' :=
 ⟨fun b ob q _ _ _=>k b ob q,fun b ob q _ _ _=>⟨ob.slots,k b ob q⟩,fun _ _ _ n _=>n,fun b ob q _=>⟨ob,k b ob q⟩,fun _ _ q=>q,fun _ _ _ q=>q,fun _ ps q=>⟨#[],by rw [q]; simp⟩⟩
theorem Un.refl:Un fs ex H H h h:=Un.kept fun _ _ q=>q
theorem Un.laid (k:∀ b u,h.get? b=some u->h'.get? b=some u) (hp:h.objs.size<=a) (hn:H a=none):Un fs ex H (upd H a o) h h' where
 keep:=fun b u q _ _ _=>k b u q
 slot:=fun b u q _ _ _=>⟨u.slots,k b u q⟩
 free:=fun b u q n _=>by rw [qd (Nat.ne_of_lt (Nat.lt_of_lt_of_le (Heap.lt_size q) hp))]; exact n
 there:=fun b u q _=>⟨u,k b u q⟩
 tups:=fun b xs q=>by rw [qd (qg q hn)]; exact q
 frzs:=fun b u xs q=>by rw [qd (qg q hn)]; exact q
 tbls:=fun b ps q=>⟨#[],by rw [qd (qg q hn),q]; simp⟩
theorem Un.write (mu:Mut (H x)) (he:e=x \/ H e=some (.own x)) (k:∀ b u,b≠e->h.get? b=some u->h'.get? b=some u) (heo:∃ u,h'.get? e=some u):Un fs ex H (upd H x o) h h':=by
 have hx:∀ b,H b=none->b≠x:=fun b n z=>by subst z; rw [n] at mu; exact mu
 have hb:∀ b,H b=none->b≠e:=fun b n z=>by
  subst z
  rcases he with r | r
  ·exact hx b n r
  ·rw [n] at r; cases r
 have hm:∀ b u,H b=some u->¬ Mut (some u)->b≠x:=fun b u q nm z=>by subst z; rw [q] at mu; exact nm mu
 refine ⟨fun b u q n _ _=>k b u (hb b n) q,fun b u q n _ _=>⟨u.slots,k b u (hb b n) q⟩,fun b u q n _=>by rw [qd (hx b n)]; exact n,fun b u q _=>?_,
  fun b xs q=>by rw [qd (hm b _ q fun z=>z)]; exact q,fun b u xs q=>by rw [qd (hm b _ q fun z=>z)]; exact q,fun b ps q=>⟨#[],by rw [qd (hm b _ q fun z=>z),q]; simp⟩⟩
 by_cases hbe:b=e
 ·subst hbe; exact heo
 ·exact ⟨u,k b u hbe q⟩
end
def trk (h:Heap) (H:Hp):List Addr:=(List.range h.objs.size).filter fun a=>(H a).isSome
def qav (h:Heap) (H:Hp):Heap:=PySem.W.hideAll h (trk h H)
theorem qiz (h:Heap) (H:Hp):(qav h H).objs.size=h.objs.size:=PySem.W.hideAll_size _ _
theorem qj6 {h:Heap} {H:Hp} {b:Addr} {o:Obj} (e:h.get? b=some o) (n:H b=none):(qav h H).get? b=some o :=
 PySem.W.hideAll_get _ e fun hm=>by
  have q:(H b).isSome=true:=(List.mem_filter.mp hm).2
  rw [n] at q; simp at q
theorem qlz {h:Heap} {H:Hp} {b:Addr} {o:Obj} (e:(qav h H).get? b=some o):h.get? b=some o/\H b=none:=by
 have e':h.get? b=some o:=PySem.W.of_hideAll (trk h H) e
 refine ⟨e',?_⟩
 cases q:H b with
 | none=>rfl
 | some x=>
  have hm:b∈trk h H:=List.mem_filter.mpr ⟨List.mem_range.mpr (Heap.lt_size e'),by simp [q]⟩
  have z:(qav h H).get? b=none:=PySem.W.hideAll_none (trk h H) hm
  rw [z] at e; cases e
end L2
namespace L2
open PySem PySem.Spec PyProof.Rows
structure Mod (K:PySem.W.Frag) (mg:Str->Option Value) (base:Heap):Prop where
 kin:K.In base
 glob:base.Ns mainGlobals mg
 blt:∃ mb,base.Ns builtinsNs mb/\∀ x:Str,x ≠ "__name__" -> mb x=bootBuiltins x
 nolimit:base.NoLimit
structure Cx where
 prog:Program
 w:World
 K:PySem.W.Frag
 mg:Str->Option Value
 base:Heap
 A:Around
 N:List Str
 s_0:Shared
 H_0:Hp
 env:Env
 outer:List Env
 stack:List Env
 ex:List Addr
 fn:Str->Bool
 calm:Bool
 pn:List (Addr × Obj)
 xe:Value->Shared->Prop
def frs (l:List Env):List Addr:=l.filterMap (·.frame)
abbrev Cx.fs (X:Cx):List Addr:=frs X.outer
def Vis (sc:Scope) (x:Str):Prop:=sc.names.lookup x=some .local \/ sc.names.lookup x=some .cell \/ sc.names.lookup x=some .free
def Loc (sc:Scope) (x:Str):Prop:=sc.names.lookup x=some .local \/ sc.names.lookup x=some .cell
def Look (env:Env) (h:Heap) (m:Str->Option Value) (x:Str) (u:Value):Prop :=
 (env.kindOf x=some .local/\m x=some u) \/ ((env.kindOf x=some .cell \/ env.kindOf x=some .free)/\∃ c,env.cells.lookup x=some c/\h.IsCell c (some u))
structure Cx.Ok (X:Cx):Prop where
 mod:Mod X.K X.mg X.base
 kind:X.env.scope.kind=.function
 glob:X.env.globals=mainGlobals
 blt:X.env.builtins=builtinsNs
 above:X.s_0.heap.objs.size<=X.env.locals
 inj:∀ x y c,X.env.cells.lookup x=some c->X.env.cells.lookup y=some c->x=y
 has:∀ x,(X.env.kindOf x=some .cell \/ X.env.kindOf x=some .free)->∃ c,X.env.cells.lookup x=some c
 cab:∀ x c,X.fn x=true->X.env.cells.lookup x=some c->X.s_0.heap.objs.size<=c
 hd:X.calm=true->X.A.handled=none
 frames:X.A.frames=some X.stack
 stk:X.stack=X.outer \/ (X.stack=X.env::X.outer/\X.env.frame=some X.env.locals)
 exf:∀ b∈X.ex,b≠X.env.locals/\∀ x c,X.env.cells.lookup x=some c->c≠b
 bs:∀ b o,X.base.get? b=some o->X.s_0.heap.get? b=some o/\X.H_0 b=none
 bsz:X.base.objs.size<=X.s_0.heap.objs.size
 noex:∀ b o,X.base.get? b=some o->b∉X.ex
 exfs:∀ b∈X.ex,b∉X.fs
 funs:X.s_0.heap.FunFrames X.base X.outer
 frf:∀ b∈X.fs,X.H_0 b=none
structure Inv (X:Cx) (pins:List (Addr × Obj)) (σ : List (Option V)) (H:Hp) (s:Shared):Prop where
 ok:X.Ok
 os:s.os=X.s_0.os
 bare:AllBare s.gens
 base:Un X.fs X.ex X.H_0 H X.s_0.heap s.heap
 loc:∃ m,s.heap.Ns X.env.locals m/\∀ (i:Nat) (x:Str) (v:V),X.N[i]? = some x -> σ[i]? = some (some v)->Vis X.env.scope x->∃ u,RelV v u/\Look X.env s.heap m x u
 cell:∀ x c,X.env.cells.lookup x=some c->∃ v,s.heap.IsCell c v
 free:H X.env.locals=none
 freeC:∀ x c,X.env.cells.lookup x=some c->H c=none
 pin:∀ p∈X.pn++pins,s.heap.get? p.1=some p.2/\H p.1=none/\p.1≠X.env.locals/\p.1∉X.fs/\∀ v,p.2.data≠.cell v
 hok:HOk X.prog X.w H s.heap
 len:σ.length=X.N.length
section
variable {X:Cx} {pins:List (Addr × Obj)} {σ : List (Option V)} {H H':Hp} {s:Shared} {h':Heap}
theorem Cx.Ok.nofr (ok:X.Ok) {b:Addr} {o:Obj} (e:X.base.get? b=some o):b∉X.fs:=fun hb=>by
 have:=(ok.funs.mem hb).1
 rw [e] at this; cases this
theorem Inv.bs (I:Inv X pins σ H s):∀ b o,X.base.get? b=some o->s.heap.get? b=some o/\H b=none:=fun b o e=>
 ⟨I.base.keep b o (I.ok.bs b o e).1 (I.ok.bs b o e).2 (I.ok.nofr e) (I.ok.noex b o e),I.base.free b o (I.ok.bs b o e).1 (I.ok.bs b o e).2 (I.ok.noex b o e)⟩
theorem Inv.bk (I:Inv X pins σ H s):∀ b o,X.base.get? b=some o->s.heap.get? b=some o:=fun b o e=>(I.bs b o e).1
theorem Inv.mod (I:Inv X pins σ H s):Mod X.K X.mg X.base:=I.ok.mod
theorem Inv.kIn (I:Inv X pins σ H s):X.K.In s.heap:=I.ok.mod.kin.keeps I.bk
theorem Inv.lt (I:Inv X pins σ H s):X.env.locals<s.heap.objs.size:=let ⟨_,hn,_⟩:=I.loc; hn.lt
theorem Inv.sz (I:Inv X pins σ H s):X.s_0.heap.objs.size<=s.heap.objs.size:=Nat.le_trans I.ok.above (Nat.le_of_lt I.lt)
theorem Inv.nofs (I:Inv X pins σ H s) {a:Addr} (h:s.heap.objs.size<=a):a∉X.fs:=fun hb=>by
 obtain ⟨_,o,ho,_⟩:=I.ok.funs.mem hb
 exact absurd (Nat.lt_of_lt_of_le (Heap.lt_size ho) (Nat.le_trans I.sz h)) (Nat.lt_irrefl _)
theorem Inv.cne (I:Inv X pins σ H s):∀ x c,X.env.cells.lookup x=some c->c≠X.env.locals:=fun x c e z=>by
 obtain ⟨v,o,ho,hd⟩:=I.cell x c e
 obtain ⟨m,⟨o',es,ep,ho',hd',_⟩,_⟩:=I.loc
 rw [z,ho'] at ho; cases ho; rw [hd'] at hd; cases hd
theorem Inv.funs (I:Inv X pins σ H s):s.heap.FunFrames X.base X.outer:=by
 have all:∀ (l:List Env),(∀ b∈frs l,b∈X.fs)->X.s_0.heap.FunFrames X.base l->s.heap.FunFrames X.base l:=by
  intro l
  induction l with
  | nil=>intro _ _; trivial
  | cons env r ih=>
   intro hs hl
   obtain ⟨hk,⟨L,o,hf,hn,ho,hd⟩,hr⟩:=hl
   have hL:L∈X.fs:=hs L (by unfold frs; rw [List.filterMap_cons,hf]; exact List.mem_cons_self)
   obtain ⟨sl,e⟩:=I.base.slot L o ho (I.ok.frf L hL) hL fun z=>I.ok.exfs L z hL
   exact ⟨hk,⟨L,_,hf,hn,e,hd⟩,ih (fun b hb=>hs b (by unfold frs; rw [List.filterMap_cons,hf]; exact List.mem_cons_of_mem _ hb)) hr⟩
 exact all X.outer (fun _ hb=>hb) I.ok.funs
theorem Inv.stack (I:Inv X pins σ H s):s.heap.FunFrames X.base X.stack:=by
 rcases I.ok.stk with e | ⟨e,hf⟩
 ·rw [e]; exact I.funs
 ·rw [e]
  obtain ⟨m,hn,_⟩:=I.loc
  refine .cons (by rw [I.ok.kind]; decide) hf hn ?_ I.funs
  exact Heap.get?_none_of_le (Nat.le_trans I.ok.bsz I.ok.above)
theorem Inv.stkSub (I:Inv X pins σ H s):∀ b∈frs X.stack,b∈X.env.locals::X.fs:=fun b hb=>by
 rcases I.ok.stk with e | ⟨e,hf⟩
 ·rw [e] at hb; exact List.mem_cons_of_mem _ hb
 ·rw [e] at hb
  unfold frs at hb
  rw [List.filterMap_cons,hf] at hb
  exact hb
theorem Inv.stkFree (I:Inv X pins σ H s):∀ b∈frs X.stack,H b=none:=fun b hb=>by
 rcases List.mem_cons.mp (I.stkSub b hb) with e | hb
 ·rw [e]; exact I.free
 ·obtain ⟨_,o,ho,_⟩:=I.ok.funs.mem hb
  exact I.base.free b o ho (I.ok.frf b hb) fun z=>I.ok.exfs b z hb
theorem Inv.step {g':Array GenState} {t':Nat} {d':Drawn} {ch:List Addr} (I:Inv X pins σ H s)
  (hch:∀ b∈ch,(b∈X.ex \/ X.s_0.heap.objs.size<=b)/\b≠X.env.locals/\(∀ x c,X.env.cells.lookup x=some c->c≠b)/\∀ p∈X.pn++pins,p.1≠b)
  (keep:∀ b o,b≠X.env.locals->b∉X.fs->b∉ch->s.heap.get? b=some o->H b=none->h'.get? b=some o)
  (slot:∀ b o,b≠X.env.locals->b∈X.fs->b∉ch->s.heap.get? b=some o->H b=none->∃ sl,h'.get? b=some { o with slots:=sl }) (free:∀ b o,b∉ch->s.heap.get? b=some o->H b=none->H' b=none)
  (there:∀ b o,b∉ch->s.heap.get? b=some o->∃ o',h'.get? b=some o')
  (tups:∀ b xs,H b=some (.tup xs)->H' b=some (.tup xs)) (frzs:∀ b o u,H b=some (.frz o u)->H' b=some (.frz o u)) (tbls:∀ b ps,H b=some (.tbl ps)->∃ more,H' b=some (.tbl (ps++more)))
  (ns:∀ m,s.heap.Ns X.env.locals m->h'.Ns X.env.locals m) (hok:HOk X.prog X.w H' h') (hg:AllBare g') :
  Inv X pins σ H' { s with heap:=h',gens:=g',drawn:=d',toks:=t' }:=by
 have neL:∀ b o,X.s_0.heap.get? b=some o->b≠X.env.locals:=fun b o e=>Nat.ne_of_lt (Nat.lt_of_lt_of_le (Heap.lt_size e) I.ok.above)
 have neC:∀ b o,X.s_0.heap.get? b=some o->b∉X.ex->b∉ch:=fun b o e hx hb=>by
  rcases (hch b hb).1 with z | z
  ·exact hx z
  ·exact absurd (Nat.lt_of_lt_of_le (Heap.lt_size e) z) (Nat.lt_irrefl _)
 have cellK:∀ x c,X.env.cells.lookup x=some c->∀ v,s.heap.IsCell c v->h'.IsCell c v:=fun x c e v ⟨o,ho,hd⟩=>by
  have nch:c∉ch:=fun z=>(hch c z).2.2.1 x c e rfl
  by_cases hc:c∈X.fs
  ·obtain ⟨sl,q⟩:=slot c o (I.cne x c e) hc nch ho (I.freeC x c e)
   exact ⟨_,q,hd⟩
  ·exact ⟨o,keep c o (I.cne x c e) hc nch ho (I.freeC x c e),hd⟩
 refine ⟨I.ok,I.os,hg,⟨fun b o e n hb hx=>?_,fun b o e n hb hx=>?_,fun b o e n hx=>?_,fun b o e hx=>?_,fun b xs e=>tups b xs (I.base.tups b xs e),fun b o xs e=>frzs b o xs (I.base.frzs b o xs e),fun b ps e=>?_⟩,?_,fun x c e=>?_,?_,fun x c e=>?_,fun p hp=>?_,hok,I.len⟩
 ·exact keep b o (neL b o e) hb (neC b o e hx) (I.base.keep b o e n hb hx) (I.base.free b o e n hx)
 ·obtain ⟨sl,e1⟩:=I.base.slot b o e n hb hx
  obtain ⟨sl',e2⟩:=slot b _ (neL b o e) hb (neC b o e hx) e1 (I.base.free b o e n hx)
  exact ⟨sl',e2⟩
 ·obtain ⟨o',e1⟩:=I.base.there b o e hx
  exact free b o' (neC b o e hx) e1 (I.base.free b o e n hx)
 ·obtain ⟨o',e1⟩:=I.base.there b o e hx
  exact there b o' (neC b o e hx) e1
 ·obtain ⟨m1,e1⟩:=I.base.tbls b ps e
  obtain ⟨m2,e2⟩:=tbls b _ e1
  exact ⟨m1++m2,by rw [e2,Array.append_assoc]⟩
 ·obtain ⟨m,hn,hl⟩:=I.loc
  refine ⟨m,ns m hn,fun i x v e1 e2 e3=>?_⟩
  obtain ⟨u,r,l⟩:=hl i x v e1 e2 e3
  refine ⟨u,r,?_⟩
  rcases l with l | ⟨k,c,e,z⟩
  ·exact .inl l
  ·exact .inr ⟨k,c,e,cellK x c e _ z⟩
 ·obtain ⟨v,z⟩:=I.cell x c e
  exact ⟨v,cellK x c e v z⟩
 ·obtain ⟨m,⟨o,_,_,ho,_⟩,_⟩:=I.loc
  exact free _ o (fun z=>(hch _ z).2.1 rfl) ho I.free
 ·obtain ⟨v,o,ho,hd⟩:=I.cell x c e
  exact free c o (fun z=>(hch c z).2.2.1 x c e rfl) ho (I.freeC x c e)
 ·obtain ⟨e,n,ne,nf,d⟩:=I.pin p hp
  have nch:p.1∉ch:=fun z=>(hch p.1 z).2.2.2 p hp rfl
  exact ⟨keep p.1 p.2 ne nf nch e n,free p.1 p.2 nch e n,ne,nf,d⟩
theorem Inv.un {t':Nat} (I:Inv X pins σ H s) (u:Un X.fs [] H H' s.heap h') (hok:HOk X.prog X.w H' h'):Inv X pins σ H' { s with heap:=h',toks:=t' }:=by
 obtain ⟨m,⟨o,es,ep,ho,r⟩,_⟩:=id I.loc
 obtain ⟨sl,hL⟩:=u.any ho I.free (by simp)
 exact I.step (g':=s.gens) (d':=s.drawn) (ch:=[]) (fun _ z=>nomatch z) (fun b o _ hb _ e n=>u.keep b o e n hb (by simp)) (fun b o _ hb _ e n=>u.slot b o e n hb (by simp)) (fun b o _ e n=>u.free b o e n (by simp)) (fun b o _ e=>u.there b o e (by simp)) u.tups u.frzs u.tbls (fun m' hm=>by
  obtain ⟨o',es',ep',ho',r'⟩:=hm
  rw [ho] at ho'; cases ho'
  exact ⟨_,es',ep',hL,r'⟩) hok I.bare
theorem Inv.call {g':Array GenState} {t':Nat} {d':Drawn} {ch:List Addr} (I:Inv X pins σ H s) (u:Un (frs X.stack) ch H H' s.heap h') (hok:HOk X.prog X.w H' h') (hg:AllBare g')
  (hch:∀ b∈ch,(b∈X.ex \/ X.s_0.heap.objs.size<=b)/\b≠X.env.locals/\(∀ x c,X.env.cells.lookup x=some c->c≠b)/\∀ p∈X.pn++pins,p.1≠b) :
  Inv X pins σ H' { s with heap:=h',gens:=g',drawn:=d',toks:=t' }:=by
 obtain ⟨m,⟨o,es,ep,ho,r⟩,_⟩:=id I.loc
 obtain ⟨sl,hL⟩:=u.any ho I.free fun z=>(hch _ z).2.1 rfl
 exact I.step (ch:=ch) hch (fun b o hL hb hc e n=>u.keep b o e n (fun z=>(List.mem_cons.mp (I.stkSub b z)).elim hL hb) hc) (fun b o _ _ hc e n=>u.any e n hc) (fun b o hc e n=>u.free b o e n hc) (fun b o hc e=>u.there b o e hc) u.tups u.frzs u.tbls (fun m' hm=>by
  obtain ⟨o',es',ep',ho',r'⟩:=hm
  rw [ho] at ho'; cases ho'
  exact ⟨_,es',ep',hL,r'⟩) hok hg
theorem Inv.turned {t':Nat} {it:Addr} (I:Inv X pins σ H s) (k:∀ b o,b≠it->s.heap.get? b=some o->h'.get? b=some o) (hn:H it=none) (hL:it≠X.env.locals)
  (h1:it∈X.ex \/ X.s_0.heap.objs.size<=it) (h2:∀ x c,X.env.cells.lookup x=some c->c≠it) (h3:∀ p∈X.pn++pins,p.1≠it):Inv X pins σ H { s with heap:=h',toks:=t' }:=by
 have nit:∀ b u,H b=some u->b≠it:=fun b u e z=>by rw [z,hn] at e; cases e
 refine I.step (g':=s.gens) (d':=s.drawn) (ch:=[it]) (fun b hb=>?_) (fun b o _ _ hc e _=>k b o (fun z=>hc (by simp [z])) e) (fun b o _ _ hc e _=>⟨o.slots,k b o (fun z=>hc (by simp [z])) e⟩) (fun _ _ _ _ n=>n)
  (fun b o hc e=>⟨o,k b o (fun z=>hc (by simp [z])) e⟩) (fun _ _ e=>e) (fun _ _ _ e=>e) (fun b ps e=>⟨#[],by rw [e]; simp⟩) (fun m hm=>?_) (fun b u e=>?_) I.bare
 ·have e:b=it:=by simpa using hb
  subst e
  exact ⟨h1,hL,h2,h3⟩
 ·obtain ⟨o,es,ep,ho,r⟩:=hm
  exact ⟨o,es,ep,k _ o (Ne.symm hL) ho,r⟩
 ·refine (I.hok b u e).stay (fun c v hc q=>k c v ?_ q) (fun _ q=>q) fun _ _ q=>q
  rcases hc with z | z
  ·rw [z]; exact nit b u e
  ·exact nit c _ z
theorem Inv.tok (I:Inv X pins σ H s) (t:Nat):Inv X pins σ H { s with toks:=t }:=I.un (h':=s.heap) (t':=t) Un.refl I.hok
theorem Inv.kept {t':Nat} (I:Inv X pins σ H s) (k:∀ b u,s.heap.get? b=some u->h'.get? b=some u):Inv X pins σ H { s with heap:=h',toks:=t' }:=I.un (Un.kept k) (I.hok.kept k)
theorem Inv.laid {a:Addr} {o:HO} {t':Nat} (I:Inv X pins σ H s) (k:∀ b u,s.heap.get? b=some u->h'.get? b=some u) (hp:s.heap.objs.size<=a) (new:zk X.prog X.w (upd H a o) h' a o) :
  Inv X pins σ (upd H a o) { s with heap:=h',toks:=t' }:=I.un (Un.laid k hp (I.hok.fresh hp)) (I.hok.laid k hp new)
theorem Inv.write {x e:Addr} {o:HO} {t':Nat} (I:Inv X pins σ H s) (mu:Mut (H x)) (he:e=x \/ H e=some (.own x)) (k:∀ b u,b≠e->s.heap.get? b=some u->h'.get? b=some u) (heo:∃ u,h'.get? e=some u)
  (new:zk X.prog X.w (upd H x o) h' x o):Inv X pins σ (upd H x o) { s with heap:=h',toks:=t' }:=I.un (Un.write mu he k heo) (I.hok.write mu he k heo new)
theorem Inv.weak {σ':List (Option V)} (I:Inv X pins σ H s) (hl:σ'.length = σ.length) (w:∀ (i:Nat) v,σ'[i]? = some (some v) -> σ[i]? = some (some v)):Inv X pins σ' H s :=
 ⟨I.ok,I.os,I.bare,I.base,let ⟨m,hn,hl'⟩:=I.loc; ⟨m,hn,fun i x v e1 e2 e3=>hl' i x v e1 (w i v e2) e3⟩,I.cell,I.free,I.freeC,I.pin,I.hok,hl.trans I.len⟩
theorem Inv.pins_of {pins':List (Addr × Obj)} (I:Inv X pins σ H s) (h:∀ p∈pins',s.heap.get? p.1=some p.2/\H p.1=none/\p.1≠X.env.locals/\p.1∉X.fs/\∀ v,p.2.data≠.cell v):Inv X pins' σ H s :=
 ⟨I.ok,I.os,I.bare,I.base,I.loc,I.cell,I.free,I.freeC,fun p hp=>(List.mem_append.mp hp).elim (fun z=>I.pin p (List.mem_append_left _ z)) (h p),I.hok,I.len⟩
theorem qct {N:List Str} (hN:N.Nodup) {i j:Nat} {x:Str} (a:N[i]? = some x) (b:N[j]? = some x):i=j:=by
 obtain ⟨h1,e1⟩:=List.getElem?_eq_some_iff.mp a
 obtain ⟨h2,e2⟩:=List.getElem?_eq_some_iff.mp b
 exact (List.getElem_inj hN).mp (e1.trans e2.symm)
theorem qd7 {M:Model} {A:Around} {E:Value->Shared->Prop} {i:Nat} {x:Str} {v:V} {u:Value} {Q:Unit->Shared->Prop} (I:Inv X pins σ H s) (hN:X.N.Nodup) (hi:X.N[i]? = some x) (hx:Loc X.env.scope x) (r:RelV v u)
  (h:∀ s',Inv X pins (σ.set i (some v)) H s'->(∃ a,Heap.SameBut a s.heap s'.heap/\(a=X.env.locals \/ X.env.cells.lookup x=some a))->Q () s') (hf:X.fn x=true \/ X.env.scope.names.lookup x=some .local:=by first | exact .inl rfl | exact .inr rfl | assumption):wpAny M A (storeName X.env x u) Q E s:=by
 obtain ⟨m,hn,hl⟩:=id I.loc
 have hcls:(X.env.scope.kind == .class||(X.env.scope.kind == .module&&X.env.locals != X.env.globals))=false:=by rw [I.ok.kind]; rfl
 have hiσ : i < σ.length:=by rw [I.len]; exact (List.getElem?_eq_some_iff.mp hi).1
 have cne:=I.cne
 have tracked:∀ {a:Addr} {h':Heap},(∃ o,s.heap.get? a=some o/\H a=none)->Heap.SameBut a s.heap h'->HOk X.prog X.w H h':=fun {a h'} ha hs b ob e=>by
  obtain ⟨_,_,hfree⟩:=ha
  refine (I.hok b ob e).stay (fun c w' hc q=>(hs.2 c ?_).trans q) (fun _ q=>q) fun _ _ q=>q
  rintro rfl
  rcases hc with rfl | hc
  ·rw [hfree] at e; cases e
  ·rw [hfree] at hc; cases hc
 rcases hx with hk | hk
 ·refine wpAny_storeName_local hk hn (fun h' hn' hs=>?_) hcls
  obtain ⟨oL,_,_,hoL,_⟩:=id hn
  refine h _ ⟨I.ok,I.os,I.bare,⟨fun b o e n hb hx=>?_,fun b o e n hb hx=>?_,I.base.free,fun b o e hx=>?_,I.base.tups,I.base.frzs,I.base.tbls⟩,⟨_,hn',fun j y v' e1 e2 e3=>?_⟩,fun y c e=>?_,I.free,I.freeC,fun p hp=>?_,tracked ⟨oL,hoL,I.free⟩ hs,by simpa using I.len⟩ ⟨_,hs,.inl rfl⟩
  ·exact (hs.2 b (Nat.ne_of_lt (Nat.lt_of_lt_of_le (Heap.lt_size e) I.ok.above))).trans (I.base.keep b o e n hb hx)
  ·obtain ⟨sl,e1⟩:=I.base.slot b o e n hb hx
   exact ⟨sl,(hs.2 b (Nat.ne_of_lt (Nat.lt_of_lt_of_le (Heap.lt_size e) I.ok.above))).trans e1⟩
  ·obtain ⟨o',e1⟩:=I.base.there b o e hx
   exact ⟨o',(hs.2 b (Nat.ne_of_lt (Nat.lt_of_lt_of_le (Heap.lt_size e) I.ok.above))).trans e1⟩
  ·by_cases hj:j=i
   ·subst hj
    rw [hi] at e1; cases e1
    rw [List.getElem?_set_self hiσ] at e2
    cases e2
    exact ⟨u,r,.inl ⟨hk,by simp⟩⟩
   ·rw [List.getElem?_set_ne (Ne.symm hj)] at e2
    obtain ⟨u',r',q⟩:=hl j y v' e1 e2 e3
    refine ⟨u',r',?_⟩
    rcases q with ⟨k,e⟩ | ⟨k,c,e,z⟩
    ·refine .inl ⟨k,?_⟩
     have:y≠x:=fun e=>hj (qct hN e1 (e ▸ hi))
     simp [this,e]
    ·exact .inr ⟨k,c,e,z.sameBut hs (cne y c e)⟩
  ·obtain ⟨w',z⟩:=I.cell y c e
   exact ⟨w',z.sameBut hs (cne y c e)⟩
  ·obtain ⟨e,n,ne,nf,d⟩:=I.pin p hp
   exact ⟨(hs.2 p.1 ne).trans e,n,ne,nf,d⟩
 ·have hfn:X.fn x=true:=by
   rcases hf with z | z
   ·exact z
   ·rw [z] at hk; cases hk
  obtain ⟨c,hc⟩:=I.ok.has x (.inl hk)
  obtain ⟨w',z⟩:=I.cell x c hc
  refine wpAny_storeName_cell I.ok.kind hk hc z (fun h' hc' hs=>?_)
  obtain ⟨oc,hoc,hocd⟩:=id z
  refine h { s with heap:=h' } ⟨I.ok,I.os,I.bare,⟨fun b o e n hb hx=>?_,fun b o e n hb hx=>?_,I.base.free,fun b o e hx=>?_,I.base.tups,I.base.frzs,I.base.tbls⟩,⟨m,hn.sameBut hs (Ne.symm (cne x c hc)),fun j y v' e1 e2 e3=>?_⟩,fun y c' e=>?_,I.free,I.freeC,fun p hp=>?_,tracked ⟨oc,hoc,I.freeC x c hc⟩ hs,by simpa using I.len⟩ ⟨c,hs,.inr hc⟩
  ·exact (hs.2 b (Nat.ne_of_lt (Nat.lt_of_lt_of_le (Heap.lt_size e) (I.ok.cab x c hfn hc)))).trans (I.base.keep b o e n hb hx)
  ·obtain ⟨sl,e1⟩:=I.base.slot b o e n hb hx
   exact ⟨sl,(hs.2 b (Nat.ne_of_lt (Nat.lt_of_lt_of_le (Heap.lt_size e) (I.ok.cab x c hfn hc)))).trans e1⟩
  ·obtain ⟨o',e1⟩:=I.base.there b o e hx
   exact ⟨o',(hs.2 b (Nat.ne_of_lt (Nat.lt_of_lt_of_le (Heap.lt_size e) (I.ok.cab x c hfn hc)))).trans e1⟩
  ·by_cases hj:j=i
   ·subst hj
    rw [hi] at e1; cases e1
    rw [List.getElem?_set_self hiσ] at e2
    cases e2
    exact ⟨u,r,.inr ⟨.inl hk,c,hc,hc'⟩⟩
   ·rw [List.getElem?_set_ne (Ne.symm hj)] at e2
    obtain ⟨u',r',q⟩:=hl j y v' e1 e2 e3
    refine ⟨u',r',?_⟩
    rcases q with q | ⟨k,c',e,z'⟩
    ·exact .inl q
    ·refine .inr ⟨k,c',e,z'.sameBut hs ?_⟩
     rintro rfl
     exact hj (qct hN e1 (I.ok.inj _ _ _ e hc ▸ hi))
  ·by_cases hcc:c'=c
   ·subst hcc; exact ⟨_,hc'⟩
   ·obtain ⟨w2,z2⟩:=I.cell y c' e
    exact ⟨w2,z2.sameBut hs hcc⟩
  ·obtain ⟨e,n,ne,nf,d⟩:=I.pin p hp
   refine ⟨(hs.2 p.1 ?_).trans e,n,ne,nf,d⟩
   intro q
   rw [q,hoc] at e
   have q':oc=p.2:=Option.some.inj e
   exact d w' (by rw [<- q']; exact hocd)
theorem qaw {M:Model} {A:Around} {E:Value->Shared->Prop} {i:Nat} {x:Str} {v:V} {u:Value} {Q:Unit->Shared->Prop} (I:Inv X pins σ H s) (hN:X.N.Nodup) (hi:X.N[i]? = some x) (hx:Loc X.env.scope x) (r:RelV v u)
  (h:∀ s',Inv X pins (σ.set i (some v)) H s'->Q () s') (hf:X.fn x=true \/ X.env.scope.names.lookup x=some .local:=by first | exact .inl rfl | exact .inr rfl | assumption):wpAny M A (storeName X.env x u) Q E s :=
 qd7 I hN hi hx r (fun s' I' _=>h s' I') hf
theorem Inv.call' {s':Shared} {ch:List Addr} (I:Inv X pins σ H s) (ho:s'.os=s.os) (u:Un (frs X.stack) ch H H' s.heap s'.heap) (hok:HOk X.prog X.w H' s'.heap) (hg:AllBare s'.gens)
  (hch:∀ b∈ch,(b∈X.ex \/ X.s_0.heap.objs.size<=b)/\b≠X.env.locals/\(∀ x c,X.env.cells.lookup x=some c->c≠b)/\∀ p∈X.pn++pins,p.1≠b):Inv X pins σ H' s':=by
 obtain ⟨h',g',d',t',o'⟩:=s'
 have e:o'=s.os:=ho
 subst e
 exact I.call (g':=g') (t':=t') (d':=d') u hok hg hch
end
abbrev XK:=Value->Option Addr->Hp->Prop
abbrev St:=List (Option V)
abbrev VK:=V->Hp->Prop
abbrev TE:=St->Hp->VK->Prop
abbrev TT:=St->Hp->(Bool->Hp->Prop)->Prop
abbrev TA:=St->Hp->(List V->Hp->Prop)->Prop
structure Ends where
 nx:St->Hp->Prop
 rt:VK
 bk:St->Hp->Prop:=fun _ _=>False
 ct:St->Hp->Prop:=fun _ _=>False
abbrev TS:=Ends->St->Hp->Prop
def EP (X:Cx) (pins:List (Addr × Obj)) (σ : St) (Q:VK) (u:Value) (s':Shared):Prop:=∃ v H',Inv X pins σ H' s'/\RelV v u/\Q v H'
def TP (X:Cx) (pins:List (Addr × Obj)) (σ : St) (Q:Bool->Hp->Prop) (b:Bool) (s':Shared):Prop:=∃ H',Inv X pins σ H' s'/\Q b H'
def AP (X:Cx) (pins:List (Addr × Obj)) (σ : St) (Q:List V->Hp->Prop) (us:List Value) (s':Shared):Prop:=∃ vs H',Inv X pins σ H' s'/\qD vs us/\Q vs H'
def SP (X:Cx) (pins:List (Addr × Obj)) (D:Ends) (f:Flow) (s':Shared):Prop :=
 match f with
 | .next=>∃ σ' H',Inv X pins σ' H' s'/\D.nx σ' H'
 | .brk=>∃ σ' H',Inv X pins σ' H' s'/\D.bk σ' H'
 | .cont=>∃ σ' H',Inv X pins σ' H' s'/\D.ct σ' H'
 | .ret u=>∃ v σ' H',Inv X pins σ' H' s'/\RelV v u/\D.rt v H'
def PE (X:Cx) (e:Expr) (t:TE):Prop :=
 ∀ (pins:List (Addr × Obj)) (s:Shared) (σ : St) (H:Hp) (Q:VK),Inv X pins σ H s->t σ H Q->wpAny (model X.prog X.w) X.A (eval e X.env) (EP X pins σ Q) X.xe s
def PT (X:Cx) (e:Expr) (t:TT):Prop :=
 ∀ (pins:List (Addr × Obj)) (s:Shared) (σ : St) (H:Hp) (Q:Bool->Hp->Prop),Inv X pins σ H s->t σ H Q->wpAny (model X.prog X.w) X.A (isTrue e X.env (eval e X.env)) (TP X pins σ Q) X.xe s
def PW (X:Cx) (e:Expr) (t:TT):Prop :=
 ∀ (whole:Sem Value) (pins:List (Addr × Obj)) (s:Shared) (σ : St) (H:Hp) (Q:Bool->Hp->Prop),Inv X pins σ H s->t σ H Q->wpAny (model X.prog X.w) X.A (isTrue e X.env whole) (TP X pins σ Q) X.xe s
theorem PW.pt {X:Cx} {e:Expr} {t:TT} (h:PW X e t):PT X e t:=h _
def PA (X:Cx) (es:List Expr) (t:TA):Prop :=
 ∀ (pos:Pos) (pins:List (Addr × Obj)) (s:Shared) (σ : St) (H:Hp) (Q:List V->Hp->Prop),Inv X pins σ H s->t σ H Q->wpAny (model X.prog X.w) X.A (spliced (backTo pos (starEach es X.env))) (AP X pins σ Q) X.xe s
def PS (X:Cx) (st:Stmt) (t:TS):Prop :=
 ∀ (pins:List (Addr × Obj)) (s:Shared) (σ : St) (H:Hp) (D:Ends),Inv X pins σ H s->t D σ H->wpAny (model X.prog X.w) X.A (exec st X.env) (SP X pins D) X.xe s
def PSs (X:Cx) (st:List Stmt) (t:TS):Prop :=
 ∀ (pins:List (Addr × Obj)) (s:Shared) (σ : St) (H:Hp) (D:Ends),Inv X pins σ H s->t D σ H->wpAny (model X.prog X.w) X.A (execs st X.env) (SP X pins D) X.xe s
theorem thn {α : Type} {t:Sem α} {Q Q':α -> Shared->Prop} {M:Model} {A:Around} {E:Value->Shared->Prop} {s:Shared} (h:wpAny M A t Q E s) (hQ:∀ a s,Q a s->Q' a s):wpAny M A t Q' E s:=wpAny_mono h hQ fun _ _ x=>x
end L2
namespace L2
open PySem PySem.Spec PyProof.Rows
section
variable {X:Cx}
def zS (i:Nat):TE:=fun σ H Q=>∃ v,σ[i]? = some (some v)/\Q v H
def tC (v:V):TE:=fun _ H Q=>Q v H
theorem qmt {i:Nat} {x:Str} {pos:Pos} (hN:X.N[i]? = some x) (hv:Vis X.env.scope x) (hd:(x == ("__debug__" : Str))=false:=by decide) (hcd:(x == ("__classdict__" : Str))=false:=by decide):PE X (.Name x pos) (zS i):=by
 intro pins s σ H Q I h
 obtain ⟨v,e,h⟩:=h
 obtain ⟨m,hn,hl⟩:=I.loc
 obtain ⟨u,r,l⟩:=hl i x v hN e hv
 have fin:EP X pins σ Q u s:=⟨v,H,I,r,h⟩
 rcases l with ⟨hk,hm⟩ | ⟨hk,c,hc,hcell⟩
 ·exact wpAny_Name (wpAny_loadName_local I.ok.kind hk hn hm fin) hd
 ·rcases hk with hk | hk
  ·exact wpAny_Name (wpAny_loadName_cell I.ok.kind hk hc hcell fin) hd
  ·exact wpAny_Name (wpAny_loadName_free I.ok.kind hk hc hcell fin hcd) hd
theorem qw {i j pos}:PE X (.Constant (.int i) j pos) (tC (.int i)):=fun _ _ _ H _ I h=>wpAny_Constant_int ⟨.int i,H,I.tok _,⟨_,rfl⟩,h⟩
theorem qax {b j pos}:PE X (.Constant (.bool b) j pos) (tC (.bl b)):=fun _ _ _ H _ I h=>Constant_bool ⟨.bl b,H,I,rfl,h⟩
theorem qJ {x j pos}:PE X (.Constant (.str x) j pos) (tC (.str x)):=fun _ _ _ H _ I h=>Calls.Constant_str ⟨.str x,H,I.tok _,⟨_,rfl⟩,h⟩
def Gl (X:Cx) (x:Str):Prop:=X.env.kindOf x=some .globalImplicit
theorem Zn {E:Value->Shared->Prop} {pins:List (Addr × Obj)} {s:Shared} {σ : St} {H:Hp} {x:Str} {u:Value} {pos:Pos} {Q:Value->Shared->Prop} (I:Inv X pins σ H s) (hg:Gl X x) (hm:X.mg x=some u) (h:Q u s)
  (hd:(x == ("__debug__" : Str))=false:=by decide):wpAny (model X.prog X.w) X.A (eval (.Name x pos) X.env) Q E s :=
 Calls.Name_function_global I.ok.kind hg (Calls.loadGlobal_global (by rw [I.ok.glob]; exact I.mod.glob.keeps I.bk) hm h) hd
theorem Jp {E:Value->Shared->Prop} {pins:List (Addr × Obj)} {s:Shared} {σ : St} {H:Hp} {x:Str} {u:Value} {pos:Pos} {Q:Value->Shared->Prop} (I:Inv X pins σ H s) (hg:Gl X x) (hm:X.mg x=none) (hv:bootBuiltins x=some u) (h:Q u s)
  (hn:x ≠ "__name__":=by decide) (hd:(x == ("__debug__" : Str))=false:=by decide):wpAny (model X.prog X.w) X.A (eval (.Name x pos) X.env) Q E s:=by
 obtain ⟨mb,h1,h2⟩:=I.mod.blt
 exact Calls.Name_function_global I.ok.kind hg (Calls.loadGlobal_builtin (by rw [I.ok.glob]; exact I.mod.glob.keeps I.bk) hm (by rw [I.ok.blt]; exact h1.keeps I.bk) ((h2 x hn).trans hv) h) hd
theorem qlA {x:Str} {v:V} {u:Value} {pos:Pos} (hg:Gl X x) (hm:X.mg x=some u) (r:RelV v u) (hd:(x == ("__debug__" : Str))=false:=by decide):PE X (.Name x pos) (tC v) :=
 fun _ _ _ H _ I h=>Zn I hg hm ⟨v,H,I,r,h⟩ hd
variable {a b:Expr} {ta tb:TE} {pos:Pos}
def PC (X:Cx) (op:CmpOp) (a b:Expr) (t:TE):Prop :=
 ∀ (pins:List (Addr × Obj)) (s:Shared) (σ : St) (H:Hp) (Q:VK),Inv X pins σ H s->t σ H Q ->
  wpAny (model X.prog X.w) X.A (eval a X.env) (fun v s₁=>wpAny (model X.prog X.w) X.A (eval b X.env) (fun u s₂=>wpAny (model X.prog X.w) X.A (compareOp op v u) (EP X pins σ Q) X.xe s₂) X.xe s₁) X.xe s
theorem qj7 (b:Expr) {op:CmpOp} (h:op≠.In) (h2:op≠.NotIn):behindInMarks op b=false:=by
 have e1:(op == CmpOp.In)=false:=by cases op <;> first | rfl | exact absurd rfl h
 have e2:(op == CmpOp.NotIn)=false:=by cases op <;> first | rfl | exact absurd rfl h2
 cases b <;> simp [behindInMarks,e1,e2]
def qnO (ta:TE):TE:=fun σ H Q=>ta σ H fun x H1=>Q (.bl (decide (x=.non))) H1
theorem RelV.none_iff {x:V} {v:Value} (r:RelV x v):(v == Value.none)=decide (x=.non):=by
 cases x with
 | non=>cases r; rfl
 | bl _=>cases r; rfl
 | int _=>obtain ⟨t,rfl⟩:=r; rfl
 | str _=>obtain ⟨t,rfl⟩:=r; rfl
 | byt _=>obtain ⟨t,rfl⟩:=r; rfl
 | flt _=>obtain ⟨t,rfl⟩:=r; rfl
 | ref _=>cases r; rfl
 | ty _=>cases r; rfl
theorem qmu {j pos'} (ha:PE X a ta):PC X .Is a (.Constant .none j pos') (qnO ta):=by
 intro pins s σ H Q I h
 refine thn (ha pins s σ H _ I h) fun v s1 ⟨x,H1,I1,r1,q1⟩=>?_
 exact Constant_none (is_none_gen ⟨.bl _,H1,I1,by rw [r1.none_iff]; rfl,q1⟩)
def tB (t:TE):TT:=fun σ H Q=>t σ H fun x H1=>∃ c,x=.bl c/\Q c H1
theorem qe8 {op:CmpOp} {t:TE} (h:PC X op a b t) (h1:behindInMarks op b=false:=by first | exact qj7 _ (by decide) (by decide) | rfl):PT X (.Compare a [op] [b] pos) (tB t):=by
 intro pins s σ H Q I hw
 refine wpAny_isTrue_Compare1 (thn (h pins s σ H _ I hw) fun v s1 h1=>thn h1 fun u s2 h2=>thn h2 fun c s3 ⟨x,H1,I1,r1,q1⟩=>?_) h1
 obtain ⟨d,rfl,q⟩:=q1
 cases r1
 exact wpAny_truthy_bool ⟨H1,I1,q⟩
theorem QJ {e:Expr} {t:TE} (h:PE X e t) (he:∀ whole,isTrue e X.env whole=(do let v <- whole; standAt e.pos; holding [v] (truthy v)):=by intro _; rfl):PT X e (tB t):=by
 intro pins s σ H Q I hw
 refine isTrue_plain (thn (h pins s σ H _ I hw) fun v s1 ⟨x,H1,I1,r1,q1⟩=>?_) (he _)
 obtain ⟨d,rfl,q⟩:=q1
 cases r1
 exact wpAny_truthy_bool ⟨H1,I1,q⟩
variable {tA tB':TT} {rest:List Expr}
def qmv (t u:TT):TT:=fun σ H Q=>t σ H fun c H1=>if c=true then u σ H1 Q else Q false H1
def tOr (t u:TT):TT:=fun σ H Q=>t σ H fun c H1=>if c=true then Q true H1 else u σ H1 Q
def qnP (t:TT):TT:=fun σ H Q=>t σ H fun c H1=>Q (!c) H1
theorem qdu (ha:PT X a tA):PW X (.BoolOp .And [a] pos) tA:=by
 intro wh pins s σ H Q I h
 refine isTrue_and (thn (ha pins s σ H Q I h) fun c s1 e=>?_)
 cases c with
 | true=>exact isTrue_and_nil e
 | false=>exact e
theorem qmw (ha:PT X a tA):PW X (.BoolOp .Or [a] pos) tA:=by
 intro wh pins s σ H Q I h
 refine isTrue_or (thn (ha pins s σ H Q I h) fun c s1 e=>?_)
 cases c with
 | false=>exact isTrue_or_nil e
 | true=>exact e
theorem qe9 (ha:PT X a tA) (hb:PW X (.BoolOp .And (b::rest) pos) tB'):PW X (.BoolOp .And (a::b::rest) pos) (qmv tA tB'):=by
 intro wh pins s σ H Q I h
 refine isTrue_and (thn (ha pins s σ H _ I h) fun c s1 ⟨H1,I1,q1⟩=>?_)
 cases c with
 | true=>exact hb wh pins s1 σ H1 Q I1 q1
 | false=>exact ⟨H1,I1,q1⟩
theorem qnw (ha:PT X a tA) (hb:PW X (.BoolOp .Or (b::rest) pos) tB'):PW X (.BoolOp .Or (a::b::rest) pos) (tOr tA tB'):=by
 intro wh pins s σ H Q I h
 refine isTrue_or (thn (ha pins s σ H _ I h) fun c s1 ⟨H1,I1,q1⟩=>?_)
 cases c with
 | true=>exact ⟨H1,I1,q1⟩
 | false=>exact hb wh pins s1 σ H1 Q I1 q1
theorem qbl (ha:PT X a tA):PT X (.UnaryOp .Not a pos) (qnP tA):=by
 intro pins s σ H Q I h
 exact isTrue_not (ha pins s σ H (fun c H1=>Q (!c) H1) I h)
def qj8 (ta tb:TE):TE:=fun σ H Q=>ta σ H fun x H1=>∃ c,x=.bl c/\if c=true then Q (.bl true) H1 else tb σ H1 Q
theorem qiA {op} {t:TE} (h:PE X a t):PE X (.BoolOp op [a] pos) t:=fun pins s σ H Q I hw=>BoolOp_one (h pins s σ H Q I hw)
theorem qhv (ha:PE X a ta) (hb:PE X (.BoolOp .Or (b::rest) pos) tb):PE X (.BoolOp .Or (a::b::rest) pos) (qj8 ta tb):=by
 intro pins s σ H Q I h
 refine BoolOp_or (thn (ha pins s σ H _ I h) fun v s1 ⟨x,H1,I1,r1,q1⟩=>?_)
 obtain ⟨c,rfl,q1⟩:=q1
 cases r1
 refine wpAny_truthy_bool ?_
 cases c with
 | false=>exact hb pins s1 σ H1 Q I1 q1
 | true=>exact ⟨.bl true,H1,I1,rfl,q1⟩
def tIf (t:TT) (ta tb:TE):TE:=fun σ H Q=>t σ H fun c H1=>if c=true then ta σ H1 Q else tb σ H1 Q
theorem qay {c:Expr} (hc:PT X c tA) (ha:PE X a ta) (hb:PE X b tb):PE X (.IfExp c a b pos) (tIf tA ta tb):=by
 intro pins s σ H Q I h
 refine wpAny_IfExp (thn (hc pins s σ H _ I h) fun d s1 ⟨H1,I1,q1⟩=>?_)
 cases d with
 | true=>exact ha pins s1 σ H1 Q I1 q1
 | false=>exact hb pins s1 σ H1 Q I1 q1
end
end L2
namespace L2
open PySem PySem.Spec PyProof.Rows
def SqL (K:PySem.W.Frag) (H:Hp) (a:Addr) (xs:List V):Prop :=
 Rd H a (.lst xs) \/
  ∃ (o:Obj) (its:Array Value) (n:Nat),K.lookup a=some o/\o.cls=.type "list" /\ o.dict=none/\o.data=.seq its n/\its.size<=sizeLine/\qD xs its.toList
def SqT (K:PySem.W.Frag) (H:Hp) (a:Addr) (xs:List V):Prop :=
 Rd H a (.tup xs) \/
  ∃ (o:Obj) (its:Array Value) (n:Nat),K.lookup a=some o/\o.cls=.type "tuple" /\ o.data=.seq its n/\its.size<=sizeLine/\qD xs its.toList
def qnQ:Value->Option V
 | .none=>some .non
 | .bool b=>some (.bl b)
 | .int i _=>some (.int i)
 | .str x _=>some (.str x)
 | .bytes b _=>some (.byt b)
 | .float b _=>some (.flt b)
 | .ref a=>some (.ref a)
 | .type n=>some (.ty n)
 | _=>none
theorem RelV.abs {x:V} {u:Value} (r:RelV x u):qnQ u=some x:=by
 cases x with
 | non=>cases r; rfl
 | bl _=>cases r; rfl
 | int _=>obtain ⟨t,rfl⟩:=r; rfl
 | str _=>obtain ⟨t,rfl⟩:=r; rfl
 | byt _=>obtain ⟨t,rfl⟩:=r; rfl
 | flt _=>obtain ⟨t,rfl⟩:=r; rfl
 | ref _=>cases r; rfl
 | ty _=>cases r; rfl
theorem RelV.inj {x y:V} {u:Value} (r:RelV x u) (q:RelV y u):x=y:=Option.some.inj (r.abs.symm.trans q.abs)
theorem qD.inj:∀ {xs ys:List V} {us:List Value},qD xs us->qD ys us->xs=ys
 | _,_,_,.nil,.nil=>rfl
 | _,_,_,.cons r t,.cons r' t'=>by rw [r.inj r',qD.inj t t']
section
variable {X:Cx} {pins:List (Addr × Obj)} {σ : St} {H:Hp} {s:Shared} {a:Addr} {xs ys:List V}
theorem SqL.of {K:PySem.W.Frag} (h:H a=some (.lst xs)):SqL K H a xs:=.inl (.inl h)
theorem SqT.of {K:PySem.W.Frag} (h:H a=some (.tup xs)):SqT K H a xs:=.inl (.inl h)
theorem Inv.list (I:Inv X pins σ H s) (h:SqL X.K H a xs):∃ its:List Value,qD xs its/\PlainL s.heap a its.toArray/\xs.length<=sizeLine:=by
 rcases h with h | ⟨o,its,n,hk,hc,hd,hs,hz,r⟩
 ·obtain ⟨z,its,n,r,e⟩:=h.ok I.hok
  exact ⟨its,r,⟨_,n,e,rfl,rfl,rfl⟩,z⟩
 ·refine ⟨its.toList,r,⟨o,n,I.kIn a o hk,hc,hd,by simpa using hs⟩,?_⟩
  have e:=r.length
  simp only [Array.length_toList] at e
  omega
theorem Inv.tuple (I:Inv X pins σ H s) (h:SqT X.K H a xs):∃ its:List Value,qD xs its/\IsTup s.heap a its.toArray/\xs.length<=sizeLine:=by
 rcases h with h | ⟨o,its,n,hk,hc,hs,hz,r⟩
 ·obtain ⟨z,its,r,p⟩:=h.ok I.hok
  exact ⟨its,r,p,z⟩
 ·refine ⟨its.toList,r,⟨o,I.kIn a o hk,hc,n,by simpa using hs⟩,?_⟩
  have e:=r.length
  simp only [Array.length_toList] at e
  omega
theorem Inv.list_inj (I:Inv X pins σ H s) (h:SqL X.K H a xs) (h':SqL X.K H a ys):xs=ys:=by
 obtain ⟨its,r,⟨o,n,e,_,_,d⟩,_⟩:=I.list h
 obtain ⟨its',r',⟨o',n',e',_,_,d'⟩,_⟩:=I.list h'
 rw [e] at e'; cases e'
 rw [d] at d'
 injection d' with d1 _
 have:its=its':=by simpa using congrArg Array.toList d1
 subst this
 exact r.inj r'
theorem Inv.tuple_inj (I:Inv X pins σ H s) (h:SqT X.K H a xs) (h':SqT X.K H a ys):xs=ys:=by
 obtain ⟨its,r,⟨o,e,_,n,d⟩,_⟩:=I.tuple h
 obtain ⟨its',r',⟨o',e',_,n',d'⟩,_⟩:=I.tuple h'
 rw [e] at e'; cases e'
 rw [d] at d'
 injection d' with d1 _
 have:its=its':=by simpa using congrArg Array.toList d1
 subst this
 exact r.inj r'
end
abbrev Cx.wish (X:Cx) (E:Value->Shared->Prop):Cx:={ X with xe:=E }
abbrev Cx.nox (X:Cx):Cx:=X.wish fun _ _=>False
theorem Cx.Ok.wish {X:Cx} (ok:X.Ok) (E:Value->Shared->Prop):(X.wish E).Ok :=
 ⟨ok.mod,ok.kind,ok.glob,ok.blt,ok.above,ok.inj,ok.has,ok.cab,ok.hd,ok.frames,ok.stk,ok.exf,ok.bs,ok.bsz,ok.noex,ok.exfs,ok.funs,ok.frf⟩
theorem Cx.Ok.unwish {X:Cx} {E:Value->Shared->Prop} (ok:(X.wish E).Ok):X.Ok :=
 ⟨ok.mod,ok.kind,ok.glob,ok.blt,ok.above,ok.inj,ok.has,ok.cab,ok.hd,ok.frames,ok.stk,ok.exf,ok.bs,ok.bsz,ok.noex,ok.exfs,ok.funs,ok.frf⟩
section
variable {X:Cx} {pins:List (Addr × Obj)} {σ : St} {H:Hp} {s:Shared} {E:Value->Shared->Prop}
theorem Inv.wish (I:Inv X pins σ H s) (E:Value->Shared->Prop):Inv (X.wish E) pins σ H s:=⟨I.ok.wish E,I.os,I.bare,I.base,I.loc,I.cell,I.free,I.freeC,I.pin,I.hok,I.len⟩
theorem Inv.unwish (I:Inv (X.wish E) pins σ H s):Inv X pins σ H s:=⟨I.ok.unwish,I.os,I.bare,I.base,I.loc,I.cell,I.free,I.freeC,I.pin,I.hok,I.len⟩
theorem SP.unwish {D:Ends} {f:Flow} {s':Shared} (h:SP (X.wish E) pins D f s'):SP X pins D f s':=by
 cases f with
 | next=>obtain ⟨σ',H',I,q⟩:=h; exact ⟨σ',H',I.unwish,q⟩
 | brk=>obtain ⟨σ',H',I,q⟩:=h; exact ⟨σ',H',I.unwish,q⟩
 | cont=>obtain ⟨σ',H',I,q⟩:=h; exact ⟨σ',H',I.unwish,q⟩
 | ret u=>obtain ⟨v,σ',H',I,r,q⟩:=h; exact ⟨v,σ',H',I.unwish,r,q⟩
theorem PSs.nox {st:List Stmt} {t:TS} (h:PSs X.nox st t):PSs X st t:=fun pins s σ H D I hw=>
 wpAny_mono (h pins s σ H D (I.wish _) hw) (fun _ _ q=>q.unwish) fun _ _ z=>False.elim z
end
section
variable {X:Cx} {st:Stmt} {rest:List Stmt} {t u:TS} {e:Expr} {te:TE} {pos:Pos}
def qla:TS:=fun D σ H=>D.nx σ H
def qhw (t u:TS):TS:=fun D σ H=>t { D with nx:=u D } σ H
theorem zm:PSs X [] qla:=fun _ _ σ H _ I h=>wpAny_execs_nil ⟨σ,H,I,h⟩
theorem qi (h1:PS X st t) (h2:PSs X rest u):PSs X (st::rest) (qhw t u):=by
 intro pins s σ H D I h
 refine wpAny_execs_cons (thn (h1 pins s σ H { D with nx:=u D } I h) fun f s1 q=>?_)
 cases f with
 | next=>
  obtain ⟨σ',H',I',q⟩:=q
  exact h2 pins s1 σ' H' D I' q
 | ret v=>exact q
 | brk=>exact q
 | cont=>exact q
theorem qf (h1:PS X st t):PSs X [st] t:=by
 intro pins s σ H D I h
 refine wpAny_execs_cons (thn (h1 pins s σ H D I h) fun f s1 q=>?_)
 cases f with
 | next=>exact wpAny_execs_nil q
 | ret v=>exact q
 | brk=>exact q
 | cont=>exact q
theorem Inv.quiet {pins:List (Addr × Obj)} {σ : St} {H:Hp} {s:Shared} (I:Inv X pins σ H s):interactive X.env=false:=by simp [interactive,I.ok.kind]
def qlb (te:TE):TS:=fun D σ H=>te σ H fun _ H1=>D.nx σ H1
theorem qt (he:PE X e te) (hs:swapsWith e none pos.line X.env=pure false:=by rfl):PS X (.Expr e pos) (qlb te):=by
 intro pins s σ H D I h
 exact wpAny_Expr_any (thn (he pins s σ H _ I h) fun v s1 ⟨x,H1,I1,r1,q1⟩=>⟨σ,H1,I1,q1⟩) I.quiet hs
def qfa (te:TE):TS:=fun D σ H=>te σ H D.rt
theorem qF (he:PE X e te):PS X (.Return (some e) pos) (qfa te):=by
 intro pins s σ H D I h
 exact wpAny_Return_some (thn (he pins s σ H _ I h) fun v s1 ⟨x,H1,I1,r1,q1⟩=>⟨x,σ,H1,I1,r1,q1⟩)
def qnx:TS:=fun D _ H=>D.rt .non H
theorem qlB:PS X (.Return none pos) qnx:=fun _ _ σ H _ I h=>wpAny_Return_none ⟨.non,σ,H,I,rfl,h⟩
def qj9 (c:TT) (t u:TS):TS:=fun D σ H=>c σ H fun b H1=>if b=true then t D σ H1 else u D σ H1
theorem qU {c:Expr} {a b:List Stmt} {tc:TT} (hc:PT X c tc) (ha:PSs X a t) (hb:PSs X b u):PS X (.If c a b pos) (qj9 tc t u):=by
 intro pins s σ H D I h
 refine wpAny_If (thn (hc pins s σ H _ I h) fun d s1 ⟨H1,I1,q1⟩=>?_)
 cases d with
 | true=>exact ha pins s1 σ H1 D I1 q1
 | false=>exact hb pins s1 σ H1 D I1 q1
end
abbrev TG:=V->St->Hp->(St->Hp->Prop)->Prop
abbrev TGs:=List V->St->Hp->(St->Hp->Prop)->Prop
def PG (X:Cx) (target:Expr) (t:TG):Prop :=
 ∀ (pins:List (Addr × Obj)) (s:Shared) (σ : St) (H:Hp) (v:V) (u:Value) (Q:St->Hp->Prop),Inv X pins σ H s->RelV v u->t v σ H Q ->
  wpAny (model X.prog X.w) X.A (assign target X.env u) (fun _ s'=>∃ σ' H',Inv X pins σ' H' s'/\Q σ' H') X.xe s
def PGs (X:Cx) (ts:List Expr) (t:TGs):Prop :=
 ∀ (pins:List (Addr × Obj)) (s:Shared) (σ : St) (H:Hp) (vs:List V) (us:List Value) (Q:St->Hp->Prop),Inv X pins σ H s->qD vs us->t vs σ H Q ->
  wpAny (model X.prog X.w) X.A (assignInOrder ((assignEach ts X.env).map (·.2)) us) (fun _ s'=>∃ σ' H',Inv X pins σ' H' s'/\Q σ' H') X.xe s
abbrev TIp:=V->V->Hp->VK->Prop
def PIp (X:Cx) (op:Operator) (t:TIp):Prop :=
 ∀ (pins:List (Addr × Obj)) (s:Shared) (σ : St) (H:Hp) (x y:V) (v u:Value) (Q:VK),Inv X pins σ H s->RelV x v->RelV y u->t x y H Q ->
  wpAny (model X.prog X.w) X.A (inplaceOp op v u) (EP X pins σ Q) X.xe s
section
variable {X:Cx} {pos:Pos}
def Zy (i:Nat):TG:=fun v σ H Q=>Q (σ.set i (some v)) H
theorem jy {i:Nat} {x:Str} (hN:X.N.Nodup) (hi:X.N[i]? = some x) (hx:Loc X.env.scope x) (hf:X.fn x=true \/ X.env.scope.names.lookup x=some .local:=by first | exact .inl rfl | exact .inr rfl | assumption):PG X (.Name x pos) (Zy i):=by
 intro pins s σ H v u Q I r h
 exact wpAny_assign_Name (qaw I hN hi hx r (fun s' I'=>⟨_,H,I',h⟩) hf)
def qmx:TGs:=fun vs σ H Q=>vs=[]/\Q σ H
def qhx (t:TG) (u:TGs):TGs:=fun vs σ H Q=>∃ v r,vs=v::r/\t v σ H fun σ' H'=>u r σ' H' Q
theorem qgV:PGs X [] qmx:=by
 intro pins s σ H vs us Q I r h
 obtain ⟨e,h⟩:=h
 subst e
 cases r
 exact assignInOrder_nil ⟨σ,H,I,h⟩
theorem qaz {e:Expr} {es:List Expr} {t:TG} {u:TGs} (h1:PG X e t) (h2:PGs X es u)
  (hs:(assignEach (e::es) X.env).map (·.2)=assign e X.env::(assignEach es X.env).map (·.2):=by rfl):PGs X (e::es) (qhx t u):=by
 intro pins s σ H vs us Q I r h
 obtain ⟨v,vr,e1,h⟩:=h
 subst e1
 cases r with
 | cons r rr=>
  rw [hs]
  refine assignInOrder_cons (thn (h1 pins s σ H _ _ _ I r h) fun _ s1 ⟨σ1,H1,I1,q1⟩=>?_)
  exact h2 pins s1 σ1 H1 _ _ Q I1 rr q1
def qmy (K:PySem.W.Frag) (n:Nat) (t:TGs):TG:=fun v σ H Q=>∃ a xs,v=.ref a/\SqT K H a xs/\xs.length=n/\t xs σ H Q
theorem qiB {es:List Expr} {k:Nat} {t:TGs} {n:Nat} (hc:X.calm=true) (h:PGs X es t)
  (hn:(assignEach es X.env).length=n:=by rfl) (hst:(assignEach es X.env).findIdx? (·.1)=none:=by rfl):PG X (.Tuple es k pos) (qmy X.K n t):=by
 intro pins s σ H v u Q I r hw
 obtain ⟨a,xs,e1,hq,hl,hw⟩:=hw
 subst e1
 cases r
 obtain ⟨its,rv,ht,hz⟩:=I.tuple hq
 refine assign_Tuple_tuple (I.ok.hd hc) ht (by simp [hn,<- hl,rv.length]) hst fun h' hx=>?_
 have I1:Inv X pins σ H { s with heap:=h' }:=I.kept (t':=s.toks) fun b o e=>hx b o (Nat.ne_of_lt (Heap.lt_size e)) e
 exact h pins _ σ H xs _ Q I1 (by simpa using rv) hw
def qhy (te:TE) (g:TG):TS:=fun D σ H=>te σ H fun x H1=>g x σ H1 D.nx
theorem qZ {i:Nat} {x:Str} {e:Expr} {te:TE} {pos':Pos} (hN:X.N.Nodup) (hi:X.N[i]? = some x) (hx:Loc X.env.scope x) (he:PE X e te) (hs:swapsWith e (some (.Name x pos')) pos.line X.env=pure false:=by rfl) (hf:X.fn x=true \/ X.env.scope.names.lookup x=some .local:=by first | exact .inl rfl | exact .inr rfl | assumption) :
  PS X (.Assign [.Name x pos'] e pos) (qhy te (Zy i)):=by
 intro pins s σ H D I h
 refine wpAny_Assign_Name (thn (he pins s σ H _ I h) fun v s1 ⟨y,H1,I1,r1,q1⟩=>?_) hs
 exact qaw I1 hN hi hx r1 (fun s2 I2=>⟨_,H1,I2,q1⟩) hf
def qnR (i:Nat) (te:TE) (ti:TIp):TS:=fun D σ H=>∃ x,σ[i]? = some (some x)/\te σ H fun y H1=>ti x y H1 fun z H2=>D.nx (σ.set i (some z)) H2
theorem qiC {i:Nat} {x:Str} {e:Expr} {te:TE} {op:Operator} {ti:TIp} {pos':Pos} (hN:X.N.Nodup) (hi:X.N[i]? = some x) (hx:Loc X.env.scope x) (he:PE X e te) (ho:PIp X op ti) (hf:X.fn x=true \/ X.env.scope.names.lookup x=some .local:=by first | exact .inl rfl | exact .inr rfl | assumption) :
  PS X (.AugAssign (.Name x pos') op e pos) (qnR i te ti):=by
 intro pins s σ H D I h
 obtain ⟨v,e1,h⟩:=h
 obtain ⟨m,hn,hl⟩:=I.loc
 have vis:Vis X.env.scope x:=by rcases hx with k | k; exact .inl k; exact .inr (.inl k)
 obtain ⟨u,r,l⟩:=hl i x v hi e1 vis
 refine wpAny_AugAssign_Name ?_
 have go:wpAny (model X.prog X.w) X.A (eval e X.env) (fun w s₂=>wpAny (model X.prog X.w) X.A (inplaceOp op u w) (fun r s₃=>wpAny (model X.prog X.w) X.A (storeName X.env x r) (fun _=>SP X pins D .next) X.xe s₃) X.xe s₂) X.xe s:=by
  refine thn (he pins s σ H _ I h) fun w s1 ⟨y,H1,I1,r1,q1⟩=>?_
  refine thn (ho pins s1 σ H1 v y u w _ I1 r r1 q1) fun z s2 ⟨zv,H2,I2,r2,q2⟩=>?_
  exact qaw I2 hN hi hx r2 (fun s3 I3=>⟨_,H2,I3,q2⟩) hf
 rcases l with ⟨hk,hm⟩ | ⟨hk,c,hc,hcell⟩
 ·exact wpAny_loadName_local I.ok.kind hk hn hm go
 ·rcases hk with hk | hk
  ·exact wpAny_loadName_cell I.ok.kind hk hc hcell go
  ·rcases hx with k | k
   ·have:X.env.scope.names.lookup x=some .free:=hk
    rw [k] at this; cases this
   ·have:X.env.scope.names.lookup x=some .free:=hk
    rw [k] at this; cases this
def ipI (f:Int->Int->Int):TIp:=fun x y H Q=>∃ i j,x=.int i/\y=.int j/\Q (.int (f i j)) H
theorem qiD:PIp X .Add (ipI fun i j=>i+j):=by
 intro pins s σ H x y v u Q I r1 r2 h
 obtain ⟨i,j,e1,e2,q⟩:=h
 subst e1; subst e2
 obtain ⟨t,rfl⟩:=r1
 obtain ⟨t',rfl⟩:=r2
 exact iadd_int ⟨.int _,H,I.tok _,⟨_,rfl⟩,q⟩
end
section
variable {X:Cx} {pos:Pos}
def qmz (c:TT) (tb:TS):TS:=fun D σ H=>∃ W:Nat->St->Hp->Prop,(∃ m,W m σ H)/\∀ m σ H,W m σ H ->
 c σ H fun b H1=>if b=true then ∃ N:St->Hp->Prop,(∀ σ' H',N σ' H'->∃ m',m'<m/\W m' σ' H')/\tb { D with nx:=N,ct:=N,bk:=D.nx } σ H1 else D.nx σ H1
theorem Qj {c:Expr} {body:List Stmt} {tc:TT} {tb:TS} (hp:PassesOwn (model X.prog X.w) X.A X.env X.xe) (hc:PT X c tc) (hb:PSs X body tb):PS X (.While c body [] pos) (qmz tc tb):=by
 intro pins s σ H D I h
 obtain ⟨W,⟨m0,w0⟩,turn⟩:=h
 refine wpAny_While (codeAny_whileLoop (fun n s'=>∃ σ' H',Inv X pins σ' H' s'/\W n σ' H') ?_ m0 ⟨σ,H,I,w0⟩)
 rintro n s1 ⟨σ1,H1,I1,w1⟩
 refine wpAny_passesOwn hp (thn (hc pins s1 σ1 H1 _ I1 (turn n σ1 H1 w1)) fun b s2 ⟨H2,I2,q2⟩=>?_)
 cases b with
 | true=>
  obtain ⟨N,hN,q2⟩:=q2
  rw [if_pos rfl]
  refine wpAny_passesOwn hp (thn (hb pins s2 σ1 H2 _ I2 q2) fun f s3 q3=>?_)
  cases f with
  | next=>
   obtain ⟨σ3,H3,I3,n3⟩:=q3
   obtain ⟨m',hm,w3⟩:=hN σ3 H3 n3
   exact ⟨m',hm,σ3,H3,I3,w3⟩
  | cont=>
   obtain ⟨σ3,H3,I3,n3⟩:=q3
   obtain ⟨m',hm,w3⟩:=hN σ3 H3 n3
   exact ⟨m',hm,σ3,H3,I3,w3⟩
  | brk=>exact q3
  | ret v=>exact q3
 | false=>
  rw [if_neg Bool.false_ne_true]
  exact wpAny_execs_nil ⟨σ1,H2,I2,q2⟩
end
structure It where
 go:Nat->Hp->Prop
 yld:Nat->Hp->V->Hp->Prop
 stop:Nat->Hp->Prop
def Z9 (X:Cx) (pins:List (Addr × Obj)) (H:Hp) (b:Addr):Prop :=
 H b=none/\b≠X.env.locals/\b∉X.fs/\(b∈X.ex \/ X.s_0.heap.objs.size<=b)/\(∀ x c,X.env.cells.lookup x=some c->c≠b)/\∀ p∈X.pn++pins,p.1≠b
theorem Inv.fpOk {X:Cx} {pins:List (Addr × Obj)} {σ : St} {H H':Hp} {s:Shared} {b:Addr} (I:Inv X pins σ H s) (hb:s.heap.objs.size<=b) (hn:H' b=none):Z9 X pins H' b:=by
 refine ⟨hn,Nat.ne_of_gt (Nat.lt_of_lt_of_le I.lt hb),I.nofs hb,.inr (Nat.le_trans I.sz hb),fun x c e z=>?_,fun p hp z=>?_⟩
 ·obtain ⟨v,q⟩:=I.cell x c e
  exact absurd (Nat.lt_of_lt_of_le q.lt (by rw [z]; exact hb)) (Nat.lt_irrefl _)
 ·exact absurd (Nat.lt_of_lt_of_le (Heap.lt_size (I.pin p hp).1) (by rw [z]; exact hb)) (Nat.lt_irrefl _)
structure Turn (P:Program) (w:World) (K:PySem.W.Frag) (tg:Expr) (J:It) (fp:List Addr) (it:Addr) (tn:Nat->Heap->Prop):Prop where
 mem:it∈fp
 obj:∀ i h,tn i h->∀ b∈fp,∃ o,h.get? b=some o/\∀ v,o.data≠.cell v
 keep:∀ i h h',tn i h->(∀ b∈fp,∀ o,h.get? b=some o->h'.get? b=some o)->tn i h'
 item:∀ (X:Cx),X.prog=P->X.w=w->X.K=K->X.calm=true->∀ (i:Nat) (pins:List (Addr × Obj)) (s:Shared) (σ : St) (H:Hp) (E:Value->Shared->Prop),Inv X pins σ H s->(∀ b∈fp,Z9 X pins H b)->tn i s.heap->J.go i H ->
  wpAny (model P w) X.A (pyNext (.ref it)) (fun r s1=>∃ u,r=some u /\
   wpAny (model P w) X.A (letOwnedTupleGo tg (.ref it) u) (fun _ s2=>∃ x H',Inv X pins σ H' s2/\RelV x u/\J.yld i H x H'/\tn (i+1) s2.heap/\∀ b∈fp,H' b=none) E s1) E s
 done:∀ (X:Cx),X.prog=P->X.w=w->X.K=K->X.calm=true->∀ (i:Nat) (pins:List (Addr × Obj)) (s:Shared) (σ : St) (H:Hp) (E:Value->Shared->Prop),Inv X pins σ H s->(∀ b∈fp,Z9 X pins H b)->tn i s.heap->J.stop i H ->
  wpAny (model P w) X.A (pyNext (.ref it)) (fun r s1=>r=none/\Inv X pins σ H s1) E s
 self:∀ (A:Around) (i:Nat) (s:Shared) (Q:Value->Shared->Prop) (E:Value->Shared->Prop),tn i s.heap->Q (.ref it) s->wpAny (model P w) A (pyIter (.ref it)) Q E s
abbrev TI:=St->Hp->(It->Hp->Prop)->Prop
def PIE (X:Cx) (pins:List (Addr × Obj)) (σ : St) (tg:Expr) (R:It->Hp->Prop) (itv:Value) (s2:Shared):Prop :=
 ∃ (it:Addr) (fp:List Addr) (tn:Nat->Heap->Prop) (J:It) (H':Hp),itv=.ref it/\Inv X pins σ H' s2/\Turn X.prog X.w X.K tg J fp it tn/\tn 0 s2.heap/\(∀ b∈fp,Z9 X pins H' b)/\R J H'
def PI (X:Cx) (tg iter:Expr) (wi:TI):Prop :=
 ∀ (pins:List (Addr × Obj)) (s:Shared) (σ : St) (H:Hp) (R:It->Hp->Prop),Inv X pins σ H s->wi σ H R ->
  wpAny (model X.prog X.w) X.A (eval iter X.env) (fun v s1=>wpAny (model X.prog X.w) X.A (pyIter v) (PIE X pins σ tg R) X.xe s1) X.xe s
theorem qhz {M:Model} {A:Around} {E:Value->Shared->Prop} {s:Shared} {tg:Expr} {it:Addr} {u:Value} {o:Obj} {n:String} {vs:Array Value} {Q:Unit->Shared->Prop} (ho:s.heap.get? it=some o) (hc:o.cls=.type n) (hd:o.data=.fields vs)
  (hn:["enumerate","zip","dict_itemiterator","dict_reverseitemiterator","odict_iterator","itertools.zip_longest","itertools.pairwise"].contains n=false) (hQ:Q () s):wpAny M A (letOwnedTupleGo tg (.ref it) u) Q E s:=by
 unfold letOwnedTupleGo
 cases tg <;> first
  | exact wpAny_pure hQ
  | (cases u <;> first
    | exact wpAny_pure hQ
    | (refine wpAny_bind (wpAny_load ho ?_)
       rw [hc,hd]
       show wpAny M A (if (["enumerate","zip","dict_itemiterator","dict_reverseitemiterator","odict_iterator","itertools.zip_longest","itertools.pairwise"].contains n&&vs[0]? == some (rawInt _))=true then _ else _) Q E s
       rw [if_neg (by intro h; rw [hn,Bool.false_and] at h; cases h)]
       exact wpAny_pure hQ))
def Itl (K:PySem.W.Frag) (a:Addr):It :=
 ⟨fun i H=>∃ xs x,SqL K H a xs/\xs[i]? = some x,fun i H x H'=>H'=H/\∀ xs,SqL K H a xs->xs[i]? = some x,fun i H=>∃ xs,SqL K H a xs/\xs.length<=i⟩
def Itt (K:PySem.W.Frag) (a:Addr):It :=
 ⟨fun i H=>∃ xs x,SqT K H a xs/\xs[i]? = some x,fun i H x H'=>H'=H/\∀ xs,SqT K H a xs->xs[i]? = some x,fun i H=>∃ xs,SqT K H a xs/\xs.length<=i⟩
theorem qiE {P:Program} {w:World} {K:PySem.W.Frag} {tg:Expr} (a it:Addr):Turn P w K tg (Itl K a) [it] it (fun i h=>h.IsListIter it a i) where
 mem:=by simp
 obj:=fun i h st b hb=>by
  have e:b=it:=by simpa using hb
  subst e
  obtain ⟨o,e,c,d⟩:=st
  exact ⟨o,e,fun v z=>by rw [d] at z; cases z⟩
 keep:=fun i h h' st k=>st.at fun o e=>k it (by simp) o e
 item:=by
  intro X hP hw hK hc i pins s σ H E I hf st hg
  subst hP hw hK
  obtain ⟨xs,x,hq,hx⟩:=hg
  obtain ⟨its,rv,p,hz⟩:=I.list hq
  obtain ⟨u,hu,ru⟩:=rv.get hx
  obtain ⟨f0,f1,f2,f3,f4,f5⟩:=hf it (by simp)
  refine wpAny_pyNext_list_item st p.isList (x:=u) (by simpa using hu) fun h' st' sb=>?_
  have I1:Inv X pins σ H { s with heap:=h' }:=I.turned (t':=s.toks) (fun b o hb e=>(sb.2 b hb).trans e) f0 f1 f3 f4 f5
  obtain ⟨o,e,c,d⟩:=id st'
  exact ⟨u,rfl,qhz (s:={ s with heap:=h' }) e c d (by decide) ⟨x,H,I1,ru,⟨rfl,fun ys hy=>by rw [I.list_inj hy hq]; exact hx⟩,st',fun b hb=>(hf b hb).1⟩⟩
 done:=by
  intro X hP hw hK hc i pins s σ H E I hf st hg
  subst hP hw hK
  obtain ⟨xs,hq,hx⟩:=hg
  obtain ⟨its,rv,p,hz⟩:=I.list hq
  obtain ⟨f0,f1,f2,f3,f4,f5⟩:=hf it (by simp)
  have hl:=rv.length
  exact wpAny_pyNext_list_end (I.ok.hd hc) st p.isList (by simp; omega) fun h' eb=>⟨rfl,I.turned (t':=s.toks) (fun b o hb e=>eb b o hb e) f0 f1 f3 f4 f5⟩
 self:=fun _ _ _ _ _ st h=>wpAny_pyIter_listiter st h
theorem qhA {P:Program} {w:World} {K:PySem.W.Frag} {tg:Expr} (a it:Addr):Turn P w K tg (Itt K a) [it] it (fun i h=>h.IsTupleIter it a i) where
 mem:=by simp
 obj:=fun i h st b hb=>by
  have e:b=it:=by simpa using hb
  subst e
  obtain ⟨o,e,c,d⟩:=st
  exact ⟨o,e,fun v z=>by rw [d] at z; cases z⟩
 keep:=fun i h h' st k=>st.at fun o e=>k it (by simp) o e
 item:=by
  intro X hP hw hK hc i pins s σ H E I hf st hg
  subst hP hw hK
  obtain ⟨xs,x,hq,hx⟩:=hg
  obtain ⟨its,rv,p,hz⟩:=I.tuple hq
  obtain ⟨u,hu,ru⟩:=rv.get hx
  obtain ⟨f0,f1,f2,f3,f4,f5⟩:=hf it (by simp)
  refine wpAny_pyNext_tuple_item st (show s.heap.IsTuple a its.toArray from p) (x:=u) (by simpa using hu) fun h' st' sb=>?_
  have I1:Inv X pins σ H { s with heap:=h' }:=I.turned (t':=s.toks) (fun b o hb e=>(sb.2 b hb).trans e) f0 f1 f3 f4 f5
  obtain ⟨o,e,c,d⟩:=id st'
  exact ⟨u,rfl,qhz (s:={ s with heap:=h' }) e c d (by decide) ⟨x,H,I1,ru,⟨rfl,fun ys hy=>by rw [I.tuple_inj hy hq]; exact hx⟩,st',fun b hb=>(hf b hb).1⟩⟩
 done:=by
  intro X hP hw hK hc i pins s σ H E I hf st hg
  subst hP hw hK
  obtain ⟨xs,hq,hx⟩:=hg
  obtain ⟨its,rv,p,hz⟩:=I.tuple hq
  obtain ⟨f0,f1,f2,f3,f4,f5⟩:=hf it (by simp)
  have hl:=rv.length
  exact wpAny_pyNext_tuple_end (I.ok.hd hc) st (show s.heap.IsTuple a its.toArray from p) (by simp; omega) fun h' eb=>⟨rfl,I.turned (t':=s.toks) (fun b o hb e=>eb b o hb e) f0 f1 f3 f4 f5⟩
 self:=fun _ _ _ _ _ st h=>wpAny_pyIter_tupleiter st h
end L2
namespace L2
open PySem PySem.Spec PyProof.Rows
section
variable {X:Cx} {tg:Expr}
def qny (K:PySem.W.Frag) (tl:TE):TI:=fun σ H R=>tl σ H fun x H1=>∃ a,x=.ref a/\(∃ xs,SqL K H1 a xs)/\R (Itl K a) H1
def qnS (K:PySem.W.Frag) (tl:TE):TI:=fun σ H R=>tl σ H fun x H1=>∃ a,x=.ref a/\(∃ xs,SqT K H1 a xs)/\R (Itt K a) H1
theorem Jj {l:Expr} {tl:TE} (hl:PE X l tl):PI X tg l (qny X.K tl):=by
 intro pins s σ H R I h
 refine thn (hl pins s σ H _ I h) fun v s1 ⟨x,H1,I1,r1,q1⟩=>?_
 obtain ⟨a,e,⟨xs,hq⟩,q⟩:=q1
 subst e
 cases r1
 obtain ⟨its,rv,p,hz⟩:=I1.list hq
 refine wpAny_pyIter_list p.isList ?_
 refine ⟨s1.heap.objs.size,[s1.heap.objs.size],_,_,H1,rfl,I1.kept (t':=s1.toks) fun b o e=>Heap.get?_push_of_some _ e,qiE a _,⟨_,Heap.get?_push_size _ rfl,rfl,rfl⟩,fun b hb=>?_,q⟩
 have e:b=s1.heap.objs.size:=by simpa using hb
 subst e
 exact I1.fpOk (Nat.le_refl _) (I1.hok.fresh (Nat.le_refl _))
theorem qfb {l:Expr} {tl:TE} (hl:PE X l tl):PI X tg l (qnS X.K tl):=by
 intro pins s σ H R I h
 refine thn (hl pins s σ H _ I h) fun v s1 ⟨x,H1,I1,r1,q1⟩=>?_
 obtain ⟨a,e,⟨xs,hq⟩,q⟩:=q1
 subst e
 cases r1
 obtain ⟨its,rv,p,hz⟩:=I1.tuple hq
 refine wpAny_pyIter_tuple (show s1.heap.IsTuple a its.toArray from p) ?_
 refine ⟨s1.heap.objs.size,[s1.heap.objs.size],_,_,H1,rfl,I1.kept (t':=s1.toks) fun b o e=>Heap.get?_push_of_some _ e,qhA a _,⟨_,Heap.get?_push_size _ rfl,rfl,rfl⟩,fun b hb=>?_,q⟩
 have e:b=s1.heap.objs.size:=by simpa using hb
 subst e
 exact I1.fpOk (Nat.le_refl _) (I1.hok.fresh (Nat.le_refl _))
def qnT (wi:TI) (g:TG) (tb:TS):TS:=fun D σ H=>wi σ H fun J H1=>∃ W:Nat->Nat->St->Hp->Prop,(∃ m,W 0 m σ H1)/\∀ i m σ H,W i m σ H ->
 (J.stop i H/\D.nx σ H) \/ (J.go i H/\∃ N:St->Hp->Prop,(∀ σ' H',N σ' H'->∃ m',m'<m/\W (i+1) m' σ' H')/\∀ x H',J.yld i H x H'->g x σ H' fun σ2 H2=>tb { D with nx:=N,ct:=N,bk:=D.nx } σ2 H2)
def qbm (fp:List Addr) (h:Heap):List (Addr × Obj):=fp.filterMap fun b=>(h.get? b).map fun o=>(b,o)
theorem qaA {fp:List Addr} {h:Heap} {b:Addr} {o:Obj} (hb:b∈fp) (e:h.get? b=some o):(b,o)∈qbm fp h:=List.mem_filterMap.mpr ⟨b,hb,by rw [e]; rfl⟩
theorem qiF {fp:List Addr} {h:Heap} {p:Addr × Obj} (hp:p∈qbm fp h):p.1∈fp/\h.get? p.1=some p.2:=by
 obtain ⟨b,hb,e⟩:=List.mem_filterMap.mp hp
 cases q:h.get? b with
 | none=>rw [q] at e; cases e
 | some o=>
  rw [q] at e
  have e':(b,o)=p:=Option.some.inj e
  subst e'
  exact ⟨hb,q⟩
theorem Inv.pinned {pins:List (Addr × Obj)} {σ : St} {H:Hp} {s:Shared} {fp:List Addr} (I:Inv X pins σ H s) (hf:∀ b∈fp,Z9 X pins H b) (ho:∀ b∈fp,∃ o,s.heap.get? b=some o/\∀ v,o.data≠.cell v):Inv X (pins++qbm fp s.heap) σ H s :=
 I.pins_of fun p hp=>(List.mem_append.mp hp).elim (fun z=>I.pin p (List.mem_append_right _ z)) fun z=>by
  obtain ⟨hb,e⟩:=qiF z
  obtain ⟨f0,f1,f2,_⟩:=hf p.1 hb
  obtain ⟨o,e',d⟩:=ho p.1 hb
  rw [e] at e'; cases e'
  exact ⟨e,f0,f1,f2,d⟩
theorem Inv.unpinned {pins pl:List (Addr × Obj)} {σ : St} {H:Hp} {s:Shared} (I:Inv X (pins++pl) σ H s):Inv X pins σ H s:=I.pins_of fun p hp=>I.pin p (List.mem_append_right _ (List.mem_append_left _ hp))
theorem Jq {iter:Expr} {body:List Stmt} {wi:TI} {g:TG} {tb:TS} {pos:Pos} (hp:PassesOwn (model X.prog X.w) X.A X.env X.xe) (hc:X.calm=true) (hi:PI X tg iter wi) (hg:PG X tg g) (hb:PSs X body tb)
  (hs:∀ x,foldedSetIterable iter X.env x=pure x:=by intro _; rfl):PS X (.For tg iter body [] pos) (qnT wi g tb):=by
 intro pins s σ H D I h
 refine wpAny_For (thn (hi pins s σ H _ I h) fun v s1 h1=>thn h1 fun itv s2 h2=>?_) hs
 obtain ⟨it,fp,tn,J,H2,e,I2,T,st2,f2,W,⟨m0,w0⟩,turn⟩:=h2
 subst e
 have stat:∀ {H':Hp},(∀ b∈fp,H' b=none)->∀ b∈fp,Z9 X pins H' b:=fun hn b hb=>⟨hn b hb,(f2 b hb).2⟩
 refine codeAny_forLoop_any (fun n s'=>∃ i σ' H',Inv X pins σ' H' s'/\tn i s'.heap/\(∀ b∈fp,H' b=none)/\W i n σ' H') ?_ m0 ⟨0,σ,H2,I2,st2,fun b hb=>(f2 b hb).1,w0⟩
 rintro n s3 ⟨i,σ3,H3,I3,st3,fr3,w3⟩
 rcases turn i n σ3 H3 w3 with ⟨stop,qn⟩ | ⟨go,N,hN,step⟩
 ·refine wpAny_passesOwn hp (thn (T.done X rfl rfl rfl hc i pins s3 σ3 H3 X.xe I3 (stat fr3) st3 stop) fun r s4 ⟨hr,I4⟩=>?_)
  subst hr
  exact wpAny_execs_nil ⟨σ3,H3,I4,qn⟩
 ·refine wpAny_passesOwn hp (thn (T.item X rfl rfl rfl hc i pins s3 σ3 H3 X.xe I3 (stat fr3) st3 go) fun r s4 ⟨u,hr,h4⟩=>?_)
  subst hr
  refine wpAny_passesOwn hp (thn h4 fun _ s5 ⟨x,H5,I5,r5,y5,st5,fr5⟩=>?_)
  have I5':=I5.pinned (stat fr5) (T.obj _ _ st5)
  refine wpAny_passesOwn hp (thn (hg _ s5 σ3 H5 x u _ I5' r5 (step x H5 y5)) fun _ s6 ⟨σ6,H6,I6,q6⟩=>?_)
  refine wpAny_passesOwn hp (thn (hb _ s6 σ6 H6 _ I6 q6) fun f s7 q7=>?_)
  have again:∀ {σ7:St} {H7:Hp},Inv X (pins++qbm fp s5.heap) σ7 H7 s7->N σ7 H7->∃ m,m<n/\∃ i σ' H',Inv X pins σ' H' s7/\tn i s7.heap/\(∀ b∈fp,H' b=none)/\W i m σ' H':=fun {σ7 H7} I7 n7=>by
   obtain ⟨m',hm,w7⟩:=hN σ7 H7 n7
   refine ⟨m',hm,i+1,σ7,H7,I7.unpinned,T.keep _ _ _ st5 fun b hb o e=>(I7.pin (b,o) (List.mem_append_right _ (List.mem_append_right _ (qaA hb e)))).1,fun b hb=>?_,w7⟩
   obtain ⟨o,e,d⟩:=T.obj _ _ st5 b hb
   exact (I7.pin (b,o) (List.mem_append_right _ (List.mem_append_right _ (qaA hb e)))).2.1
  cases f with
  | next=>obtain ⟨σ7,H7,I7,n7⟩:=q7; exact again I7 n7
  | cont=>obtain ⟨σ7,H7,I7,n7⟩:=q7; exact again I7 n7
  | brk=>obtain ⟨σ7,H7,I7,q7⟩:=q7; exact ⟨σ7,H7,I7.unpinned,q7⟩
  | ret v=>obtain ⟨x7,σ7,H7,I7,r7,q7⟩:=q7; exact ⟨x7,σ7,H7,I7.unpinned,r7,q7⟩
end
theorem qcu {K:PySem.W.Frag} {a:Addr} {xs:List V} {g:TG} {tb:TS} {D:Ends} {σ : St} {H:Hp} (Pv:Nat->St->Hp->Prop) (h0:Pv 0 σ H) (hl:∀ i σ H,i<=xs.length->Pv i σ H->SqL K H a xs)
  (hs:∀ i x σ H,xs[i]? = some x->Pv i σ H->g x σ H fun σ2 H2=>tb { D with nx:=Pv (i+1),ct:=Pv (i+1),bk:=D.nx } σ2 H2) (hd:∀ σ H,Pv xs.length σ H->D.nx σ H) :
  ∃ W:Nat->Nat->St->Hp->Prop,(∃ m,W 0 m σ H)/\∀ i m σ H,W i m σ H ->
   ((Itl K a).stop i H/\D.nx σ H) \/ ((Itl K a).go i H/\∃ N:St->Hp->Prop,(∀ σ' H',N σ' H'->∃ m',m'<m/\W (i+1) m' σ' H')/\∀ x H',(Itl K a).yld i H x H'->g x σ H' fun σ2 H2=>tb { D with nx:=N,ct:=N,bk:=D.nx } σ2 H2):=by
 refine ⟨fun i m σ H=>m=xs.length - i/\i<=xs.length/\Pv i σ H,⟨xs.length,by simp,Nat.zero_le _,h0⟩,?_⟩
 rintro i m σ H ⟨rfl,hi,p⟩
 have q:=hl i σ H hi p
 by_cases hlt:i<xs.length
 ·refine .inr ⟨⟨xs,xs[i],q,by simp [hlt]⟩,Pv (i+1),fun σ' H' p'=>⟨xs.length - (i+1),by omega,rfl,hlt,p'⟩,fun x H' y=>?_⟩
  obtain ⟨e,y⟩:=y
  subst e
  exact hs i x σ _ (y xs q) p
 ·have e:i=xs.length:=by omega
  subst e
  exact .inl ⟨⟨xs,q,Nat.le_refl _⟩,hd σ H p⟩
theorem qdv {K:PySem.W.Frag} {a:Addr} {xs:List V} {g:TG} {tb:TS} {D:Ends} {σ : St} {H:Hp} (Pv:Nat->St->Hp->Prop) (h0:Pv 0 σ H) (hl:∀ i σ H,i<=xs.length->Pv i σ H->SqT K H a xs)
  (hs:∀ i x σ H,xs[i]? = some x->Pv i σ H->g x σ H fun σ2 H2=>tb { D with nx:=Pv (i+1),ct:=Pv (i+1),bk:=D.nx } σ2 H2) (hd:∀ σ H,Pv xs.length σ H->D.nx σ H) :
  ∃ W:Nat->Nat->St->Hp->Prop,(∃ m,W 0 m σ H)/\∀ i m σ H,W i m σ H ->
   ((Itt K a).stop i H/\D.nx σ H) \/ ((Itt K a).go i H/\∃ N:St->Hp->Prop,(∀ σ' H',N σ' H'->∃ m',m'<m/\W (i+1) m' σ' H')/\∀ x H',(Itt K a).yld i H x H'->g x σ H' fun σ2 H2=>tb { D with nx:=N,ct:=N,bk:=D.nx } σ2 H2):=by
 refine ⟨fun i m σ H=>m=xs.length - i/\i<=xs.length/\Pv i σ H,⟨xs.length,by simp,Nat.zero_le _,h0⟩,?_⟩
 rintro i m σ H ⟨rfl,hi,p⟩
 have q:=hl i σ H hi p
 by_cases hlt:i<xs.length
 ·refine .inr ⟨⟨xs,xs[i],q,by simp [hlt]⟩,Pv (i+1),fun σ' H' p'=>⟨xs.length - (i+1),by omega,rfl,hlt,p'⟩,fun x H' y=>?_⟩
  obtain ⟨e,y⟩:=y
  subst e
  exact hs i x σ _ (y xs q) p
 ·have e:i=xs.length:=by omega
  subst e
  exact .inl ⟨⟨xs,q,Nat.le_refl _⟩,hd σ H p⟩
end L2
namespace L2
open PySem PySem.Spec PyProof.Rows
abbrev R2:=V->V->Hp->VK->Prop
def OpR (X:Cx) (f:Value->Value->Sem Value) (r:R2):Prop :=
 ∀ (pins:List (Addr × Obj)) (s:Shared) (σ : St) (H:Hp) (x y:V) (v u:Value) (Q:VK),Inv X pins σ H s->RelV x v->RelV y u->r x y H Q ->
  wpAny (model X.prog X.w) X.A (f v u) (EP X pins σ Q) X.xe s
def UnR (X:Cx) (f:Value->Sem Value) (r:V->Hp->VK->Prop):Prop :=
 ∀ (pins:List (Addr × Obj)) (s:Shared) (σ : St) (H:Hp) (x:V) (v:Value) (Q:VK),Inv X pins σ H s->RelV x v->r x H Q ->
  wpAny (model X.prog X.w) X.A (f v) (EP X pins σ Q) X.xe s
def qbW (X:Cx) (f:Value) (r:List V->Hp->VK->Prop):Prop :=
 ∀ (pins:List (Addr × Obj)) (s:Shared) (σ : St) (H:Hp) (xs:List V) (us:List Value) (Q:VK),Inv X pins σ H s->qD xs us->r xs H Q ->
  wpAny (model X.prog X.w) X.A (call f us) (EP X pins σ Q) X.xe s
def qnU (X:Cx) (r:V->Hp->(Bool->Hp->Prop)->Prop):Prop :=
 ∀ (pins:List (Addr × Obj)) (s:Shared) (σ : St) (H:Hp) (x:V) (v:Value) (Q:Bool->Hp->Prop),Inv X pins σ H s->RelV x v->r x H Q ->
  wpAny (model X.prog X.w) X.A (truthy v) (TP X pins σ Q) X.xe s
def tOp (r:R2) (ta tb:TE):TE:=fun σ H Q=>ta σ H fun x H1=>tb σ H1 fun y H2=>r x y H2 Q
def tUn (r:V->Hp->VK->Prop) (ta:TE):TE:=fun σ H Q=>ta σ H fun x H1=>r x H1 Q
def rI0 (g:Int->Int->V):R2:=fun x y H Q=>∃ i j,x=.int i/\y=.int j/\Q (g i j) H
def rU (g:Int->V):V->Hp->VK->Prop:=fun x H Q=>∃ i,x=.int i/\Q (g i) H
section
variable {X:Cx} {a b c:Expr} {ta tb tc:TE} {pos:Pos}
theorem qka (ha:PE X a ta) (hb:PE X b tb) {pins:List (Addr × Obj)} {s:Shared} {σ : St} {H:Hp} {R:V->V->Hp->Prop} (I:Inv X pins σ H s)
  (h:ta σ H fun x H1=>tb σ H1 fun y H2=>R x y H2) {Q:Value->Shared->Prop} {f:Value->Value->Sem Value}
  (hf:∀ v u s2 x y H2,Inv X pins σ H2 s2->RelV x v->RelV y u->R x y H2->wpAny (model X.prog X.w) X.A (f v u) Q X.xe s2) :
  wpAny (model X.prog X.w) X.A (eval a X.env) (fun v s₁=>wpAny (model X.prog X.w) X.A (eval b X.env) (fun u s₂=>wpAny (model X.prog X.w) X.A (f v u) Q X.xe s₂) X.xe s₁) X.xe s:=by
 refine thn (ha pins s σ H _ I h) fun v s1 ⟨x,H1,I1,r1,q1⟩=>?_
 refine thn (hb pins s1 σ H1 _ I1 q1) fun u s2 ⟨y,H2,I2,r2,q2⟩=>?_
 exact hf v u s2 x y H2 I2 r1 r2 q2
theorem QQ {op:Operator} {r:R2} (ho:OpR X (binaryOp op) r) (ha:PE X a ta) (hb:PE X b tb):PE X (.BinOp a op b pos) (tOp r ta tb):=by
 intro pins s σ H Q I h
 exact wpAny_BinOp (qka ha hb I h fun v u s2 x y H2 I2 rx ry q=>ho pins s2 σ H2 x y v u Q I2 rx ry q)
theorem qaB {op:UnaryOp} {r:V->Hp->VK->Prop} (ho:UnR X (unaryOp op) r) (ha:PE X a ta):PE X (.UnaryOp op a pos) (tUn r ta):=by
 intro pins s σ H Q I h
 exact UnaryOp_ (thn (ha pins s σ H _ I h) fun v s1 ⟨x,H1,I1,r1,q1⟩=>ho pins s1 σ H1 x v Q I1 r1 q1)
theorem qmA {f:Value->Value->Sem Value} {g:Int->Int->Int}
  (rule:∀ (i j:Int) (t u:Tok) (s:Shared) (Q:Value->Shared->Prop) (E:Value->Shared->Prop),Q (.int (g i j) s.toks) { s with toks:=s.toks+1 }->wpAny (model X.prog X.w) X.A (f (.int i t) (.int j u)) Q E s) :
  OpR X f (rI0 fun i j=>.int (g i j)):=by
 intro pins s σ H x y v u Q I rx ry h
 obtain ⟨i,j,rfl,rfl,q⟩:=h
 obtain ⟨t,rfl⟩:=rx
 obtain ⟨t',rfl⟩:=ry
 exact rule i j t t' s _ _ ⟨.int (g i j),H,I.tok _,⟨_,rfl⟩,q⟩
theorem qkb {f:Value->Value->Sem Value} {g:Int->Int->Bool}
  (rule:∀ (i j:Int) (t u:Tok) (s:Shared) (Q:Value->Shared->Prop) (E:Value->Shared->Prop),Q (.bool (g i j)) s->wpAny (model X.prog X.w) X.A (f (.int i t) (.int j u)) Q E s) :
  OpR X f (rI0 fun i j=>.bl (g i j)):=by
 intro pins s σ H x y v u Q I rx ry h
 obtain ⟨i,j,rfl,rfl,q⟩:=h
 obtain ⟨t,rfl⟩:=rx
 obtain ⟨t',rfl⟩:=ry
 exact rule i j t t' s _ _ ⟨.bl (g i j),H,I,rfl,q⟩
theorem Jr:OpR X (binaryOp .Add) (rI0 fun i j=>.int (i+j)):=qmA fun _ _ _ _ _ _ _ q=>add_int q
theorem qcO:OpR X (binaryOp .Sub) (rI0 fun i j=>.int (i - j)):=qmA fun _ _ _ _ _ _ _ q=>sub_int q
theorem unI {f:Value->Sem Value} {g:Int->Int}
  (rule:∀ (i:Int) (t:Tok) (s:Shared) (Q:Value->Shared->Prop) (E:Value->Shared->Prop),Q (.int (g i) s.toks) { s with toks:=s.toks+1 }->wpAny (model X.prog X.w) X.A (f (.int i t)) Q E s) :
  UnR X f (rU fun i=>.int (g i)):=by
 intro pins s σ H x v Q I rx h
 obtain ⟨i,rfl,q⟩:=h
 obtain ⟨t,rfl⟩:=rx
 exact rule i t s _ _ ⟨.int (g i),H,I.tok _,⟨_,rfl⟩,q⟩
theorem Js:UnR X (unaryOp .USub) (rU fun i=>.int (-i)):=unI fun _ _ _ _ _ q=>neg_int q
end
def qmB:V->V->Bool
 | .non,.non=>true | .non,.int _=>true | .int _,.non=>true | .non,.bl _=>true | .bl _,.non=>true | .non,.str _=>true | .str _,.non=>true
 | .int _,.int _=>true | .bl _,.bl _=>true | .str _,.str _=>true | .byt _,.byt _=>true
 | .int _,.str _=>true | .str _,.int _=>true | .bl _,.str _=>true | .str _,.bl _=>true
 | _,_=>false
def rEq:R2:=fun x y H Q=>qmB x y=true/\Q (.bl (decide (x=y))) H
def rNe:R2:=fun x y H Q=>qmB x y=true/\Q (.bl (!decide (x=y))) H
theorem jp {i j:Int}:decide (V.int i=V.int j)=(i == j):=by
 rw [Bool.eq_iff_iff]
 simp
theorem qiG {i j:Bool}:decide (V.bl i=V.bl j)=(i == j):=by
 rw [Bool.eq_iff_iff]
 simp
theorem qgW {i j:Str}:decide (V.str i=V.str j)=(i == j):=by
 rw [Bool.eq_iff_iff]
 simp
theorem qgX {i j:Array UInt8}:decide (V.byt i=V.byt j)=(i.toList == j.toList):=by
 rw [Bool.eq_iff_iff]
 cases i
 cases j
 simp
section
variable {X:Cx} {a b c:Expr} {ta tb tc:TE} {pos:Pos}
theorem zg {pins:List (Addr × Obj)} {σ : St} {H:Hp} {s:Shared} {Q:VK} {k k':Bool} (I:Inv X pins σ H s) (q:Q (.bl k) H) (e:k=k'):EP X pins σ Q (.bool k') s:=by
 subst e
 exact ⟨.bl k,H,I,rfl,q⟩
theorem z6:OpR X (compareOp .Eq) rEq:=by
 intro pins s σ H x y v u Q I rx ry h
 obtain ⟨hs,q⟩:=h
 cases x with
 | non=>
  cases rx
  cases y with
  | non=>cases ry; exact PySem.EqNone.eq_none_none (zg I q (by simp))
  | bl j=>cases ry; exact PySem.EqNone.eq_none_bool (zg I q (by simp))
  | int j=>obtain ⟨t',rfl⟩:=ry; exact PySem.EqNone.eq_none_int (zg I q (by simp))
  | str j=>obtain ⟨t',rfl⟩:=ry; exact PySem.EqNone.eq_none_str (zg I q (by simp))
  | _=>exact absurd (show false=true from hs) Bool.false_ne_true
 | bl i=>
  cases rx
  cases y with
  | non=>cases ry; exact PySem.EqNone.eq_bool_none (zg I q (by simp))
  | bl j=>cases ry; exact eq_bool (zg I q qiG)
  | str j=>obtain ⟨t',rfl⟩:=ry; exact PySem.EqMixed.eq_bool_str (zg I q (by simp))
  | _=>exact absurd (show false=true from hs) Bool.false_ne_true
 | int i=>
  obtain ⟨t,rfl⟩:=rx
  cases y with
  | non=>cases ry; exact PySem.EqNone.eq_int_none (zg I q (by simp))
  | int j=>obtain ⟨t',rfl⟩:=ry; exact eq_int (zg I q jp)
  | str j=>obtain ⟨t',rfl⟩:=ry; exact PySem.EqMixed.eq_int_str (zg I q (by simp))
  | _=>exact absurd (show false=true from hs) Bool.false_ne_true
 | str i=>
  obtain ⟨t,rfl⟩:=rx
  cases y with
  | non=>cases ry; exact PySem.EqNone.eq_str_none (zg I q (by simp))
  | bl j=>cases ry; exact PySem.EqMixed.eq_str_bool (zg I q (by simp))
  | int j=>obtain ⟨t',rfl⟩:=ry; exact PySem.EqMixed.eq_str_int (zg I q (by simp))
  | str j=>obtain ⟨t',rfl⟩:=ry; exact eq_str (zg I q qgW)
  | _=>exact absurd (show false=true from hs) Bool.false_ne_true
 | byt i=>
  obtain ⟨t,rfl⟩:=rx
  cases y with
  | byt j=>obtain ⟨t',rfl⟩:=ry; exact PySem.W.eq_bytes (zg I q qgX)
  | _=>exact absurd (show false=true from hs) Bool.false_ne_true
 | _=>cases y <;> exact absurd (show false=true from hs) Bool.false_ne_true
theorem qnz:OpR X (compareOp .NotEq) rNe:=by
 intro pins s σ H x y v u Q I rx ry h
 obtain ⟨hs,q⟩:=h
 cases x with
 | non=>
  cases rx
  cases y with
  | non=>cases ry; exact PySem.EqNone.ne_none_none (zg I q (by simp))
  | bl j=>cases ry; exact PySem.EqNone.ne_none_bool (zg I q (by simp))
  | int j=>obtain ⟨t',rfl⟩:=ry; exact PySem.EqNone.ne_none_int (zg I q (by simp))
  | str j=>obtain ⟨t',rfl⟩:=ry; exact PySem.EqNone.ne_none_str (zg I q (by simp))
  | _=>exact absurd (show false=true from hs) Bool.false_ne_true
 | bl i=>
  cases rx
  cases y with
  | non=>cases ry; exact PySem.EqNone.ne_bool_none (zg I q (by simp))
  | bl j=>cases ry; exact ne_bool (zg I q (congrArg not qiG))
  | str j=>obtain ⟨t',rfl⟩:=ry; exact PySem.EqMixed.ne_bool_str (zg I q (by simp))
  | _=>exact absurd (show false=true from hs) Bool.false_ne_true
 | int i=>
  obtain ⟨t,rfl⟩:=rx
  cases y with
  | non=>cases ry; exact PySem.EqNone.ne_int_none (zg I q (by simp))
  | int j=>obtain ⟨t',rfl⟩:=ry; exact ne_int (zg I q (congrArg not jp))
  | str j=>obtain ⟨t',rfl⟩:=ry; exact PySem.EqMixed.ne_int_str (zg I q (by simp))
  | _=>exact absurd (show false=true from hs) Bool.false_ne_true
 | str i=>
  obtain ⟨t,rfl⟩:=rx
  cases y with
  | non=>cases ry; exact PySem.EqNone.ne_str_none (zg I q (by simp))
  | bl j=>cases ry; exact PySem.EqMixed.ne_str_bool (zg I q (by simp))
  | int j=>obtain ⟨t',rfl⟩:=ry; exact PySem.EqMixed.ne_str_int (zg I q (by simp))
  | str j=>obtain ⟨t',rfl⟩:=ry; exact ne_str (zg I q (congrArg not qgW))
  | _=>exact absurd (show false=true from hs) Bool.false_ne_true
 | byt i=>
  obtain ⟨t,rfl⟩:=rx
  cases y with
  | byt j=>obtain ⟨t',rfl⟩:=ry; exact PySem.W.ne_bytes (zg I q (congrArg not qgX))
  | _=>exact absurd (show false=true from hs) Bool.false_ne_true
 | _=>cases y <;> exact absurd (show false=true from hs) Bool.false_ne_true
theorem qhB:OpR X (compareOp .Lt) (rI0 fun i j=>.bl (decide (i<j))):=qkb fun _ _ _ _ _ _ _ q=>lt_int q
theorem qbX:OpR X (compareOp .LtE) (rI0 fun i j=>.bl (decide (i<=j))):=qkb fun _ _ _ _ _ _ _ q=>le_int q
theorem JM:OpR X (compareOp .Gt) (rI0 fun i j=>.bl (decide (j<i))):=qkb fun _ _ _ _ _ _ _ q=>gt_int q
theorem qV (b:Expr) {op:CmpOp} (h:op≠.In:=by decide) (h2:op≠.NotIn:=by decide):behindInMarks op b=false:=by
 have e1:(op == CmpOp.In)=false:=by cases op <;> first | rfl | exact absurd rfl h
 have e2:(op == CmpOp.NotIn)=false:=by cases op <;> first | rfl | exact absurd rfl h2
 cases b <;> simp [behindInMarks,e1,e2]
theorem qdw {op:CmpOp} {r:R2} (ho:OpR X (compareOp op) r) (ha:PE X a ta) (hb:PE X b tb) (hm:behindInMarks op b=false):PE X (.Compare a [op] [b] pos) (tOp r ta tb):=by
 intro pins s σ H Q I h
 exact wpAny_Compare1 (qka ha hb I h fun v u s2 x y H2 I2 rx ry q=>ho pins s2 σ H2 x y v u Q I2 rx ry q) hm
def qcP (t:TE):TT:=fun σ H Q=>t σ H fun x H'=>∃ k,x=.bl k/\Q k H'
theorem qL {op:CmpOp} {r:R2} (ho:OpR X (compareOp op) r) (ha:PE X a ta) (hb:PE X b tb) (hm:behindInMarks op b=false):PT X (.Compare a [op] [b] pos) (qcP (tOp r ta tb)):=by
 intro pins s σ H Q I h
 refine wpAny_isTrue_Compare1 (thn (ha pins s σ H _ I h) fun v s1 ⟨x,H1,I1,r1,q1⟩=>thn (hb pins s1 σ H1 _ I1 q1) fun u s2 ⟨y,H2,I2,r2,q2⟩=>
  thn (ho pins s2 σ H2 x y v u _ I2 r1 r2 q2) fun c s3 ⟨z,H3,I3,r3,k,e,q3⟩=>?_) hm
 subst e
 cases r3
 exact wpAny_truthy_bool ⟨H3,I3,q3⟩
def qfc (r r':R2) (ta tb tc:TE):TE:=fun σ H Q=>ta σ H fun x H1=>tb σ H1 fun y H2=>r x y H2 fun z H3=>∃ k,z=.bl k /\
 (if k=true then tc σ H3 fun w' H4=>r' y w' H4 Q else Q (.bl false) H3)
theorem qcv {op op':CmpOp} {r r':R2} (ho:OpR X (compareOp op) r) (ho':OpR X (compareOp op') r') (ha:PE X a ta) (hb:PE X b tb) (hc:PE X c tc)
  (hm:lastMarks [op,op'] [b,c]=false:=by with_unfolding_all rfl):PE X (.Compare a [op,op'] [b,c] pos) (qfc r r' ta tb tc):=by
 intro pins s σ H Q I h
 refine Compare_chain (thn (ha pins s σ H _ I h) fun v s1 ⟨x,H1,I1,r1,q1⟩=>chain_link (thn (hb pins s1 σ H1 _ I1 q1) fun u s2 ⟨y,H2,I2,r2,q2⟩=>
  thn (ho pins s2 σ H2 x y v u _ I2 r1 r2 q2) fun d s3 ⟨z,H3,I3,r3,k,e,q3⟩=>?_)) hm
 subst e
 cases r3
 refine wpAny_truthy_bool ?_
 cases k with
 | false=>exact ite_ff ⟨.bl false,H3,I3,rfl,q3⟩
 | true=>exact ite_tt (chain_last (thn (hc pins s3 σ H3 _ I3 q3) fun w' s4 ⟨z',H4,I4,r4,q4⟩=>ho' pins s4 σ H4 y z' u w' Q I4 r2 r4 q4))
def qmC (K:PySem.W.Frag) (x:V) (H:Hp) (k:Bool):Prop :=
 match x with
 | .non=>k=false
 | .bl b=>k=b
 | .int i=>k=(i != 0)
 | .str y=>y.length<=sizeLine/\k=((y.length:Int) != 0)
 | .byt y=>y.size<=sizeLine/\k=((y.size:Int) != 0)
 | .ref p=>(∃ xs,SqL K H p xs/\k = !xs.isEmpty) \/ (∃ xs,SqT K H p xs/\k = !xs.isEmpty) \/ ∃ kvs,H p=some (.dK kvs)/\k = !kvs.isEmpty
 | _=>False
theorem qhC {κ : Type} {kvs:List (κ × V)} {vs:List (κ × Value)} (r:KV kvs vs):(!vs.isEmpty) = !kvs.isEmpty:=by
 cases r <;> rfl
theorem qcQ {xs:List V} {its:List Value} (r:qD xs its):(!its.toArray.isEmpty) = !xs.isEmpty:=by
 cases r <;> simp
theorem qcR:(sizeLine:Nat)<2 ^ 63:=by rw [sizeLine_eq]; decide
theorem qmD:qnU X (fun x H Q=>∃ k,qmC X.K x H k/\Q k H):=by
 intro pins s σ H x v Q I rx h
 obtain ⟨k,e,q⟩:=h
 have hl:=qcR
 have hs:sizeLine=16777216:=sizeLine_eq
 cases x with
 | non=>
  cases rx
  have e':k=false:=e
  subst e'
  exact truthy_none ⟨H,I,q⟩
 | bl b=>
  cases rx
  have e':k=b:=e
  subst e'
  exact wpAny_truthy_bool ⟨H,I,q⟩
 | int i=>
  obtain ⟨t,rfl⟩:=rx
  have e':k=(i != 0):=e
  subst e'
  exact PySem.P.truthy_int ⟨H,I,q⟩
 | str y=>
  obtain ⟨t,rfl⟩:=rx
  obtain ⟨hy,e'⟩:y.length<=sizeLine/\k=((y.length:Int) != 0):=e
  subst e'
  exact PySem.P.truthy_str (by omega) ⟨H,I.tok _,q⟩
 | byt y=>
  obtain ⟨t,rfl⟩:=rx
  obtain ⟨hy,e'⟩:y.size<=sizeLine/\k=((y.size:Int) != 0):=e
  subst e'
  exact PySem.W.truthy_bytes (by omega) ⟨H,I.tok _,q⟩
 | ref p=>
  cases rx
  have e':(∃ xs,SqL X.K H p xs/\k = !xs.isEmpty) \/ (∃ xs,SqT X.K H p xs/\k = !xs.isEmpty) \/ ∃ kvs,H p=some (.dK kvs)/\k = !kvs.isEmpty:=e
  rcases e' with ⟨xs,hx,e'⟩ | ⟨xs,hx,e'⟩ | ⟨kvs,hx,e'⟩
  ·subst e'
   obtain ⟨its,r,pl,hz⟩:=I.list hx
   have hlen:=r.length
   exact wpAny_truthy_list pl.isList (by simp only [List.size_toArray]; omega) ⟨H,I.tok _,by rw [qcQ r]; exact q⟩
  ·subst e'
   obtain ⟨its,r,pl,hz⟩:=I.tuple hx
   have hlen:=r.length
   exact truthy_tuple pl (by simp only [List.size_toArray]; omega) ⟨H,I.tok _,by rw [qcQ r]; exact q⟩
  ·subst e'
   obtain ⟨hz,hS,vs,r,m⟩:kvs.length<=sizeLine/\(p == sysModules)=false/\∃ vs,KV kvs vs/\s.heap.DictOf (zU X.prog X.w) p vs:=I.hok p _ hx
   have hlen:kvs.length=vs.length:=Paired.length r
   exact wpAny_truthy_dict hS m (by omega) ⟨H,I.tok _,by rw [qhC r]; exact q⟩
 | _=>exact (show False from e).elim
theorem Qk (ha:PE X a ta) (he:∀ whole,isTrue a X.env whole=(do let v <- whole; standAt a.pos; holding [v] (truthy v))) :
  PT X a (fun σ H Q=>ta σ H fun x H'=>∃ k,qmC X.K x H' k/\Q k H'):=by
 intro pins s σ H Q I h
 exact isTrue_plain (thn (ha pins s σ H _ I h) fun v s1 ⟨x,H1,I1,r1,q1⟩=>qmD pins s1 σ H1 x v Q I1 r1 q1) (he _)
theorem vals1 {x:V} {us:List Value} (r:qD [x] us):∃ u,us=[u]/\RelV x u:=by
 cases r with
 | cons r1 r2=>cases r2; exact ⟨_,rfl,r1⟩
theorem qkc:qbW X (.builtin "ord") (fun xs H Q=>∃ x,xs=[.str x]/\x.length=1/\Q (.int (x.cps.getD 0 0:Nat)) H):=by
 intro pins s σ H xs us Q I r h
 obtain ⟨x,rfl,hz,q⟩:=h
 obtain ⟨u,rfl,t,rfl⟩:=vals1 r
 exact ord_of_one hz ⟨.int _,H,I.tok _,⟨_,rfl⟩,q⟩
end
end L2
namespace L2
open PySem PySem.Spec PyProof.Rows
structure qcw (h:Heap) (x dx C:Addr) (mA:Str->Option Value):Prop where
 obj:h.get? x=some (PySem.W.instObj C dx)
 ns:h.Ns1 dx mA
 ne:dx≠x
theorem qd8 {h:Heap} {dx:Addr} {mA:Str->Option Value} (n:h.Ns1 dx mA):∃ od,h.get? dx=some od/\∀ name,PySem.W.lookIn name od=some (mA name):=by
 obtain ⟨o,es,ep,ho,hd,hk,_,hm⟩:=n
 refine ⟨o,ho,fun name=>?_⟩
 have e:=hm name
 unfold nsFind findBy at e
 rw [<- Array.find?_toList] at e
 unfold PySem.W.lookIn
 rw [hd]
 dsimp only
 split
 ·rename_i y q
  rw [q] at e
  exact congrArg some e
 ·rename_i q
  rw [q] at e
  have a:es.toList.any (·.refKey)=false:=by
   rw [List.any_eq_false]
   intro y hy
   obtain ⟨z,t,hkey⟩:=hk y (Array.mem_toList_iff.mp hy)
   simp [DictEntry.refKey,hkey]
  have a':¬ es.toList.any (·.refKey)=true:=by rw [a]; exact Bool.false_ne_true
  rw [if_neg a']
  exact congrArg some e
theorem qcw.look {h:Heap} {x dx C:Addr} {mA:Str->Option Value} (I:qcw h x dx C mA):∃ od,PySem.W.InstAt h x (PySem.W.instObj C dx) C (some od)/\∀ name,PySem.W.lookIn name od=some (mA name) :=
 let ⟨od,ho,hl⟩:=qd8 I.ns
 ⟨od,⟨I.obj,rfl,rfl,ho⟩,hl⟩
section
variable {prog:Program} {w:World} {A:Around} {E:Value->Shared->Prop} {s:Shared} {K:PySem.W.Frag} {x dx C f:Addr} {mA:Str->Option Value} {name:Str} {v:Value}
theorem qlC {expr:Bool} {Q:Value->Shared->Prop} (X:K.In s.heap) (I:qcw s.heap x dx C mA) (hg:PySem.W.plainGet K C name=true) (hh:PySem.W.hasDictIn K C=true)
  (ha:PySem.W.findIn K (.ref C) name=some none) (hv:mA name=some v) (hv':PySem.W.handedIn v=true) (h:Q v { s with toks:=s.toks+1 }) :
  wpAny (model prog w) A (getAttr (.ref x) name expr) Q E s:=by
 obtain ⟨od,J,hl⟩:=I.look
 exact PySem.W.get_value X J (PySem.W.plainGet_of hg).1 (PySem.W.findObj_own hh ha rfl (by rw [hl,hv])) hv' h
theorem qkd {pl:Sem Bool} {Q:Value × List Value->Shared->Prop} (X:K.In s.heap) (I:qcw s.heap x dx C mA) (hg:PySem.W.plainGet K C name=true)
  (hf:PySem.W.findIn K (.ref C) name=some (some (.ref f))) (ht:PySem.W.isFn K (.ref f)=true) (hv:mA name=none) (h:Q (.ref f,[.ref x]) s) :
  wpAny (model prog w) A (getMethod (.ref x) name pl) Q E s:=by
 obtain ⟨od,J,hl⟩:=I.look
 exact PySem.W.method_fn X J (PySem.W.plainGet_of hg).1 (PySem.W.plainGet_of hg).2 hf (beq_iff_eq.mp ht) (by show (PySem.W.lookIn name od).map (·.isSome)=some false; rw [hl,hv]; rfl) h
theorem qlD {ns:List Str} {Q:Unit->Shared->Prop} (X:K.In s.heap) (I:qcw s.heap x dx C mA)
  (hs:PySem.W.findIn K (.ref C) "__setattr__" = some (some (.builtin "object.__setattr__"))) (hp:PySem.W.plainOver K C=true) (ht:PySem.W.takerIn K C name=some none) (hh:PySem.W.hasDictIn K C=true)
  (hw:PySem.Within mA ns) (hsz:ns.length<=sizeLine)
  (h:∀ h',qcw h' x dx C (fun y=>if y=name then some v else mA y)->Heap.SameBut dx s.heap h'->Q () { s with heap:=h',toks:=s.toks+2 }) :
  wpAny (model prog w) A (setAttr (.ref x) name v) Q E s:=by
 obtain ⟨od,J,hl⟩:=I.look
 refine PySem.W.set_plain X J hs (PySem.W.osa_open (s:={ s with toks:=s.toks+1 }) (r:=none) X J hp ht fun b=>?_)
 obtain ⟨cd,hc,hd'⟩:=PySem.W.any_some hh
 have hx:s.heap.get? x=some ⟨.ref C,some dx,.plain,#[]⟩:=I.obj
 refine wpAny_bind (wpAny_pure (wpAny_bind (wpAny_bind (wpAny_loadPart hx (wpAny_bind (PySem.W.Looks.here (s:={ s with toks:=s.toks+1 }) (PySem.W.looks_clsIn X hc) ?_))))))
 rw [hd']
 refine wpAny_pure (a:=some dx) (wpAny_bind (wpAny_pure (wpAny_bind ?_)))
 refine wpAny_nsSet1 (s:={ s with toks:=s.toks+1 }) I.ns fun h' hn2 hs2=>?_
 obtain ⟨oD,esD,epD,hoD,hdD,hcD⟩:=hn2.count (PySem.Within.cons name v hw)
 refine wpAny_bind (wpAny_lookBehind hoD (by rw [hdD]; exact pastItsLine_dict (Nat.le_trans hcD (by rw [List.length_cons]; omega))) ?_)
 exact wpAny_pure (h _ ⟨(hs2.2 _ (Ne.symm I.ne)).trans I.obj,hn2,I.ne⟩ hs2)
theorem qke {R:Result->Shared->Prop} {vs:List Value} {kw:List (Str × Value)} (X:K.In s.heap) (hm:PySem.W.makesIn K C=true)
  (hi:PySem.W.findIn K (.ref C) "__init__" = some (some (.ref f))) (hf:PySem.W.typeIn K (.ref f)=some (.type "function"))
  (h:codeAny (model prog w) (A.under (.builtin "type.__call__" ⟨.ref C::vs,kw⟩)) (.call (.ref f) ⟨.ref (s.heap.objs.size+1)::vs,kw⟩) (PySem.W.InitBack (s.heap.objs.size+1) R)
   { s with heap:=(s.heap.push PySem.W.emptyDict).push (PySem.W.instObj C s.heap.objs.size) }) :
  codeAny (model prog w) A (.call (.ref C) ⟨vs,kw⟩) R s:=by
 obtain ⟨hh,g,d,t,os⟩:=s
 exact PySem.W.make_core (PySem.W.makes_of X hm) (PySem.W.looks_findIn X hi) (fun self=>PySem.W.bind_fn X self hf) (.inl rfl) h
end
def zb (f:Str) (v:V):List (Str × V)->List (Str × V)
 | []=>[(f,v)]
 | (g,x)::r=>if g=f then (g,v)::r else (g,x)::zb f v r
theorem JU (f g:Str) (v:V):∀ fs:List (Str × V),(zb f v fs).lookup g=if g=f then some v else fs.lookup g
 | []=>by
  show List.lookup g [(f,v)]=_
  by_cases h:g=f
  ·have hb:(g == f)=true:=beq_iff_eq.mpr h
   simp only [List.lookup,hb,if_pos h]
  ·have hb:(g == f)=false:=beq_eq_false_iff_ne.mpr h
   simp only [List.lookup,hb,if_neg h]
 | (k,x)::r=>by
  have ih:=JU f g v r
  rw [show zb f v ((k,x)::r)=(if k=f then (k,v)::r else (k,x)::zb f v r) from rfl]
  by_cases hk:k=f
  ·rw [if_pos hk]
   by_cases h:g=k
   ·have hb:(g == k)=true:=beq_iff_eq.mpr h
    simp only [List.lookup,hb,if_pos (h.trans hk)]
   ·have hb:(g == k)=false:=beq_eq_false_iff_ne.mpr h
    simp only [List.lookup,hb,if_neg (fun e:g=f=>h (e.trans hk.symm))]
  ·rw [if_neg hk]
   by_cases h:g=k
   ·have hb:(g == k)=true:=beq_iff_eq.mpr h
    simp only [List.lookup,hb,if_neg (fun e:g=f=>hk (h.symm.trans e))]
   ·have hb:(g == k)=false:=beq_eq_false_iff_ne.mpr h
    simp only [List.lookup,hb]
    exact ih
theorem Z0 (f:Str) (v:V):∀ fs:List (Str × V),f∈(zb f v fs).map (·.1)/\∀ g,g∈fs.map (·.1)->g∈(zb f v fs).map (·.1)
 | []=>⟨by simp [zb],fun g h=>by simp at h⟩
 | (k,x)::r=>by
  obtain ⟨i1,i2⟩:=Z0 f v r
  rw [show zb f v ((k,x)::r)=(if k=f then (k,v)::r else (k,x)::zb f v r) from rfl]
  by_cases hk:k=f
  ·rw [if_pos hk]
   subst hk
   exact ⟨by simp,fun g h=>by simpa using h⟩
  ·rw [if_neg hk]
   refine ⟨?_,fun g h=>?_⟩
   ·rw [List.map_cons]
    exact List.mem_cons_of_mem _ i1
   ·rw [List.map_cons] at h ⊢
    rcases List.mem_cons.mp h with e | e
    ·exact List.mem_cons.mpr (.inl e)
    ·exact List.mem_cons_of_mem _ (i2 g e)
theorem qci (f:Str) (v:V):∀ fs:List (Str × V),(zb f v fs).length<=fs.length+1
 | []=>by simp [zb]
 | (k,x)::r=>by
  have ih:=qci f v r
  rw [show zb f v ((k,x)::r)=(if k=f then (k,v)::r else (k,x)::zb f v r) from rfl]
  by_cases hk:k=f
  ·rw [if_pos hk,List.length_cons,List.length_cons]; omega
  ·rw [if_neg hk,List.length_cons,List.length_cons]; omega
theorem jO.some_of {v:V} {o:Option Value} (r:jO (some v) o):∃ u,o=some u/\RelV v u:=by
 cases o with
 | none=>exact (show False from r).elim
 | some u=>exact ⟨u,rfl,r⟩
theorem jO.none_of {o:Option Value} (r:jO none o):o=none:=by
 cases o with
 | none=>rfl
 | some u=>exact (show False from r).elim
theorem qd9 {v:V} {u:Value} (r:RelV v u):PySem.W.handedIn u=true:=by
 cases v with
 | non=>cases (show u=Value.none from r); rfl
 | bl b=>cases (show u=Value.bool b from r); rfl
 | int i=>obtain ⟨t,e⟩:=(show ∃ t,u=Value.int i t from r); cases e; rfl
 | str x=>obtain ⟨t,e⟩:=(show ∃ t,u=Value.str x t from r); cases e; rfl
 | byt b=>obtain ⟨t,e⟩:=(show ∃ t,u=Value.bytes b t from r); cases e; rfl
 | flt b=>obtain ⟨t,e⟩:=(show ∃ t,u=Value.float b t from r); cases e; rfl
 | ref a=>cases (show u=Value.ref a from r); rfl
 | ty n=>cases (show u=Value.type n from r); rfl
section
variable {P:Program} {w:World} {H H':Hp} {h h':Heap} {a C dx:Addr} {fs fs':List (Str × V)}
theorem qbY (hok:HOk P w H h) (e:H a=some (.ins C dx fs)):∃ mA,qcw h a dx C mA/\(∀ f,jO (fs.lookup f) (mA f))/\PySem.Within mA (fs.map (·.1))/\fs.length<=1000/\H dx=some (.own a):=by
 obtain ⟨d,z,ne,ob,mA,n,r,q⟩:=(show zk P w H h a (.ins C dx fs) from hok a _ e)
 exact ⟨mA,⟨ob,n,ne⟩,r,q,z,d⟩
end
structure Cls (K:PySem.W.Frag) (C:Addr):Prop where
 pg:PySem.W.plainGet K C Str.empty=true
 hd:PySem.W.hasDictIn K C=true
 po:PySem.W.plainOver K C=true
 sa:PySem.W.findIn K (.ref C) "__setattr__" = some (some (.builtin "object.__setattr__"))
theorem Cls.get {K:PySem.W.Frag} {C:Addr} (c:Cls K C) (f:Str):PySem.W.plainGet K C f=true:=c.pg
def qx (K:PySem.W.Frag) (C:Addr) (f:Str):Prop:=PySem.W.findIn K (.ref C) f=some none
theorem qx.taker {K:PySem.W.Frag} {C:Addr} {f:Str} (n:qx K C f):PySem.W.takerIn K C f=some none:=by
 unfold PySem.W.takerIn
 rw [show PySem.W.findIn K (.ref C) f=some none from n]
 rfl
structure qhD (K:PySem.W.Frag) (C:Addr) (m:Str) (f:Addr):Prop where
 at_:PySem.W.findIn K (.ref C) m=some (some (.ref f))
 fn:PySem.W.isFn K (.ref f)=true
 kp:PySem.W.keepIn K (.ref f)=true
section
variable {X:Cx} {pins:List (Addr × Obj)} {σ : St} {H:Hp} {s:Shared} {a C dx:Addr} {fs:List (Str × V)} {f:Str} {v:V} {A:Around} {E:Value->Shared->Prop}
theorem qcS {b:Bool} {Q:Value->Shared->Prop} (I:Inv X pins σ H s) (e:H a=some (.ins C dx fs)) (c:Cls X.K C) (n:qx X.K C f) (l:fs.lookup f=some v)
  (h:∀ u s',Inv X pins σ H s'->RelV v u->Q u s'):wpAny (model X.prog X.w) A (getAttr (.ref a) f b) Q E s:=by
 obtain ⟨mA,O,r,_,_,_⟩:=qbY I.hok e
 obtain ⟨u,hu,ru⟩:=jO.some_of (v:=v) (o:=mA f) (by rw [<- l]; exact r f)
 exact qlC I.kIn O (c.get f) c.hd n hu (qd9 ru) (h u _ (I.tok _) ru)
theorem qcT {m:Str} {g:Addr} {pl:Sem Bool} {Q:Value × List Value->Shared->Prop} (I:Inv X pins σ H s) (e:H a=some (.ins C dx fs)) (c:Cls X.K C) (k:qhD X.K C m g) (l:fs.lookup m=none)
  (h:Q (.ref g,[.ref a]) s):wpAny (model X.prog X.w) A (getMethod (.ref a) m pl) Q E s:=by
 obtain ⟨mA,O,r,_,_,_⟩:=qbY I.hok e
 have hn:mA m=none:=jO.none_of (by rw [<- l]; exact r m)
 exact qkd I.kIn O (c.get m) k.at_ k.fn hn h
theorem qcU {y:V} {u:Value} {Q:Unit->Shared->Prop} (I:Inv X pins σ H s) (e:H a=some (.ins C dx fs)) (c:Cls X.K C) (n:qx X.K C f) (hl:fs.length<1000) (ry:RelV y u)
  (h:∀ s',Inv X pins σ (upd H a (.ins C dx (zb f y fs))) s'->Q () s'):wpAny (model X.prog X.w) A (setAttr (.ref a) f u) Q E s:=by
 obtain ⟨mA,O,r,wi,_,ho⟩:=qbY I.hok e
 have hz:(fs.map (·.1)).length<=sizeLine:=by rw [List.length_map,sizeLine_eq]; omega
 refine qlD I.kIn O c.sa c.po n.taker c.hd wi hz fun h' O' sb=>h _ ?_
 have hd:∃ o,h'.get? dx=some o:=let ⟨o,_,_,e',_⟩:=O'.ns; ⟨o,e'⟩
 refine I.write (x:=a) (e:=dx) (by rw [e]; exact True.intro) (.inr ho) (fun b q hb z=>(sb.2 b hb).trans z) hd ?_
 refine ⟨by rw [qd O.ne]; exact ho,?_,O.ne,O'.obj,_,O'.ns,fun g=>?_,fun g hg=>?_⟩
 ·have:=qci f y fs; omega
 ·show jO ((zb f y fs).lookup g) (if g=f then some u else mA g)
  rw [JU]
  by_cases q:g=f
  ·rw [if_pos q,if_pos q]; exact ry
  ·rw [if_neg q,if_neg q]; exact r g
 ·by_cases q:g=f
  ·rw [q]; exact (Z0 f y fs).1
  ·refine (Z0 f y fs).2 g (wi g fun z=>hg ?_)
   show (if g=f then some u else mA g)=none
   rw [if_neg q]; exact z
theorem Inv.made (I:Inv X pins σ H s):Inv X pins σ (upd (upd H s.heap.objs.size (.own (s.heap.objs.size+1))) (s.heap.objs.size+1) (.ins C s.heap.objs.size []))
  { s with heap:=(s.heap.push PySem.W.emptyDict).push (PySem.W.instObj C s.heap.objs.size) }:=by
 have e1:(s.heap.push PySem.W.emptyDict).get? s.heap.objs.size=some PySem.W.emptyDict:=Heap.get?_push_size s.heap rfl
 have e2:((s.heap.push PySem.W.emptyDict).push (PySem.W.instObj C s.heap.objs.size)).get? (s.heap.objs.size+1)=some (PySem.W.instObj C s.heap.objs.size):=by
  have:=Heap.get?_push_size (s.heap.push PySem.W.emptyDict) (o:=PySem.W.instObj C s.heap.objs.size) rfl
  rwa [Heap.size_push] at this
 have e3:(s.heap.push PySem.W.emptyDict).Ns s.heap.objs.size (fun _=>none):=⟨PySem.W.emptyDict,#[],_,e1,rfl,(fun e he=>absurd he (by simp)),fun _=>rfl⟩
 have I1:=I.laid (a:=s.heap.objs.size) (o:=.own (s.heap.objs.size+1)) (h':=s.heap.push PySem.W.emptyDict) (t':=s.toks) (fun b u q=>Heap.get?_push_of_some _ q) (Nat.le_refl _) ⟨_,e1⟩
 refine I1.laid (a:=s.heap.objs.size+1) (o:=.ins C s.heap.objs.size []) (t':=s.toks) (fun b u q=>Heap.get?_push_of_some _ q) (Nat.le_of_eq (Heap.size_push _ _)) ?_
 have ne:s.heap.objs.size≠s.heap.objs.size+1:=Nat.ne_of_lt (Nat.lt_succ_self _)
 refine ⟨by rw [qd ne,qc],Nat.zero_le _,ne,e2,fun _=>none,(Heap.Ns1.of_empty e3).at fun o q=>Heap.get?_push_of_some _ q,fun _=>True.intro,fun y hy=>absurd rfl hy⟩
theorem qgY {prog:Program} {w:World} {env:Env} {e:Expr} {f:Str} {pos:Pos} {s:Shared} {Q:Value->Shared->Prop} (hb:attributeBase e f env (eval e env)=eval e env)
  (h:wpAny (model prog w) A (eval e env) (fun o s₁=>wpAny (model prog w) A (getAttr o f true) Q E s₁) E s):wpAny (model prog w) A (eval (.Attribute e f pos) env) Q E s :=
 Attribute_any_ h (by rw [arm_eval_Attribute,hb])
end
def JV (K:PySem.W.Frag) (ta:TE) (f:Str):TE:=fun σ H Q=>ta σ H fun x H1=>∃ a C dx fs v,x=.ref a/\H1 a=some (.ins C dx fs)/\Cls K C/\qx K C f/\fs.lookup f=some v/\Q v H1
def qnV (K:PySem.W.Frag) (ta tv:TE) (f:Str):TS:=fun D σ H=>tv σ H fun y H1=>ta σ H1 fun x H2=>∃ a C dx fs,x=.ref a/\H2 a=some (.ins C dx fs)/\Cls K C/\qx K C f/\fs.length<1000 /\
 D.nx σ (upd H2 a (.ins C dx (zb f y fs)))
def qkf (X:Cx) (op:Operator) (rd:V->V->Hp->VK->Prop):Prop :=
 ∀ (pins:List (Addr × Obj)) (s:Shared) (σ : St) (H:Hp) (x y:V) (u v:Value) (Q:VK),Inv X pins σ H s->RelV x u->RelV y v->rd x y H Q->wpAny (model X.prog X.w) X.A (inplaceOp op u v) (EP X pins σ Q) X.xe s
def qlE (K:PySem.W.Frag) (ta tv:TE) (rd:V->V->Hp->VK->Prop) (f:Str):TS:=fun D σ H=>ta σ H fun x H1=>∃ a C dx fs v,x=.ref a/\H1 a=some (.ins C dx fs)/\Cls K C/\qx K C f/\fs.lookup f=some v /\
 tv σ H1 fun y H2=>rd v y H2 fun z H3=>∃ dx' fs',H3 a=some (.ins C dx' fs')/\fs'.length<1000/\D.nx σ (upd H3 a (.ins C dx' (zb f z fs')))
section
variable {X:Cx} {o e value:Expr} {f:Str} {pos pos' tpos:Pos} {ta tv:TE}
theorem qj (he:PE X e ta) (hb:attributeBase e f X.env (eval e X.env)=eval e X.env):PE X (.Attribute e f pos) (JV X.K ta f):=by
 intro pins s σ H Q I h
 refine qgY hb (thn (he pins s σ H _ I h) fun u s1 ⟨x,H1,I1,rx,a,C,dx,fs,v,ex,ea,c,n,l,q⟩=>?_)
 subst ex
 obtain rfl:u=Value.ref a:=rx
 exact qcS I1 ea c n l fun u' s2 I2 ru=>⟨v,H1,I2,ru,q⟩
theorem zu (ha:PE X o ta) (hv:PE X value tv) (hs:swapsWith value (some (.Attribute o f pos')) pos.line X.env=pure false):PS X (.Assign [.Attribute o f pos'] value pos) (qnV X.K ta tv f):=by
 intro pins s σ H D I h
 refine plainObj_wpAny_Assign_Attribute (thn (hv pins s σ H _ I h) fun u s1 ⟨y,H1,I1,ry,q⟩=>thn (ha pins s1 σ H1 _ I1 q) fun ov s2 ⟨x,H2,I2,rx,a,C,dx,fs,ex,ea,c,n,l,q2⟩=>?_) hs
 subst ex
 obtain rfl:ov=Value.ref a:=rx
 exact qcU I2 ea c n l ry fun s3 I3=>⟨σ,_,I3,q2⟩
theorem Qi {op:Operator} {rd:V->V->Hp->VK->Prop} (ha:PE X o ta) (hv:PE X value tv) (hop:qkf X op rd):PS X (.AugAssign (.Attribute o f tpos) op value pos) (qlE X.K ta tv rd f):=by
 intro pins s σ H D I h
 refine wpAny_AugAssign_AttributeAny (thn (ha pins s σ H _ I h) fun ov s1 ⟨x,H1,I1,rx,a,C,dx,fs,v,ex,ea,c,n,l,q⟩=>?_)
 subst ex
 obtain rfl:ov=Value.ref a:=rx
 refine qcS I1 ea c n l fun u s2 I2 ru=>thn (hv pins s2 σ H1 _ I2 q) fun w3 s3 ⟨y,H2,I3,ry,q3⟩=>thn (hop pins s3 σ H2 v y u w3 _ I3 ru ry q3) fun w4 s4 ⟨z,H3,I4,rz,dx',fs',ea',l',q4⟩=>?_
 exact qcU I4 ea' c n l' rz fun s5 I5=>⟨σ,_,I5,q4⟩
def qnW:V->V->Hp->VK->Prop:=fun x y H Q=>∃ i j,x=.int i/\y=.int j/\Q (.int (i+j)) H
def qnX:V->V->Hp->VK->Prop:=fun x y H Q=>∃ i j,x=.int i/\y=.int j/\Q (.int (i - j)) H
theorem Jt:qkf X .Add qnW:=by
 rintro pins s σ H x y u v Q I rx ry ⟨i,j,rfl,rfl,q⟩
 obtain ⟨t,rfl⟩:=(show ∃ t,u=Value.int i t from rx)
 obtain ⟨t',rfl⟩:=(show ∃ t',v=Value.int j t' from ry)
 exact PyProof.Rows.iadd_int ⟨.int (i+j),H,I.tok _,⟨_,rfl⟩,q⟩
theorem qmE:qkf X .Sub qnX:=by
 rintro pins s σ H x y u v Q I rx ry ⟨i,j,rfl,rfl,q⟩
 obtain ⟨t,rfl⟩:=(show ∃ t,u=Value.int i t from rx)
 obtain ⟨t',rfl⟩:=(show ∃ t',v=Value.int j t' from ry)
 exact PyProof.Rows.isub_int ⟨.int (i - j),H,I.tok _,⟨_,rfl⟩,q⟩
end
section
variable {X:Cx} {pins:List (Addr × Obj)} {σ : St} {H:Hp} {s:Shared} {A:Around} {E:Value->Shared->Prop} {Q:Value->Shared->Prop} {c:Value} {b:Bool}
inductive ZI (K:PySem.W.Frag) (H:Hp):V->Value->Prop where
 | non:ZI K H .non (.type "NoneType")
 | bl (x:Bool):ZI K H (.bl x) (.type "bool")
 | int (i:Int):ZI K H (.int i) (.type "int")
 | str (x:Str):ZI K H (.str x) (.type "str")
 | flt (x:UInt64):ZI K H (.flt x) (.type "float")
 | lst {a:Addr} {xs:List V} (e:H a=some (.lst xs)):ZI K H (.ref a) (.type "list")
 | frz {a:Addr} {o:Obj} {xs:List V} (e:H a=some (.frz o (.lst xs))):ZI K H (.ref a) (.type "list")
 | tup {a:Addr} {xs:List V} (e:H a=some (.tup xs)):ZI K H (.ref a) (.type "tuple")
 | dK {a:Addr} {kvs:List (Key × V)} (e:H a=some (.dK kvs)):ZI K H (.ref a) (.type "dict")
 | dT {a:Addr} {kvs:List (List Key × V)} (e:H a=some (.dT kvs)):ZI K H (.ref a) (.type "dict")
 | ins {a C dx:Addr} {fs:List (Str × V)} (e:H a=some (.ins C dx fs)) (cl:Cls K C) (ha:PySem.W.findIn K (.ref C) "__class__" = some (some (.builtin "object.__class__")))
   (hn:PySem.W.specialIn K (.builtin "object.__class__") "__get__" = some (some (.builtin "getset_descriptor.__get__"))) (htk:PySem.W.takesIn K (.builtin "object.__class__")=some true)
   (hm:PySem.W.mroIn K C (.type "object")=some true):ZI K H (.ref a) (.ref C)
theorem qiH {x:V} {u t:Value} (I:Inv X pins σ H s) (rx:RelV x u) (ty:ZI X.K H x t) (e:PySem.W.kitOne X.K t c=some b) (h:∀ tk,Q (.bool b) { s with toks:=tk }) :
  wpAny (model X.prog X.w) A (call (.builtin "isinstance") [u,c]) Q E s:=by
 cases ty with
 | non=>cases (show u=Value.none from rx); exact PySem.W.kia_one PySem.W.kitx_none I.kIn True.intro e (fun z=>nomatch z) h
 | bl y=>cases (show u=Value.bool y from rx); exact PySem.W.kia_one PySem.W.kitx_bool I.kIn True.intro e (fun z=>nomatch z) h
 | int i=>obtain ⟨t,q⟩:=(show ∃ t,u=Value.int i t from rx); cases q; exact PySem.W.kia_one PySem.W.kitx_int I.kIn True.intro e (fun z=>nomatch z) h
 | str y=>obtain ⟨t,q⟩:=(show ∃ t,u=Value.str y t from rx); cases q; exact PySem.W.kia_one PySem.W.kitx_str I.kIn True.intro e (fun z=>nomatch z) h
 | flt y=>obtain ⟨t,q⟩:=(show ∃ t,u=Value.float y t from rx); cases q; exact PySem.W.kia_one PySem.W.kitx_float I.kIn True.intro e (fun z=>nomatch z) h
 | @lst a xs ea=>
  cases (show u=Value.ref a from rx)
  obtain ⟨_,_,n,_,h1⟩:=(show zk X.prog X.w H s.heap a (.lst xs) from I.hok a _ ea)
  exact PySem.W.kia_one PySem.W.kitx_list I.kIn ⟨_,h1,rfl⟩ e (fun z=>nomatch z) h
 | @frz a ob xs ea=>
  cases (show u=Value.ref a from rx)
  obtain ⟨_,_,_,n,_,h1⟩:=(show zk X.prog X.w H s.heap a (.frz ob (.lst xs)) from I.hok a _ ea)
  exact PySem.W.kia_one PySem.W.kitx_list I.kIn ⟨_,h1,rfl⟩ e (fun z=>nomatch z) h
 | @tup a xs ea=>
  cases (show u=Value.ref a from rx)
  obtain ⟨_,_,_,p⟩:=(show zk X.prog X.w H s.heap a (.tup xs) from I.hok a _ ea)
  obtain ⟨o,h1,h2,_⟩:=p
  exact PySem.W.kia_one PySem.W.kitx_tuple I.kIn ⟨o,h1,h2⟩ e (fun z=>nomatch z) h
 | @dK a kvs ea=>
  cases (show u=Value.ref a from rx)
  obtain ⟨_,_,vs,_,p⟩:=(show zk X.prog X.w H s.heap a (.dK kvs) from I.hok a _ ea)
  obtain ⟨o,es,ep,h1,h2,_⟩:=p
  exact PySem.W.kia_one PySem.W.kitx_dict I.kIn ⟨o,h1,h2.1⟩ e (fun z=>nomatch z) h
 | @dT a kvs ea=>
  cases (show u=Value.ref a from rx)
  obtain ⟨_,_,xs,_,o,es,ep,h1,h2,_⟩:=(show zk X.prog X.w H s.heap a (.dT kvs) from I.hok a _ ea)
  exact PySem.W.kia_one PySem.W.kitx_dict I.kIn ⟨o,h1,h2.1⟩ e (fun z=>nomatch z) h
 | @ins a C dx fs ea cl ha hn htk hm=>
  cases (show u=Value.ref a from rx)
  obtain ⟨mA,O,_⟩:=qbY I.hok ea
  obtain ⟨od,J,_⟩:=O.look
  exact PySem.W.kia_one (PySem.W.kitx_own (cl.get _) cl.hd ha hn htk hm) I.kIn J e (fun z=>nomatch z) h
end
end L2
namespace L2
open PySem PySem.Spec PyProof.Rows
structure qO (k:Nat) (A:Around):Prop where
 hd:A.handled=none
 dp:A.depth+3 * k+5<recursionLimit
 un:A.units+16 * k+200<cLine
theorem qO.mono {j k:Nat} {A:Around} (r:qO k A) (h:j<=k):qO j A:=⟨r.hd,by have:=r.dp; omega,by have:=r.un; omega⟩
theorem qO.deeper {k:Nat} {A:Around} (r:qO (k+1) A) (env:Env):qO k (A.deeper env) :=
 ⟨r.hd,by have:=r.dp; show A.depth+1+3 * k+5<_; omega,by have:=r.un; show A.units+3+16 * k+200<_; omega⟩
theorem qhE {A:Around} {C:Addr} {us:List Value} {kw:List (Str × Value)}:(A.under (.builtin "type.__call__" ⟨.ref C::us,kw⟩)).depth=A.depth+1:=by
 first | rfl | simp [Around.under,Code.weight,Code.isCreation,Code.isGuard,Code.isCaller,Code.frames,Code.isFrame,guardIds]
theorem qhF {A:Around} {C:Addr} {us:List Value} {kw:List (Str × Value)}:(A.under (.builtin "type.__call__" ⟨.ref C::us,kw⟩)).units=A.units+1:=by
 first | rfl | simp [Around.under,Code.cUnits,Code.frames,Code.isFrame]
theorem qO.make {k:Nat} {A:Around} (r:qO (k+1) A) (C:Addr) (us:List Value) (kw:List (Str × Value)):qO k (A.under (.builtin "type.__call__" ⟨.ref C::us,kw⟩)) :=
 ⟨r.hd,by have:=r.dp; rw [qhE]; omega,by have:=r.un; rw [qhF]; omega⟩
theorem qO.depth {k:Nat} {A:Around} (r:qO k A):A.depth<recursionLimit:=by have:=r.dp; omega
theorem qO.units {k:Nat} {A:Around} (r:qO k A):A.units+64<cLine:=by have:=r.un; omega
def QE:TA:=fun _ H Q=>Q [] H
def jF (ta:TE) (tr:TA):TA:=fun σ H Q=>ta σ H fun x H1=>tr σ H1 fun xs H2=>Q (x::xs) H2
section
variable {X:Cx} {e:Expr} {es:List Expr} {te:TE} {t:TA} {pos:Pos}
theorem qh:PA X [] QE:=fun _ _ _ _ H Q I h=>Calls.spliced_nil ⟨[],H,I,.nil,h⟩
theorem qa (ha:PE X e te) (hr:PA X es t) (hs:starEach (e::es) X.env=(false,eval e X.env)::starEach es X.env:=by rfl):PA X (e::es) (jF te t):=by
 intro pos pins s σ H Q I h
 rw [hs]
 show wpAny _ _ (spliced ((false,eval e X.env)::backTo pos (starEach es X.env))) _ _ s
 refine Calls.spliced_cons (thn (ha pins s σ H _ I h) fun u s1 ⟨x,H1,I1,r1,q1⟩=>?_)
 exact thn (hr pos pins s1 σ H1 _ I1 q1) fun us s2 ⟨xs,H2,I2,r2,q2⟩=>⟨x::xs,H2,I2,.cons r1 r2,q2⟩
def qmF (t:TA):TE:=fun σ H Q=>t σ H fun xs H1=>xs.length<=sizeLine/\∀ p,H1 p=none->Q (.ref p) (upd H1 p (.tup xs))
def qdx (t:TA):TE:=fun σ H Q=>t σ H fun xs H1=>xs.length<=sizeLine/\∀ p,H1 p=none->Q (.ref p) (upd H1 p (.lst xs))
theorem qfd {x1} (h:PA X es t):PE X (.Tuple es x1 pos) (qmF t):=by
 intro pins s σ H Q I hq
 refine wpAny_Tuple_spliced (thn (h pos pins s σ H _ I hq) fun us s1 ⟨xs,H1,I1,r,z,q⟩=>⟨by rw [<- r.length]; exact z,?_⟩)
 have hf:H1 s1.heap.objs.size=none:=I1.hok.fresh (Nat.le_refl _)
 refine ⟨.ref s1.heap.objs.size,upd H1 s1.heap.objs.size (.tup xs),I1.laid (t':=s1.toks) (fun b u e=>Heap.get?_push_of_some _ e) (Nat.le_refl _) ?_,rfl,q _ hf⟩
 exact ⟨z,us,r,⟨_,Heap.get?_push_size _ rfl,rfl,_,rfl⟩⟩
theorem qW (h:PA X es t):PE X (.List es pos) (qdx t):=by
 intro pins s σ H Q I hq
 refine wpAny_List_spliced (thn (h pos pins s σ H _ I hq) fun us s1 ⟨xs,H1,I1,r,z,q⟩=>⟨by rw [<- r.length]; exact z,?_⟩)
 have hf:H1 s1.heap.objs.size=none:=I1.hok.fresh (Nat.le_refl _)
 refine ⟨.ref s1.heap.objs.size,upd H1 s1.heap.objs.size (.lst xs),I1.laid (t':=s1.toks) (fun b u e=>Heap.get?_push_of_some _ e) (Nat.le_refl _) ?_,rfl,q _ hf⟩
 exact ⟨z,us,0,r,Heap.get?_push_size _ rfl⟩
end
abbrev Sp:=List V->Hp->VK->XK->Prop
abbrev CXT:=List Env->Hp->Shared->XK->Value->Shared->Prop
structure qcx (P:Program) (w:World) (K:PySem.W.Frag) (mg:Str->Option Value) (base:Heap) (A:Around) (outer:List Env) (s:Shared) (H:Hp):Prop where
 frames:A.frames=some outer
 mod:Mod K mg base
 bs:∀ b o,base.get? b=some o->s.heap.get? b=some o/\H b=none
 bsz:base.objs.size<=s.heap.objs.size
 funs:s.heap.FunFrames base outer
 frf:∀ b∈frs outer,H b=none
 hok:HOk P w H s.heap
 bare:AllBare s.gens
def CE (outer:List Env) (P:Program) (w:World) (H:Hp) (s:Shared) (Q:VK) (u:Value) (s':Shared):Prop :=
 ∃ v H',s'.os=s.os/\AllBare s'.gens/\Un (frs outer) [] H H' s.heap s'.heap/\HOk P w H' s'.heap/\RelV v u/\Q v H'
def CR (CX:CXT) (outer:List Env) (P:Program) (w:World) (H:Hp) (s:Shared) (Q:VK) (E:XK) (r:Result) (s':Shared):Prop :=
 match r with
 | .ok (.ret u)=>CE outer P w H s Q u s'
 | .ok _=>False
 | .error e=>CX outer H s E e s'
structure qy (P:Program) (w:World) (K:PySem.W.Frag) (mg:Str->Option Value) (base:Heap) (CX:CXT) (k:Nat) (f:Addr) (fd:FuncData) (ps:List Str) (sp:Sp):Prop where
 len:∀ vs H Q E,sp vs H Q E->vs.length=ps.length
 run:∀ (A:Around) (outer:List Env) (s:Shared) (H:Hp) (args:Args) (us:List Value) (vs:List V) (Q:VK) (E:XK),qO k A->qcx P w K mg base A outer s H->BindsTo s fd args (ps.zip us)->qD vs us->sp vs H Q E ->
  codeAny (model P w) A (.call (.ref f) args) (CR CX outer P w H s Q E) s
theorem qy.mono {P:Program} {w:World} {K:PySem.W.Frag} {mg:Str->Option Value} {base:Heap} {CX:CXT} {j k:Nat} {f:Addr} {fd:FuncData} {ps:List Str} {sp:Sp} (F:qy P w K mg base CX j f fd ps sp) (h:j<=k) :
  qy P w K mg base CX k f fd ps sp:=⟨F.len,fun A outer s H args us vs Q E hr=>F.run A outer s H args us vs Q E (hr.mono h)⟩
theorem qcx.make {P:Program} {w:World} {K:PySem.W.Frag} {mg:Str->Option Value} {base:Heap} {A:Around} {outer:List Env} {s:Shared} {H:Hp} (e:qcx P w K mg base A outer s H) (C:Addr) (us:List Value) (kw:List (Str × Value)) :
  qcx P w K mg base (A.under (.builtin "type.__call__" ⟨.ref C::us,kw⟩)) outer s H:=⟨by first | exact e.frames | (simpa [Around.under,Code.envs,Code.isFrame,pushEnvs] using e.frames),e.mod,e.bs,e.bsz,e.funs,e.frf,e.hok,e.bare⟩
section
variable {X:Cx} {pins:List (Addr × Obj)} {σ : St} {H:Hp} {s s':Shared}
theorem Inv.env0 (I:Inv X pins σ H s):qcx X.prog X.w X.K X.mg X.base X.A X.stack s H :=
 ⟨I.ok.frames,I.ok.mod,I.bs,Nat.le_trans I.ok.bsz I.sz,I.stack,I.stkFree,I.hok,I.bare⟩
theorem Inv.after {Q:VK} {u:Value} (I:Inv X pins σ H s) (h:CE X.stack X.prog X.w H s Q u s'):EP X pins σ Q u s':=by
 obtain ⟨v,H',os,bare,un,hok,r,q⟩:=h
 obtain ⟨hh,g,d,t,os'⟩:=s'
 obtain rfl:os'=s.os:=os
 exact ⟨v,H',I.call (h':=hh) (g':=g) (d':=d) (t':=t) (ch:=[]) un hok bare (fun b z=>absurd z (by simp)),r,q⟩
end
def qaC (sp:Sp) (dvs:List V) (E:XK) (t:TA):TE:=fun σ H Q=>t σ H fun vs H1=>sp (vs++dvs) H1 Q E
def qcV (C:Addr) (m:Str) (sp:Sp) (dvs:List V) (E:XK) (ta:TE) (t:TA):TE:=fun σ H Q=>ta σ H fun x H1=>∃ a dx fs,x=.ref a/\H1 a=some (.ins C dx fs)/\fs.lookup m=none /\
 t σ H1 fun vs H2=>sp (x::(vs++dvs)) H2 Q E
def qlc (C:Addr) (sp:Sp) (dvs:List V) (E:XK) (t:TA):TE:=fun σ H Q=>t σ H fun vs H1=>∀ x dx,H1 x=none->H1 dx=none->dx≠x ->
 sp (.ref x::(vs++dvs)) (upd (upd H1 dx (.own x)) x (.ins C dx [])) (fun v H2=>v=.non/\Q (.ref x) H2) E
def Binds (K:PySem.W.Frag) (fd:FuncData) (ps:List Str) (ds:List Value):Prop :=
 ∀ (s:Shared) (us:List Value),K.In s.heap->(us++ds).length=ps.length->BindsTo s fd ⟨us,[]⟩ (ps.zip (us++ds))
theorem Binds.all {K:PySem.W.Frag} {fd:FuncData} {ps:List Str} (h:∀ us:List Value,us.length=ps.length->bindArgs fd ⟨us,[]⟩=pure (ps.zip us)):Binds K fd ps []:=fun s us _ hl=>by
 rw [List.append_nil] at hl ⊢
 exact .of_eq (h us hl)
def jW (CX:CXT) (X:Cx) (E:XK):Prop:=∀ (pins:List (Addr × Obj)) (σ : St) (H:Hp) (s:Shared) (e:Value) (s':Shared),Inv X pins σ H s->CX X.stack H s E e s'->X.xe e s'
section
variable {X:Cx} {CX:CXT} {k:Nat} {f C:Addr} {fd:FuncData} {ps:List Str} {sp:Sp} {dvs:List V} {ds:List Value} {E:XK} {x m:Str} {p pos apos:Pos} {e o:Expr} {es:List Expr} {ta:TE} {t:TA}
theorem qbn {pins:List (Addr × Obj)} {σ : St} {H:Hp} {s:Shared} {Q:VK} {us:List Value} {vs:List V} (F:qy X.prog X.w X.K X.mg X.base CX k f fd ps sp) (hr:qO k X.A) (hb:Binds X.K fd ps ds) (hd:qD dvs ds) (hx:jW CX X E)
  (I:Inv X pins σ H s) (r:qD vs us) (h:sp (vs++dvs) H Q E):wpAny (model X.prog X.w) X.A (call (.ref f) us) (EP X pins σ Q) X.xe s:=by
 have r2:qD (vs++dvs) (us++ds):=r.append hd
 have hl:(us++ds).length=ps.length:=by rw [<- r2.length]; exact F.len _ _ _ _ h
 refine wpAny_call (codeAny_mono (F.run X.A X.stack s H ⟨us,[]⟩ (us++ds) (vs++dvs) Q E hr I.env0 (hb s us I.kIn hl) r2 h) fun r s' hq=>?_)
 cases r with
 | error e=>exact hx pins σ H s e s' I hq
 | ok fl=>
  cases fl with
  | ret u=>exact I.after hq
  | next=>exact False.elim hq
  | brk=>exact False.elim hq
  | cont=>exact False.elim hq
theorem qlF (F:qy X.prog X.w X.K X.mg X.base CX k f fd ps sp) (hr:qO k X.A) (hg:Gl X x) (hm:X.mg x=some (.ref f)) (hk:PySem.W.keepIn X.K (.ref f)=true) (hb:Binds X.K fd ps ds) (hd:qD dvs ds) (hx:jW CX X E)
  (ha:PA X (e::es) t) (hdb:(x == ("__debug__" : Str))=false:=by decide) (he:starEach (e::es) X.env=(false,eval e X.env)::starEach es X.env:=by rfl) (hpl:(backTo pos (starEach es X.env)).any (·.1)=false:=by rfl) :
  PE X (.Call (.Name x p) (e::es) [] pos) (qaC sp dvs E t):=by
 intro pins s σ H Q I h
 refine wpAny_Call_Name_kw (Zn I hg hm ?_ hdb)
 refine PySem.W.callWith_K (h₀:=X.base) I.ok.mod.kin hk (thn (ha pos pins s σ H _ I h) fun us s1 ⟨vs,H1,I1,r,q⟩=>⟨I1.kIn,?_⟩) he hpl
 exact qbn F hr hb hd hx I1 r q
theorem qlG {pl:Sem Bool} (he:PE X o ta) (c:Cls X.K C) (hm:qhD X.K C m f) (F:qy X.prog X.w X.K X.mg X.base CX k f fd ps sp) (hr:qO k X.A) (hb:Binds X.K fd ps ds) (hd:qD dvs ds) (hx:jW CX X E) (ha:PA X (e::es) t)
  (hst:starEach (e::es) X.env=(false,eval e X.env)::starEach es X.env:=by rfl) (hpl:(backTo pos (starEach es X.env)).any (·.1)=false:=by rfl)
  (ht:eval (.Call (.Attribute o m apos) (e::es) [] pos) X.env=(do
   let ov <- eval o X.env
   standAt apos.atName
   let (f,first) <- holding [ov] (getMethod ov m pl)
   callWith pos f first (backTo pos (starEach (e::es) X.env)) (backToKw pos (keywordEach [] X.env))):=by rfl) :
  PE X (.Call (.Attribute o m apos) (e::es) [] pos) (qcV C m sp dvs E ta t):=by
 intro pins s σ H Q I h
 refine PySem.W.methodCall_KW (pl:=pl) (thn (he pins s σ H _ I h) fun u s1 ⟨x,H1,I1,rx,a,dx,fs,ex,ea,l,q⟩=>?_) ht
 subst ex
 obtain rfl:u=Value.ref a:=rx
 refine qcT I1 ea c hm l ?_
 refine PySem.W.callWith_K (first:=[.ref a]) (h₀:=X.base) I.ok.mod.kin hm.kp (thn (ha pos pins s1 σ H1 _ I1 q) fun us s2 ⟨vs,H2,I2,r,q2⟩=>⟨I2.kIn,?_⟩) hst hpl
 exact qbn (us:=.ref a::us) (vs:=.ref a::vs) F hr hb hd hx I2 (.cons rfl r) q2
theorem qkg {pl:Sem Bool} (he:PE X o ta) (c:Cls X.K C) (hm:qhD X.K C m f) (F:qy X.prog X.w X.K X.mg X.base CX k f fd ps sp) (hr:qO k X.A) (hb:Binds X.K fd ps ds) (hd:qD dvs ds) (hx:jW CX X E)
  (ht:eval (.Call (.Attribute o m apos) [] [] pos) X.env=(do
   let ov <- eval o X.env
   standAt apos.atName
   let (f,first) <- holding [ov] (getMethod ov m pl)
   callWith pos f first (backTo pos (starEach [] X.env)) (backToKw pos (keywordEach [] X.env))):=by rfl) :
  PE X (.Call (.Attribute o m apos) [] [] pos) (qcV C m sp dvs E ta QE):=by
 intro pins s σ H Q I h
 refine PySem.W.methodCall_KW (pl:=pl) (thn (he pins s σ H _ I h) fun u s1 ⟨x,H1,I1,rx,a,dx,fs,ex,ea,l,q⟩=>?_) ht
 subst ex
 obtain rfl:u=Value.ref a:=rx
 refine qcT I1 ea c hm l ?_
 exact PySem.W.callWith_K0 (first:=[.ref a]) I1.kIn hm.kp (qbn (us:=[.ref a]) (vs:=[.ref a]) F hr hb hd hx I1 (.cons rfl .nil) q)
structure Mk (K:PySem.W.Frag) (C f:Addr):Prop where
 makes:PySem.W.makesIn K C=true
 init:PySem.W.findIn K (.ref C) "__init__" = some (some (.ref f))
 fn:PySem.W.isFn K (.ref f)=true
 kp:PySem.W.keepIn K (.ref C)=true
theorem qkh {pins:List (Addr × Obj)} {σ : St} {H:Hp} {s:Shared} {Q:VK} {us:List Value} {vs:List V} (M:Mk X.K C f) (F:qy X.prog X.w X.K X.mg X.base CX k f fd ps sp) (hr:qO (k+1) X.A) (hb:Binds X.K fd ps ds) (hd:qD dvs ds)
  (hx:jW CX X E) (I:Inv X pins σ H s) (r:qD vs us)
  (h:∀ x dx,H x=none->H dx=none->dx≠x->sp (.ref x::(vs++dvs)) (upd (upd H dx (.own x)) x (.ins C dx [])) (fun v H2=>v=.non/\Q (.ref x) H2) E) :
  wpAny (model X.prog X.w) X.A (call (.ref C) us) (EP X pins σ Q) X.xe s:=by
 have hq:=h (s.heap.objs.size+1) s.heap.objs.size (I.hok.fresh (Nat.le_succ _)) (I.hok.fresh (Nat.le_refl _)) (Nat.ne_of_lt (Nat.lt_succ_self _))
 have I2:=Inv.made (C:=C) I
 have r2:qD (V.ref (s.heap.objs.size+1)::(vs++dvs)) (Value.ref (s.heap.objs.size+1)::(us++ds)):=.cons rfl (r.append hd)
 have hl:(Value.ref (s.heap.objs.size+1)::us++ds).length=ps.length:=by
  have e:=r2.length
  rw [F.len _ _ _ _ hq] at e
  exact e.symm
 refine wpAny_call (qke (f:=f) I.kIn M.makes M.init (beq_iff_eq.mp M.fn) (codeAny_mono (F.run _ X.stack _ _ ⟨Value.ref (s.heap.objs.size+1)::us,[]⟩ (Value.ref (s.heap.objs.size+1)::(us++ds)) _ _ E (hr.make C us [])
  (I2.env0.make C us []) (hb _ (Value.ref (s.heap.objs.size+1)::us) I2.kIn hl) r2 hq) fun r s' hq'=>?_))
 cases r with
 | error e=>exact hx pins σ _ _ e s' I2 hq'
 | ok fl=>
  cases fl with
  | ret u=>
   obtain ⟨v,H',I3,rv,ev,q3⟩:=I2.after hq'
   subst ev
   exact ⟨rv,⟨V.ref (s.heap.objs.size+1),H',I3,rfl,q3⟩⟩
  | next=>exact False.elim hq'
  | brk=>exact False.elim hq'
  | cont=>exact False.elim hq'
theorem qlH (M:Mk X.K C f) (F:qy X.prog X.w X.K X.mg X.base CX k f fd ps sp) (hr:qO (k+1) X.A) (hg:Gl X x) (hm:X.mg x=some (.ref C)) (hb:Binds X.K fd ps ds) (hd:qD dvs ds) (hx:jW CX X E)
  (ha:PA X (e::es) t) (hdb:(x == ("__debug__" : Str))=false:=by decide) (he:starEach (e::es) X.env=(false,eval e X.env)::starEach es X.env:=by rfl) (hpl:(backTo pos (starEach es X.env)).any (·.1)=false:=by rfl) :
  PE X (.Call (.Name x p) (e::es) [] pos) (qlc C sp dvs E t):=by
 intro pins s σ H Q I h
 refine wpAny_Call_Name_kw (Zn I hg hm ?_ hdb)
 refine PySem.W.callWith_K (h₀:=X.base) I.ok.mod.kin M.kp (thn (ha pos pins s σ H _ I h) fun us s1 ⟨vs,H1,I1,r,q⟩=>⟨I1.kIn,?_⟩) he hpl
 exact qkh M F hr hb hd hx I1 r q
end
section
variable {X:Cx} {CX:CXT} {k:Nat} {f C:Addr} {fd:FuncData} {ps ks:List Str} {sp:Sp} {E:XK} {x m:Str} {p pos apos kpos:Pos} {e o:Expr} {es:List Expr} {kws:List Keyword} {te ta:TE} {t tk:TA} {nm:Option Str}
variable {g:List Value->List Value->List Value} {gV:List V->List V->List V}
end
structure qm (N P:List Str) (sc:Scope):Prop where
 kind:sc.kind=.function
 co:sc.isCoroutine=false
 gen:sc.isGenerator=false
 nd:N.Nodup
 pre:N.take P.length=P
 par:∀ x∈P,sc.names.lookup x=some .local \/ sc.names.lookup x=some .cell
 nofree:∀ y∈sc.names,y.2≠.free
theorem qea {kindOf:Str->Option NameKind} {x:Str}:∀ {binds:List (Str × Value)} {m:Str->Option Value},(∀ v,(x,v)∉binds)->bindL kindOf binds m x=m x
 | [],_,_=>rfl
 | (n,v)::r,m,h=>by
  unfold bindL
  rw [qea fun w hw=>h w (List.mem_cons_of_mem _ hw)]
  split
  ·have:x≠n:=by rintro rfl; exact h v List.mem_cons_self
   simp [this]
  ·rfl
theorem qeb {kindOf:Str->Option NameKind} {x:Str}:∀ {binds:List (Str × Value)} {m:Str->Option Value},(∀ v,(x,v)∉binds)->bindC kindOf binds m x=m x
 | [],_,_=>rfl
 | (n,v)::r,m,h=>by
  unfold bindC
  rw [qeb fun w hw=>h w (List.mem_cons_of_mem _ hw)]
  split
  ·rfl
  ·have:x≠n:=by rintro rfl; exact h v List.mem_cons_self
   simp [this]
theorem qec {kindOf:Str->Option NameKind} {x:Str} {v:Value}:∀ {P:List Str} {vs:List Value} {i:Nat} {m:Str->Option Value},P.Nodup->P[i]? = some x->vs[i]? = some v->kindOf x=some .local ->
  bindL kindOf (P.zip vs) m x=some v
 | [],_,_,_,_,h,_,_=>by simp at h
 | _::_,[],_,_,_,_,h,_=>by simp at h
 | p::P,w::vs,0,m,nd,h1,h2,hk=>by
  simp at h1 h2; subst h1; subst h2
  show bindL kindOf ((p,w)::P.zip vs) m p=_
  unfold bindL
  rw [qea fun v hv=>(List.nodup_cons.mp nd).1 (List.of_mem_zip hv).1,if_pos hk]
  simp
 | p::P,w::vs,i+1,m,nd,h1,h2,hk=>by
  show bindL kindOf ((p,w)::P.zip vs) m x=_
  unfold bindL
  exact qec (i:=i) (List.nodup_cons.mp nd).2 (by simpa using h1) (by simpa using h2) hk
theorem qed {kindOf:Str->Option NameKind} {x:Str} {v:Value}:∀ {P:List Str} {vs:List Value} {i:Nat} {m:Str->Option Value},P.Nodup->P[i]? = some x->vs[i]? = some v->kindOf x≠some .local ->
  bindC kindOf (P.zip vs) m x=some v
 | [],_,_,_,_,h,_,_=>by simp at h
 | _::_,[],_,_,_,_,h,_=>by simp at h
 | p::P,w::vs,0,m,nd,h1,h2,hk=>by
  simp at h1 h2; subst h1; subst h2
  show bindC kindOf ((p,w)::P.zip vs) m p=_
  unfold bindC
  rw [qeb fun v hv=>(List.nodup_cons.mp nd).1 (List.of_mem_zip hv).1,if_neg hk]
  simp
 | p::P,w::vs,i+1,m,nd,h1,h2,hk=>by
  show bindC kindOf ((p,w)::P.zip vs) m x=_
  unfold bindC
  exact qed (i:=i) (List.nodup_cons.mp nd).2 (by simpa using h1) (by simpa using h2) hk
def start (N:List Str) (vs:List V):St:=vs.map some++List.replicate (N.length - vs.length) none
def zc (CX:CXT) (P:Program) (w:World) (K:PySem.W.Frag) (mg:Str->Option Value) (base:Heap) (N:List Str) (qual:Str) (scope:Scope) (f:Addr) (cd:Value) (A:Around) (outer:List Env) (s:Shared) (H:Hp) (E:XK):Cx where
 prog:=P
 w:=w
 K:=K
 mg:=mg
 base:=base
 A:=A.deeper (envOfC qual scope s.heap.objs.size f cd)
 N:=N
 s_0:=s
 H_0:=H
 env:=envOfC qual scope s.heap.objs.size f cd
 outer:=outer
 stack:=envOfC qual scope s.heap.objs.size f cd::outer
 ex:=[]
 calm:=true
 fn:=fun _=>true
 pn:=[]
 xe:=fun e s'=>wpAny (model P w) (A.deeper (envOfC qual scope s.heap.objs.size f cd)) (leaving (envOfC qual scope s.heap.objs.size f cd) e) (fun _ s''=>CX outer H s E e s'') (fun e' s''=>CX outer H s E e' s'') s'
theorem qfe {sc:Scope} {n:Nat} {x:Str} (h:sc.names.lookup x=some .cell):∃ c,(cellsFrom n sc.names []).lookup x=some c:=by
 have q:=PySem.W.cellsFrom_some sc.names n [] (.inl h)
 exact Option.isSome_iff_exists.mp q
theorem qiI {CX:CXT} {P:Program} {w:World} {K:PySem.W.Frag} {mg:Str->Option Value} {base:Heap} {N ps:List Str} {qual:Str} {scope:Scope} {f:Addr} {cd:Value} {A:Around} {outer:List Env} {s s1:Shared} {H:Hp} {E:XK} {us:List Value} {vs:List V}
  (S:qm N ps scope) (hd:A.handled=none) (e0:qcx P w K mg base A outer s H) (hl:vs.length=ps.length) (r:qD vs us)
  (x:InCallC s s.heap.objs.size (bindL (envOfC qual scope s.heap.objs.size f cd).kindOf (ps.zip us) fun _=>none) (cellsFrom (s.heap.objs.size+1) scope.names []) (bindC (envOfC qual scope s.heap.objs.size f cd).kindOf (ps.zip us) fun _=>none) s1) :
  Inv (zc CX P w K mg base N qual scope f cd A outer s H E) [] (start N vs) H s1:=by
 have hpl:ps.length<=N.length:=by have:=congrArg List.length S.pre; rw [List.length_take] at this; omega
 obtain ⟨h1,tk,rfl,hk⟩:=x.done
 have noA:∀ b:Addr,b∉(zc CX P w K mg base N qual scope f cd A outer s H E).ex:=fun b z=>absurd (show b∈([]:List Addr) from z) (by simp)
 refine ⟨⟨e0.mod,S.kind,rfl,rfl,Nat.le_refl _,fun y z c h1 h2=>?_,fun y hy=>?_,fun y c _ h=>?_,fun _=>hd,Around.frames_deeper e0.frames,.inr ⟨rfl,rfl⟩,fun b z=>absurd z (noA b),e0.bs,e0.bsz,fun b _ _=>noA b,fun b z=>absurd z (noA b),e0.funs,e0.frf⟩,
  rfl,e0.bare,Un.kept hk,⟨_,x.toInCall.ns,fun i y v h1 h2 h3=>?_⟩,fun y c h=>⟨_,x.cell y c h⟩,e0.hok.fresh (Nat.le_refl _),fun y c h=>?_,fun p hp=>absurd (show p∈([]:List (Addr × Obj)) from hp) (by simp),e0.hok.kept hk,?_⟩
 ·exact name_of_addr x.apart (PySem.mem_of_lookup h1) (PySem.mem_of_lookup h2)
 ·have hy:scope.names.lookup y=some .cell \/ scope.names.lookup y=some .free:=hy
  rcases hy with hy | hy
  ·exact qfe hy
  ·exact absurd rfl (S.nofree _ (PySem.mem_of_lookup hy))
 ·exact Nat.le_of_lt (x.above y c (PySem.mem_of_lookup h))
 ·have hi:i<vs.length:=by
   unfold start at h2
   by_cases hi:i<vs.length
   ·exact hi
   ·rw [List.getElem?_append_right (by simpa using hi)] at h2
    rw [List.getElem?_replicate] at h2
    split at h2 <;> cases h2
  have ha:vs[i]? = some v:=by
   unfold start at h2
   rw [List.getElem?_append_left (by simpa using hi),List.getElem?_map] at h2
   cases e:vs[i]? with
   | none=>rw [e] at h2; cases h2
   | some a=>rw [e] at h2; cases h2; rfl
  obtain ⟨u,hu,rv⟩:=r.get ha
  have hp:ps[i]? = some y:=by
   rw [<- S.pre,List.getElem?_take_of_lt (by omega)]; exact h1
  have ndP:ps.Nodup:=by rw [<- S.pre]; exact S.nd.sublist (List.take_sublist _ _)
  refine ⟨u,rv,?_⟩
  rcases S.par y (List.mem_of_getElem? hp) with k | k
  ·exact .inl ⟨k,qec ndP hp hu k⟩
  ·obtain ⟨c,e⟩:=qfe (n:=s.heap.objs.size+1) k
   refine .inr ⟨.inl k,c,e,?_⟩
   have q:=x.cell y c e
   rw [qed ndP hp hu (by show scope.names.lookup y≠_; rw [k]; decide)] at q
   exact q
 ·exact e0.hok.fresh (Nat.le_of_lt (x.above y c (PySem.mem_of_lookup h)))
 ·unfold start
  show _=N.length
  rw [List.length_append,List.length_map,List.length_replicate]
  omega
theorem qld {CX:CXT} {P:Program} {w:World} {K:PySem.W.Frag} {mg:Str->Option Value} {base:Heap} {k:Nat} {f:Addr} {name qual:Str} {params:Arguments} {body:List Stmt} {scope:Scope} {dV kV doc pm cdv ct oc:Value} {an od:Option Addr}
  {osl:Array (Option Value)} {N ps:List Str} {sp:Sp} (lk:K.lookup f=some ⟨oc,od,.func (PySem.W.fnOf name qual params body scope dV kV doc pm an cdv ct),osl⟩) (hcd:PySem.W.codeIn K cdv qual=true) (S:qm N ps scope)
  (len:∀ vs H Q E,sp vs H Q E->vs.length=ps.length)
  (hbody:∀ (A:Around) (outer:List Env) (s:Shared) (H:Hp) (vs:List V) (Q:VK) (E:XK),qO k (A.deeper (envOfC qual scope s.heap.objs.size f cdv))->sp vs H Q E ->
   ∃ t,PSs (zc CX P w K mg base N qual scope f cdv A outer s H E) body t/\t { nx:=fun _ H'=>Q .non H',rt:=Q } (start N vs) H) :
  qy P w K mg base CX (k+1) f (PySem.W.fnOf name qual params body scope dV kV doc pm an cdv ct) ps sp:=by
 refine ⟨len,fun A outer s H args us vs Q E hr e0 hb r hsp=>?_⟩
 have hl:=len _ _ _ _ hsp
 have KX:K.In s.heap:=e0.mod.kin.keeps fun b o e=>(e0.bs b o e).1
 have lim:s.heap.NoLimit:=e0.mod.nolimit.keeps fun b o e=>(e0.bs b o e).1
 have hkind:∀ y∈ps.zip us,scope.names.lookup y.1=some .local \/ (scope.names.lookup y.1=some .cell/\((cellsFrom (s.heap.objs.size+1) scope.names []).lookup y.1).isSome=true):=fun ⟨n,v⟩ hy=>by
  rcases S.par n (List.of_mem_zip hy).1 with q | q
  ·exact .inl q
  ·exact .inr ⟨q,PySem.W.cellsFrom_some _ _ _ (.inl q)⟩
 refine codeAny_call_function hr.depth (KX _ _ lk) rfl S.co S.gen rfl (PySem.W.codeRec_of KX hcd) (hb _ _ _ _ ?_)
 refine wpAny_newFunctionEnv_cells S.kind hkind fun env he s1 x=>?_
 subst he
 refine ⟨lim.keeps x.toInCall.keep,codeAny_func ?_⟩
 obtain ⟨t,ht,hq⟩:=hbody A outer s H vs Q E (hr.deeper _) hsp
 have I:Inv (zc CX P w K mg base N qual scope f cdv A outer s H E) [] (start N vs) H s1:=qiI S hr.hd e0 hl r x
 refine wpAny_mono (ht [] s1 (start N vs) H _ I hq) (fun fl s' hs=>?_) fun e s' hs=>hs
 have fin:∀ {σ':St} {H':Hp} {v:V} {u:Value},Inv (zc CX P w K mg base N qual scope f cdv A outer s H E) [] σ' H' s'->RelV v u->Q v H'->CE outer P w H s Q u s' :=
  fun {σ' H' v u} J rv q=>⟨v,H',J.os,J.bare,J.base,J.hok,rv,q⟩
 cases fl with
 | ret u=>
  obtain ⟨v,σ',H',J,rv,q⟩:=hs
  exact fin J rv q
 | next=>
  obtain ⟨σ',H',J,q⟩:=hs
  exact fin (v:=V.non) (u:=Value.none) J rfl q
 | brk=>
  obtain ⟨_,_,_,q⟩:=hs
  exact False.elim q
 | cont=>
  obtain ⟨_,_,_,q⟩:=hs
  exact False.elim q
end L2
namespace L2
open PySem PySem.Spec PyProof.Rows
section
variable {X:Cx} {x:Str} {p pos:Pos} {e:Expr} {es:List Expr} {t:TA} {id T:String} {r:List V->Hp->VK->Prop}
def tCB (r:List V->Hp->VK->Prop) (t:TA):TE:=fun σ H Q=>t σ H fun vs H1=>r vs H1 Q
theorem z7 (hc:qbW X (.builtin id) r) (hg:Gl X x) (hm:X.mg x=none) (hv:bootBuiltins x=some (.builtin id)) (ha:PA X (e::es) t) (hn:x ≠ "__name__":=by decide) (hdb:(x == ("__debug__" : Str))=false:=by decide)
  (he:starEach (e::es) X.env=(false,eval e X.env)::starEach es X.env:=by rfl) (hpl:(backTo pos (starEach es X.env)).any (·.1)=false:=by rfl):PE X (.Call (.Name x p) (e::es) [] pos) (tCB r t):=by
 intro pins s σ H Q I h
 refine wpAny_Call_Name_kw (Jp I hg hm hv ?_ hn hdb)
 exact PyProof.Rows.callWith_builtin1 (thn (ha pos pins s σ H _ I h) fun us s1 ⟨vs,H1,I1,r1,q1⟩=>hc pins s1 σ H1 vs us Q I1 r1 q1) he hpl
theorem qiJ (hc:qbW X (.type T) r) (hg:Gl X x) (hm:X.mg x=none) (hv:bootBuiltins x=some (.type T)) (ha:PA X (e::es) t) (hn:x ≠ "__name__":=by decide) (hdb:(x == ("__debug__" : Str))=false:=by decide)
  (he:starEach (e::es) X.env=(false,eval e X.env)::starEach es X.env:=by rfl) (hpl:(backTo pos (starEach es X.env)).any (·.1)=false:=by rfl):PE X (.Call (.Name x p) (e::es) [] pos) (tCB r t):=by
 intro pins s σ H Q I h
 refine wpAny_Call_Name_kw (Jp I hg hm hv ?_ hn hdb)
 exact PyProof.Rows.callWith_type1 (thn (ha pos pins s σ H _ I h) fun us s1 ⟨vs,H1,I1,r1,q1⟩=>hc pins s1 σ H1 vs us Q I1 r1 q1) he hpl
end
end L2
namespace HT
open PySem PyProof.Rows
section
open PySem.SeqAt
open PySem.AutoSeq1 (wpAny_loadPart')
open PySem.MeetsSeq PySem.MeetsSeq2 PySem.MeetsSeq3
end
section
variable {prog:Program} {w:World} {A:Around} {E:Value->Shared->Prop} {s:Shared}
def sIx (n d:Nat):Option Int->Nat
 | none=>d
 | some v=>if v<0 then (v+(n:Int)).toNat else min v.toNat n
theorem qbZ (n d k:Nat):sIx n d (some (k:Int))=min k n:=by
 show (if (k:Int)<0 then ((k:Int)+(n:Int)).toNat else min (k:Int).toNat n)=min k n
 rw [if_neg (by omega),Int.toNat_natCast]
theorem qiK (n d:Nat) (hd:d<=n) (o:Option Int):sIx n d o<=n:=by
 cases o with
 | none=>exact hd
 | some v=>
  show (if v<0 then (v+(n:Int)).toNat else min v.toNat n)<=n
  by_cases hv:v<0
  ·rw [if_pos hv]; omega
  ·rw [if_neg hv]; exact Nat.min_le_right _ _
end
end HT
namespace L2
open PySem PySem.Spec PyProof.Rows
abbrev TO:=St->Hp->(Option Int->Hp->Prop)->Prop
def PO (X:Cx) (e:Option Expr) (t:TO):Prop :=
 ∀ (pins:List (Addr × Obj)) (s:Shared) (σ : St) (H:Hp) (Q:Option Int->Hp->Prop),Inv X pins σ H s->t σ H Q ->
  wpAny (model X.prog X.w) X.A (evalPart e X.env) (fun u s'=>∃ o H',Inv X pins σ H' s'/\IsPart u o/\Q o H') X.xe s
def qlI:TO:=fun _ H Q=>Q none H
def qhG (t:TE):TO:=fun σ H Q=>t σ H fun x H1=>∃ i,x=.int i/\Q (some i) H1
section
variable {X:Cx} {e:Expr} {te:TE} {lo hi:Option Expr} {tl th:TO} {pos p2:Pos}
theorem qgZ:PO X none qlI:=by
 intro pins s σ H Q I h
 rw [evalPart_none]
 exact wpAny_pure ⟨none,H,I,.none,h⟩
theorem QR (h:PE X e te):PO X (some e) (qhG te):=by
 intro pins s σ H Q I hw
 rw [evalPart_some]
 refine thn (h pins s σ H _ I hw) fun u s1 ⟨x,H1,I1,r1,q1⟩=>?_
 obtain ⟨i,rfl,q⟩:=q1
 obtain ⟨t,rfl⟩:=r1
 exact ⟨some i,H1,I1,.int i t,q⟩
def SlR (X:Cx) (r:V->Option Int->Option Int->Hp->VK->Prop):Prop :=
 ∀ (pins:List (Addr × Obj)) (s:Shared) (σ : St) (H:Hp) (x:V) (v vl vu:Value) (lo hi:Option Int) (sl:Addr) (Q:VK),Inv X pins σ H s->RelV x v->s.heap.IsSliceOf sl vl vu .none->IsPart vl lo->IsPart vu hi->r x lo hi H Q ->
  ∃ T id,typeLookup (.type T) "__getitem__" = pure (some (.builtin id))/\s.TypeIs v T/\wpAny (model X.prog X.w) X.A (getItem v (.ref sl)) (EP X pins σ Q) X.xe s
def tSl (r:V->Option Int->Option Int->Hp->VK->Prop) (te:TE) (tl th:TO):TE:=fun σ H Q=>te σ H fun x H1=>tl σ H1 fun l H2=>th σ H2 fun u H3=>r x l u H3 Q
theorem Ju {r:V->Option Int->Option Int->Hp->VK->Prop} (hr:SlR X r) (he:PE X e te) (hl:PO X lo tl) (hu:PO X hi th):PE X (.Subscript e (.Slice lo hi none p2) pos) (tSl r te tl th):=by
 intro pins s σ H Q I h
 refine Subscript_ (thn (he pins s σ H _ I h) fun v s1 ⟨x,H1,I1,r1,q1⟩=>?_)
 refine wpAny_Slice (thn (hl pins s1 σ H1 _ I1 q1) fun vl s2 ⟨l,H2,I2,pl,q2⟩=>thn (hu pins s2 σ H2 _ I2 q2) fun vu s3 ⟨u,H3,I3,pu,q3⟩=>?_)
 rw [evalPart_none]
 refine wpAny_pure ?_
 have I4:Inv X pins σ H3 { s3 with heap:=s3.heap.push { cls:=.type "slice",data:=.fields #[vl,vu,.none] } }:=I3.kept (t':=s3.toks) fun b ob q=>Heap.get?_push_of_some _ q
 obtain ⟨T,id,hT,ht,hg⟩:=hr pins { s3 with heap:=s3.heap.push { cls:=.type "slice",data:=.fields #[vl,vu,.none] } } σ H3 x v vl vu l u s3.heap.objs.size Q I4 r1 (Heap.IsSliceOf.new ..) pl pu q3
 show wpAny (model X.prog X.w) X.A (subscriptTail e (.Slice lo hi none p2) v (.ref s3.heap.objs.size)) (EP X pins σ Q) X.xe { s3 with heap:=s3.heap.push { cls:=.type "slice",data:=.fields #[vl,vu,.none] } }
 exact tail_any (ops:=[.ref s3.heap.objs.size,v]) ht hT hg (by with_unfolding_all rfl)
def Jv (xs:List V) (lo hi:Option Int):List V:=(xs.drop (HT.sIx xs.length 0 lo)).take (HT.sIx xs.length xs.length hi - HT.sIx xs.length 0 lo)
theorem qgr (xs:List V) (lo hi:Option Int):(Jv xs lo hi).length<=xs.length:=by
 unfold Jv
 rw [List.length_take,List.length_drop]
 omega
end
end L2
namespace L2
open PySem PySem.Spec PyProof.Rows
def ixN (n:Nat) (i:Int):Option Nat:=if 0<=i then (if i<n then some i.toNat else none) else if -(n:Int)<=i then some (i+n).toNat else none
def atI {α : Type} (xs:List α) (i:Int):Option α:=(ixN xs.length i).bind fun j=>xs[j]?
theorem qlJ {n:Nat} {i:Int} {j:Nat} (h:ixN n i=some j):seqIndex? i n=some j/\j<n /\ -(n:Int)<=i/\i<n:=by
 unfold ixN at h
 by_cases h0:0<=i
 ·rw [if_pos h0] at h
  by_cases h1:i<n
  ·rw [if_pos h1] at h
   have e:i.toNat=j:=Option.some.inj h
   exact ⟨by rw [seqIndex_of h0 h1,e],by omega,by omega,h1⟩
  ·rw [if_neg h1] at h; cases h
 ·rw [if_neg h0] at h
  by_cases h1:-(n:Int)<=i
  ·rw [if_pos h1] at h
   have e:(i+n).toNat=j:=Option.some.inj h
   exact ⟨by rw [seqIndex_neg (by omega) h1,e],by omega,h1,by omega⟩
  ·rw [if_neg h1] at h; cases h
theorem qlK {α : Type} {xs:List α} {i:Int} {v:α} (h:atI xs i=some v):∃ j,seqIndex? i xs.length=some j/\xs[j]? = some v/\j<xs.length /\ -(xs.length:Int)<=i/\i<xs.length:=by
 unfold atI at h
 cases e:ixN xs.length i with
 | none=>rw [e] at h; cases h
 | some j=>
  rw [e] at h
  obtain ⟨h1,h2,h3,h4⟩:=qlJ e
  exact ⟨j,h1,h,h2,h3,h4⟩
theorem jJ {α : Type} {xs:List α} {j:Nat} {v:α} (h:xs[j]? = some v):atI xs (j:Int)=some v:=by
 have hj:j<xs.length:=(List.getElem?_eq_some_iff.mp h).1
 have e:ixN xs.length (j:Int)=some j:=by
  unfold ixN
  rw [if_pos (by omega),if_pos (by omega)]; simp
 unfold atI; rw [e]; exact h
theorem qaD {α : Type} (xs:List α) (v:α):atI (xs++[v]) (-1)=some v:=by
 have hl:(xs++[v]).length=xs.length+1:=by simp
 have e:ixN (xs++[v]).length (-1)=some xs.length:=by
  unfold ixN
  rw [hl,if_neg (by decide),if_pos (by omega)]
  congr 1
  omega
 unfold atI
 rw [e]
 show (xs++[v])[xs.length]? = some v
 simp
def qb0 (b:Expr):Prop:=∀ o i,subscripted b false o i=operate [o,i] (getItem o i)
def IxR (X:Cx) (r:R2):Prop :=
 ∀ (value slice:Expr) (pins:List (Addr × Obj)) (s:Shared) (σ : St) (H:Hp) (x y:V) (v u:Value) (Q:VK),Inv X pins σ H s->RelV x v->RelV y u->r x y H Q ->
  subscripted slice false v u=operate [v,u] (getItem v u)->wpAny (model X.prog X.w) X.A (subscriptTail value slice v u) (EP X pins σ Q) X.xe s
def MtR (X:Cx) (id:String) (r:V->List V->Hp->VK->Prop):Prop :=
 ∀ (pins:List (Addr × Obj)) (s:Shared) (σ : St) (H:Hp) (x:V) (xs:List V) (v:Value) (us:List Value) (Q:VK),Inv X pins σ H s->RelV x v->qD xs us->r x xs H Q ->
  wpAny (model X.prog X.w) X.A (call (.builtin id) (v::us)) (EP X pins σ Q) X.xe s
section
variable {X:Cx} {a b:Expr} {ta tb:TE} {pos:Pos}
theorem jz {r:R2} (hr:IxR X r) (ha:PE X a ta) (hb:PE X b tb) (hs:qb0 b):PE X (.Subscript a b pos) (tOp r ta tb):=by
 intro pins s σ H Q I h
 exact Subscript_ (qka ha hb I h fun v u s2 x y H2 I2 rx ry q=>hr a b pins s2 σ H2 x y v u Q I2 rx ry q (hs _ _))
def qnY (K:PySem.W.Frag):R2:=fun x y H Q=>∃ p xs i v,x=.ref p/\y=.int i/\SqL K H p xs/\atI xs i=some v/\Q v H
theorem zH:IxR X (qnY X.K):=by
 intro value slice pins s σ H x y v u Q I rx ry h hs
 obtain ⟨p,xs,i,z,rfl,rfl,hq,he,q⟩:=h
 cases rx
 obtain ⟨t,rfl⟩:=ry
 obtain ⟨its,r,pl,hz⟩:=I.list hq
 obtain ⟨j,h1,h2,h3,h4,h5⟩:=qlK he
 obtain ⟨w,ew,rw'⟩:=r.get h2
 have hl:=r.length
 have hn:=qcR
 have fin:EP X pins σ Q w s:=⟨z,H,I,rw',q⟩
 by_cases h0:0<=i
 ·have hj:i.toNat=j:=by
   rw [seqIndex_of h0 h5] at h1
   exact Option.some.inj h1
  exact item_listR pl.isList h0 (by omega) (by rw [hj]; simpa using ew) fin hs
 ·have hj:(i+(its.toArray.size:Int)).toNat=j:=by
   rw [seqIndex_neg (by omega) h4] at h1
   rw [List.size_toArray,<- hl]
   exact Option.some.inj h1
  exact subscriptTail_builtinR (x:=w) pl.isList.typeIs slot_list_getitem.lookup
   (wpAny_getItem_list_neg (Q:=fun r s'=>r=w/\EP X pins σ Q r s') pl.isList (by omega) (by rw [List.size_toArray] <;> omega) (by omega) (by rw [hj]; simpa using ew) ⟨rfl,fin⟩) hs
theorem qff (lo hi:Option Int) (n:Nat):(sliceBounds lo hi none n).1=((HT.sIx n 0 lo:Nat):Int)/\(sliceBounds lo hi none n).2.1=((HT.sIx n n hi:Nat):Int)/\(sliceBounds lo hi none n).2.2=1:=by
 refine ⟨?_,?_,rfl⟩
 ·cases lo with
  | none=>simp [sliceBounds,HT.sIx]
  | some i=>
   simp only [sliceBounds,HT.sIx,Option.getD_none,show (1:Int) > 0 by decide,if_true]
   by_cases h:i<0
   ·simp only [h,if_true] <;> omega
   ·simp only [h,if_false] <;> omega
 ·cases hi with
  | none=>simp [sliceBounds,HT.sIx]
  | some i=>
   simp only [sliceBounds,HT.sIx,Option.getD_none,show (1:Int) > 0 by decide,if_true]
   by_cases h:i<0
   ·simp only [h,if_true] <;> omega
   ·simp only [h,if_false] <;> omega
theorem qeL (its:List Value) (lo hi:Option Int):slicePick its.toArray lo hi none=((its.drop (HT.sIx its.length 0 lo)).take (HT.sIx its.length its.length hi - HT.sIx its.length 0 lo)).toArray:=by
 obtain ⟨h1,h2,h3⟩:=qff lo hi its.toArray.size
 unfold slicePick
 rw [h1,h2,h3]
 simp only [sliceRange_one,pick_run,List.size_toArray] <;> rfl
def qmG (K:PySem.W.Frag):V->Option Int->Option Int->Hp->VK->Prop:=fun x lo hi H Q=>∃ a xs,x=.ref a/\SqL K H a xs/\∀ p,H p=none->Q (.ref p) (upd H p (.lst (Jv xs lo hi)))
theorem qb1:SlR X (qmG X.K):=by
 intro pins s σ H x v vl vu lo hi sl Q I rx hs pl pu h
 obtain ⟨a,xs,rfl,hx,q⟩:=h
 cases rx
 obtain ⟨its,r,ht,hz⟩:=I.list hx
 have hlen:=r.length
 refine ⟨"list",_,slot_list_getitem.lookup,ht.isList.typeIs,?_⟩
 refine wpAny_getItem_list_slice ht.isList hs pl pu .none (by simp) ?_ (by rw [List.size_toArray] <;> omega)
 rw [qeL,<- hlen]
 refine ⟨.ref s.heap.objs.size,_,I.laid (t':=s.toks) (o:=.lst (Jv xs lo hi)) (fun b ob q=>Heap.get?_push_of_some _ q) (Nat.le_refl _) ?_,rfl,q _ (I.hok.fresh (Nat.le_refl _))⟩
 exact ⟨Nat.le_trans (qgr xs lo hi) hz,_,0,(r.drop (HT.sIx xs.length 0 lo)).take (HT.sIx xs.length xs.length hi - HT.sIx xs.length 0 lo),Heap.get?_push_size _ rfl⟩
def Ql:V->Bool
 | .non=>true
 | .bl _=>true
 | .int _=>true
 | .str _=>true
 | _=>false
def eqV:V->V->Bool
 | .non,.non=>true
 | .bl a,.bl b=>a == b
 | .bl a,.int b=>(if a then 1 else 0) == b
 | .int a,.bl b=>a == (if b then 1 else 0)
 | .int a,.int b=>a == b
 | .str a,.str b=>a == b
 | _,_=>false
theorem qmH {A:Around} {s:Shared} {y x:V} {u v:Value} (ry:RelV y u) (rx:RelV x v) (fy:Ql y=true) (fx:Ql x=true):SeqAt.EqAt A s u v (eqV y x):=by
 cases y with
 | non=>
  cases ry
  cases x with
  | non=>cases rx; exact SeqAt.EqAt.same _
  | bl b=>cases rx; exact SeqAt.EqAt.none_bool b
  | int b=>obtain ⟨t,rfl⟩:=rx; exact SeqAt.EqAt.none_int b t
  | str b=>obtain ⟨t,rfl⟩:=rx; exact SeqAt.EqAt.none_str b t
  | _=>exact absurd (show false=true from fx) Bool.false_ne_true
 | bl a=>
  cases ry
  cases x with
  | non=>cases rx; exact SeqAt.EqAt.bool_none a
  | bl b=>cases rx; exact SeqAt.EqAt.bool_bool a b
  | int b=>obtain ⟨t,rfl⟩:=rx; exact SeqAt.EqAt.bool_int a b t
  | str b=>obtain ⟨t,rfl⟩:=rx; exact SeqAt.EqAt.bool_str a b t
  | _=>exact absurd (show false=true from fx) Bool.false_ne_true
 | int a=>
  obtain ⟨t',rfl⟩:=ry
  cases x with
  | non=>cases rx; exact SeqAt.EqAt.int_none a t'
  | bl b=>cases rx; exact SeqAt.EqAt.int_bool a t' b
  | int b=>obtain ⟨t,rfl⟩:=rx; exact SeqAt.EqAt.int_int a t' b t
  | str b=>obtain ⟨t,rfl⟩:=rx; exact SeqAt.EqAt.int_str a t' b t
  | _=>exact absurd (show false=true from fx) Bool.false_ne_true
 | str a=>
  obtain ⟨t',rfl⟩:=ry
  cases x with
  | non=>cases rx; exact SeqAt.EqAt.str_none a t'
  | bl b=>cases rx; exact SeqAt.EqAt.str_bool a t' b
  | int b=>obtain ⟨t,rfl⟩:=rx; exact SeqAt.EqAt.str_int a t' b t
  | str b=>obtain ⟨t,rfl⟩:=rx; exact SeqAt.EqAt.str_str a t' b t
  | _=>exact absurd (show false=true from fx) Bool.false_ne_true
 | _=>exact absurd (show false=true from fy) Bool.false_ne_true
def eqU (x:V) (u:Value):Bool:=match u with
 | .none=>eqV .non x
 | .bool b=>eqV (.bl b) x
 | .int i _=>eqV (.int i) x
 | .str z _=>eqV (.str z) x
 | _=>false
theorem qiL {x y:V} {u:Value} (r:RelV y u) (f:Ql y=true):eqU x u=eqV y x:=by
 cases y with
 | non=>cases r; rfl
 | bl b=>cases r; rfl
 | int i=>obtain ⟨t,rfl⟩:=r; rfl
 | str z=>obtain ⟨t,rfl⟩:=r; rfl
 | _=>exact absurd (show false=true from f) Bool.false_ne_true
theorem qad {x:V}:∀ {xs:List V} {us:List Value},qD xs us->xs.all Ql=true->us.any (eqU x)=xs.any fun y=>eqV y x
 | _,_,.nil,_=>rfl
 | y::xs,u::us,.cons r t,f=>by
  rw [List.all_cons,Bool.and_eq_true] at f
  rw [List.any_cons,List.any_cons,qiL r f.1,qad t f.2]
theorem Jw {A:Around} {s:Shared} {x:V} {v:Value} (rx:RelV x v) (fx:Ql x=true):∀ {xs:List V} {us:List Value},qD xs us->xs.all Ql=true->∀ u∈us,SeqAt.EqAt A s u v (eqU x u)
 | _,_,.nil,_=>fun u hu=>by cases hu
 | y::xs,u::us,.cons r t,f=>fun u' hu=>by
  rw [List.all_cons,Bool.and_eq_true] at f
  rcases List.mem_cons.mp hu with rfl | hu
  ·rw [qiL r f.1]; exact qmH r rx f.1 fx
  ·exact Jw rx fx t f.2 u' hu
def inV (x:V) (xs:List V):Bool:=xs.any fun y=>eqV y x
def rIn (K:PySem.W.Frag) (neg:Bool):R2:=fun x y H Q=>∃ p xs,y=.ref p/\(SqL K H p xs \/ SqT K H p xs)/\Ql x=true/\xs.all Ql=true/\Q (.bl (if neg then !inV x xs else inV x xs)) H
theorem Z1:OpR X (compareOp .In) (rIn X.K false):=by
 intro pins s σ H x y v u Q I rx ry h
 obtain ⟨p,xs,rfl,hq,fx,fs,q⟩:=h
 cases ry
 rcases hq with hq | hq
 ·obtain ⟨its,r,pl,hz⟩:=I.list hq
  refine SeqAt.in_listAt (eqU x) pl.isList (fun w hw=>Jw rx fx r fs w (by simpa using hw)) ⟨.bl _,H,I,rfl,?_⟩
  rw [show its.toArray.any (eqU x)=its.any (eqU x) by simp,qad r fs]
  exact q
 ·obtain ⟨its,r,pl,hz⟩:=I.tuple hq
  refine SeqAt.in_tupleAt (eqU x) pl (fun w hw=>Jw rx fx r fs w (by simpa using hw)) ⟨.bl _,H,I,rfl,?_⟩
  rw [show its.toArray.any (eqU x)=its.any (eqU x) by simp,qad r fs]
  exact q
theorem qfg:OpR X (compareOp .NotIn) (rIn X.K true):=by
 intro pins s σ H x y v u Q I rx ry h
 obtain ⟨p,xs,rfl,hq,fx,fs,q⟩:=h
 cases ry
 rcases hq with hq | hq
 ·obtain ⟨its,r,pl,hz⟩:=I.list hq
  refine SeqAt.notIn_listAt (eqU x) pl.isList (fun w hw=>Jw rx fx r fs w (by simpa using hw)) ⟨.bl _,H,I,rfl,?_⟩
  rw [show its.toArray.any (eqU x)=its.any (eqU x) by simp,qad r fs]
  exact q
 ·obtain ⟨its,r,pl,hz⟩:=I.tuple hq
  refine SeqAt.notIn_tupleAt (eqU x) pl (fun w hw=>Jw rx fx r fs w (by simpa using hw)) ⟨.bl _,H,I,rfl,?_⟩
  rw [show its.toArray.any (eqU x)=its.any (eqU x) by simp,qad r fs]
  exact q
theorem zy:qbW X (.builtin "len") (fun xs H Q=>∃ p ys,xs=[.ref p]/\(SqL X.K H p ys \/ SqT X.K H p ys)/\Q (.int ys.length) H):=by
 intro pins s σ H xs us Q I r h
 obtain ⟨p,ys,rfl,hq,q⟩:=h
 obtain ⟨u,rfl,rx⟩:=vals1 r
 cases rx
 have hn:=qcR
 rcases hq with hq | hq
 ·obtain ⟨its,r',pl,hz⟩:=I.list hq
  have hlen:=r'.length
  exact Calls.call_len_list pl.isList (by simp only [List.size_toArray] <;> omega) ⟨.int ys.length,H,I.tok _,⟨s.toks+1,by rw [List.size_toArray,hlen]⟩,q⟩
 ·obtain ⟨its,r',pl,hz⟩:=I.tuple hq
  have hlen:=r'.length
  exact len_tuple pl (by simp only [List.size_toArray] <;> omega) ⟨.int ys.length,H,I.tok _,⟨s.toks+1,by rw [List.size_toArray,hlen]⟩,q⟩
theorem qbo:qbW X (.builtin "len") (fun xs H Q=>∃ z,xs=[.str z]/\z.length<=sizeLine/\Q (.int z.length) H):=by
 intro pins s σ H xs us Q I r h
 obtain ⟨z,rfl,hz,q⟩:=h
 obtain ⟨u,rfl,t,rfl⟩:=vals1 r
 have hn:=qcR
 exact len_str (by omega) ⟨.int z.length,H,I.tok _,⟨_,rfl⟩,q⟩
theorem qeM:qbW X (.type "tuple") (fun xs H Q=>∃ p ys,xs=[.ref p]/\((SqL X.K H p ys/\∀ l,H l=none->Q (.ref l) (upd H l (.tup ys))) \/ (SqT X.K H p ys/\Q (.ref p) H))):=by
 intro pins s σ H xs us Q I r h
 obtain ⟨p,ys,rfl,h⟩:=h
 obtain ⟨u,rfl,rx⟩:=vals1 r
 cases rx
 rcases h with ⟨hq,q⟩ | ⟨hq,q⟩
 ·obtain ⟨its,r',pl,hz⟩:=I.list hq
  have hlen:=r'.length
  refine call_tuple_list pl.isList (fun h' kp=>?_) (by simp only [List.size_toArray] <;> omega)
  have I1:Inv X pins σ H { s with heap:=h' }:=I.kept (t':=s.toks) kp
  have I2:Inv X pins σ (upd H h'.objs.size (.tup ys)) { s with heap:=h'.push { cls:=.type "tuple",data:=.seq its.toArray } } :=
   I1.laid (t':=s.toks) (fun b o e=>Heap.get?_push_of_some _ e) (Nat.le_refl _) (show zk X.prog X.w _ _ _ (.tup ys) from ⟨hz,its,r',IsTup.new _ _⟩)
  exact ⟨.ref h'.objs.size,_,I2,rfl,q _ (I1.hok.fresh (Nat.le_refl _))⟩
 ·obtain ⟨its,r',pl,hz⟩:=I.tuple hq
  exact call_tuple_same pl ⟨.ref p,H,I,rfl,q⟩
def tyV (K:PySem.W.Frag) (T:String) (x:V) (H:Hp):Prop:=match x with
 | .str _=>T = "str"
 | .int _=>T = "int"
 | .ref p=>(T = "list" /\ ∃ xs,SqL K H p xs) \/ (T = "tuple" /\ ∃ o,K.lookup p=some o/\o.cls=.type "tuple" /\ o.dict=none) \/
   (T = "dict" /\ ((∃ kvs,H p=some (.dK kvs)) \/ ∃ kvs,H p=some (.dT kvs))) \/ (T = "set" /\ ∃ S n,H p=some (.set S n))
 | _=>False
theorem qiM {pins:List (Addr × Obj)} {σ : St} {H:Hp} {s:Shared} {T:String} {x:V} {v:Value} (I:Inv X pins σ H s) (r:RelV x v) (ty:tyV X.K T x H) :
  s.TypeIs v T/\∀ a,v=.ref a->∃ ob,s.heap.get? a=some ob/\ob.dict=none:=by
 cases x with
 | str z=>
  obtain ⟨t,rfl⟩:=r
  cases (show T = "str" from ty)
  exact ⟨typeIs_str s z t,fun _ e=>nomatch e⟩
 | int i=>
  obtain ⟨t,rfl⟩:=r
  cases (show T = "int" from ty)
  exact ⟨typeIs_int s i t,fun _ e=>nomatch e⟩
 | ref p=>
  cases r
  rcases ty with ⟨rfl,xs,hq⟩ | ⟨rfl,o,hk,hc,hd⟩ | ⟨rfl,hk⟩ | ⟨rfl,S,n,hk⟩
  ·obtain ⟨its,_,pl,_⟩:=I.list hq
   refine ⟨pl.isList.typeIs,fun a e=>?_⟩
   cases e
   obtain ⟨o,n,e,c,hd,_⟩:=pl
   exact ⟨o,e,hd⟩
  ·refine ⟨⟨o,I.kIn p o hk,hc⟩,fun a e=>?_⟩
   cases e
   exact ⟨o,I.kIn _ o hk,hd⟩
  ·have z:∃ o,s.heap.get? p=some o/\o.ExactDict:=by
    rcases hk with ⟨kvs,hk⟩ | ⟨kvs,hk⟩
    ·obtain ⟨_,_,_,_,o,_,_,e,ex,_⟩:=I.hok p _ hk
     exact ⟨o,e,ex⟩
    ·obtain ⟨_,_,_,_,o,_,_,e,ex,_⟩:=I.hok p _ hk
     exact ⟨o,e,ex⟩
   obtain ⟨o,e,ex⟩:=z
   refine ⟨⟨o,e,ex.1⟩,fun a e2=>?_⟩
   cases e2
   exact ⟨o,e,ex.2.1⟩
  ·obtain ⟨o,_,_,_,e,ex,_⟩:=I.hok p _ hk
   refine ⟨⟨o,e,ex.1⟩,fun a e2=>?_⟩
   cases e2
   exact ⟨o,e,ex.2.1⟩
 | _=>exact False.elim ty
def qnZ (K:PySem.W.Frag) (T:String) (r:V->List V->Hp->VK->Prop) (to:TE):TE:=fun σ H Q=>to σ H fun x H1=>tyV K T x H1/\r x [] H1 Q
def tBM (K:PySem.W.Frag) (T:String) (r:V->List V->Hp->VK->Prop) (to:TE) (t:TA):TE:=fun σ H Q=>to σ H fun x H1=>tyV K T x H1/\t σ H1 fun xs H2=>r x xs H2 Q
variable {o e:Expr} {es:List Expr} {to:TE} {t:TA} {name:Str} {apos cpos:Pos} {T id:String} {r:V->List V->Hp->VK->Prop}
theorem qae (pa:PlainAttrs T) (slot:Slot T name id) (hty:typeOf (.builtin id)=pure (.type "method_descriptor")) (hm:MtR X id r) (ho:PE X o to)
  (hbase:attributeBase o name X.env (eval o X.env)=eval o X.env:=by rfl) (hline:(apos.endLine == cpos.line)=true:=by rfl):PE X (.Call (.Attribute o name apos) [] [] cpos) (qnZ X.K T r to):=by
 intro pins s σ H Q I h
 refine wpAny_Call_method0_late hbase hline (thn (ho pins s σ H _ I h) fun v s1 ⟨x,H1,I1,r1,ty,q1⟩=>?_)
 obtain ⟨h1,h2⟩:=qiM I1 r1 ty
 exact ⟨T,id,pa,slot,hty,h1,h2,Calls.callWith_builtin rfl (PySem.evalArgs_none (hm pins s1 σ H1 x [] v [] Q I1 r1 .nil q1))⟩
theorem zF (pa:PlainAttrs T) (slot:Slot T name id) (hty:typeOf (.builtin id)=pure (.type "method_descriptor")) (hm:MtR X id r) (ho:PE X o to) (ha:PA X (e::es) t)
  (hbase:attributeBase o name X.env (eval o X.env)=eval o X.env:=by rfl)
  (hfew:((backTo cpos (starEach (e::es) X.env)).all (fun x=>!x.1)&&(backToKw cpos (keywordEach [] X.env)).all (fun x=>x.1.isSome)
   && decide ((e::es).length+([]:List Keyword).length+(if ([]:List Keyword).isEmpty then 0 else 1)<30))=true:=by rfl)
  (hline:(apos.endLine == cpos.line)=true:=by rfl) (hs:starEach (e::es) X.env=(false,eval e X.env)::starEach es X.env:=by rfl) (hplain:(backTo cpos (starEach es X.env)).any (·.1)=false:=by rfl) :
  PE X (.Call (.Attribute o name apos) (e::es) [] cpos) (tBM X.K T r to t):=by
 intro pins s σ H Q I h
 refine wpAny_Call_method_late hbase hfew hline rfl (thn (ho pins s σ H _ I h) fun v s1 ⟨x,H1,I1,r1,ty,q1⟩=>?_)
 obtain ⟨h1,h2⟩:=qiM I1 r1 ty
 refine ⟨T,id,pa,slot,hty,h1,h2,?_⟩
 have hA:=ha cpos pins s1 σ H1 _ I1 q1
 rw [hs] at hA ⊢
 refine Calls.callWith_builtin (by show (false||(backTo cpos (starEach es X.env)).any (·.1))=false; rw [hplain] <;> rfl) (Calls.evalArgs_plain ?_)
 exact thn hA fun us s2 ⟨vs,H2,I2,r2,q2⟩=>hm pins s2 σ H2 x vs v us Q I2 r1 r2 q2
end
end L2
namespace L2
open PySem PySem.Spec PyProof.Rows
def MtM (X:Cx) (id:String) (r:V->List V->Hp->VK->Prop):Prop :=
 ∀ (pins:List (Addr × Obj)) (s:Shared) (σ : St) (H:Hp) (x:V) (xs:List V) (v:Value) (us:List Value) (Q:VK),Inv X pins σ H s->RelV x v->qD xs us->r x xs H Q ->
  wpAny (model X.prog X.w) X.A (call (.builtin id) (v::us)) (EP X pins σ Q) X.xe s
theorem qD.one:∀ {x:V} {us:List Value},qD [x] us->∃ u,us=[u]/\RelV x u
 | _,_,.cons r .nil=>⟨_,rfl,r⟩
theorem qD.zero:∀ {us:List Value},qD [] us->us=[]
 | _,.nil=>rfl
theorem qD.dropLast {xs:List V} {us:List Value} (h:qD xs us):qD xs.dropLast us.dropLast:=by
 induction h with
 | nil=>exact .nil
 | cons r t ih=>
  cases t with
  | nil=>exact .nil
  | cons q t'=>exact .cons r ih
theorem qD.reverse {xs:List V} {us:List Value} (h:qD xs us):qD xs.reverse us.reverse:=by
 induction h with
 | nil=>exact .nil
 | cons r t ih=>rw [List.reverse_cons,List.reverse_cons]; exact qD.append ih (.cons r .nil)
theorem qhH {α : Type} (l:List α):l.eraseIdx (l.length - 1)=l.dropLast:=by
 induction l with
 | nil=>rfl
 | cons a r ih=>
  cases r with
  | nil=>rfl
  | cons b r=>
   have e:(a::b::r).length - 1=((b::r).length - 1)+1:=by
    have h1:(a::b::r).length=r.length+2:=rfl
    have h2:(b::r).length=r.length+1:=rfl
    omega
   rw [e,List.eraseIdx_cons_succ,ih]
   all_goals rfl
section
variable {X:Cx} {pins:List (Addr × Obj)} {σ : St} {H:Hp} {s:Shared} {l b:Addr} {xs ys zs:List V}
theorem Inv.lset {its its':List Value} {n:Nat} {f:Array Value->Array Value} {t':Nat} (I:Inv X pins σ H s) (hH:H l=some (.lst xs))
  (e:s.heap.get? l=some { cls:=.type "list",data:=.seq its.toArray n }) (hf:f its.toArray=its'.toArray) (hv:qD ys its') (hz:ys.length<=sizeLine) :
  Inv X pins σ (upd H l (.lst ys)) { s with heap:=s.heap.update l (Obj.mapSeq f),toks:=t' }:=by
 have q:=PySem.IsL.update e f
 rw [hf] at q
 refine I.write (x:=l) (e:=l) (by rw [hH]; exact trivial) (.inl rfl) (fun b' u hb hu=>(Heap.get?_update_other s.heap (Obj.mapSeq f) (Ne.symm hb)).trans hu) ⟨_,q⟩ ?_
 exact ⟨hz,its',_,hv,q⟩
theorem Inv.lnew {its:List Value} {t':Nat} (I:Inv X pins σ H s) (hv:qD ys its) (hz:ys.length<=sizeLine) :
  Inv X pins σ (upd H s.heap.objs.size (.lst ys)) { s with heap:=s.heap.push { cls:=.type "list",data:=.seq its.toArray },toks:=t' } :=
 I.laid (fun _ _ q=>Heap.get?_push_of_some _ q) (Nat.le_refl _) ⟨hz,its,0,hv,Heap.get?_push_size _ rfl⟩
theorem Inv.fresh (I:Inv X pins σ H s):H s.heap.objs.size=none:=I.hok.fresh (Nat.le_refl _)
theorem Inv.lstM (I:Inv X pins σ H s) (hH:H l=some (.lst xs)):xs.length<=sizeLine/\∃ (its:List Value) (n:Nat),qD xs its/\xs.length=its.length/\s.heap.get? l=some { cls:=.type "list",data:=.seq its.toArray n }:=by
 obtain ⟨z,its,n,r,e⟩:=I.hok l _ hH
 exact ⟨z,its,n,r,r.length,e⟩
theorem qki {n:Nat} (h:n<=sizeLine):Builtin.List.listTooLong n=false:=by
 unfold Builtin.List.listTooLong
 exact decide_eq_false (by omega)
end
section
variable {X:Cx}
def qg0:V->List V->Hp->VK->Prop:=fun x vs H Q=>∃ l xs y,x=.ref l/\vs=[y]/\H l=some (.lst xs)/\xs.length<sizeLine/\Q .non (upd H l (.lst (xs++[y])))
theorem zn:MtM X "list.append" qg0:=by
 intro pins s σ H x vs v us Q I rx rv h
 obtain ⟨l,xs,y,rfl,rfl,hH,hz,q⟩:=h
 cases rx
 obtain ⟨u,rfl,ru⟩:=rv.one
 obtain ⟨z,its,n,r,hl,e⟩:=I.lstM hH
 refine call_meets F.slot_list_append ⟨_,e,rfl⟩ F.entry_list_append (F.args_list_append_2 _ _) (PySem.list_append l its.toArray n u (by rw [List.size_toArray]; omega)) ⟨e,?_⟩
 refine ⟨.non,_,I.lset (its':=its++[u]) hH e (by simp) (r.append (.cons ru .nil)) ?_,rfl,q⟩
 rw [List.length_append,List.length_singleton]
 omega
def qlL:V->List V->Hp->VK->Prop:=fun x vs H Q=>∃ l b xs zs,x=.ref l/\vs=[.ref b]/\H l=some (.lst xs)/\H b=some (.lst zs)/\xs.length+zs.length<=sizeLine/\Q .non (upd H l (.lst (xs++zs)))
theorem jw:MtM X "list.extend" qlL:=by
 intro pins s σ H x vs v us Q I rx rv h
 obtain ⟨l,b,xs,zs,rfl,rfl,hH,hB,hz,q⟩:=h
 cases rx
 obtain ⟨u,rfl,ru⟩:=rv.one
 cases ru
 obtain ⟨z,its,n,r,hl,e⟩:=I.lstM hH
 obtain ⟨z2,its2,n2,r2,hl2,e2⟩:=I.lstM hB
 have hsz:its.toArray.size+its2.toArray.size<=sizeLine:=by rw [List.size_toArray,List.size_toArray]; omega
 have hlong:¬ (!its.toArray.isEmpty&&Builtin.List.listTooLong (its.toArray.size+its2.toArray.size))=true:=by
  rw [qki hsz,Bool.and_false]
  exact Bool.false_ne_true
 refine call_meets F.slot_list_extend ⟨_,e,rfl⟩ F.entry_list_extend (F.args_list_extend_2 _ _)
  (AutoSeq1.list_extend_list_list_0 l its.toArray n b its2.toArray n2 hlong (by rw [List.size_toArray]; omega) (by omega)) ⟨e,e2,?_⟩
 refine ⟨.non,_,I.lset (its':=its++its2) hH e (by simp) (r.append r2) ?_,rfl,q⟩
 rw [List.length_append]
 omega
def qn0:V->List V->Hp->VK->Prop:=fun x vs H Q=>∃ l xs y,x=.ref l/\vs=[]/\H l=some (.lst xs)/\xs[xs.length - 1]? = some y/\Q y (upd H l (.lst xs.dropLast))
theorem qaf:MtM X "list.pop" qn0:=by
 intro pins s σ H x vs v us Q I rx rv h
 obtain ⟨l,xs,y,rfl,rfl,hH,hy,q⟩:=h
 cases rx
 have hus:=rv.zero
 subst hus
 obtain ⟨z,its,n,r,hl,e⟩:=I.lstM hH
 obtain ⟨u,hu,ru⟩:=r.get hy
 have hy':its.toArray[its.toArray.size - 1]? = some u:=by
  show its.toArray[its.length - 1]? = some u
  rw [<- Array.getElem?_toList,<- hl]
  exact hu
 refine call_meets F.slot_list_pop ⟨_,e,rfl⟩ F.entry_list_pop (F.args_list_pop_1 _) (MeetsSeq.list_pop_last l its.toArray n u hy' (by rw [List.size_toArray]; omega)) ⟨e,?_⟩
 refine ⟨y,_,I.lset (its':=its.dropLast) hH e ?_ r.dropLast ?_,ru,q⟩
 ·show its.toArray.eraseIdxIfInBounds (its.toArray.size - 1)=its.dropLast.toArray
  rw [List.size_toArray,List.eraseIdxIfInBounds_toArray,qhH]
 ·rw [List.length_dropLast]
  omega
def qn1:R2:=fun x y H Q=>∃ l b xs zs,x=.ref l/\y=.ref b/\H l=some (.lst xs)/\H b=some (.lst zs)/\xs.length+zs.length<=sizeLine/\∀ p,H p=none->Q (.ref p) (upd H p (.lst (xs++zs)))
theorem qiN:OpR X (binaryOp .Add) qn1:=by
 intro pins s σ H x y v u Q I rx ry h
 obtain ⟨l,b,xs,zs,rfl,rfl,hH,hB,hz,q⟩:=h
 cases rx
 cases ry
 obtain ⟨z,its,n,r,hl,e⟩:=I.lstM hH
 obtain ⟨z2,its2,n2,r2,hl2,e2⟩:=I.lstM hB
 refine PySem.P.add_list e e2 ?_ (by rw [List.size_toArray,List.size_toArray]; omega)
 have ea:its.toArray++its2.toArray=(its++its2).toArray:=by simp
 rw [ea]
 exact ⟨.ref _,_,I.lnew (t':=s.toks) (r.append r2) (by rw [List.length_append]; omega),rfl,q _ I.fresh⟩
end
section
variable {prog:Program} {w:World} {A:Around} {E:Value->Shared->Prop} {s:Shared}
set_option maxRecDepth 100000 in
end
section
variable {X:Cx}
end
end L2
namespace L2
open PySem PySem.Spec PyProof.Rows
theorem qD.ints:∀ {ns:List Int} {us:List Value},qD (ns.map V.int) us->IntsAre us ns
 | [],us,h=>by
  rw [List.map_nil] at h
  cases h
  exact IntsAre.nil
 | n::ns,us,h=>by
  rw [List.map_cons] at h
  cases h with
  | cons r t=>
   obtain ⟨k,rfl⟩:=r
   exact IntsAre.cons n k (qD.ints t)
theorem qD.ref1 {a:Addr} {us:List Value} (r:qD [V.ref a] us):us=[Value.ref a]:=by
 cases r with
 | cons r t=>
  cases t
  cases r
  rfl
section
variable {prog:Program} {w:World} {A:Around} {E:Value->Shared->Prop} {s:Shared} {l:Addr} {its:List Value} {ns:List Int} {Q:Value->Shared->Prop}
end
section
variable {X:Cx}
end
section
variable {X:Cx}
end
section
variable {X:Cx}
end
section
variable {X:Cx}
end
mutual
inductive Dp (K:PySem.W.Frag) (H:Hp):V->PyData->Prop
 | non:Dp K H .non .none
 | bl (b:Bool):Dp K H (.bl b) (.bool b)
 | int (i:Int):Dp K H (.int i) (.int i)
 | str (x:Str):Dp K H (.str x) (.str x)
 | lst {a:Addr} {xs:List V} {ds:List PyData}:SqL K H a xs->qaE K H xs ds->Dp K H (.ref a) (.list ds)
 | tup {a:Addr} {xs:List V} {ds:List PyData}:SqT K H a xs->qaE K H xs ds->Dp K H (.ref a) (.tuple ds)
inductive qaE (K:PySem.W.Frag) (H:Hp):List V->List PyData->Prop
 | nil:qaE K H [] []
 | cons {v:V} {vs:List V} {d:PyData} {ds:List PyData}:Dp K H v d->qaE K H vs ds->qaE K H (v::vs) (d::ds)
end
section
variable {X:Cx} {pins:List (Addr × Obj)} {σ : St} {H:Hp} {s:Shared}
mutual
theorem Dp.reads (I:Inv X pins σ H s):∀ (d:PyData) (v:V) (u:Value),Dp X.K H v d->RelV v u->∃ as,Reads s.heap u d as
 | .none,_,_,h,r=>by
  cases h
  cases r
  exact ⟨_,Reads.none⟩
 | .bool b,_,_,h,r=>by
  cases h
  cases r
  exact ⟨_,Reads.bool b⟩
 | .int i,_,_,h,r=>by
  cases h
  obtain ⟨t,rfl⟩:=r
  exact ⟨_,Reads.int i t⟩
 | .str x,_,_,h,r=>by
  cases h
  obtain ⟨t,rfl⟩:=r
  exact ⟨_,Reads.str x t⟩
 | .list ds,_,_,h,r=>by
  cases h with
  | lst hs ha=>
   cases r
   obtain ⟨its,rv,⟨o,n,ho,hc,_,hd⟩,_⟩:=I.list hs
   obtain ⟨as,hr⟩:=Dp.readsAll I ds _ its ha rv
   exact ⟨_,Reads.list ho hc hd hr⟩
 | .tuple ds,_,_,h,r=>by
  cases h with
  | tup hs ha=>
   cases r
   obtain ⟨its,rv,⟨o,ho,hc,n,hd⟩,_⟩:=I.tuple hs
   obtain ⟨as,hr⟩:=Dp.readsAll I ds _ its ha rv
   exact ⟨_,Reads.tuple ho hc hd hr⟩
 | .dict _,_,_,h,_=>by cases h
theorem Dp.readsAll (I:Inv X pins σ H s):∀ (ds:List PyData) (vs:List V) (us:List Value),qaE X.K H vs ds->qD vs us->∃ as,ReadsAll s.heap us ds as
 | [],_,_,h,r=>by
  cases h
  cases r
  exact ⟨_,ReadsAll.nil⟩
 | d::ds,_,_,h,r=>by
  cases h with
  | cons h1 h2=>
   cases r with
   | cons r1 r2=>
    obtain ⟨as,q1⟩:=Dp.reads I d _ _ h1 r1
    obtain ⟨bs,q2⟩:=Dp.readsAll I ds _ _ h2 r2
    exact ⟨_,ReadsAll.cons q1 q2⟩
end
end
section
variable {X:Cx}
def qmI (K:PySem.W.Frag):R2:=fun x y H Q=>∃ d e,Dp K H x d/\Dp K H y e/\SeqAt.shaped d=true/\SeqAt.shaped e=true/\Q (.bl (PyData.eqv d e)) H
theorem qiO (hu:X.A.units+64<cLine):OpR X (compareOp .Eq) (qmI X.K):=by
 intro pins s σ H x y v u Q I rx ry h
 obtain ⟨d,e,hd,he,sd,se,q⟩:=h
 obtain ⟨as,r1⟩:=Dp.reads I d x v hd rx
 obtain ⟨bs,r2⟩:=Dp.reads I e y u he ry
 exact SeqAt.compareEq_shaped r1 r2 sd se hu ⟨.bl _,H,I,rfl,q⟩
end
end L2
namespace L2
open PySem PySem.Spec PyProof.Rows
abbrev qiP (h:Heap) (c:Addr) (v:Option Value):Prop:=h.IsCell c v
def qn2 (scope sc:Scope):Scope :=
 { scope with names:=scope.names.map fun (n,k)=>if (k == .free&&sc.kind == .function&&sc.names.lookup n == some .cell) then (n,.cell) else (n,k) }
def zB (cells:List (Str × Addr)):List (Str × NameKind)->List (Str × Addr)->List (Str × Addr)
 | [],acc=>acc
 | (n,k)::r,acc=>if k == .free then zB cells r ((n,(cells.lookup n).getD 0)::acc) else zB cells r acc
theorem qbp (env:Env) (f:Str × NameKind->List (Str × Addr)->Sem (ForInStep (List (Str × Addr))))
  (hf:∀ n k c,f (n,k) c=if k == .free then (do let a <- cellOf env n; pure (.yield ((n,a)::c))) else pure (.yield c)) :
  ∀ (names:List (Str × NameKind)) (acc:List (Str × Addr)),(∀ y∈names,y.2=.free->∃ c,env.cells.lookup y.1=some c)->forIn names acc f=pure (zB env.cells names acc)
 | [],acc,_=>by rw [List.forIn_nil]; rfl
 | (n,k)::r,acc,h=>by
  rw [List.forIn_cons,hf]
  have ih:=fun acc=>qbp env f hf r acc fun y hy=>h y (List.mem_cons_of_mem _ hy)
  unfold zB
  by_cases hk:(k == NameKind.free)=true
  ·rw [if_pos hk,if_pos hk]
   obtain ⟨c,hc⟩:=h (n,k) List.mem_cons_self (by simpa using hk)
   have e:cellOf env n=pure c:=by unfold cellOf; rw [hc]
   rw [e]
   have e2:(env.cells.lookup n).getD 0=c:=by rw [hc]; rfl
   rw [e2]
   exact ih _
  ·rw [if_neg hk,if_neg hk]
   exact ih _
theorem qhI {scope:Scope} {env:Env} (h:∀ y∈scope.names,y.2=.free->∃ c,env.cells.lookup y.1=some c):closureFor scope env=pure (zB env.cells scope.names []):=by
 simp only [closureFor]
 rw [qbp env _ (fun n k c=>rfl) scope.names [] h]
 rfl
theorem mem_lookup {α : Type}:∀ {l:List (Str × α)} {n:Str} {c:α},(n,c)∈l->∃ c',l.lookup n=some c'
 | (k,v)::r,n,c,h=>by
  rw [List.lookup_cons]
  cases hb:n == k with
  | true=>exact ⟨_,rfl⟩
  | false=>
   rcases List.mem_cons.mp h with e | h
   ·cases e; simp at hb
   ·exact mem_lookup h
theorem ZR {cells:List (Str × Addr)}:∀ {names:List (Str × NameKind)} {acc:List (Str × Addr)} {n:Str} {c:Addr},(n,c)∈zB cells names acc->(n,c)∈acc \/ ((n,.free)∈names/\c=(cells.lookup n).getD 0)
 | [],_,_,_,h=>.inl h
 | (m,k)::r,acc,n,c,h=>by
  unfold zB at h
  split at h
  ·rename_i hk
   have hk:k=.free:=by simpa using hk
   rcases ZR h with h | ⟨h1,h2⟩
   ·rcases List.mem_cons.mp h with e | h
    ·cases e; exact .inr ⟨hk ▸ List.mem_cons_self,rfl⟩
    ·exact .inl h
   ·exact .inr ⟨List.mem_cons_of_mem _ h1,h2⟩
  ·rcases ZR h with h | ⟨h1,h2⟩
   ·exact .inl h
   ·exact .inr ⟨List.mem_cons_of_mem _ h1,h2⟩
theorem JW {cells:List (Str × Addr)}:∀ {names:List (Str × NameKind)} {acc:List (Str × Addr)} {p:Str × Addr},p∈acc->p∈zB cells names acc
 | [],_,_,h=>h
 | (m,k)::r,acc,p,h=>by
  unfold zB
  split
  ·exact JW (List.mem_cons_of_mem _ h)
  ·exact JW h
theorem JX {cells:List (Str × Addr)}:∀ {names:List (Str × NameKind)} {acc:List (Str × Addr)} {n:Str},(n,.free)∈names->(n,(cells.lookup n).getD 0)∈zB cells names acc
 | (m,k)::r,acc,n,h=>by
  unfold zB
  rcases List.mem_cons.mp h with e | h
  ·cases e
   exact JW List.mem_cons_self
  ·split
   ·exact JX h
   ·exact JX h
theorem Z2:∀ {names:List (Str × NameKind)} {h:Heap} {acc:List (Str × Addr)} {x:Str} {c:Addr},(x,c)∈cellsFrom h.objs.size names acc ->
  (x,c)∈acc \/ ((x,.cell)∈names/\h.objs.size<=c/\qiP (pushCells h names) c none)
 | [],_,_,_,_,h=>.inl h
 | (n,k)::r,h,acc,x,c,hm=>by
  unfold cellsFrom at hm
  unfold pushCells
  split at hm
  ·rename_i hk
   rw [if_pos hk]
   have hk:k=.cell:=by simpa using hk
   rw [<- Heap.size_push h { cls:=.type "cell",data:=.cell none }] at hm
   rcases Z2 hm with hm | ⟨h1,h2,h3⟩
   ·rcases List.mem_cons.mp hm with e | hm
    ·cases e
     exact .inr ⟨hk ▸ List.mem_cons_self,Nat.le_refl _,_,pushCells_keeps r _ _ _ (Heap.get?_push_size _ rfl),rfl⟩
    ·exact .inl hm
   ·rw [Heap.size_push] at h2
    exact .inr ⟨List.mem_cons_of_mem _ h1,Nat.le_of_succ_le h2,h3⟩
  ·rename_i hk
   rw [if_neg hk]
   rcases Z2 hm with hm | ⟨h1,h2,h3⟩
   ·exact .inl hm
   ·exact .inr ⟨List.mem_cons_of_mem _ h1,h2,h3⟩
theorem JN:∀ {names:List (Str × NameKind)} {n:Nat} {acc:List (Str × Addr)} {p:Str × Addr},p∈acc->p∈cellsFrom n names acc
 | [],_,_,_,h=>h
 | (m,k)::r,n,acc,p,h=>by
  unfold cellsFrom
  split
  ·exact JN (List.mem_cons_of_mem _ h)
  ·exact JN h
theorem qbq:∀ {names:List (Str × NameKind)} {n:Nat} {acc:List (Str × Addr)} {x:Str},(x,.cell)∈names->∃ c,(x,c)∈cellsFrom n names acc
 | (m,k)::r,n,acc,x,h=>by
  unfold cellsFrom
  rcases List.mem_cons.mp h with e | h
  ·cases e
   exact ⟨n,JN List.mem_cons_self⟩
  ·split
   ·exact qbq h
   ·exact qbq h
theorem qbr:∀ {names:List (Str × NameKind)} {h:Heap} {acc:List (Str × Addr)} {x y:Str} {c:Addr},(∀ p∈acc,p.2<h.objs.size)->(∀ x y c,(x,c)∈acc->(y,c)∈acc->x=y) ->
  (x,c)∈cellsFrom h.objs.size names acc->(y,c)∈cellsFrom h.objs.size names acc->x=y
 | [],_,_,_,_,_,_,hi,h1,h2=>hi _ _ _ h1 h2
 | (n,k)::r,h,acc,x,y,c,hl,hi,h1,h2=>by
  unfold cellsFrom at h1 h2
  split at h1
  ·rename_i hk
   rw [if_pos hk] at h2
   rw [<- Heap.size_push h { cls:=.type "cell",data:=.cell none }] at h1 h2
   refine qbr (h:=h.push _) (fun p hp=>?_) (fun x y c a b=>?_) h1 h2
   ·rw [Heap.size_push]
    rcases List.mem_cons.mp hp with rfl | hp
    ·exact Nat.lt_succ_self _
    ·exact Nat.lt_succ_of_lt (hl p hp)
   ·rcases List.mem_cons.mp a with e | a <;> rcases List.mem_cons.mp b with e' | b
    ·cases e; cases e'; rfl
    ·cases e; exact absurd (hl _ b) (Nat.lt_irrefl _)
    ·cases e'; exact absurd (hl _ a) (Nat.lt_irrefl _)
    ·exact hi _ _ _ a b
  ·rename_i hk
   rw [if_neg hk] at h2
   exact qbr hl hi h1 h2
theorem qgs {M:Model} {A:Around} {E:Value->Shared->Prop} {s:Shared} {scope:Scope} {globals:Addr} {closure:List (Str × Addr)} {qual:Str} {func:Option Addr} {code:Value} {around:Env} {builtins:Addr} {Q:Env->Shared->Prop}
  (h:Q (newEnv scope s.heap.objs.size globals (cellsFrom (s.heap.objs.size+1) scope.names closure) qual func code (some around) builtins)
   { s with heap:=pushCells (s.heap.push { cls:=.type "dict",data:=.dict #[] }) scope.names }) :
  wpAny M A (newFunctionEnv scope globals closure [] qual func code (some around) builtins) Q E s:=by
 simp only [newFunctionEnv,Option.isSome_some,if_true]
 refine wpAny_bind (wpAny_alloc ?_)
 refine wpAny_bind (wpAny_layCells _ (fun n k c=>rfl) scope.names closure _ _ ?_)
 rw [show ({ s with heap:=s.heap.push { cls:=.type "dict",data:=.dict #[] } }:Shared).heap.objs.size=s.heap.objs.size+1 from Heap.size_push ..]
 rw [List.forIn_nil]
 exact wpAny_bind (wpAny_pure (wpAny_pure h))
theorem JY {sc:Scope}:∀ {names:List (Str × NameKind)} {x:Str} {k:NameKind},
  (names.map fun (n,k)=>if (k == NameKind.free&&sc.kind == .function&&sc.names.lookup n == some .cell) then (n,NameKind.cell) else (n,k)).lookup x=some k ->
  ∃ k',names.lookup x=some k'/\(k=k' \/ (k'=.free/\k=.cell))
 | [],_,_,h=>by simp at h
 | (n,k₀)::r,x,k,h=>by
  have ih:=@JY sc r x k
  have h':List.lookup x ((if (k₀ == NameKind.free&&sc.kind == .function&&sc.names.lookup n == some .cell)=true then (n,NameKind.cell) else (n,k₀))::(r.map _))=some k:=h
  cases hx:x == n with
  | true=>
   simp only [List.lookup_cons,hx]
   by_cases hc:(k₀ == NameKind.free&&sc.kind == .function&&sc.names.lookup n == some .cell)=true
   ·rw [if_pos hc] at h'
    simp only [List.lookup_cons,hx] at h'
    cases h'
    simp only [Bool.and_eq_true,beq_iff_eq] at hc
    exact ⟨k₀,rfl,.inr ⟨hc.1.1,rfl⟩⟩
   ·rw [if_neg hc] at h'
    simp only [List.lookup_cons,hx] at h'
    cases h'
    exact ⟨_,rfl,.inl rfl⟩
  | false=>
   simp only [List.lookup_cons,hx]
   by_cases hc:(k₀ == NameKind.free&&sc.kind == .function&&sc.names.lookup n == some .cell)=true
   ·rw [if_pos hc] at h'
    simp only [List.lookup_cons,hx] at h'
    exact ih h'
   ·rw [if_neg hc] at h'
    simp only [List.lookup_cons,hx] at h'
    exact ih h'
structure qcW (N:List Str) (sc scope:Scope) (own:List (Str × Nat)):Prop where
 kind:scope.kind=.function
 uniq:∀ y∈scope.names,scope.names.lookup y.1=some y.2
 ix:∀ p∈own,N[p.2]? = some p.1
 free:∀ y∈scope.names,y.2=.free->sc.names.lookup y.1=some .cell \/ sc.names.lookup y.1=some .free
 own:∀ y∈scope.names,y.2=.local \/ y.2=.cell->y.1∈own.map (·.1) \/ y.1∉N
def wipe (σ : St):List Nat->St
 | []=>σ
 | v::vs=>(wipe σ vs).set v none
theorem JZ (σ : St):∀ vs:List Nat,(wipe σ vs).length = σ.length
 | []=>rfl
 | v::vs=>by unfold wipe; rw [List.length_set,JZ σ vs]
theorem qbs {σ : St} {i:Nat} {x:V}:∀ {vs:List Nat},(wipe σ vs)[i]? = some (some x) -> σ[i]? = some (some x)/\i∉vs
 | [],h=>⟨h,by simp⟩
 | v::vs,h=>by
  unfold wipe at h
  by_cases hi:v=i
  ·subst hi
   by_cases hv:v<(wipe σ vs).length
   ·rw [List.getElem?_set_self hv] at h; cases h
   ·rw [List.getElem?_eq_none (by simpa using hv)] at h; cases h
  ·rw [List.getElem?_set_ne hi] at h
   obtain ⟨h1,h2⟩:=qbs h
   exact ⟨h1,by simp only [List.mem_cons,not_or]; exact ⟨fun e=>hi e.symm,h2⟩⟩
abbrev Cx.blk (X:Cx) (s:Shared) (H:Hp) (scope:Scope) (cenv:Env) (fp:List Addr):Cx:={ X with s_0:=s,H_0:=H,env:=cenv,outer:=X.stack,ex:=fp,fn:=fun x=>scope.names.lookup x == some .cell,pn:=[],xe:=fun _ _=>False }
section
variable {X:Cx} {pins:List (Addr × Obj)} {σ : St} {H:Hp} {s:Shared}
theorem qgt {scope:Scope} {own:List (Str × Nat)} {fp:List Addr} (I:Inv X pins σ H s) (ok:qcW X.N X.env.scope scope own) (hN:X.N.Nodup) (hfp:∀ b∈fp,Z9 X pins H b/\b<s.heap.objs.size) :
  Inv (X.blk s H scope (compEnvC scope (cellsFrom (s.heap.objs.size+1) scope.names (zB X.env.cells scope.names [])) s.heap.objs.size X.env) fp) [] (wipe σ (own.map (·.2))) H { s with heap:=pushCells (s.heap.push { cls:=.type "dict",data:=.dict #[] }) scope.names }:=by
 have hfree:∀ y∈scope.names,y.2=.free->∃ c,X.env.cells.lookup y.1=some c:=fun y hy e=>by
  rcases ok.free y hy e with k | k
  ·exact I.ok.has _ (.inl k)
  ·exact I.ok.has _ (.inr k)
 generalize hcenv:compEnvC scope (cellsFrom (s.heap.objs.size+1) scope.names (zB X.env.cells scope.names [])) s.heap.objs.size X.env=cenv
 have kp:∀ b o,s.heap.get? b=some o->(pushCells (s.heap.push { cls:=.type "dict",data:=.dict #[] }) scope.names).get? b=some o:=fun b o e=>pushCells_keeps _ _ _ _ (Heap.get?_push_of_some _ e)
 have hL:cenv.locals=s.heap.objs.size:=by rw [<- hcenv]; rfl
 have hcl:cenv.cells=cellsFrom (s.heap.objs.size+1) scope.names (zB X.env.cells scope.names []):=by rw [<- hcenv]; rfl
 have hsc:cenv.scope=qn2 scope X.env.scope:=by rw [<- hcenv]; rfl
 rw [<- Heap.size_push s.heap { cls:=.type "dict",data:=.dict #[] }] at hcl
 have cm:∀ {y c},(y,c)∈zB X.env.cells scope.names []->X.env.cells.lookup y=some c/\c<s.heap.objs.size:=fun {y c} hm=>by
  rcases ZR hm with hm | ⟨h1,rfl⟩
  ·cases hm
  ·obtain ⟨c,hc⟩:=hfree _ h1 rfl
   rw [hc]
   obtain ⟨w,z⟩:=I.cell _ _ hc
   exact ⟨rfl,z.lt⟩
 have mem:∀ {y c},cenv.cells.lookup y=some c->(X.env.cells.lookup y=some c/\c<s.heap.objs.size) \/ (s.heap.objs.size+1<=c/\qiP (pushCells (s.heap.push { cls:=.type "dict",data:=.dict #[] }) scope.names) c none):=fun {y c} e=>by
  rw [hcl] at e
  rcases Z2 (PySem.mem_of_lookup e) with hm | ⟨_,h2,h3⟩
  ·exact .inl (cm hm)
  ·rw [Heap.size_push] at h2; exact .inr ⟨h2,h3⟩
 have look:∀ {y},scope.names.lookup y=some .free->∃ c,cenv.cells.lookup y=some c/\X.env.cells.lookup y=some c:=fun {y} hl=>by
  have hy:(y,NameKind.free)∈scope.names:=PySem.mem_of_lookup hl
  obtain ⟨c',e'⟩:=mem_lookup (JN (names:=scope.names) (n:=(s.heap.push { cls:=.type "dict",data:=.dict #[] }).objs.size) (JX (cells:=X.env.cells) (acc:=[]) hy))
  rw [<- hcl] at e'
  refine ⟨c',e',?_⟩
  rw [hcl] at e'
  rcases Z2 (PySem.mem_of_lookup e') with hm | ⟨h1,_,_⟩
  ·exact (cm hm).1
  ·have:=ok.uniq _ h1
   rw [hl] at this; cases this
 have okB:(X.blk s H scope cenv fp).Ok:=by
  refine ⟨I.ok.mod,by show cenv.scope.kind=_; rw [hsc]; exact ok.kind,by show cenv.globals=_; rw [<- hcenv]; exact I.ok.glob,by show cenv.builtins=_; rw [<- hcenv]; exact I.ok.blt,by show s.heap.objs.size<=cenv.locals; rw [hL]; exact Nat.le_refl _,
   fun y z c e1 e2=>?_,fun y hy=>?_,fun y c z e=>?_,I.ok.hd,I.ok.frames,.inl rfl,fun b hb=>⟨?_,fun y c e z=>?_⟩,I.bs,Nat.le_trans I.ok.bsz I.sz,fun b o e hb=>?_,fun b hb z=>?_,I.stack,I.stkFree⟩
  ·have e1:cenv.cells.lookup y=some c:=e1
   have e2:cenv.cells.lookup z=some c:=e2
   rw [hcl] at e1 e2
   refine qbr (fun p hp=>?_) (fun y z c a b=>I.ok.inj y z c (cm a).1 (cm b).1) (PySem.mem_of_lookup e1) (PySem.mem_of_lookup e2)
   rw [Heap.size_push]
   exact Nat.lt_succ_of_lt (cm (y:=p.1) (c:=p.2) hp).2
  ·show ∃ c,cenv.cells.lookup y=some c
   have key:∀ k,cenv.kindOf y=some k->(k=.cell \/ k=.free)->∃ c,cenv.cells.lookup y=some c:=fun k hk hk'=>by
    unfold Env.kindOf at hk
    rw [hsc] at hk
    obtain ⟨k',e,r⟩:=JY hk
    have:k'=.cell \/ k'=.free:=by
     rcases r with rfl | ⟨rfl,_⟩
     ·exact hk'
     ·exact .inr rfl
    rcases this with rfl | rfl
    ·obtain ⟨c,hm⟩:=qbq (n:=(s.heap.push { cls:=.type "dict",data:=.dict #[] }).objs.size) (acc:=zB X.env.cells scope.names []) (PySem.mem_of_lookup e)
     obtain ⟨c',e'⟩:=mem_lookup hm
     exact ⟨c',by rw [hcl]; exact e'⟩
    ·obtain ⟨c,h1,_⟩:=look e
     exact ⟨c,h1⟩
   rcases hy with hy | hy
   ·exact key _ hy (.inl rfl)
   ·exact key _ hy (.inr rfl)
  ·have z:(scope.names.lookup y == some NameKind.cell)=true:=z
   have z:scope.names.lookup y=some .cell:=by simpa using z
   have e:cenv.cells.lookup y=some c:=e
   rw [hcl] at e
   rcases Z2 (PySem.mem_of_lookup e) with hm | ⟨_,h2,_⟩
   ·rcases ZR hm with hm | ⟨h1,_⟩
    ·cases hm
    ·have q:=ok.uniq _ h1
     rw [z] at q; cases q
   ·rw [Heap.size_push] at h2
    exact Nat.le_of_succ_le h2
  ·show b≠cenv.locals
   rw [hL]; exact Nat.ne_of_lt (hfp b hb).2
  ·have e:cenv.cells.lookup y=some c:=e
   rcases mem e with ⟨h1,_⟩ | ⟨h1,_⟩
   ·exact (hfp b hb).1.2.2.2.2.1 y c h1 z
   ·have h2:s.heap.objs.size+1<=b:=by rw [<- z]; exact h1
    exact absurd (Nat.lt_of_lt_of_le (hfp b hb).2 (Nat.le_of_succ_le h2)) (Nat.lt_irrefl _)
  ·rcases (hfp b hb).1.2.2.2.1 with z | z
   ·exact I.ok.noex b o e z
   ·exact absurd (Nat.lt_of_lt_of_le (Heap.lt_size e) (Nat.le_trans I.ok.bsz z)) (Nat.lt_irrefl _)
  ·rcases List.mem_cons.mp (I.stkSub b z) with z | z
   ·exact (hfp b hb).1.2.1 z
   ·exact (hfp b hb).1.2.2.1 z
 refine ⟨okB,rfl,I.bare,Un.kept kp,⟨fun _=>none,?_,fun i y av e1 e2 e3=>?_⟩,fun y c e=>?_,?_,fun y c e=>?_,fun p hp=>?_,I.hok.kept kp,by rw [JZ]; exact I.len⟩
 ·show Heap.Ns _ cenv.locals _
  rw [hL]
  exact Heap.Ns.keeps (Heap.Ns.new ..) fun b o e=>pushCells_keeps _ _ _ _ e
 ·obtain ⟨e2,hne⟩:=qbs e2
  have hfr:scope.names.lookup y=some .free/\(cenv.kindOf y=some .cell \/ cenv.kindOf y=some .free):=by
   have key:∀ k,cenv.scope.names.lookup y=some k->k=.local \/ k=.cell \/ k=.free->scope.names.lookup y=some .free/\(cenv.kindOf y=some .cell \/ cenv.kindOf y=some .free):=fun k hk hk'=>by
    have hk0:=hk
    rw [hsc] at hk
    obtain ⟨k',e,r⟩:=JY hk
    have no:¬ (k'=.local \/ k'=.cell):=fun hh=>by
     rcases ok.own _ (PySem.mem_of_lookup e) hh with e' | e'
     ·obtain ⟨p,hp,hpy⟩:=List.mem_map.mp e'
      have e3:=ok.ix p hp
      have:p.1=y:=hpy
      rw [this] at e3
      exact hne (List.mem_map.mpr ⟨p,hp,qct hN e3 e1⟩)
     ·exact e' (List.mem_of_getElem? e1)
    rcases r with rfl | ⟨rfl,rfl⟩
    ·rcases hk' with rfl | rfl | rfl
     ·exact absurd (.inl rfl) no
     ·exact absurd (.inr rfl) no
     ·exact ⟨e,.inr hk0⟩
    ·exact ⟨e,.inl hk0⟩
   have e3:Vis cenv.scope y:=e3
   rcases e3 with e3 | e3 | e3
   ·exact key _ e3 (.inl rfl)
   ·exact key _ e3 (.inr (.inl rfl))
   ·exact key _ e3 (.inr (.inr rfl))
  obtain ⟨m,hn,hl⟩:=I.loc
  have hvis:Vis X.env.scope y:=(ok.free _ (PySem.mem_of_lookup hfr.1) rfl).elim (fun k=>.inr (.inl k)) (fun k=>.inr (.inr k))
  obtain ⟨w,r,q⟩:=hl i y av e1 e2 hvis
  refine ⟨w,r,.inr ⟨hfr.2,?_⟩⟩
  obtain ⟨c,h1,h2⟩:=look hfr.1
  rcases q with ⟨k,_⟩ | ⟨_,c',e',z⟩
  ·have k:X.env.scope.names.lookup y=some .local:=k
   rcases ok.free _ (PySem.mem_of_lookup hfr.1) rfl with k' | k' <;> rw [show X.env.scope.names.lookup y=_ from k'] at k <;> cases k
  ·rw [h2] at e'; cases e'
   exact ⟨c,h1,z.keeps kp⟩
 ·have e:cenv.cells.lookup y=some c:=e
  rcases mem e with ⟨h1,_⟩ | ⟨_,z⟩
  ·obtain ⟨w,z⟩:=I.cell y c h1
   exact ⟨w,z.keeps kp⟩
  ·exact ⟨_,z⟩
 ·show H cenv.locals=none
  rw [hL]; exact I.hok.fresh (Nat.le_refl _)
 ·have e:cenv.cells.lookup y=some c:=e
  rcases mem e with ⟨h1,_⟩ | ⟨h1,_⟩
  ·exact I.freeC y c h1
  ·exact I.hok.fresh (Nat.le_of_succ_le h1)
 ·exact absurd (show p∈([]:List (Addr × Obj))++[] from hp) (by simp)
theorem qmJ {E:Value->Shared->Prop} {D:Addr} {xs:List V} {y:V} {v:Value} {Q:Value->Shared->Prop} (I:Inv X pins σ H s) (hD:H D=some (.lst xs)) (hz:xs.length<sizeLine) (r:RelV y v)
  (h:∀ s',Inv X pins σ (upd H D (.lst (xs++[y]))) s'->Q .none s'):wpAny (model X.prog X.w) X.A (call (.builtin "list.append") [.ref D,v]) Q E s:=by
 obtain ⟨hz',its,n,ri,e⟩:=I.hok D _ hD
 have hl:=ri.length
 refine append_at (hsz:=by rw [List.size_toArray]; omega) e fun h' sb ho'=>?_
 refine h { s with heap:=h' } (I.write (t':=s.toks) (by rw [hD]; trivial) (.inl rfl) (fun b u hb q=>(sb.2 b hb).trans q) ⟨_,ho'⟩ ⟨by rw [List.length_append]; exact hz,its++[v],n+1,ri.append (.cons r .nil),?_⟩)
 rw [ho']
 simp
def PTs (X:Cx) (ifs:List Expr) (t:TT):Prop :=
 ∀ (pins:List (Addr × Obj)) (s:Shared) (σ : St) (H:Hp) (Q:Bool->Hp->Prop),Inv X pins σ H s->t σ H Q ->
  wpAny (model X.prog X.w) X.A (forIn ifs true fun c r=>if r=true then do let ok <- isTrue c X.env (eval c X.env); pure (ForInStep.yield ok) else pure (ForInStep.yield r)) (TP X pins σ Q) X.xe s
def qkj:TT:=fun _ H Q=>Q true H
theorem qag:PTs X [] qkj:=fun _ _ _ H _ I h=>wpAny_tests_nil ⟨H,I,h⟩
end
theorem qdy {α : Type} {t:Sem α} {Q Q':α -> Shared->Prop} {M:Model} {A:Around} {E:Value->Shared->Prop} {s:Shared} (h:wpAny M A t Q (fun _ _=>False) s) (hQ:∀ a s,Q a s->Q' a s):wpAny M A t Q' E s:=wpAny_mono h hQ fun _ _ z=>False.elim z
theorem qfh {prog:Program} {w:World} {A:Around} {R:Result->Shared->Prop} {s:Shared} {elt target iter:Expr} {ifs:List Expr} {scope:Scope} {pos:Pos} {it acc:Value} {env:Env} (I:Nat->Shared->Prop)
  (turn:∀ n s,I n s->wpAny (model prog w) A (pyNext it) (fun r s₁=>match r with
   | none=>R (.ok .next) s₁
   | some v=>wpAny (model prog w) A (letOwnedTupleGo target it v) (fun _ s₁'=>wpAny (model prog w) A (assign target env v) (fun _ s₂=>
     wpAny (model prog w) A (forIn ifs true fun c r=>if r=true then do let ok <- isTrue c env (eval c env); pure (ForInStep.yield ok) else pure (ForInStep.yield r)) (fun ok s₃=>
      if ok=true then wpAny (model prog w) A (eval elt env) (fun x s₄=>
       wpAny (model prog w) A (call (.builtin "list.append") [acc,x]) (fun _ s₅=>∃ m,m<n/\I m s₅) (notedBy (model prog w) A env fun e s'=>R (.error e) s') s₄) (notedBy (model prog w) A env fun e s'=>R (.error e) s') s₃
      else ∃ m,m<n/\I m s₃) (notedBy (model prog w) A env fun e s'=>R (.error e) s') s₂) (notedBy (model prog w) A env fun e s'=>R (.error e) s') s₁') (notedBy (model prog w) A env fun e s'=>R (.error e) s') s₁) (notedBy (model prog w) A env fun e s'=>R (.error e) s') s)
  (n:Nat) (h:I n s) :
  codeAny (model prog w) A (.compLoop (.ListComp elt [⟨target,iter,ifs,0⟩] scope pos) 0 it acc env) R s:=by
 refine codeAny_loop rfl I (fun n s hI=>?_) n h
 show wpAny _ A ((compTurn (.ListComp elt [⟨target,iter,ifs,0⟩] scope pos) 0 it acc env).onRaise (fun x=>do noteFrame x env; theTreesLotGoes x)) _ _ s
 refine wpAny_noted ?_
 rw [compTurn_list]
 refine wpAny_bind (wpAny_standAt (wpAny_bind (wpAny_mono (turn n s hI) (fun r s₁ h₁=>?_) fun _ _ h'=>h')))
 cases r with
 | none=>exact wpAny_pure h₁
 | some v=>
  refine wpAny_bind (wpAny_mono h₁ (fun _ s₁' h₁'=>?_) fun _ _ h'=>h')
  refine wpAny_bind (wpAny_mono h₁' (fun _ s₂ h₂=>wpAny_bind (wpAny_mono h₂ (fun ok s₃ h₃=>?_) fun _ _ h'=>h')) fun _ _ h'=>h')
  cases ok with
  | false=>exact wpAny_pure ⟨rfl,h₃⟩
  | true=>
   exact wpAny_bind (wpAny_bind (wpAny_mono h₃ (fun x s₄ h₄=>wpAny_bind (wpAny_mono h₄ (fun _ s₅ h₅=>wpAny_pure (wpAny_pure ⟨rfl,h₅⟩)) fun _ _ h'=>h')) fun _ _ h'=>h'))
section
variable {X:Cx}
def tLc (wi:TI) (g:TG) (tt:TT) (te:TE) (vs:List Nat):TE:=fun σ H Q=>wi σ H fun J H1=>∀ D,H1 D=none->∃ W:Nat->Nat->Hp->Prop,(∃ m,W 0 m (upd H1 D (.lst [])))/\∀ i m H,W i m H ->
 (J.stop i H/\Q (.ref D) H) \/ (J.go i H/\∃ Nx:Hp->Prop,(∀ H',Nx H'->∃ m',m'<m/\W (i+1) m' H')/\∀ x H',J.yld i H x H'->g x (wipe σ vs) H' fun σ2 H2=>wipe σ2 vs=wipe σ vs/\tt σ2 H2 fun b H3=>
  if b=true then te σ2 H3 fun y H4=>∃ acc,H4 D=some (.lst acc)/\acc.length<sizeLine/\Nx (upd H4 D (.lst (acc++[y]))) else Nx H3)
theorem qg1 {pins:List (Addr × Obj)} {s:Shared} {σ : St} {H:Hp} {Q:VK} {elt tg iter:Expr} {ifs:List Expr} {scope:Scope} {own:List (Str × Nat)} {pos pos':Pos} {wi:TI} {g:TG} {tt:TT} {te:TE} {use:Option (Value->Sem Unit)} {Qf:Value->Shared->Prop}
  (hc:X.calm=true) (hN:X.N.Nodup) (I:Inv X pins σ H s) (hi:PI X tg iter wi) (ok:qcW X.N X.env.scope scope own)
  (hg:∀ (s:Shared) (H:Hp) (C:Addr) (cl:List (Str × Addr)) (fp:List Addr),PG (X.blk s H scope (compEnvC scope cl C X.env) fp) tg g) (ht:∀ (s:Shared) (H:Hp) (C:Addr) (cl:List (Str × Addr)) (fp:List Addr),PTs (X.blk s H scope (compEnvC scope cl C X.env) fp) ifs tt)
  (he:∀ (s:Shared) (H:Hp) (C:Addr) (cl:List (Str × Addr)) (fp:List Addr),PE (X.blk s H scope (compEnvC scope cl C X.env) fp) elt te) (hs:∀ x,foldedSetIterable iter X.env x=pure x)
  (h:tLc wi g tt te (own.map (·.2)) σ H Q)
  (hRR:∀ D C s' m H',Inv X pins σ H' s'->Q (.ref D) H'->s'.heap.Ns C m->Z9 X pins H' C->compPost (model X.prog X.w) X.A X.xe use Qf (.ref D) C (.ok .next) s') :
  wpAny (model X.prog X.w) X.A (comprehension (.ListComp elt [⟨tg,iter,ifs,0⟩] scope pos) scope X.env pos' (newList []) false (eval iter X.env) use) Qf X.xe s:=by
 have hfree:∀ y∈scope.names,y.2=.free->∃ c,X.env.cells.lookup y.1=some c:=fun y hy e=>by
  rcases ok.free y hy e with k | k
  ·exact I.ok.has _ (.inl k)
  ·exact I.ok.has _ (.inr k)
 refine wpAny_comprehension_free (use:=use) rfl hs (qhI hfree) ok.kind (fun y hy e=>by rw [ok.uniq y hy,e])
  (thn (hi pins s σ H _ I h) fun xv s1 hx=>thn hx fun itv s2 h2=>?_)
 obtain ⟨it,fp,tn,J,H2,e,I2,T,st2,f2,q⟩:=h2
 subst e
 refine wpAny_newObj_type (qgs ?_) (by show 0<=sizeLine; decide)
 generalize hD:s2.heap.objs.size=D
 have hDn:H2 D=none:=I2.hok.fresh (Nat.le_of_eq hD)
 obtain ⟨W,⟨m0,w0⟩,turn⟩:=q D hDn
 generalize hs3:({ s2 with heap:=s2.heap.push { cls:=.type "list",data:=.seq ([]:List Value).toArray } }:Shared)=s3
 have I3:Inv X pins σ (upd H2 D (.lst [])) s3:=by
  rw [<- hs3]
  refine I2.laid (t':=s2.toks) (fun b o e=>Heap.get?_push_of_some _ e) (Nat.le_of_eq hD) ⟨Nat.zero_le _,[],0,.nil,?_⟩
  rw [<- hD]
  exact Heap.get?_push_size _ rfl
 have h3:s3.heap=s2.heap.push { cls:=.type "list",data:=.seq ([]:List Value).toArray }:=by rw [<- hs3]
 have sz:∀ b∈fp,b<s2.heap.objs.size:=fun b hb=>by
  obtain ⟨o,e,_⟩:=T.obj _ _ st2 b hb
  exact Heap.lt_size e
 have f3:∀ b∈fp,Z9 X pins (upd H2 D (.lst [])) b/\b<s3.heap.objs.size:=fun b hb=>by
  have hlt:=sz b hb
  refine ⟨⟨?_,(f2 b hb).2⟩,by rw [h3,Heap.size_push]; exact Nat.lt_succ_of_lt hlt⟩
  rw [qd (by rw [<- hD]; exact Nat.ne_of_lt hlt)]
  exact (f2 b hb).1
 have st3:tn 0 s3.heap:=T.keep _ _ _ st2 fun b _ o e=>by rw [h3]; exact Heap.get?_push_of_some _ e
 have I4:=qgt I3 ok hN f3
 have pg:=hg s3 (upd H2 D (.lst [])) s3.heap.objs.size (cellsFrom (s3.heap.objs.size+1) scope.names (zB X.env.cells scope.names [])) fp
 have pt:=ht s3 (upd H2 D (.lst [])) s3.heap.objs.size (cellsFrom (s3.heap.objs.size+1) scope.names (zB X.env.cells scope.names [])) fp
 have pe:=he s3 (upd H2 D (.lst [])) s3.heap.objs.size (cellsFrom (s3.heap.objs.size+1) scope.names (zB X.env.cells scope.names [])) fp
 show codeAny _ _ (.compStart (.ListComp elt [⟨tg,iter,ifs,0⟩] scope pos) 0 (.ref it) (.ref D) (compEnvC scope (cellsFrom (s3.heap.objs.size+1) scope.names (zB X.env.cells scope.names [])) s3.heap.objs.size X.env)) (compPost (model X.prog X.w) X.A X.xe use Qf (.ref D) s3.heap.objs.size) { s3 with heap:=pushCells (s3.heap.push { cls:=.type "dict",data:=.dict #[] }) scope.names }
 have nfp:∀ b∈fp,(upd H2 D (.lst [])) b=none:=fun b hb=>(f3 b hb).1.1
 generalize hce:compEnvC scope (cellsFrom (s3.heap.objs.size+1) scope.names (zB X.env.cells scope.names [])) s3.heap.objs.size X.env=ce at I4 pg pt pe ⊢
 have cL:ce.locals=s3.heap.objs.size:=by subst hce; rfl
 generalize hH3:upd H2 D (.lst [])=H3 at I3 I4 pg pt pe w0 nfp f3
 generalize hs4:({ s3 with heap:=pushCells (s3.heap.push { cls:=.type "dict",data:=.dict #[] }) scope.names }:Shared)=s4 at I4 ⊢
 have st4:tn 0 s4.heap:=T.keep _ _ _ st3 fun b _ o e=>by rw [<- hs4]; exact pushCells_keeps _ _ _ _ (Heap.get?_push_of_some _ e)
 have stat:∀ {σ':St} {H':Hp} {s':Shared},Inv (X.blk s3 H3 scope ce fp) [] σ' H' s'->(∀ b∈fp,H' b=none)->∀ b∈fp,Z9 (X.blk s3 H3 scope ce fp) [] H' b:=fun {σ' H' s'} I' hn b hb=>
  ⟨hn b hb,(I'.ok.exf b hb).1,I'.ok.exfs b hb,.inl hb,fun x c e=>(I'.ok.exf b hb).2 x c e,fun p hp=>absurd (show p∈([]:List (Addr × Obj))++[] from hp) (by simp)⟩
 have loop:codeAny (model X.prog X.w) X.A (.compLoop (.ListComp elt [⟨tg,iter,ifs,0⟩] scope pos) 0 (.ref it) (.ref D) ce) (compPost (model X.prog X.w) X.A X.xe use Qf (.ref D) s3.heap.objs.size) s4:=by
  refine qfh (fun n s'=>∃ i H',Inv (X.blk s3 H3 scope ce fp) [] (wipe σ (own.map (·.2))) H' s'/\tn i s'.heap/\(∀ b∈fp,H' b=none)/\W i n H') ?_ m0 ⟨0,H3,I4,st4,nfp,w0⟩
  rintro n s5 ⟨i,H5,I5,st5,n5,w5⟩
  rcases turn i n H5 w5 with ⟨stop,qq⟩ | ⟨go,Nx,hNx,step⟩
  ·have td:=T.done (X.blk s3 H3 scope ce fp) rfl rfl rfl hc i [] s5 _ H5 (fun _ _=>False) I5 (stat I5 n5) st5 stop
   refine qdy td fun r s6 ⟨hr,I6⟩=>?_
   subst hr
   have I7:Inv X pins σ H5 s6:=I3.call' (ch:=fp) I6.os I6.base I6.hok I6.bare fun b hb=>⟨(f3 b hb).1.2.2.2.1,(f3 b hb).1.2.1,(f3 b hb).1.2.2.2.2.1,(f3 b hb).1.2.2.2.2.2⟩
   have nC:H5 s3.heap.objs.size=none:=by
    have z:H5 ce.locals=none:=I6.free
    rw [cL] at z
    exact z
   obtain ⟨m,hn,_⟩:=I6.loc
   have hn:s6.heap.Ns ce.locals m:=hn
   rw [cL] at hn
   exact hRR D s3.heap.objs.size s6 m H5 I7 qq hn (I3.fpOk (Nat.le_refl _) nC)
  ·have ti:=T.item (X.blk s3 H3 scope ce fp) rfl rfl rfl hc i [] s5 _ H5 (fun _ _=>False) I5 (stat I5 n5) st5 go
   refine qdy ti fun r s6 ⟨u,hr,h6⟩=>?_
   subst hr
   refine qdy h6 fun _ s7 ⟨x,H7,I7,r7,y7,st7,n7⟩=>?_
   have I7':=I7.pinned (stat I7 n7) (T.obj _ _ st7)
   refine qdy (pg _ s7 _ H7 x u _ I7' r7 (step x H7 y7)) fun _ s8 ⟨σ8,H8,I8,hw8,q8⟩=>?_
   refine qdy (pt _ s8 σ8 H8 _ I8 q8) fun b s9 ⟨H9,I9,q9⟩=>?_
   have fin:∀ {s':Shared} {H':Hp},Inv (X.blk s3 H3 scope ce fp) ([]++qbm fp s7.heap) σ8 H' s'->Nx H'->∃ m,m<n/\∃ i H',Inv (X.blk s3 H3 scope ce fp) [] (wipe σ (own.map (·.2))) H' s'/\tn i s'.heap/\(∀ b∈fp,H' b=none)/\W i m H':=fun {s' H'} I' nx=>by
    obtain ⟨m',hm,w'⟩:=hNx H' nx
    have pin':∀ b∈fp,∀ o,s7.heap.get? b=some o->s'.heap.get? b=some o/\H' b=none:=fun b hb o e=>
     let z:=I'.pin (b,o) (List.mem_append_right _ (List.mem_append_right _ (qaA hb e)))
     ⟨z.1,z.2.1⟩
    have hl:(wipe σ (own.map (·.2))).length = σ8.length:=by rw [<- hw8,JZ]
    refine ⟨m',hm,i+1,H',(I'.unpinned (pins:=[])).weak hl (fun j v e=>?_),T.keep _ _ _ st7 fun b hb o e=>(pin' b hb o e).1,fun b hb=>?_,w'⟩
    ·rw [<- hw8] at e
     exact (qbs e).1
    ·obtain ⟨o,e,_⟩:=T.obj _ _ st7 b hb
     exact (pin' b hb o e).2
   cases b with
   | false=>
    simp only [Bool.false_eq_true,if_false] at q9 ⊢
    exact fin I9 q9
   | true=>
    simp only [if_true] at q9 ⊢
    refine qdy (pe _ s9 σ8 H9 _ I9 q9) fun z s10 ⟨yv,H10,I10,r10,acc,hD10,hz10,nx⟩=>?_
    exact qmJ (X:=X.blk s3 H3 scope ce fp) I10 hD10 hz10 r10 fun s11 I11=>fin I11 nx
 exact codeAny_compStart_list loop (T.self X.A 0 _ _ _ st4 loop)
theorem qe0 {elt tg iter:Expr} {ifs:List Expr} {scope:Scope} {own:List (Str × Nat)} {pos:Pos} {wi:TI} {g:TG} {tt:TT} {te:TE} (hc:X.calm=true) (hN:X.N.Nodup) (hi:PI X tg iter wi) (ok:qcW X.N X.env.scope scope own)
  (hg:∀ (s:Shared) (H:Hp) (C:Addr) (cl:List (Str × Addr)) (fp:List Addr),PG (X.blk s H scope (compEnvC scope cl C X.env) fp) tg g) (ht:∀ (s:Shared) (H:Hp) (C:Addr) (cl:List (Str × Addr)) (fp:List Addr),PTs (X.blk s H scope (compEnvC scope cl C X.env) fp) ifs tt)
  (he:∀ (s:Shared) (H:Hp) (C:Addr) (cl:List (Str × Addr)) (fp:List Addr),PE (X.blk s H scope (compEnvC scope cl C X.env) fp) elt te) (hs:∀ x,foldedSetIterable iter X.env x=pure x:=by intro _; rfl) :
  PE X (.ListComp elt [⟨tg,iter,ifs,0⟩] scope pos) (tLc wi g tt te (own.map (·.2))):=by
 intro pins s σ H Q I h
 rw [eval_ListComp]
 refine qg1 hc hN I hi ok hg ht he hs h fun D C s' m H' I' q hn f=>⟨m,hn,fun h'' sb=>?_⟩
 obtain ⟨f0,f1,f2,f3,f4,f5⟩:=f
 exact ⟨.ref D,H',I'.turned (t':=s'.toks) (fun b o hb e=>(sb.2 b hb).trans e) f0 f1 f3 f4 f5,rfl,q⟩
theorem qkk {i:Nat} {y:Str} {py:Pos} {elt tg iter:Expr} {ifs:List Expr} {scope:Scope} {own:List (Str × Nat)} {pos spos:Pos} {wi:TI} {g:TG} {tt:TT} {te:TE} (hc:X.calm=true) (hN:X.N.Nodup) (hy:X.N[i]? = some y) (hyl:X.env.scope.names.lookup y=some .local)
  (hsw:swapsWith (.ListComp elt [⟨tg,iter,ifs,0⟩] scope pos) (some (.Name y py)) spos.line X.env=pure true) (hi:PI X tg iter wi) (ok:qcW X.N X.env.scope scope own)
  (hg:∀ (s:Shared) (H:Hp) (C:Addr) (cl:List (Str × Addr)) (fp:List Addr),PG (X.blk s H scope (compEnvC scope cl C X.env) fp) tg g) (ht:∀ (s:Shared) (H:Hp) (C:Addr) (cl:List (Str × Addr)) (fp:List Addr),PTs (X.blk s H scope (compEnvC scope cl C X.env) fp) ifs tt)
  (he:∀ (s:Shared) (H:Hp) (C:Addr) (cl:List (Str × Addr)) (fp:List Addr),PE (X.blk s H scope (compEnvC scope cl C X.env) fp) elt te) (hs:∀ x,foldedSetIterable iter X.env x=pure x:=by intro _; rfl) :
  PS X (.Assign [.Name y py] (.ListComp elt [⟨tg,iter,ifs,0⟩] scope pos) spos) (qhy (tLc wi g tt te (own.map (·.2))) (Zy i)):=by
 intro pins s σ H D I h
 rw [exec_Assign_Name_used _ _ _ _ hsw]
 refine wpAny_bind (wpAny_standAt (wpAny_bind ?_))
 show wpAny _ X.A (do let _ <- comprehension (.ListComp elt [⟨tg,iter,ifs,0⟩] scope pos) scope X.env (firstIterPos [⟨tg,iter,ifs,0⟩] pos) (newList []) false (eval iter X.env) (some (assign (.Name y py) X.env))) _ _ s
 have h:tLc wi g tt te (own.map (·.2)) σ H (fun x H1=>Zy i x σ H1 D.nx):=h
 refine wpAny_bind (thn (qg1 (Qf:=fun _ s'=>SP X pins D .next s') hc hN I hi ok hg ht he hs h fun L C s' m H' I' q hn f=>?_) fun _ s' hq=>wpAny_pure (wpAny_pure hq))
 show wpAny _ _ (assign (.Name y py) X.env (.ref L)) _ _ _
 refine wpAny_assign_Name (qd7 (v:=V.ref L) I' hN hy (.inl hyl) rfl (fun s2 I2 ⟨a,sb,ha⟩=>?_) (.inr hyl))
 obtain ⟨f0,f1,f2,f3,f4,f5⟩:=f
 have haC:C≠a:=by
  rcases ha with z | z
  ·rw [z]; exact f1
  ·exact fun e=>f4 y a z e.symm
 refine ⟨m,hn.sameBut sb haC,fun h3 sb3=>?_⟩
 exact ⟨_,H',I2.turned (t':=s2.toks) (fun b o hb e=>(sb3.2 b hb).trans e) f0 f1 f3 f4 f5,q⟩
theorem qlM {elt:Expr} {gs:List Comprehension} {scope:Scope} {pos py:Pos} {y:Str} {l:Nat} {env:Env} (hk:env.scope.kind=.function) (hy:env.scope.names.lookup y=some .local) (hl:(py.line == pos.line)=true)
  (ha:(scope.names.any fun (n,k)=>n == y&&(k == .local||k == .cell))=false):swapsWith (.ListComp elt gs scope pos) (some (.Name y py)) l env=pure true:=by
 have ky:env.kindOf y=some .local:=hy
 have hb:env.blockKind=.function:=by unfold Env.blockKind; rw [hk]; rfl
 unfold swapsWith
 simp only [hb,ky,ha,Expr.pos,hl]
 rfl
end
theorem qg2 {K:PySem.W.Frag} {a:Addr} {xs:List V} {g:TG} {tt:TT} {te:TE} {vs:List Nat} {σ : St} {H1:Hp} {D:Addr} {Qd:Hp->Prop} (Pv:Nat->Hp->Prop) (h0:Pv 0 (upd H1 D (.lst []))) (hl:∀ i H,i<=xs.length->Pv i H->SqL K H a xs)
  (hs:∀ i x H,xs[i]? = some x->Pv i H->g x (wipe σ vs) H fun σ2 H2=>wipe σ2 vs=wipe σ vs/\tt σ2 H2 fun b H3=>
   if b=true then te σ2 H3 fun y H4=>∃ acc,H4 D=some (.lst acc)/\acc.length<sizeLine/\Pv (i+1) (upd H4 D (.lst (acc++[y]))) else Pv (i+1) H3) (hd:∀ H,Pv xs.length H->Qd H) :
  ∃ W:Nat->Nat->Hp->Prop,(∃ m,W 0 m (upd H1 D (.lst [])))/\∀ i m H,W i m H ->
   ((Itl K a).stop i H/\Qd H) \/ ((Itl K a).go i H/\∃ Nx:Hp->Prop,(∀ H',Nx H'->∃ m',m'<m/\W (i+1) m' H')/\∀ x H',(Itl K a).yld i H x H'->g x (wipe σ vs) H' fun σ2 H2=>wipe σ2 vs=wipe σ vs/\tt σ2 H2 fun b H3=>
    if b=true then te σ2 H3 fun y H4=>∃ acc,H4 D=some (.lst acc)/\acc.length<sizeLine/\Nx (upd H4 D (.lst (acc++[y]))) else Nx H3):=by
 refine ⟨fun i m H=>m=xs.length - i/\i<=xs.length/\Pv i H,⟨xs.length,by simp,Nat.zero_le _,h0⟩,?_⟩
 rintro i m H ⟨rfl,hi,p⟩
 have q:=hl i H hi p
 by_cases hlt:i<xs.length
 ·refine .inr ⟨⟨xs,xs[i],q,by simp [hlt]⟩,Pv (i+1),fun H' p'=>⟨xs.length - (i+1),by omega,rfl,hlt,p'⟩,fun x H' y=>?_⟩
  obtain ⟨e,y⟩:=y
  subst e
  exact hs i x _ (y xs q) p
 ·have e:i=xs.length:=by omega
  subst e
  exact .inl ⟨⟨xs,q,Nat.le_refl _⟩,hd H p⟩
def qmK (N:List Str) (sc scope:Scope) (own:List (Str × Nat)):Bool :=
 (match scope.kind with | .function=>true | _=>false)&&(scope.names.all fun y=>decide (scope.names.lookup y.1=some y.2))&&(own.all fun p=>decide (N[p.2]? = some p.1)) &&
  (scope.names.all fun y=>match y.2 with
   | .free=>(match sc.names.lookup y.1 with | some .cell=>true | some .free=>true | _=>false)
   | .local=>decide (y.1∈own.map (·.1))||decide (y.1∉N)
   | .cell=>decide (y.1∈own.map (·.1))||decide (y.1∉N)
   | _=>true)
theorem Jx {N:List Str} {sc scope:Scope} {own:List (Str × Nat)} (h:qmK N sc scope own=true):qcW N sc scope own:=by
 unfold qmK at h
 simp only [Bool.and_eq_true,List.all_eq_true,decide_eq_true_eq] at h
 obtain ⟨⟨⟨h1,h2⟩,h3⟩,h4⟩:=h
 refine ⟨?_,h2,h3,fun y hy e=>?_,fun y hy e=>?_⟩
 ·split at h1
  ·assumption
  ·cases h1
 ·have q:=h4 y hy
  simp only [e] at q
  split at q <;> first | exact .inl (by assumption) | exact .inr (by assumption) | cases q
 ·have q:=h4 y hy
  rcases e with e | e <;> (simp only [e,Bool.or_eq_true,decide_eq_true_eq] at q; exact q)
end L2
namespace L2
open PySem PySem.Spec PyProof.Rows
section
variable {prog:Program} {w:World} {A:Around} {R:Result->Shared->Prop} {s:Shared} {elt t0 i0 t1 i1:Expr} {ifs0 ifs1:List Expr} {scope:Scope} {pos:Pos} {it acc:Value} {env:Env}
end
section
variable {X:Cx}
end
end L2
namespace L2
open PySem PySem.Spec PyProof.Rows
section
variable {κ : Type} [DecidableEq κ]
def zw (kvs:List (κ × V)) (k:κ):Option V:=(kvs.find? fun kv=>decide (kv.1=k)).map (·.2)
def putK (kvs:List (κ × V)) (k:κ) (v:V):List (κ × V) :=
 if (kvs.any fun kv=>decide (kv.1=k))=true then kvs.map (fun kv=>if kv.1=k then (kv.1,v) else kv) else kvs++[(k,v)]
theorem Jy {p:κ × V} {r:List (κ × V)} {k:κ} (e:p.1=k):zw (p::r) k=some p.2:=by simp [zw,List.find?_cons,e]
theorem Jz {p:κ × V} {r:List (κ × V)} {k:κ} (e:¬ p.1=k):zw (p::r) k=zw r k:=by simp [zw,List.find?_cons,e]
theorem qcy (k:κ):∀ kvs:List (κ × V),(kvs.any fun kv=>decide (kv.1=k))=(zw kvs k).isSome
 | []=>rfl
 | p::r=>by
  rw [List.any_cons]
  by_cases e:p.1=k
  ·simp only [Jy e,decide_eq_true e,Bool.true_or,Option.isSome_some]
  ·rw [Jz e,decide_eq_false e,Bool.false_or]; exact qcy k r
theorem qcj (kvs:List (κ × V)) (k:κ) (v:V):(putK kvs k v).length<=kvs.length+1:=by
 unfold putK
 split
 ·rw [List.length_map]; omega
 ·rw [List.length_append,List.length_cons,List.length_nil]; omega
theorem qkl {kvs:List (κ × V)} {k:κ} (v:V) (h:zw kvs k=none):putK kvs k v=kvs++[(k,v)]:=by
 unfold putK
 rw [qcy,h]
 exact if_neg (by decide)
theorem jO.isSome_eq {o:Option V} {u:Option Value} (r:jO o u):o.isSome=u.isSome:=by
 cases o with
 | none=>cases u with
  | none=>rfl
  | some _=>exact (show False from r).elim
 | some _=>cases u with
  | none=>exact (show False from r).elim
  | some _=>rfl
theorem jO.getD {o:Option V} {u:Option Value} {d:V} {d':Value} (r:jO o u) (rd:RelV d d'):RelV (o.getD d) (u.getD d'):=by
 cases o with
 | none=>cases u with
  | none=>exact rd
  | some _=>exact (show False from r).elim
 | some _=>cases u with
  | none=>exact (show False from r).elim
  | some _=>exact r
theorem KV.val {kvs:List (κ × V)} {vs:List (κ × Value)} (r:KV kvs vs) (k:κ):jO (zw kvs k) (valueAt vs k):=by
 unfold KV at r
 induction r with
 | nil=>exact True.intro
 | @cons p q ps qs h t ih=>
  obtain ⟨h1,h2⟩:=h
  by_cases e:p.1=k
  ·have e':q.1=k:=h1.symm.trans e
   have b:valueAt (q::qs) k=some q.2:=by simp [valueAt,List.find?_cons,e']
   rw [Jy e,b]; exact h2
  ·have e':¬ q.1=k:=fun z=>e (h1.trans z)
   have b:valueAt (q::qs) k=valueAt qs k:=by simp [valueAt,List.find?_cons,e']
   rw [Jz e,b]; exact ih
theorem KV.any {kvs:List (κ × V)} {vs:List (κ × Value)} (r:KV kvs vs) (k:κ):(kvs.any fun kv=>decide (kv.1=k))=vs.any fun kv=>decide (kv.1=k):=by
 unfold KV at r
 induction r with
 | nil=>rfl
 | cons h t ih=>rw [List.any_cons,List.any_cons,ih,h.1]
theorem KV.repl {kvs:List (κ × V)} {vs:List (κ × Value)} (r:KV kvs vs) (k:κ) {y:V} {u:Value} (ry:RelV y u) :
  KV (kvs.map fun kv=>if kv.1=k then (kv.1,y) else kv) (vs.map fun kv=>if kv.1=k then (kv.1,u) else kv):=by
 unfold KV at r ⊢
 induction r with
 | nil=>exact .nil
 | @cons p q ps qs h t ih=>
  rw [List.map_cons,List.map_cons]
  refine .cons ?_ ih
  obtain ⟨h1,h2⟩:=h
  by_cases e:p.1=k
  ·rw [if_pos e,if_pos (h1.symm.trans e)]; exact ⟨h1,ry⟩
  ·rw [if_neg e,if_neg (fun z=>e (h1.trans z))]; exact ⟨h1,h2⟩
theorem KV.put {kvs:List (κ × V)} {vs:List (κ × Value)} (r:KV kvs vs) (k:κ) {y:V} {u:Value} (ry:RelV y u):KV (putK kvs k y) (stored vs k u):=by
 unfold putK stored
 rw [r.any k]
 by_cases e:(vs.any fun kv=>decide (kv.1=k))=true
 ·rw [if_pos e,if_pos e]; exact r.repl k ry
 ·rw [if_neg e,if_neg e]; exact Paired.snoc r ⟨rfl,ry⟩
theorem KV.length {kvs:List (κ × V)} {vs:List (κ × Value)} (r:KV kvs vs):kvs.length=vs.length:=Paired.length r
end
theorem qaF {P:Program} {w:World} {k:Key} {u:Value} (r:RelV (kV k) u):(zU P w).is k u=true:=by
 cases k with
 | inl i=>obtain ⟨t,e⟩:=(show ∃ t,u=Value.int i t from r); subst e; exact qgp P w i t
 | inr x=>obtain ⟨t,e⟩:=(show ∃ t,u=Value.str x t from r); subst e; exact qgq P w x t
theorem qee {P:Program} {w:World}:∀ {ks:List Key} {us:List Value},qD (ks.map kV) us->ItemsAre (zU P w) ks us
 | [],_,r=>by rw [List.map_nil] at r; cases r; exact .nil
 | k::ks,_,r=>by
  rw [List.map_cons] at r
  cases r with
  | cons h t=>exact .cons (qaF h) (qee t)
abbrev KT (H:Hp):List (List Key × V)->List (List Key × Addr × Value)->Prop:=Paired fun p q=>p.1=q.1/\H q.2.1=some (.tup (p.1.map kV))/\RelV p.2 q.2.2
theorem KT.val {H:Hp} {kvs:List (List Key × V)} {xs:List (List Key × Addr × Value)} (r:KT H kvs xs) (k:List Key):jO (zw kvs k) ((atKey xs k).map (·.2)):=by
 induction r with
 | nil=>exact True.intro
 | @cons p q ps qs h t ih=>
  obtain ⟨h1,_,h2⟩:=h
  by_cases e:p.1=k
  ·have e':q.1=k:=h1.symm.trans e
   have b:atKey (q::qs) k=some q.2:=by simp [atKey,List.find?_cons,e']
   rw [Jy e,b]; exact h2
  ·have e':¬ q.1=k:=fun z=>e (h1.trans z)
   have b:atKey (q::qs) k=atKey qs k:=by simp [atKey,List.find?_cons,e']
   rw [Jz e,b]; exact ih
theorem KT.repl {H:Hp} {kvs:List (List Key × V)} {xs:List (List Key × Addr × Value)} (r:KT H kvs xs) (k:List Key) {y:V} {u:Value} (ry:RelV y u) :
  KT H (kvs.map fun kv=>if kv.1=k then (kv.1,y) else kv) (xs.map (putAt k u)):=by
 induction r with
 | nil=>exact .nil
 | @cons p q ps qs h t ih=>
  rw [List.map_cons,List.map_cons]
  refine .cons ?_ ih
  obtain ⟨h1,h2,h3⟩:=h
  unfold putAt
  by_cases e:p.1=k
  ·rw [if_pos e,if_pos (h1.symm.trans e)]; exact ⟨h1,h2,ry⟩
  ·rw [if_neg e,if_neg (fun z=>e (h1.trans z))]; exact ⟨h1,h2,h3⟩
theorem KT.put {H:Hp} {kvs:List (List Key × V)} {xs:List (List Key × Addr × Value)} (r:KT H kvs xs) (k:List Key) {b:Addr} {y:V} {u:Value} (hb:H b=some (.tup (k.map kV))) (ry:RelV y u) :
  KT H (putK kvs k y) (storedH xs k b u):=by
 have e:(kvs.any fun kv=>decide (kv.1=k))=(atKey xs k).isSome:=by
  rw [qcy,(r.val k).isSome_eq,Option.isSome_map]
 unfold putK storedH
 rw [e]
 by_cases q:(atKey xs k).isSome=true
 ·rw [if_pos q,if_pos q]; exact r.repl k ry
 ·rw [if_neg q,if_neg q]; exact Paired.snoc r ⟨rfl,hb,ry⟩
theorem KT.keeps {H H':Hp} {kvs:List (List Key × V)} {xs:List (List Key × Addr × Value)} (r:KT H kvs xs) (ht:∀ b ys,H b=some (.tup ys)->H' b=some (.tup ys)):KT H' kvs xs :=
 Paired.mapP r fun _ _ z=>⟨z.1,ht _ _ z.2.1,z.2.2⟩
section
variable {P:Program} {w:World} {H:Hp} {h:Heap} {a:Addr}
theorem qle {u:HO} (ok:HOk P w H h) (e:Rd H a u):zk P w H h a u:=e.ok ok
theorem qlf {kvs:List (Key × V)} (ok:HOk P w H h) (e:Rd H a (.dK kvs)):kvs.length<=sizeLine/\(a == sysModules)=false/\∃ vs,KV kvs vs/\h.DictOf (zU P w) a vs :=
 show zk P w H h a (.dK kvs) from qle ok e
theorem qnA {kvs:List (Key × V)} (ok:HOk P w H h) (e:H a=some (.dK kvs)):kvs.length<=sizeLine/\(a == sysModules)=false/\∃ vs,KV kvs vs/\h.DictOf (zU P w) a vs:=qlf ok (.inl e)
theorem qfi {ks:List Key} (ok:HOk P w H h) (e:H a=some (.tup (ks.map kV))):(tupleKind (zU P w)).is h ks a:=by
 obtain ⟨_,its,r,o,h1,h2,n,h3⟩:=(show zk P w H h a (.tup (ks.map kV)) from ok a _ e)
 exact ⟨o,its.toArray,n,h1,h2,h3,by simpa using qee r⟩
theorem qlg {kvs:List (List Key × V)} (ok:HOk P w H h) (e:Rd H a (.dT kvs)):kvs.length<=sizeLine/\(a == sysModules)=false /\
  ∃ xs,KT H kvs xs/\h.DictOfH (tupleKind (zU P w)) a xs:=by
 obtain ⟨z,y,xs,r,o,es,ep,h1,h2,h3,h4,h5⟩:=(show zk P w H h a (.dT kvs) from qle ok e)
 refine ⟨z,y,xs,r,o,es,ep,h1,h2,h3,h4,fun x hx=>?_,h5⟩
 have all:∀ {l:List (List Key × V)} {m:List (List Key × Addr × Value)},KT H l m->∀ x∈m,(tupleKind (zU P w)).is h x.1 x.2.1:=by
  intro l m q
  induction q with
  | nil=>intro x hx; exact nomatch hx
  | @cons p q ps qs hq t ih=>
   intro x hx
   rcases List.mem_cons.mp hx with e | hx
   ·subst e
    exact qfi ok (by rw [<- hq.1]; exact hq.2.1)
   ·exact ih x hx
 exact all r x hx
theorem qnB {kvs:List (List Key × V)} (ok:HOk P w H h) (e:H a=some (.dT kvs)):kvs.length<=sizeLine/\(a == sysModules)=false /\
  ∃ xs,KT H kvs xs/\h.DictOfH (tupleKind (zU P w)) a xs:=qlg ok (.inl e)
end
def qfj (H:Hp) (a:Addr) (y:V) (r:Option V):Prop :=
 (∃ kvs k,Rd H a (.dK kvs)/\y=kV k/\r=zw kvs k) \/ ∃ kvs k b,Rd H a (.dT kvs)/\y=.ref b/\H b=some (.tup (k.map kV))/\r=zw kvs k
def qfk (H:Hp) (a:Addr) (y v:V) (H':Hp):Prop :=
 (∃ kvs k,H a=some (.dK kvs)/\y=kV k/\kvs.length<sizeLine/\H'=upd H a (.dK (putK kvs k v))) \/
 ∃ kvs k b,H a=some (.dT kvs)/\y=.ref b/\H b=some (.tup (k.map kV))/\kvs.length<sizeLine/\H'=upd H a (.dT (putK kvs k v))
theorem qfj.t {H:Hp} {a b:Addr} {kvs:List (List Key × V)} {k:List Key} (e:H a=some (.dT kvs)) (eb:H b=some (.tup (k.map kV))):qfj H a (.ref b) (zw kvs k):=.inr ⟨kvs,k,b,.inl e,rfl,eb,rfl⟩
theorem qfk.t {H:Hp} {a b:Addr} {kvs:List (List Key × V)} {k:List Key} {v:V} (e:H a=some (.dT kvs)) (eb:H b=some (.tup (k.map kV))) (hl:kvs.length<sizeLine) :
  qfk H a (.ref b) v (upd H a (.dT (putK kvs k v))):=.inr ⟨kvs,k,b,e,rfl,eb,hl,rfl⟩
section
variable {X:Cx} {pins:List (Addr × Obj)} {σ : St} {H:Hp} {s:Shared} {a:Addr} {y v:V} {u r:Value} {o:Option V} {A:Around} {E:Value->Shared->Prop}
theorem Inv.big (I:Inv X pins σ H s):sysModules<s.heap.objs.size:=by
 have h:mainGlobals<s.heap.objs.size:=(I.mod.glob.keeps I.bk).lt
 exact Nat.lt_trans (by decide) h
theorem qn3 {Q:Value->Shared->Prop} (hu:A.units+1<cLine) (I:Inv X pins σ H s) (g:qfj H a y o) (ry:RelV y u) (h:∀ s',Inv X pins σ H s'->Q (.bool o.isSome) s') :
  wpAny (model X.prog X.w) A (compareOp .In u (.ref a)) Q E s:=by
 rcases g with ⟨kvs,k,e,ey,l⟩ | ⟨kvs,k,b,e,ey,eb,l⟩
 ·subst ey
  obtain ⟨z,hd,vs,rel,dd⟩:=qlf I.hok e
  refine wpAny_in_of (qaF ry) hd dd.mapOf ?_
  rw [<- (rel.val k).isSome_eq,<- l]
  exact h _ (I.tok _)
 ·subst ey
  cases (show u=Value.ref b from ry)
  obtain ⟨z,hd,xs,rel,dd⟩:=qlg I.hok e
  refine wpAny_in_heap (tupleKind_room_in1 hu) (qfi I.hok eb) hd dd ?_
  have q:=(rel.val k).isSome_eq
  rw [Option.isSome_map] at q
  rw [<- q,<- l]
  exact h _ (I.tok _)
theorem qg3 {h':Heap} {t':Nat} {ob:HO} (I:Inv X pins σ H s) (mu:Mut (H a)) (hs:Heap.SameBut a s.heap h') (he:∃ q,h'.get? a=some q) (new:zk X.prog X.w (upd H a ob) h' a ob) :
  Inv X pins σ (upd H a ob) { s with heap:=h',toks:=t' } :=
 I.write (x:=a) (e:=a) mu (.inl rfl) (fun b q hb z=>(hs.2 b hb).trans z) he new
theorem qmL {P:Program} {w:World} {H':Hp} {h':Heap} {kvs:List (Key × V)} {vs:List (Key × Value)} (z:kvs.length<=sizeLine) (hd:(a == sysModules)=false) (rel:KV kvs vs) (dd:h'.DictOf (zU P w) a vs) :
  zk P w H' h' a (.dK kvs):=⟨z,hd,vs,rel,dd⟩
theorem qiQ {H':Hp} {Q:Unit->Shared->Prop} (hu:A.units+1<cLine) (I:Inv X pins σ H s) (g:qfk H a y v H') (ry:RelV y u) (rv:RelV v r) (h:∀ s',Inv X pins σ H' s'->Q () s') :
  wpAny (model X.prog X.w) A (setItem (.ref a) u r) Q E s:=by
 rcases g with ⟨kvs,k,e,ey,l,eH⟩ | ⟨kvs,k,b,e,ey,eb,l,eH⟩
 ·subst ey eH
  obtain ⟨z,hd,vs,rel,dd⟩:=qnA I.hok e
  have hz:vs.length<=sizeLine:=by rw [<- rel.length]; exact z
  have hl:(putK kvs k v).length<=sizeLine:=by have:=qcj kvs k v; omega
  refine wpAny_setItem_pairs (hsz:=hz) (qaF ry) dd fun h' dd' hs=>h _ ?_
  have he:∃ q,h'.get? a=some q:=let ⟨q,_,_,hq,_⟩:=dd'; ⟨q,hq⟩
  exact qg3 I (by rw [e]; exact True.intro) hs he (qmL hl hd (rel.put k rv) dd')
 ·subst ey eH
  cases (show u=Value.ref b from ry)
  obtain ⟨z,hd,xs,rel,dd⟩:=qnB I.hok e
  have hz:xs.length<=sizeLine:=by rw [<- Paired.length rel]; exact z
  have hl:(putK kvs k v).length<=sizeLine:=by have:=qcj kvs k v; omega
  refine wpAny_setItem_heap (hsz:=hz) (tupleKind_room_in1 hu) (qfi I.hok eb) dd fun h' dd' hs=>h _ ?_
  obtain ⟨q,es,ep,hq,h2,h3,h4,_,h5⟩:=dd'
  refine qg3 I (by rw [e]; exact True.intro) hs ⟨q,hq⟩ ⟨hl,hd,_,(rel.put k eb rv).keeps fun c ys ec=>?_,q,es,ep,hq,h2,h3,h4,h5⟩
  rw [qd (qbV ec e (fun z=>nomatch z))]
  exact ec
end
section
variable {X:Cx} {pins:List (Addr × Obj)} {σ : St} {H:Hp} {s:Shared} {a:Addr} {kvs:List (Key × V)} {k:Key} {u:Value} {A:Around} {E:Value->Shared->Prop}
end
def qmM (i:Expr):Prop:=∀ ov iv,subscripted i false ov iv=operate [ov,iv] (getItem ov iv)
theorem qlN {prog:Program} {w:World} {A:Around} {E:Value->Shared->Prop} {s:Shared} {env:Env} {value slice:Expr} {pos:Pos} {T id:String} {Q:Value->Shared->Prop}
  (hl:typeLookup (.type T) "__getitem__" = pure (some (.builtin id))) (hs:qmM slice)
  (h:wpAny (model prog w) A (eval value env) (fun o s₁=>wpAny (model prog w) A (eval slice env) (fun i s₂=>s₂.TypeIs o T/\wpAny (model prog w) A (getItem o i) Q E s₂) E s₁) E s) :
  wpAny (model prog w) A (eval (.Subscript value slice pos) env) Q E s:=by
 refine Subscript_ (wpAny_mono h (fun o s₁ h₁=>wpAny_mono h₁ (fun i s₂ h₂=>?_) fun _ _ x=>x) fun _ _ x=>x)
 obtain ⟨hT,h₂⟩:=h₂
 unfold subscriptTail
 refine wpAny_bind ?_
 rw [getitemInPython_of_ne hT.not_modules]
 refine wpAny_bind (wpAny_specialOf hT hl ?_)
 have fin:wpAny (model prog w) A (subscripted slice false o i) (fun r s₃=>wpAny (model prog w) A (letTemporaryGo value o r >>= fun _=>pure r) Q E s₃) E s₂:=by
  rw [hs o i]
  exact wpAny_operating (wpAny_mono h₂ (fun r s₃ h₃=>wpAny_bind (wpAny_letTemporaryGo (wpAny_pure h₃))) fun _ _ x=>x)
 first
  | exact wpAny_pure (wpAny_bind fin)
  | exact wpAny_bind (wpAny_pure (wpAny_bind fin))
  | exact wpAny_bind fin
def qn4 (ty td:TE):TE:=fun σ H Q=>ty σ H fun y H1=>td σ H1 fun x H2=>∃ a o,x=.ref a/\qfj H2 a y o/\Q (.bl o.isSome) H2
def qnC (td ty tv:TE):TS:=fun D σ H=>tv σ H fun v H1=>td σ H1 fun x H2=>ty σ H2 fun y H3=>∃ a H4,x=.ref a/\qfk H3 a y v H4/\D.nx σ H4
section
variable {X:Cx} {o i e value:Expr} {pos pos' tpos:Pos} {td ty tv:TE}
theorem qmN (hu:X.A.units+1<cLine) (hi:PE X i ty) (ho:PE X o td):PC X .In i o (qn4 ty td):=by
 intro pins s σ H Q I h
 refine thn (hi pins s σ H _ I h) fun iv s1 ⟨y,H1,I1,ry,q1⟩=>thn (ho pins s1 σ H1 _ I1 q1) fun u s2 ⟨x,H2,I2,rx,a,ov,ex,g,q2⟩=>?_
 subst ex
 obtain rfl:u=Value.ref a:=rx
 exact qn3 hu I2 g ry fun s3 I3=>⟨.bl ov.isSome,H2,I3,rfl,q2⟩
theorem qlO (hu:X.A.units+1<cLine) (ho:PE X o td) (hi:PE X i ty) (hv:PE X value tv) (hs:swapsWith value (some (.Subscript o i pos')) pos.line X.env=pure false) :
  PS X (.Assign [.Subscript o i pos'] value pos) (qnC td ty tv):=by
 intro pins s σ H D I h
 refine wpAny_Assign_Subscript (thn (hv pins s σ H _ I h) fun r s1 ⟨v,H1,I1,rv,q1⟩=>thn (ho pins s1 σ H1 _ I1 q1) fun u s2 ⟨x,H2,I2,rx,q2⟩=>thn (hi pins s2 σ H2 _ I2 q2) fun iv s3 ⟨y,H3,I3,ry,a,H4,ex,g,q3⟩=>?_) hs
 subst ex
 obtain rfl:u=Value.ref a:=rx
 exact qiQ hu I3 g ry rv fun s4 I4=>⟨σ,H4,I4,q3⟩
end
theorem qkm {P:Program} {w:World} {H:Hp} (h:Heap) (hb:sysModules<h.objs.size):zk P w H (h.push { cls:=.type "dict",data:=.dict #[] }) h.objs.size (.dT []) :=
 ⟨Nat.zero_le _,beq_eq_false_iff_ne.mpr (Ne.symm (Nat.ne_of_lt hb)),[],.nil,_,#[],0,Heap.get?_push_size _ rfl,⟨rfl,rfl,rfl⟩,rfl,rfl,List.nodup_nil⟩
def qmO:TE:=fun _ H Q=>∀ p,H p=none->Q (.ref p) (upd H p (.dT []))
section
variable {X:Cx} {pos:Pos}
theorem qkn:PE X (.Dict [] [] pos) qmO:=fun pins s σ H Q I h=>
 wpAny_Dict_empty ⟨.ref s.heap.objs.size,_,I.laid (a:=s.heap.objs.size) (o:=.dT []) (t':=s.toks) (fun _ _ q=>Heap.get?_push_of_some _ q) (Nat.le_refl _) (qkm s.heap I.big),rfl,h _ (I.hok.fresh (Nat.le_refl _))⟩
end
structure M1 (X:Cx) (o:Expr) (m:Str) (apos:Pos) (e:Expr) (cpos:Pos):Prop where
 base:attributeBase o m X.env (eval o X.env)=eval o X.env
 few:((backTo cpos (starEach [e] X.env)).all (fun x=>!x.1)&&(backToKw cpos (keywordEach [] X.env)).all (fun x=>x.1.isSome)
  && decide (([e]:List Expr).length+([]:List Keyword).length+(if ([]:List Keyword).isEmpty then 0 else 1)<30))=true
 line:(apos.endLine == cpos.line)=true
 trees:backTo cpos (starEach [e] X.env)=[(false,eval e X.env)]
structure M2 (X:Cx) (o:Expr) (m:Str) (apos:Pos) (e f:Expr) (cpos:Pos):Prop where
 base:attributeBase o m X.env (eval o X.env)=eval o X.env
 few:((backTo cpos (starEach [e,f] X.env)).all (fun x=>!x.1)&&(backToKw cpos (keywordEach [] X.env)).all (fun x=>x.1.isSome)
  && decide (([e,f]:List Expr).length+([]:List Keyword).length+(if ([]:List Keyword).isEmpty then 0 else 1)<30))=true
 line:(apos.endLine == cpos.line)=true
 trees:backTo cpos (starEach [e,f] X.env)=[(false,eval e X.env),(false,eval f X.env)]
section
variable {X:Cx} {pins:List (Addr × Obj)} {σ : St} {H:Hp} {s:Shared} {a:Addr} {y d:V} {u r:Value} {o:Option V} {A:Around} {E:Value->Shared->Prop}
end
section
variable {X:Cx} {o e f:Expr} {apos cpos:Pos} {td ty tx:TE}
end
section
variable {X:Cx} {pins:List (Addr × Obj)} {σ : St} {H:Hp} {s:Shared} {a:Addr} {kvs:List (Key × V)} {A:Around} {E:Value->Shared->Prop}
end
section
variable {X:Cx} {pins:List (Addr × Obj)} {σ : St} {H:Hp} {s:Shared} {a:Addr} {y:V} {u:Value} {A:Around} {E:Value->Shared->Prop}
end
end L2
namespace L2
open PySem PySem.Spec PyProof.Rows
section
variable {prog:Program} {w:World} {A:Around} {E:Value->Shared->Prop}
end
section
variable {X:Cx}
end
end L2
namespace L2
open PySem PySem.Spec PyProof.Rows
section
variable {X:Cx} {pins:List (Addr × Obj)} {σ : St} {H:Hp} {s:Shared} {h':Heap}
theorem Inv.turnedL {t':Nat} {ch:List Addr} (I:Inv X pins σ H s) (k:∀ b o,b∉ch->s.heap.get? b=some o->h'.get? b=some o) (hf:∀ b∈ch,Z9 X pins H b):Inv X pins σ H { s with heap:=h',toks:=t' }:=by
 have nit:∀ b u,H b=some u->b∉ch:=fun b u e z=>by
  have q:=(hf b z).1
  rw [q] at e; cases e
 refine I.step (g':=s.gens) (d':=s.drawn) (ch:=ch) (fun b hb=>⟨(hf b hb).2.2.2.1,(hf b hb).2.1,(hf b hb).2.2.2.2.1,(hf b hb).2.2.2.2.2⟩) (fun b o _ _ hc e _=>k b o hc e) (fun b o _ _ hc e _=>⟨o.slots,k b o hc e⟩)
  (fun _ _ _ _ n=>n) (fun b o hc e=>⟨o,k b o hc e⟩) (fun _ _ e=>e) (fun _ _ _ e=>e) (fun b ps e=>⟨#[],by rw [e]; simp⟩) (fun m hm=>?_) (fun b u e=>?_) I.bare
 ·obtain ⟨o,es,ep,ho,r⟩:=hm
  exact ⟨o,es,ep,k _ o (fun z=>(hf _ z).2.1 rfl) ho,r⟩
 ·refine (I.hok b u e).stay (fun c v hc q=>k c v ?_ q) (fun _ q=>q) fun _ _ q=>q
  rcases hc with z | z
  ·rw [z]; exact nit b u e
  ·exact nit c _ z
theorem Inv.turnedNew {t':Nat} {ch:List Addr} {T:Addr} {ob:HO} (I:Inv X pins σ H s) (k:∀ b o,b∉ch->s.heap.get? b=some o->h'.get? b=some o) (hf:∀ b∈ch,Z9 X pins H b) (hT:s.heap.objs.size<=T)
  (new:zk X.prog X.w (upd H T ob) h' T ob):Inv X pins σ (upd H T ob) { s with heap:=h',toks:=t' }:=by
 have hn:H T=none:=I.hok.fresh hT
 have nit:∀ b u,H b=some u->b∉ch:=fun b u e z=>by
  have q:=(hf b z).1
  rw [q] at e; cases e
 refine I.step (g':=s.gens) (d':=s.drawn) (ch:=ch) (fun b hb=>⟨(hf b hb).2.2.2.1,(hf b hb).2.1,(hf b hb).2.2.2.2.1,(hf b hb).2.2.2.2.2⟩) (fun b o _ _ hc e _=>k b o hc e) (fun b o _ _ hc e _=>⟨o.slots,k b o hc e⟩)
  (fun b o _ e n=>?_) (fun b o hc e=>⟨o,k b o hc e⟩) (fun b xs e=>?_) (fun b o u e=>?_) (fun b ps e=>⟨#[],?_⟩) (fun m hm=>?_) (fun b u e=>?_) I.bare
 ·rw [qd (Nat.ne_of_lt (Nat.lt_of_lt_of_le (Heap.lt_size e) hT))]; exact n
 ·rw [qd (qg e hn)]; exact e
 ·rw [qd (qg e hn)]; exact e
 ·rw [qd (qg e hn),e]; simp
 ·obtain ⟨o,es,ep,ho,r⟩:=hm
  exact ⟨o,es,ep,k _ o (fun z=>(hf _ z).2.1 rfl) ho,r⟩
 ·by_cases hb:b=T
  ·subst hb
   rw [qc] at e
   cases e
   exact new
  ·rw [qd hb] at e
   refine (I.hok b u e).stay (fun c v hc q=>k c v ?_ q) (fun c q=>by rw [qd (qg q hn)]; exact q) fun c xs q=>by rw [qd (qg q hn)]; exact q
   rcases hc with z | z
   ·rw [z]; exact nit b u e
   ·exact nit c _ z
end
section
variable {X:Cx}
theorem qiR {tg:Expr} {pins:List (Addr × Obj)} {σ : St} {H:Hp} {s:Shared} {R:It->Hp->Prop} {J:It} {tn:Nat->Heap->Prop} {tk:Nat} (I:Inv X pins σ H s) (o:Obj)
  (T:Turn X.prog X.w X.K tg J [s.heap.objs.size] s.heap.objs.size tn) (st:tn 0 (s.heap.push o)) (q:R J H):PIE X pins σ tg R (.ref s.heap.objs.size) { s with heap:=s.heap.push o,toks:=tk }:=by
 refine ⟨s.heap.objs.size,[s.heap.objs.size],tn,J,H,rfl,I.kept fun b ob e=>Heap.get?_push_of_some _ e,T,st,fun b hb=>?_,q⟩
 have e:b=s.heap.objs.size:=by simpa using hb
 subst e
 exact I.fpOk (Nat.le_refl _) (I.hok.fresh (Nat.le_refl _))
end
section
variable {X:Cx} {tg:Expr}
end
section
variable {X:Cx} {tg:Expr}
end
def Its (x:Str):It:=⟨fun i _=>i<x.cps.size,fun i H v H'=>H'=H/\∃ c,x.cps[i]? = some c/\v=.str ⟨#[c]⟩,fun i _=>x.cps.size<=i⟩
theorem qfl {P:Program} {w:World} {K:PySem.W.Frag} {tg:Expr} (it:Addr) (x:Str) (t:Tok) (ty:String) (hty:ty = "str_ascii_iterator" \/ ty = "str_iterator") :
  Turn P w K tg (Its x) [it] it (fun i h=>h.IsStrIter it ty x t i) where
 mem:=by simp
 obj:=fun i h st b hb=>by
  have e:b=it:=by simpa using hb
  subst e
  obtain ⟨o,e,c,d⟩:=st
  exact ⟨o,e,fun v z=>by rw [d] at z; cases z⟩
 keep:=fun i h h' st k=>let ⟨o,ho,r⟩:=st; ⟨o,k it (by simp) o ho,r⟩
 item:=by
  intro X hP hw hK hc i pins s σ H E I hf st hg
  subst hP hw hK
  obtain ⟨f0,f1,f2,f3,f4,f5⟩:=hf it (by simp)
  have W:Walks X.prog X.w X.A it [it] [it] x.cps.size (SignAt x) (fun i h=>h.IsStrIter it ty x t i):=by
   rcases hty with e | e
   ·rw [e]; exact Walks.strAscii (I.ok.hd hc) it x t
   ·rw [e]; exact Walks.strWide (I.ok.hd hc) it x t
  have hno:["enumerate","zip","dict_itemiterator","dict_reverseitemiterator","odict_iterator","itertools.zip_longest","itertools.pairwise"].contains ty=false:=by
   rcases hty with e | e
   ·rw [e]; decide
   ·rw [e]; decide
  refine W.item i s _ _ hg st fun v h' tk hv st' kk=>?_
  obtain ⟨c,u,hcx,rfl⟩:=hv
  have I1:Inv X pins σ H { s with heap:=h',toks:=tk }:=I.turned (fun b o hb e=>kk b o (by simpa using hb) e) f0 f1 f3 f4 f5
  obtain ⟨oi,e,cc,dd⟩:=id st'
  exact ⟨_,rfl,qhz (s:={ s with heap:=h',toks:=tk }) e cc dd hno ⟨.str ⟨#[c]⟩,H,I1,⟨u,rfl⟩,⟨rfl,c,hcx,rfl⟩,st',fun b hb=>(hf b hb).1⟩⟩
 done:=by
  intro X hP hw hK hc i pins s σ H E I hf st hg
  subst hP hw hK
  obtain ⟨f0,f1,f2,f3,f4,f5⟩:=hf it (by simp)
  have hx:x.cps[i]? = none:=Array.getElem?_eq_none hg
  rcases hty with e | e
  ·rw [e] at st
   exact wpAny_pyNext_ascii_end (I.ok.hd hc) st hx fun h' eb=>⟨rfl,I.turned (t':=s.toks) (fun b o hb e=>eb b o hb e) f0 f1 f3 f4 f5⟩
  ·rw [e] at st
   exact wpAny_pyNext_wide_end (I.ok.hd hc) st hx fun h' eb=>⟨rfl,I.turned (t':=s.toks) (fun b o hb e=>eb b o hb e) f0 f1 f3 f4 f5⟩
 self:=fun A i s Q E st h=>by
  rcases hty with e | e
  ·rw [e] at st; exact wpAny_pyIter_striter_ascii st h
  ·rw [e] at st; exact wpAny_pyIter_striter_wide st h
def qn5 (te:TE):TI:=fun σ H R=>te σ H fun v H1=>∃ x,v=.str x/\R (Its x) H1
theorem qmP {X:Cx} {tg e:Expr} {te:TE} (he:PE X e te):PI X tg e (qn5 te):=by
 intro pins s σ H R I h
 refine thn (he pins s σ H _ I h) fun v s1 ⟨y,H1,I1,r1,x,ex,q⟩=>?_
 subst ex
 obtain ⟨t,rfl⟩:=r1
 cases ha:x.cps.all (· < 128)
 ·exact wpAny_pyIter_wide ha (qiR (tk:=s1.toks) I1 _ (qfl _ x t "str_iterator" (.inr rfl)) ⟨_,Heap.get?_push_size _ rfl,rfl,rfl⟩ q)
 ·exact wpAny_pyIter_ascii ha (qiR (tk:=s1.toks) I1 _ (qfl _ x t "str_ascii_iterator" (.inl rfl)) ⟨_,Heap.get?_push_size _ rfl,rfl,rfl⟩ q)
section
variable {prog:Program} {w:World} {A:Around} {E:Value->Shared->Prop} {s:Shared}
end
section
variable {X:Cx} {pins:List (Addr × Obj)} {σ : St} {H:Hp} {s:Shared} {d:Addr} {o:Obj}
end
section
variable {P:Program} {w:World} {K:PySem.W.Frag} {tg:Expr} {d:Addr} {o:Obj} {es:Array DictEntry} {ep:Nat}
end
section
variable {X:Cx} {tg e:Expr} {td:TE} {apos cpos:Pos}
end
def Ite (K:PySem.W.Frag) (a:Addr):It :=
 ⟨fun i H=>∃ (xs:List V) (x:V),SqL K H a xs/\xs[i]? = some x,fun i H v H'=>∃ T x,v=.ref T/\H T=none/\H'=upd H T (.tup [.int (i:Nat),x])/\∀ xs,SqL K H a xs->xs[i]? = some x,fun i H=>∃ xs:List V,SqL K H a xs/\xs.length<=i⟩
theorem qiS {P:Program} {w:World} {K:PySem.W.Frag} {elts:List Expr} {kk:Nat} {tpos:Pos} (a e it:Addr) :
  Turn P w K (.Tuple elts kk tpos) (Ite K a) [e,it] e (fun i h=>(∃ old,IsEnum h e it ((i:Nat):Int) old)/\h.IsListIter it a i/\e≠it) where
 mem:=by simp
 obj:=fun i h st b hb=>by
  obtain ⟨⟨old,he⟩,⟨o,ho,hc,hd⟩,_⟩:=st
  have e':b=e \/ b=it:=by simpa using hb
  rcases e' with z | z
  ·rw [z]; exact ⟨_,he,fun v q=>nomatch q⟩
  ·rw [z]; exact ⟨o,ho,fun v q=>by rw [hd] at q; cases q⟩
 keep:=fun i h h' st k=>let ⟨⟨old,he⟩,hi,hne⟩:=st; ⟨⟨old,k e (by simp) _ he⟩,hi.at fun o q=>k it (by simp) o q,hne⟩
 item:=by
  intro X hP hw hK hc i pins s σ H E I hf st hg
  subst hP hw hK
  obtain ⟨⟨old,he⟩,hit,hne⟩:=st
  obtain ⟨xs,x,hq,hx⟩:=hg
  obtain ⟨its,rv,p,hz⟩:=I.list hq
  obtain ⟨u,hu,ru⟩:=rv.get hx
  have hel:e<s.heap.objs.size:=Heap.lt_size he
  have hil:it<s.heap.objs.size:=by obtain ⟨_,q,_⟩:=hit; exact Heap.lt_size q
  refine wpAny_pyNext_enum_item he hit p.isList (x:=u) (by simpa using hu) hne fun h' ho hit' hT hsz hk=>?_
  refine ⟨_,rfl,wpAny_letOwnedTupleGo_enum (s:={ s with heap:=h',toks:=s.toks+1 }) ho fun h'' he' sb=>?_⟩
  have hT2:h''.get? s.heap.objs.size=some { cls:=.type "tuple",data:=.seq #[.int i s.toks,u] }:=(sb.2 _ (Nat.ne_of_gt hel)).trans hT
  have new:zk X.prog X.w (upd H s.heap.objs.size (.tup [.int (i:Nat),x])) h'' s.heap.objs.size (.tup [.int (i:Nat),x]) :=
   ⟨by show 2<=sizeLine; decide,[.int i s.toks,u],.cons ⟨_,rfl⟩ (.cons ru .nil),⟨_,hT2,rfl,_,rfl⟩⟩
  have I1:Inv X pins σ (upd H s.heap.objs.size (.tup [.int (i:Nat),x])) { s with heap:=h'',toks:=s.toks+1 } :=
   I.turnedNew (ch:=[e,it]) (fun b ob hb q=>(sb.2 b (fun z=>hb (by simp [z]))).trans (hk b ob (fun z=>hb (by simp [z])) (fun z=>hb (by simp [z])) q)) hf (Nat.le_refl _) new
  refine ⟨.ref s.heap.objs.size,_,I1,rfl,⟨_,x,rfl,I.hok.fresh (Nat.le_refl _),rfl,fun ys hy=>by rw [I.list_inj hy hq]; exact hx⟩,⟨⟨u,?_⟩,hit'.at fun o q=>(sb.2 it (Ne.symm hne)).trans q,hne⟩,fun b hb=>?_⟩
  ·have e1:((i+1:Nat):Int)=(i:Int)+1:=by omega
   rw [e1]; exact he'
  ·have hb':b<s.heap.objs.size:=by
    have e':b=e \/ b=it:=by simpa using hb
    rcases e' with z | z
    ·rw [z]; exact hel
    ·rw [z]; exact hil
   rw [qd (Nat.ne_of_lt hb')]
   exact (hf b hb).1
 done:=by
  intro X hP hw hK hc i pins s σ H E I hf st hg
  subst hP hw hK
  obtain ⟨⟨old,he⟩,hit,hne⟩:=st
  obtain ⟨xs,hq,hx⟩:=hg
  obtain ⟨its,rv,p,hz⟩:=I.list hq
  obtain ⟨f0,f1,f2,f3,f4,f5⟩:=hf it (by simp)
  have hl:=rv.length
  exact wpAny_pyNext_enum_end (I.ok.hd hc) he hit p.isList (by simp; omega) fun h' eb=>⟨rfl,I.turned (t':=s.toks) (fun b o hb q=>eb b o hb q) f0 f1 f3 f4 f5⟩
 self:=fun A i s Q E st h=>let ⟨⟨_,he⟩,_⟩:=st; wpAny_pyIter_enum he h
def qnD (K:PySem.W.Frag) (ta:TA):TI:=fun σ H R=>ta σ H fun vs H1=>∃ a xs,vs=[.ref a]/\SqL K H1 a xs/\R (Ite K a) H1
theorem qlP {X:Cx} {e:Expr} {ta:TA} {p pos tpos:Pos} {elts:List Expr} {kk:Nat} (hg:Gl X "enumerate") (hm:X.mg "enumerate" = none) (ha:PA X [e] ta) (hs:starEach [e] X.env=[(false,eval e X.env)]:=by rfl) :
  PI X (.Tuple elts kk tpos) (.Call (.Name "enumerate" p) [e] [] pos) (qnD X.K ta):=by
 intro pins s σ H R I h
 refine Call_ (Jp I hg hm boot_enumerate (PyProof.Rows.callWith_type1 (thn (ha pos pins s σ H _ I h) fun us s1 ⟨vs,H1,I1,r1,q1⟩=>?_) hs rfl))
 obtain ⟨a,xs,ex,hq,q⟩:=q1
 subst ex
 cases r1 with
 | cons r rr=>
  cases rr
  cases r
  obtain ⟨its,rv,p',hz⟩:=I1.list hq
  refine call_enumerate_list p'.isList fun h' he hit hsz hk=>wpAny_pyIter_enum he ?_
  have I2:Inv X pins σ H1 { s1 with heap:=h' }:=I1.kept (t':=s1.toks) hk
  refine ⟨s1.heap.objs.size+1,[s1.heap.objs.size+1,s1.heap.objs.size],_,_,H1,rfl,I2,qiS a (s1.heap.objs.size+1) s1.heap.objs.size,⟨⟨.none,he⟩,hit,Nat.succ_ne_self _⟩,fun b hb=>?_,q⟩
  have e':b=s1.heap.objs.size+1 \/ b=s1.heap.objs.size:=by simpa using hb
  have hle:s1.heap.objs.size<=b:=by
   rcases e' with z | z
   ·rw [z]; exact Nat.le_add_right _ _
   ·rw [z]; exact Nat.le_refl _
  exact I1.fpOk hle (I1.hok.fresh hle)
theorem qiT:bootBuiltins "zip" = some (.type "zip"):=by decide +kernel
def Itz (K:PySem.W.Frag) (a b:Addr):It :=
 ⟨fun i H=>∃ (xs ys:List V) (x y:V),SqL K H a xs/\SqL K H b ys/\xs[i]? = some x/\ys[i]? = some y,
  fun i H v H'=>∃ T x y,v=.ref T/\H T=none/\H'=upd H T (.tup [x,y])/\(∀ xs,SqL K H a xs->xs[i]? = some x)/\∀ ys,SqL K H b ys->ys[i]? = some y,
  fun i H=>∃ xs ys:List V,SqL K H a xs/\SqL K H b ys/\(xs.length<=i \/ ys.length<=i)⟩
theorem qko {P:Program} {w:World} {K:PySem.W.Frag} {elts:List Expr} {kk:Nat} {tpos:Pos} {a b z TI TO i1 i2:Addr} (D:ZipApart z TI TO i1 i2 a b) :
  Turn P w K (.Tuple elts kk tpos) (Itz K a b) [z,TI,TO,i1,i2] z (fun i h=>IsZip h z TI TO .none/\IsPair h TI (.ref i1) (.ref i2)/\(∃ x y,IsPair h TO x y)/\h.IsListIter i1 a i/\h.IsListIter i2 b i) where
 mem:=by simp
 obj:=fun i h st c hc=>by
  obtain ⟨hz,hTI,⟨x,y,hTO⟩,⟨o1,e1,_,d1⟩,⟨o2,e2,_,d2⟩⟩:=st
  have e':c=z \/ c=TI \/ c=TO \/ c=i1 \/ c=i2:=by simpa using hc
  rcases e' with q | q | q | q | q
  ·rw [q]; exact ⟨_,hz,fun v q=>nomatch q⟩
  ·rw [q]; exact ⟨_,hTI,fun v q=>nomatch q⟩
  ·rw [q]; exact ⟨_,hTO,fun v q=>nomatch q⟩
  ·rw [q]; exact ⟨o1,e1,fun v q=>by rw [d1] at q; cases q⟩
  ·rw [q]; exact ⟨o2,e2,fun v q=>by rw [d2] at q; cases q⟩
 keep:=fun i h h' st k=>by
  obtain ⟨hz,hTI,⟨x,y,hTO⟩,h1,h2⟩:=st
  exact ⟨k z (by simp) _ hz,k TI (by simp) _ hTI,⟨x,y,k TO (by simp) _ hTO⟩,h1.at fun o q=>k i1 (by simp) o q,h2.at fun o q=>k i2 (by simp) o q⟩
 item:=by
  intro X hP hw hK hc i pins s σ H E I hf st hg
  subst hP hw hK
  obtain ⟨hz,hTI,⟨x0,y0,hTO⟩,h1,h2⟩:=st
  obtain ⟨xs,ys,x,y,hqx,hqy,hx,hy⟩:=hg
  obtain ⟨its,rv,p,_⟩:=I.list hqx
  obtain ⟨its2,rv2,p2,_⟩:=I.list hqy
  obtain ⟨u,hu,ru⟩:=rv.get hx
  obtain ⟨u2,hu2,ru2⟩:=rv2.get hy
  have hzl:z<s.heap.objs.size:=Heap.lt_size hz
  refine wpAny_pyNext_zip_item D hz hTI hTO h1 h2 p.isList p2.isList (x:=u) (y:=u2) (by simpa using hu) (by simpa using hu2) fun h' z' TO' h1' h2' hT hsz hk=>?_
  refine ⟨_,rfl,wpAny_letOwnedTupleGo_zip (s:={ s with heap:=h' }) z' fun h'' z'' sb=>?_⟩
  have hT2:h''.get? s.heap.objs.size=some { cls:=.type "tuple",data:=.seq #[u,u2] }:=(sb.2 _ (Nat.ne_of_gt hzl)).trans hT
  have new:zk X.prog X.w (upd H s.heap.objs.size (.tup [x,y])) h'' s.heap.objs.size (.tup [x,y]) :=
   ⟨by show 2<=sizeLine; decide,[u,u2],.cons ru (.cons ru2 .nil),⟨_,hT2,rfl,_,rfl⟩⟩
  have I1:Inv X pins σ (upd H s.heap.objs.size (.tup [x,y])) { s with heap:=h'' } :=
   I.turnedNew (t':=s.toks) (ch:=[z,TI,TO,i1,i2]) (fun c o hb q=>(sb.2 c (fun q'=>hb (by simp [q']))).trans (hk c o (fun q'=>hb (by simp [q'])) (fun q'=>hb (by simp [q'])) (fun q'=>hb (by simp [q'])) (fun q'=>hb (by simp [q'])) q)) hf (Nat.le_refl _) new
  refine ⟨.ref s.heap.objs.size,_,I1,rfl,⟨_,x,y,rfl,I.hok.fresh (Nat.le_refl _),rfl,fun l hl=>by rw [I.list_inj hl hqx]; exact hx,fun l hl=>by rw [I.list_inj hl hqy]; exact hy⟩,⟨z'',?_,⟨u,u2,?_⟩,?_,?_⟩,fun c hcm=>?_⟩
  ·exact (sb.2 _ D.TIz).trans (hk _ _ D.TIz D.TITO D.TIi1 D.TIi2 hTI)
  ·exact (sb.2 _ D.TOz).trans TO'
  ·exact h1'.at fun o q=>(sb.2 _ D.i1z).trans q
  ·exact h2'.at fun o q=>(sb.2 _ D.i2z).trans q
  ·have hlt:c<s.heap.objs.size:=by
    have e':c=z \/ c=TI \/ c=TO \/ c=i1 \/ c=i2:=by simpa using hcm
    rcases e' with q | q | q | q | q
    ·rw [q]; exact hzl
    ·rw [q]; exact Heap.lt_size hTI
    ·rw [q]; exact Heap.lt_size hTO
    ·rw [q]; obtain ⟨_,e1,_⟩:=h1; exact Heap.lt_size e1
    ·rw [q]; obtain ⟨_,e2,_⟩:=h2; exact Heap.lt_size e2
   rw [qd (Nat.ne_of_lt hlt)]
   exact (hf c hcm).1
 done:=by
  intro X hP hw hK hc i pins s σ H E I hf st hg
  subst hP hw hK
  obtain ⟨hz,hTI,⟨x0,y0,hTO⟩,h1,h2⟩:=st
  obtain ⟨xs,ys,hqx,hqy,hend⟩:=hg
  obtain ⟨its,rv,p,_⟩:=I.list hqx
  obtain ⟨its2,rv2,p2,_⟩:=I.list hqy
  have l1:=rv.length
  have l2:=rv2.length
  have he:its.toArray[i]? = none \/ its2.toArray[i]? = none:=by
   rcases hend with q | q
   ·exact .inl (by simp; omega)
   ·exact .inr (by simp; omega)
  exact wpAny_pyNext_zip_end (I.ok.hd hc) D hz hTI hTO h1 h2 p.isList p2.isList he fun h' hk=>⟨rfl,I.turnedL (t':=s.toks) (ch:=[z,TI,TO,i1,i2]) (fun c o hb q=>
   hk c o (fun q'=>hb (by simp [q'])) (fun q'=>hb (by simp [q'])) (fun q'=>hb (by simp [q'])) (fun q'=>hb (by simp [q'])) q) hf⟩
 self:=fun A i s Q E st h=>wpAny_pyIter_zip st.1 h
def qn6 (K:PySem.W.Frag) (ta:TA):TI:=fun σ H R=>ta σ H fun vs H1=>∃ a b xs ys,vs=[.ref a,.ref b]/\SqL K H1 a xs/\SqL K H1 b ys/\R (Itz K a b) H1
theorem qmQ {X:Cx} {e e2:Expr} {ta:TA} {p pos tpos:Pos} {elts:List Expr} {kk:Nat} (hg:Gl X "zip") (hm:X.mg "zip" = none) (ha:PA X [e,e2] ta)
  (hs:starEach [e,e2] X.env=(false,eval e X.env)::starEach [e2] X.env:=by rfl) (hpl:(backTo pos (starEach [e2] X.env)).any (·.1)=false:=by rfl) :
  PI X (.Tuple elts kk tpos) (.Call (.Name "zip" p) [e,e2] [] pos) (qn6 X.K ta):=by
 intro pins s σ H R I h
 refine Call_ (Jp I hg hm qiT (PyProof.Rows.callWith_type1 (thn (ha pos pins s σ H _ I h) fun us s1 ⟨vs,H1,I1,r1,q1⟩=>?_) hs hpl))
 obtain ⟨a,b,xs,ys,ex,hqx,hqy,q⟩:=q1
 subst ex
 cases r1 with
 | cons r rr=>
  cases rr with
  | cons r' rr=>
   cases rr
   cases r
   cases r'
   obtain ⟨its,rv,p1,_⟩:=I1.list hqx
   obtain ⟨its2,rv2,p2,_⟩:=I1.list hqy
   have la:a<s1.heap.objs.size:=p1.lt
   have lb:b<s1.heap.objs.size:=p2.lt
   refine call_zip_2 p1.isList p2.isList fun h' hz hTI hTO h1 h2 hsz hk=>wpAny_pyIter_zip hz ?_
   have I2:Inv X pins σ H1 { s1 with heap:=h' }:=I1.kept (t':=s1.toks) hk
   refine ⟨s1.heap.objs.size+4,[s1.heap.objs.size+4,s1.heap.objs.size+2,s1.heap.objs.size+3,s1.heap.objs.size,s1.heap.objs.size+1],_,_,H1,rfl,I2,qko (PySem.W.ktu_apart s1.heap.objs.size a b la lb),⟨hz,hTI,⟨_,_,hTO⟩,h1,h2⟩,fun c hcm=>?_,q⟩
   have e':c=s1.heap.objs.size+4 \/ c=s1.heap.objs.size+2 \/ c=s1.heap.objs.size+3 \/ c=s1.heap.objs.size \/ c=s1.heap.objs.size+1:=by simpa using hcm
   have hle:s1.heap.objs.size<=c:=by
    rcases e' with z | z | z | z | z
    ·rw [z]; exact Nat.le_add_right _ _
    ·rw [z]; exact Nat.le_add_right _ _
    ·rw [z]; exact Nat.le_add_right _ _
    ·rw [z]; exact Nat.le_refl _
    ·rw [z]; exact Nat.le_add_right _ _
   exact I1.fpOk hle (I1.hok.fresh hle)
end L2
section
namespace Bits
open PySem PyProof.Rows
end Bits
end
section
namespace TL
open PySem PySem.Builtin PySem.Builtin.Str PySem.StrLaws
end TL
end
namespace L2
open PySem PySem.Spec PyProof.Rows
theorem qef:∀ l:List (Str × Tok),qD ((l.map (·.1)).map V.str) (strValues l)
 | []=>.nil
 | p::r=>.cons ⟨p.2,rfl⟩ (qef r)
def qcz (ys:List Str):Hp->VK->Prop:=fun H Q=>∀ p,H p=none->Q (.ref p) (upd H p (.lst (ys.map V.str)))
section
variable {X:Cx} {pins:List (Addr × Obj)} {σ : St} {H:Hp} {s:Shared} {Q:VK}
theorem qeg {l:List (Str × Tok)} {ys:List Str} {k:Nat} (I:Inv X pins σ H s) (e:l.map (·.1)=ys) (hz:ys.length<=sizeLine) (h:qcz ys H Q) :
  EP X pins σ Q (.ref s.heap.objs.size) { s with toks:=k,heap:=s.heap.push { cls:=.type "list",data:=.seq (strValues l).toArray } }:=by
 have hp:=I.hok.fresh (Nat.le_refl _)
 refine ⟨.ref s.heap.objs.size,upd H s.heap.objs.size (.lst (ys.map V.str)),I.laid (fun b u q=>Heap.get?_push_of_some _ q) (Nat.le_refl _) ⟨by rw [List.length_map]; exact hz,strValues l,_,?_,Heap.get?_push_size _ rfl⟩,rfl,h _ hp⟩
 rw [<- e]
 exact qef l
end
section
variable {X:Cx}
theorem qkp (x:Str):(Txt.words x).length<=x.length+1:=by
 have e1:=StrLaws.words_weight x
 omega
theorem qkq:MtR X "str.split" (fun x xs H Q=>∃ a,x=.str a/\xs=[]/\a.length+2<=sizeLine/\qcz (Txt.words a) H Q):=by
 intro pins s σ H x xs v us Q I rx rs h
 obtain ⟨a,rfl,rfl,hz,h⟩:=h
 obtain ⟨t,rfl⟩:=rx
 cases rs
 have hl:(Txt.words a).length<=sizeLine:=Nat.le_trans (qkp a) (by omega)
 have hn:(Builtin.Str.spaceWords a (a.length+1)).length<=sizeLine:=by
  have e1:=(StrLaws.sw_weight a).1
  have e2:=StrLaws.len_le_wsum (Builtin.Str.spaceWords a (a.length+1))
  omega
 refine call_meets F.slot_str_split (typeIs_str _ _ _) F.entry_str_split (F.args_str_split_1 _) (meets_str_split_space a t (by omega) hn) ?_
 cases hw:Builtin.Str.spaceWords a (a.length+1) == [(0,a.length)]
 ·simp only [Bool.false_eq_true,if_false]
  rw [strsFrom_eq]
  exact qeg (ys:=Txt.words a) I ((numbered_texts _ _).trans (if_neg (ne_true_of_eq_false hw)).symm) hl h
 ·simp only [if_true]
  exact qeg (l:=[(a,t)]) (ys:=Txt.words a) (k:=s.toks) I (if_pos hw).symm hl h
theorem mt1 {id:String} {g:Str->Str->V} (rule:∀ (a b:Str) (t u:Tok) (s:Shared) (Q:Value->Shared->Prop),(∀ (v:Value) (k:Nat),RelV (g a b) v->Q v { s with toks:=k }) ->
  wpAny (model X.prog X.w) X.A (call (.builtin id) [.str a t,.str b u]) Q X.xe s):MtR X id (fun x xs H Q=>∃ a b,x=.str a/\xs=[.str b]/\Q (g a b) H):=by
 intro pins s σ H x xs v us Q I rx rs h
 obtain ⟨a,b,rfl,rfl,h⟩:=h
 obtain ⟨t,rfl⟩:=rx
 cases rs with
 | cons r1 rs=>
  cases rs
  obtain ⟨u,rfl⟩:=r1
  exact rule a b t u s _ fun v k r=>⟨g a b,H,I.tok k,r,h⟩
theorem qeN:MtR X "str.startswith" (fun x xs H Q=>∃ a b,x=.str a/\xs=[.str b]/\Q (.bl (Txt.startswith a b)) H) :=
 mt1 (g:=fun a b=>.bl (Txt.startswith a b)) fun _ _ _ _ s _ h=>PySem.SC.startswith (h _ s.toks rfl)
end
section
variable {X:Cx} {o e:Expr} {to te:TE}
def tM0 (r:V->List V->Hp->VK->Prop) (to:TE):TE:=fun σ H Q=>to σ H fun x H1=>(∃ a,x=.str a)/\r x [] H1 Q
def tM1 (r:V->List V->Hp->VK->Prop) (to te:TE):TE:=fun σ H Q=>to σ H fun x H1=>(∃ a,x=.str a)/\te σ H1 fun y H2=>r x [y] H2 Q
theorem qnE {id:String} {name:Str} {apos pos:Pos} {r:V->List V->Hp->VK->Prop} (slot:Slot "str" name id) (ty:typeOf (.builtin id)=pure (.type "method_descriptor")) (rule:MtR X id r) (ho:PE X o to)
  (hbase:attributeBase o name X.env (eval o X.env)=eval o X.env:=by rfl) (hline:(apos.endLine == pos.line)=true:=by rfl):PE X (.Call (.Attribute o name apos) [] [] pos) (tM0 r to):=by
 intro pins s σ H Q I h
 refine PySem.Call_method0 hbase hline (thn (ho pins s σ H _ I h) fun v s1 ⟨x,H1,I1,r1,q1⟩=>?_)
 obtain ⟨⟨a,rfl⟩,q1⟩:=q1
 obtain ⟨t,rfl⟩:=_root_.id r1
 exact ⟨"str",_,F.plainAttrs_str,slot,ty,typeIs_str _ _ _,(fun _ e=>nomatch e),Calls.callWith_builtin rfl (PySem.evalArgs_none (rule pins s1 σ H1 _ [] _ [] Q I1 r1 .nil q1))⟩
theorem qnF {id:String} {name:Str} {apos pos:Pos} {r:V->List V->Hp->VK->Prop} (slot:Slot "str" name id) (ty:typeOf (.builtin id)=pure (.type "method_descriptor")) (rule:MtR X id r) (ho:PE X o to) (he:PE X e te)
  (hs:starEach [e] X.env=[(false,eval e X.env)]:=by rfl) (hbase:attributeBase o name X.env (eval o X.env)=eval o X.env:=by rfl) (hline:(apos.endLine == pos.line)=true:=by rfl) :
  PE X (.Call (.Attribute o name apos) [e] [] pos) (tM1 r to te):=by
 intro pins s σ H Q I h
 refine PySem.Call_method1 hbase hs hline (thn (ho pins s σ H _ I h) fun v s1 ⟨x,H1,I1,r1,q1⟩=>?_)
 obtain ⟨⟨a,rfl⟩,q1⟩:=q1
 obtain ⟨t,rfl⟩:=_root_.id r1
 refine ⟨"str",_,F.plainAttrs_str,slot,ty,typeIs_str _ _ _,(fun _ e=>nomatch e),Calls.callWith_builtin rfl (Calls.evalArgs_plain (Calls.spliced_cons ?_))⟩
 exact thn (he pins s1 σ H1 _ I1 q1) fun u s2 ⟨y,H2,I2,r2,q2⟩=>Calls.spliced_nil (rule pins s2 σ H2 _ [y] _ [u] Q I2 r1 (.cons r2 .nil) q2)
theorem qkr {apos pos:Pos} (ho:PE X o to) (hbase:attributeBase o "split" X.env (eval o X.env)=eval o X.env:=by rfl) (hline:(apos.endLine == pos.line)=true:=by rfl) :
  PE X (.Call (.Attribute o "split" apos) [] [] pos) (tM0 (fun x xs H Q=>∃ a,x=.str a/\xs=[]/\a.length+2<=sizeLine/\qcz (Txt.words a) H Q) to) :=
 qnE F.slot_str_split F.type_str_split qkq ho hbase hline
end
end L2
namespace L2
open PySem PySem.Spec PyProof.Rows
section
variable {X:Cx}
end
theorem IsPart.raw {v:Value} {o:Option Int} (p:IsPart v o):∃ l:Option (Int × Tok),v=partValue l/\l.map (·.1)=o:=by
 cases p with
 | none=>exact ⟨none,rfl,rfl⟩
 | int i t=>exact ⟨some (i,t),rfl,rfl⟩
def qcX (n d:Nat):Option Int->Int
 | none=>(d:Int)
 | some i=>max 0 (min (if i<0 then i+(n:Int) else i) (n:Int))
theorem qfm (n d:Nat) (o:Option Int):qcX n d o=((HT.sIx n d o:Nat):Int):=by
 cases o with
 | none=>rfl
 | some v=>
  show max (0:Int) (min (if v<0 then v+(n:Int) else v) (n:Int))=(((if v<0 then (v+(n:Int)).toNat else min v.toNat n):Nat):Int)
  by_cases hv:v<0
  ·simp only [if_pos hv]
   omega
  ·simp only [if_neg hv]
   omega
theorem qiU (a b:Option Int) (n:Nat):Builtin.Str.strSliceIndices a b 1 n=sliceRange (qcX n 0 a) (qcX n n b) 1:=by
 have h1:((1:Int) > 0)=True:=by simp
 cases a <;> cases b <;> first
  | rfl
  | (simp only [Builtin.Str.strSliceIndices,qcX,h1,if_true]; rfl)
  | simp [Builtin.Str.strSliceIndices,qcX]
theorem qn7 (a b:Option Int) (n:Nat):Builtin.Str.strSliceIndices a b 1 n=(List.range (HT.sIx n n b - HT.sIx n 0 a)).map (fun k=>HT.sIx n 0 a+k):=by
 rw [qiU,qfm,qfm]
 generalize HT.sIx n 0 a=p
 generalize HT.sIx n n b=q
 simp only [sliceRange,show ((1:Int) > 0)=True from by simp,if_true]
 by_cases hlt:(p:Int)<q
 ·have e3:(((q:Int) - p+1 - 1) / 1).toNat=q - p:=by first | omega | (simp; done) | (simp; omega)
  simp only [hlt,if_true,e3]
  refine List.map_congr_left fun k _=>?_
  omega
 ·have:q - p=0:=by omega
  simp [hlt,this]
def qfn (z:Str) (lo hi:Option Int):Str :=
 ⟨((z.cps.toList.drop (HT.sIx z.length 0 lo)).take (HT.sIx z.length z.length hi - HT.sIx z.length 0 lo)).toArray⟩
theorem qa7 (z:Str) (lo hi:Option Int):PySem.StrLaws.sliceText z lo hi=qfn z lo hi:=by
 have h1:HT.sIx z.length 0 lo<=z.length:=HT.qiK _ _ (Nat.zero_le _) _
 have h2:HT.sIx z.length z.length hi<=z.length:=HT.qiK _ _ (Nat.le_refl _) _
 have hp:HT.sIx z.length 0 lo<=max (HT.sIx z.length 0 lo) (HT.sIx z.length z.length hi):=Nat.le_max_left _ _
 have hq:max (HT.sIx z.length 0 lo) (HT.sIx z.length z.length hi)<=z.length:=Nat.max_le.mpr ⟨h1,h2⟩
 have hd:max (HT.sIx z.length 0 lo) (HT.sIx z.length z.length hi) - HT.sIx z.length 0 lo=HT.sIx z.length z.length hi - HT.sIx z.length 0 lo:=by omega
 have e:Builtin.Str.strSliceIndices lo hi 1 z.length =
   Builtin.Str.strSliceIndices (some ((HT.sIx z.length 0 lo:Nat):Int)) (some ((max (HT.sIx z.length 0 lo) (HT.sIx z.length z.length hi):Nat):Int)) 1 z.length:=by
  rw [PySem.StrLaws.strSliceIndices_plain hp hq,hd,qn7]
 have e2:PySem.StrLaws.sliceText z lo hi =
   PySem.StrLaws.sliceText z (some ((HT.sIx z.length 0 lo:Nat):Int)) (some ((max (HT.sIx z.length 0 lo) (HT.sIx z.length z.length hi):Nat):Int)):=by
  unfold PySem.StrLaws.sliceText
  rw [e]
 rw [e2,PySem.StrLaws.sliceText_nat z hp hq,hd]
 rfl
theorem qgu (z:Str) (lo hi:Option Int):(qfn z lo hi).length<=z.length:=by
 show (((z.cps.toList.drop (HT.sIx z.length 0 lo)).take (HT.sIx z.length z.length hi - HT.sIx z.length 0 lo)).toArray).size<=z.cps.size
 rw [List.size_toArray,List.length_take,List.length_drop,Array.length_toList]
 omega
def qn8:V->Option Int->Option Int->Hp->VK->Prop:=fun x lo hi H Q=>∃ z,x=.str z/\z.length<=sizeLine/\Q (.str (qfn z lo hi)) H
theorem qmR {X:Cx}:SlR X qn8:=by
 intro pins s σ H x v vl vu lo hi sl Q I rx hs pl pu h
 obtain ⟨z,rfl,hz,q⟩:=h
 obtain ⟨t,rfl⟩:=rx
 obtain ⟨os,hos,hcs,hds⟩:=hs
 obtain ⟨l,rfl,rfl⟩:=IsPart.raw pl
 obtain ⟨u,rfl,rfl⟩:=IsPart.raw pu
 refine ⟨"str",_,F.slot_str_getitem.lookup,typeIs_str _ _ _,?_⟩
 refine wpAny_getItem_str_slice (l:=l) (u:=u) (st:=none) ⟨os,hos,hcs,hds⟩ rfl ?_
 have hl:(PySem.StrLaws.sliceText z (l.map (·.1)) (u.map (·.1))).length<=sizeLine:=by
  rw [qa7]
  exact Nat.le_trans (qgu z _ _) hz
 rw [<- qa7] at q
 unfold PySem.StrLaws.sliceText at q hl
 show Made.post (if ((1:Int) == 1&&(Builtin.Str.strSliceIndices (l.map (·.1)) (u.map (·.1)) 1 z.length).length == z.length)=true then Made.val (.str z t)
  else Made.str ⟨((Builtin.Str.strSliceIndices (l.map (·.1)) (u.map (·.1)) 1 z.length).filterMap (z.cps[·]?)).toArray⟩) (EP X pins σ Q) s
 by_cases c:((1:Int) == 1&&(Builtin.Str.strSliceIndices (l.map (·.1)) (u.map (·.1)) 1 z.length).length == z.length)=true
 ·rw [if_pos c] at q ⊢
  exact ⟨.str z,H,I,⟨t,rfl⟩,q⟩
 ·rw [if_neg c] at q hl ⊢
  exact ⟨hl,.str _,H,I.tok _,⟨_,rfl⟩,q⟩
end L2
namespace Att
open PySem PySem.W PySem.Calls PyProof.Rows
section
variable {prog:Program} {w:World} {A:Around} {E:Value->Shared->Prop} {s:Shared} {K:Frag}
end
end Att
namespace L2
open PySem PySem.Spec PyProof.Rows
end L2
namespace L2
open PySem PySem.Spec PyProof.Rows
end L2
namespace L2
open PySem PySem.Spec PyProof.Rows
def inClass (s:Stmt) (j:Nat):Stmt:=match s with
 | .ClassDef _ _ _ body _ _ _ _ _ _ _=>body.getD j (.Pass ⟨0,0,0,0⟩)
 | _=>.Pass ⟨0,0,0,0⟩
def ql (s:Stmt):Arguments:=match s with
 | .FunctionDef _ a _ _ _ _ _ _ _ _=>a
 | _=>{ posonlyargs:=[],args:=[],vararg:=none,kwonlyargs:=[],kw_defaults:=[],kwarg:=none,defaults:=[] }
def qk (s:Stmt):List Stmt:=match s with
 | .FunctionDef _ _ b _ _ _ _ _ _ _=>b
 | _=>[]
def qe (s:Stmt):Scope:=match s with
 | .FunctionDef _ _ _ _ _ _ sc _ _ _=>sc
 | _=>{ kind:=.function,names:=[],isGenerator:=false,isCoroutine:=false }
abbrev CX0:CXT:=fun _ _ _ _ _ _=>False
abbrev E0:XK:=fun _ _ _=>False
theorem qM {X:Cx}:jW CX0 X E0:=fun _ _ _ _ _ _ _ h=>h.elim
structure Fun (K:PySem.W.Frag) (x qual:Str) (st:Stmt) (f:Addr) (fd:FuncData):Prop where
 ex:∃ (oc:Value) (od:Option Addr) (kV doc pm:Value) (an:Option Addr) (cdv ct:Value) (osl:Array (Option Value)),
  fd=PySem.W.fnOf x qual (ql st) (qk st) (qe st) .none kV doc pm an cdv ct/\K.lookup f=some ⟨oc,od,.func fd,osl⟩/\PySem.W.codeIn K cdv qual=true
 kp:PySem.W.keepIn K (.ref f)=true
section
variable {P:Program} {w:World} {K:PySem.W.Frag} {mg:Str->Option Value} {base:Heap}
theorem Fun.ok {x qual:Str} {st:Stmt} {f:Addr} {fd:FuncData} {N ps:List Str} {k:Nat} {sp:Sp} (F:Fun K x qual st f fd) (S:qm N ps (qe st)) (len:∀ vs H Q E,sp vs H Q E->vs.length=ps.length)
  (hbody:∀ (cdv:Value) (A:Around) (outer:List Env) (s:Shared) (H:Hp) (vs:List V) (Q:VK) (E:XK),qO k (A.deeper (envOfC qual (qe st) s.heap.objs.size f cdv))->sp vs H Q E ->
   ∃ t,PSs (zc CX0 P w K mg base N qual (qe st) f cdv A outer s H E).nox (qk st) t/\t { nx:=fun _ H'=>Q .non H',rt:=Q } (start N vs) H):qy P w K mg base CX0 (k+1) f fd ps sp:=by
 obtain ⟨oc,od,kV,doc,pm,an,cdv,ct,osl,rfl,lk,hcd⟩:=F.ex
 refine qld lk hcd S len fun A outer s H vs Q E hr hsp=>?_
 obtain ⟨t,h,q⟩:=hbody cdv A outer s H vs Q E hr hsp
 exact ⟨t,h.nox,q⟩
theorem Fun.binds {x qual:Str} {st:Stmt} {f:Addr} {fd:FuncData} {ps:List Str} (F:Fun K x qual st f fd)
  (h:∀ (kV doc pm:Value) (an:Option Addr) (cdv ct:Value) (us:List Value),us.length=ps.length->bindArgs (PySem.W.fnOf x qual (ql st) (qk st) (qe st) .none kV doc pm an cdv ct) ⟨us,[]⟩=pure (ps.zip us)):Binds K fd ps []:=by
 obtain ⟨oc,od,kV,doc,pm,an,cdv,ct,osl,rfl,lk,hcd⟩:=F.ex
 exact .all (h kV doc pm an cdv ct)
theorem qu {x qual:Str} {st:Stmt} {f:Addr} {oc:Value} {od an:Option Addr} {osl:Array (Option Value)} {kV doc pm cdv ct:Value} (l:K.lookup f=some ⟨oc,od,.func (PySem.W.fnOf x qual (ql st) (qk st) (qe st) .none kV doc pm an cdv ct),osl⟩)
  (c:PySem.W.codeIn K cdv qual=true) (k:PySem.W.keepIn K (.ref f)=true):Fun K x qual st f (PySem.W.fnOf x qual (ql st) (qk st) (qe st) .none kV doc pm an cdv ct):=⟨⟨oc,od,kV,doc,pm,an,cdv,ct,osl,rfl,l,c⟩,k⟩
end
theorem qnG {A:Around} {k:Nat} (hr:qO k A):A.units+1<cLine:=Nat.lt_of_le_of_lt (Nat.add_le_add_left (by decide:1<=64) _) hr.units
theorem QK {n:Nat} (h:n<=1000):n<sizeLine:=Nat.lt_of_le_of_lt h (by decide)
section
variable {X:Cx}
theorem pv (i:Nat) {x:Str} {pos:Pos} (hN:X.N[i]? = some x:=by rfl) (hv:Vis X.env.scope x:=by first | exact Or.inl rfl | exact Or.inr (Or.inl rfl) | exact Or.inr (Or.inr rfl)) (hd:(x == ("__debug__" : Str))=false:=by decide)
  (hcd:(x == ("__classdict__" : Str))=false:=by decide):PE X (.Name x pos) (zS i):=qmt hN hv hd hcd
end
theorem zp {A B:Prop} (h:B):if false=true then A else B:=by
 rw [if_neg Bool.false_ne_true]
 exact h
theorem zL {A B:Prop} (h:A):if true=true then A else B:=by
 rw [if_pos rfl]
 exact h
theorem zZ {c A B:Prop} [Decidable c] (h1:c->A) (h2:¬ c->B):if c then A else B:=by
 by_cases h:c
 ·rw [if_pos h]
  exact h1 h
 ·rw [if_neg h]
  exact h2 h
def qE (H H':Hp):Prop:=∀ b o,H b=some o->H' b=some o
theorem qE.refl (H:Hp):qE H H:=fun _ _ h=>h
theorem qE.trans {H H1 H2:Hp} (a:qE H H1) (b:qE H1 H2):qE H H2:=fun c o h=>b c o (a c o h)
theorem qE.free {H H':Hp} (e:qE H H') {l:Addr} (h:H' l=Option.none):H l=Option.none:=by
 cases q:H l with
 | none=>rfl
 | some o=>
  rw [e l o q] at h
  cases h
theorem qE.seq {K:PySem.W.Frag} {H H':Hp} {a:Addr} {xs:List V} (e:qE H H') (h:SqL K H a xs):SqL K H' a xs:=by
 rcases h with (h | ⟨o,h⟩) | h
 ·exact .inl (.inl (e _ _ h))
 ·exact .inl (.inr ⟨o,e _ _ h⟩)
 ·exact .inr h
section
variable {κ : Type} [DecidableEq κ]
end
end L2
end
section
namespace L2
open PySem PySem.Spec PyProof.Rows
open LX (Fly)
def XOb (e C:Addr) (vs:Array Value) (dx:Option Addr):HO:=.ext fun h=>∃ sl,h.get? e=some ⟨.ref C,dx,.fields vs,sl⟩
def XDi (dx:Addr) (fs:List (Str × V)):HO:=.ext fun h=>∃ mA,h.Ns1 dx mA/\(∀ f,jO (fs.lookup f) (mA f))/\PySem.Within mA (fs.map (·.1))
theorem qfo {P:Program} {w:World} {H:Hp} {h:Heap} {e C:Addr} {vs:Array Value} {dx:Option Addr} {sl:Array (Option Value)} (q:h.get? e=some ⟨.ref C,dx,.fields vs,sl⟩):zk P w H h e (XOb e C vs dx):=⟨⟨sl,q⟩,⟨_,q⟩,fun _ _ ⟨sl,z⟩ k=>⟨sl,k _ z⟩⟩
theorem qiV {P:Program} {w:World} {H:Hp} {h:Heap} {dx:Addr} {fs:List (Str × V)} {mA:Str->Option Value} (n:h.Ns1 dx mA) (r:∀ f,jO (fs.lookup f) (mA f)) (wi:PySem.Within mA (fs.map (·.1))):zk P w H h dx (XDi dx fs):=by
 obtain ⟨o,es,ep,ho,c⟩:=id n
 refine ⟨⟨mA,n,r,wi⟩,⟨o,ho⟩,fun h1 h2 z k=>?_⟩
 obtain ⟨mB,⟨o1,es1,ep1,ho1,c1⟩,r1,w1⟩:=z
 exact ⟨mB,⟨o1,es1,ep1,k _ ho1,c1⟩,r1,w1⟩
theorem HOk.xob {P:Program} {w:World} {H:Hp} {h:Heap} {e C:Addr} {vs:Array Value} {dx:Option Addr} (x:HOk P w H h) (q:H e=some (XOb e C vs dx)):∃ sl,h.get? e=some ⟨.ref C,dx,.fields vs,sl⟩:=(x _ _ q).1
theorem HOk.xdi {P:Program} {w:World} {H:Hp} {h:Heap} {dx:Addr} {fs:List (Str × V)} (x:HOk P w H h) (q:H dx=some (XDi dx fs)):∃ mA,h.Ns1 dx mA/\(∀ f,jO (fs.lookup f) (mA f))/\PySem.Within mA (fs.map (·.1)):=(x _ _ q).1
def Zj (H:Hp) (a:Addr):Hp:=fun b=>if b=a then none else H b
theorem Qq {H:Hp} {a b:Addr} (h:b≠a):Zj H a b=H b:=by unfold Zj; rw [if_neg h]
theorem qcA {H:Hp} {a:Addr}:Zj H a a=none:=by unfold Zj; rw [if_pos rfl]
def CXR (P:Program) (w:World):CXT:=fun outer H s E e s'=>∃ (a C dx:Addr) (H':Hp) (B:Heap),e=.ref a/\s'.os=s.os/\AllBare s'.gens/\Un (frs outer) [] H H' s.heap s'.heap/\HOk P w H' s'.heap/\Fly B outer a C dx .none s'.heap /\
 (∀ b o,s.heap.get? b=some o->b∉frs outer->∃ o',B.get? b=some o')/\(∀ b u,H' b=some u->∃ o',B.get? b=some o')/\H' a=none/\E (.ref C) (some dx) H'
theorem qhJ {fs:List Addr} {H H':Hp} {h h1 h2 B:Heap} (u:Un fs [] H H' h h1) (s1:B.StaysIn h1) (s2:B.StaysIn h2) (hB:∀ b o,h.get? b=some o->b∉fs->∃ o',B.get? b=some o') (up:h1.UpToSlots h2)
  (hf:∀ b∈fs,∀ o,h1.get? b=some o->∀ vs,o.data≠.fields vs):Un fs [] H H' h h2 where
 keep:=fun b o q n hb hx=>by
  obtain ⟨o',e⟩:=hB b o q hb
  have e1:=s1 b o' e
  rw [u.keep b o q n hb hx] at e1
  cases e1
  exact s2 b _ e
 slot:=fun b o q n hb hx=>by
  obtain ⟨sl,e⟩:=u.slot b o q n hb hx
  obtain ⟨sl2,e2⟩:=up b _ e (hf b hb _ e)
  exact ⟨sl2,e2⟩
 free:=u.free
 there:=fun b o q hx=>by
  by_cases hb:b∈fs
  ·obtain ⟨o1,e1⟩:=u.there b o q hx
   obtain ⟨sl2,e2⟩:=up b _ e1 (hf b hb _ e1)
   exact ⟨_,e2⟩
  ·obtain ⟨o',e⟩:=hB b o q hb
   exact ⟨o',s2 b o' e⟩
 tups:=u.tups
 frzs:=u.frzs
 tbls:=u.tbls
theorem qfp {P:Program} {w:World} {H:Hp} {h1 h2 B:Heap} (x:HOk P w H h1) (s1:B.StaysIn h1) (s2:B.StaysIn h2) (hB:∀ b u,H b=some u->∃ o',B.get? b=some o'):HOk P w H h2:=fun a o e=>
 (x a o e).stay (fun c u hc q=>by
  have hc':∃ o',B.get? c=some o':=by
   rcases hc with rfl | hc
   ·exact hB _ _ e
   ·exact hB _ _ hc
  obtain ⟨o',eo⟩:=hc'
  have:=s1 c o' eo
  rw [q] at this
  cases this
  exact s2 c _ eo) (fun _ q=>q) fun _ _ q=>q
theorem Zz {h base:Heap} {l:List Env} (hl:h.FunFrames base l):∀ b∈frs l,∀ o,h.get? b=some o->∀ vs,o.data≠.fields vs:=fun b hb o q=>by
 obtain ⟨_,o',ho',hn⟩:=hl.mem hb
 rw [q] at ho'
 cases ho'
 exact hn
section
variable {P:Program} {w:World} {K:PySem.W.Frag} {mg:Str->Option Value} {base:Heap} {N:List Str} {qual:Str} {scope:Scope} {f:Addr} {cd:Value} {A:Around} {outer:List Env} {s:Shared} {H:Hp} {E:XK}
theorem jX:jW (CXR P w) (zc (CXR P w) P w K mg base N qual scope f cd A outer s H E) E:=by
 intro pins σ H1 s1 e s2 I hx
 obtain ⟨a,C,dx,H',B,rfl,hos,hb,un,hok,fly,c1,c2,hn,hE⟩:=hx
 have J:=I.call' (ch:=[]) hos un hok hb (fun b z=>absurd z (by simp))
 have c1':∀ b o,s.heap.get? b=some o->b∉frs outer->∃ o',B.get? b=some o':=fun b o q hb=>by
  obtain ⟨o1,q1⟩:=I.base.there b o q (by simp [zc])
  refine c1 b o1 q1 fun hm=>?_
  rcases List.mem_cons.mp (I.stkSub b hm) with z | z
  ·have lt:=Heap.lt_size q
   rw [z] at lt
   exact absurd lt (Nat.lt_irrefl _)
  ·exact hb z
 show wpAny (model P w) (A.deeper (envOfC qual scope s.heap.objs.size f cd)) (leaving (envOfC qual scope s.heap.objs.size f cd) (.ref a)) (fun _ s''=>CXR P w outer H s E (.ref a) s'') (fun e' s''=>CXR P w outer H s E e' s'') s2
 refine LX.qhu (env:=envOfC qual scope s.heap.objs.size f cd) (outer:=outer) (L:=s.heap.objs.size) J.ok.frames rfl fly fun h' fly' up=>?_
 have u1:Un (frs outer) [] H H' s.heap s2.heap:=J.base
 exact ⟨a,C,dx,H',B,rfl,J.os,J.bare,qhJ u1 fly.st fly'.st c1' up (Zz (fly.ff.2.2)),qfp J.hok fly.st fly'.st c2,fly',c1',c2,hn,hE⟩
theorem qck {h b B:Heap}:∀ {l:List Env},h.FunFrames b l->(∀ a∈frs l,B.get? a=none)->h.FunFrames B l
 | [],_,_=>trivial
 | env::r,⟨hk,⟨L,o,hf,hn,ho,hd⟩,hr⟩,hB=>⟨hk,⟨L,o,hf,hB L (by unfold frs; rw [List.filterMap_cons,hf]; exact List.mem_cons_self),ho,hd⟩,qck hr fun a ha=>hB a (by
  unfold frs
  rw [List.filterMap_cons,hf]
  exact List.mem_cons_of_mem _ ha)⟩
theorem qlQ {pins:List (Addr × Obj)} {σ : St} {H1:Hp} {s1:Shared} {a C dx:Addr} {vs:Array Value}
  (I:Inv (zc (CXR P w) P w K mg base N qual scope f cd A outer s H E) pins σ H1 s1) (ha:H1 a=some (XOb a C vs (some dx))) (hv:vs[1]? = some .none) (hnew:s.heap.objs.size<=a) (hE:E (.ref C) (some dx) (Zj H1 a)) :
  (zc (CXR P w) P w K mg base N qual scope f cd A outer s H E).xe (.ref a) s1:=by
 obtain ⟨sl,hob⟩:=I.hok.xob ha
 have nfr:∀ b∈frs (zc (CXR P w) P w K mg base N qual scope f cd A outer s H E).stack,b≠a:=fun b hb z=>by
  have:=I.stkFree b hb
  rw [z,ha] at this
  cases this
 let l:=a::frs (zc (CXR P w) P w K mg base N qual scope f cd A outer s H E).stack
 let B:=PySem.W.hideAll s1.heap l
 have stB:B.StaysIn s1.heap:=fun b o q=>PySem.W.of_hideAll l q
 have inB:∀ b o,s1.heap.get? b=some o->b≠a->b∉frs (zc (CXR P w) P w K mg base N qual scope f cd A outer s H E).stack->B.get? b=some o:=fun b o q h1 h2=>PySem.W.hideAll_get l q (by
  intro z
  rcases List.mem_cons.mp z with z | z
  ·exact h1 z
  ·exact h2 z)
 have c1':∀ b o,s.heap.get? b=some o->b∉frs outer->∃ o',B.get? b=some o':=fun b o q hb=>by
  obtain ⟨o1,q1⟩:=I.base.there b o q (by simp [zc])
  refine ⟨o1,inB b o1 q1 (Nat.ne_of_lt (Nat.lt_of_lt_of_le (Heap.lt_size q) hnew)) fun hm=>?_⟩
  rcases List.mem_cons.mp (I.stkSub b hm) with z | z
  ·have lt:=Heap.lt_size q
   rw [z] at lt
   exact absurd lt (Nat.lt_irrefl _)
  ·exact hb z
 have c2:∀ b u,Zj H1 a b=some u->∃ o',B.get? b=some o':=fun b u q=>by
  have hba:b≠a:=fun z=>by subst z; rw [qcA] at q; cases q
  rw [Qq hba] at q
  obtain ⟨o,ho⟩:∃ o,s1.heap.get? b=some o:=by
   have lt:=I.hok.lt q
   cases hq:s1.heap.get? b with
   | some o=>exact ⟨o,rfl⟩
   | none=>
    exfalso
    have x:=I.hok b u q
    cases u with
    | lst xs=>obtain ⟨_,_,_,_,e⟩:=x; rw [hq] at e; cases e
    | tup xs=>obtain ⟨_,_,_,ob,e,_⟩:=x; rw [hq] at e; cases e
    | dK kvs=>obtain ⟨_,_,_,_,o,_,_,e,_⟩:=x; rw [hq] at e; cases e
    | dT kvs=>obtain ⟨_,_,_,_,o,_,_,e,_⟩:=x; rw [hq] at e; cases e
    | set S n=>obtain ⟨o,_,_,_,e,_⟩:=x; rw [hq] at e; cases e
    | ins C dx fs=>obtain ⟨_,_,_,e,_⟩:=x; rw [hq] at e; cases e
    | own y=>obtain ⟨_,e⟩:=x; rw [hq] at e; cases e
    | xd fs=>obtain ⟨_,⟨_,_,_,e,_⟩,_⟩:=x; rw [hq] at e; cases e
    | rng lo hi=>obtain ⟨_,_,_,e⟩:=x; rw [hq] at e; cases e
    | frz ob u=>obtain ⟨e,_⟩:=x; rw [hq] at e; cases e
    | tbl ps=>have e:s1.heap.get? b=some _:=x; rw [hq] at e; cases e
    | met f y=>have e:s1.heap.get? b=some _:=x; rw [hq] at e; cases e
    | ext φ=>obtain ⟨_,⟨_,e⟩,_⟩:=x; rw [hq] at e; cases e
  exact ⟨o,inB b o ho hba fun hm=>by rw [I.stkFree b hm] at q; cases q⟩
 have ok1:HOk P w (Zj H1 a) s1.heap:=fun b u q=>by
  have hba:b≠a:=fun z=>by subst z; rw [qcA] at q; cases q
  rw [Qq hba] at q
  refine (I.hok b u q).stay (fun c v _ z=>z) (fun c z=>?_) fun c xs z=>?_
  ·rw [Qq (fun y=>by subst y; rw [ha] at z; cases z)]; exact z
  ·rw [Qq (fun y=>by subst y; rw [ha] at z; cases z)]; exact z
 have un1:Un (frs outer) [] H (Zj H1 a) s.heap s1.heap:=by
  have u0:Un (frs outer) [] H H1 s.heap s1.heap:=I.base
  refine ⟨u0.keep,u0.slot,fun b o q n hx=>?_,u0.there,fun b xs q=>?_,fun b o u q=>?_,fun b ps q=>?_⟩
  ·rw [Qq (Nat.ne_of_lt (Nat.lt_of_lt_of_le (Heap.lt_size q) hnew))]; exact u0.free b o q n hx
  ·have z:=u0.tups b xs q
   rw [Qq (fun y=>by subst y; rw [ha] at z; cases z)]; exact z
  ·have z:=u0.frzs b o u q
   rw [Qq (fun y=>by subst y; rw [ha] at z; cases z)]; exact z
  ·obtain ⟨m,z⟩:=u0.tbls b ps q
   exact ⟨m,by rw [Qq (fun y=>by subst y; rw [ha] at z; cases z)]; exact z⟩
 have noB:B.get? a=none:=PySem.W.hideAll_none l List.mem_cons_self
 have ffB:s1.heap.FunFrames B (envOfC qual scope s.heap.objs.size f cd::outer):=qck I.stack fun b hb=>PySem.W.hideAll_none l (List.mem_cons_of_mem _ hb)
 show wpAny (model P w) (A.deeper (envOfC qual scope s.heap.objs.size f cd)) (leaving (envOfC qual scope s.heap.objs.size f cd) (.ref a)) (fun _ s''=>CXR P w outer H s E (.ref a) s'') (fun e' s''=>CXR P w outer H s E e' s'') s1
 refine LX.qgm (env:=envOfC qual scope s.heap.objs.size f cd) (outer:=outer) (L:=s.heap.objs.size) (C:=C) (dx:=dx) (vs:=vs) I.ok.frames ffB rfl hob rfl rfl rfl hv stB noB fun h' fly' up=>?_
 exact ⟨a,C,dx,Zj H1 a,B,rfl,I.os,I.bare,qhJ un1 stB fly'.st c1' up (Zz ffB.2.2),qfp ok1 stB fly'.st c2,fly',c1',c2,qcA,hE⟩
end
end L2
end
section
namespace L2
open PySem PySem.Spec PyProof.Rows
open LX (Fly Under XC QD)
def Jf (K:PySem.W.Frag) (C:Addr):Bool:=match K.lookup C with
 | some ⟨.type ty,_,.cls cd,sl⟩=>ty == "type" && QD cd.mro&&cd.hasDict && !cd.hasDel&&cd.mro.head? == some (.ref C)&&(match sl.toList with
  | [_,_,_,_,k4,_]=>k4 == some (.builtin "Exception.__new__")
  | _=>false)
 | _=>false
theorem qaG:∀ {l:List Value},QD l=true->Under l
 | [.type a,.type b,.type c],e=>by
  simp only [QD,Bool.and_eq_true,beq_iff_eq] at e
  obtain ⟨⟨rfl,rfl⟩,rfl⟩:=e
  exact ⟨by decide,by decide,by decide,by decide⟩
 | .ref c::r,e=>by
  have u:=qaG (l:=r) e
  exact ⟨by rw [List.contains_cons,u.b1]; exact Bool.or_true _,by rw [List.contains_cons,u.b2]; exact Bool.or_true _,by rw [List.contains_cons,u.b3]; rfl,by rw [List.contains_cons,u.b4]; rfl⟩
structure jG (K:PySem.W.Frag) (C:Addr):Prop where
 obj:Jf K C=true
 sa:PySem.W.findIn K (.ref C) "__setattr__" = some (some (.builtin "object.__setattr__"))
 ga:PySem.W.findIn K (.ref C) "__getattribute__" = some (some (.builtin "BaseException.__getattribute__"))
 gh:PySem.W.findIn K (.ref C) "__getattr__" = some none
theorem jG.out {K:PySem.W.Frag} {C:Addr} (c:jG K C):∃ (cd:ClassData) (bm:List Value),PySem.W.clsIn K C=some cd/\QD cd.mro=true/\cd.hasDict=true/\cd.mro=.ref C::bm/\QD bm=true/\∃ nm q N bs hdct sn sub ab col dd k0 k1 k2 k3 k5,
  K.lookup C=some (excClassObj nm q C N bs bm hdct sn sub ab col dd k0 k1 k2 k3 k5 "Exception.__new__"):=by
 have e:=c.obj
 unfold Jf at e
 split at e
 ·rename_i ty od cd sl ho
  simp only [Bool.and_eq_true,Bool.not_eq_true',beq_iff_eq] at e
  obtain ⟨⟨⟨⟨⟨e1,e2⟩,e3⟩,e4⟩,e5⟩,e6⟩:=e
  subst e1
  obtain ⟨sl⟩:=sl
  dsimp only at e6
  split at e6
  ·rename_i k0 k1 k2 k3 k4 k5
   have e6:=beq_iff_eq.mp e6
   subst e6
   obtain ⟨nm,bs,mro,ns,q,hd,sn,sub,ab,col,del⟩:=cd
   cases mro with
   | nil=>cases e5
   | cons m bm=>
    have e5:m=.ref C:=Option.some.inj e5
    subst e5
    have e4:del=false:=e4
    subst e4
    exact ⟨_,bm,by unfold PySem.W.clsIn; rw [ho],e2,e3,rfl,e2,nm,q,ns,bs,hd,sn,sub,ab,col,od,k0,k1,k2,k3,k5,ho⟩
  ·cases e6
 ·cases e
section
variable {X:Cx} {pins:List (Addr × Obj)} {σ : St} {H:Hp} {s:Shared} {e C:Addr} {f:Str} {A:Around} {E:Value->Shared->Prop} {vs:Array Value}
theorem qks {y:V} {u:Value} {Q:Unit->Shared->Prop} (I:Inv X pins σ H s) (he:H e=some (XOb e C vs none)) (c:jG X.K C) (n:qx X.K C f) (ry:RelV y u)
  (h:∀ dx s',H dx=none->dx≠e->Inv X pins σ (upd (upd H dx (XDi dx [(f,y)])) e (XOb e C vs (some dx))) s'->Q () s'):wpAny (model X.prog X.w) A (setAttr (.ref e) f u) Q E s:=by
 obtain ⟨cd,bm,hc,hm,hd,_⟩:=c.out
 obtain ⟨sl,ho⟩:=I.hok.xob he
 refine LX.qmn I.kIn ho hc hm hd c.sa n fun h' tk q1 q2 q3=>h s.heap.objs.size _ (I.hok.fresh (Nat.le_refl _)) (Nat.ne_of_gt (Heap.lt_size ho)) ?_
 have hn:H s.heap.objs.size=none:=I.hok.fresh (Nat.le_refl _)
 have nde:s.heap.objs.size≠e:=Nat.ne_of_gt (Heap.lt_size ho)
 have e1:zk X.prog X.w (upd (upd H s.heap.objs.size (XDi s.heap.objs.size [(f,y)])) e (XOb e C vs (some s.heap.objs.size))) h' s.heap.objs.size (XDi s.heap.objs.size [(f,y)]):=by
  refine qiV q2 (fun g=>?_) fun g hg=>?_
  ·show jO (([(f,y)]:List (Str × V)).lookup g) (if g=f then some u else none)
   rw [List.lookup_cons]
   by_cases z:g=f
   ·subst z; rw [if_pos rfl,beq_self_eq_true]; exact ry
   ·rw [if_neg z,beq_eq_false_iff_ne.mpr z]; exact True.intro
  ·by_cases z:g=f
   ·subst z; exact List.mem_cons_self
   ·exact absurd (if_neg z) hg
 have un:Un X.fs [] H (upd (upd H s.heap.objs.size (XDi s.heap.objs.size [(f,y)])) e (XOb e C vs (some s.heap.objs.size))) s.heap h':=by
  have lt:∀ b o,s.heap.get? b=some o->b≠s.heap.objs.size:=fun b o q=>Nat.ne_of_lt (Heap.lt_size q)
  have ne:∀ b,H b=none->b≠e:=fun b q z=>by subst z; rw [he] at q; cases q
  have nx:∀ b u,H b=some u->(∀ φ,u≠.ext φ)->b≠e:=fun b u q hu z=>by subst z; rw [he] at q; cases q; exact hu _ rfl
  refine ⟨fun b o q n1 _ _=>q3 b o (ne b n1) q,fun b o q n1 _ _=>⟨o.slots,q3 b o (ne b n1) q⟩,fun b o q n1 _=>?_,fun b o q _=>?_,fun b xs q=>?_,fun b o w' q=>?_,fun b ps q=>⟨#[],?_⟩⟩
  ·rw [qd (ne b n1),qd (lt b o q)]; exact n1
  ·by_cases z:b=e
   ·subst z; exact ⟨_,q1⟩
   ·exact ⟨o,q3 b o z q⟩
  ·rw [qd (nx b _ q (fun φ z=>by cases z)),qd (qg q hn)]; exact q
  ·rw [qd (nx b _ q (fun φ z=>by cases z)),qd (qg q hn)]; exact q
  ·rw [qd (nx b _ q (fun φ z=>by cases z)),qd (qg q hn),q]; simp
 refine I.un un fun b w' q=>?_
 by_cases z:b=e
 ·subst z
  rw [qc] at q
  cases q
  exact qfo q1
 ·rw [qd z] at q
  by_cases z2:b=s.heap.objs.size
  ·subst z2
   rw [qc] at q
   cases q
   exact e1
  ·rw [qd z2] at q
   refine (I.hok b w' q).stay (fun c u' hc' r=>q3 c u' ?_ r) (fun c r=>?_) fun c xs r=>?_
   ·rcases hc' with rfl | hc'
    ·exact z
    ·intro y'; subst y'; rw [he] at hc'; cases hc'
   ·rw [qd (fun y'=>by subst y'; rw [he] at r; cases r),qd (qg r hn)]; exact r
   ·rw [qd (fun y'=>by subst y'; rw [he] at r; cases r),qd (qg r hn)]; exact r
theorem qkt {y:V} {u:Value} {dx:Addr} {fs:List (Str × V)} {Q:Unit->Shared->Prop} (I:Inv X pins σ H s) (he:H e=some (XOb e C vs (some dx))) (hdx:H dx=some (XDi dx fs)) (hl:fs.length<1000) (c:jG X.K C) (n:qx X.K C f) (ry:RelV y u)
  (h:∀ s',Inv X pins σ (upd H dx (XDi dx (zb f y fs))) s'->Q () s'):wpAny (model X.prog X.w) A (setAttr (.ref e) f u) Q E s:=by
 obtain ⟨cd,bm,hc,hm,hd,_⟩:=c.out
 obtain ⟨sl,ho⟩:=I.hok.xob he
 obtain ⟨mA,hn,r,wi⟩:=I.hok.xdi hdx
 refine LX.qmo I.kIn ho hn wi (by rw [List.length_map]; omega) hc hm hd c.sa n fun h' tk q1 q2=>h _ ?_
 refine I.write (x:=dx) (e:=dx) (by rw [hdx]; exact True.intro) (.inl rfl) (fun b o hb q=>(q2.2 b hb).trans q) (let ⟨o,_,_,z,_⟩:=q1; ⟨o,z⟩) ?_
 refine qiV q1 (fun g=>?_) fun g hg=>?_
 ·show jO ((zb f y fs).lookup g) (if g=f then some u else mA g)
  rw [JU]
  by_cases z:g=f
  ·rw [if_pos z,if_pos z]; exact ry
  ·rw [if_neg z,if_neg z]; exact r g
 ·by_cases z:g=f
  ·rw [z]; exact (Z0 f y fs).1
  ·refine (Z0 f y fs).2 g (wi g fun q=>hg ?_)
   show (if g=f then some u else mA g)=none
   rw [if_neg z]; exact q
theorem qlR {b:Bool} {v:V} {dx:Addr} {fs:List (Str × V)} {Q:Value->Shared->Prop} (I:Inv X pins σ H s) (he:H e=some (XOb e C vs (some dx))) (hdx:H dx=some (XDi dx fs)) (c:jG X.K C) (n:qx X.K C f) (l:fs.lookup f=some v)
  (h:∀ u s',Inv X pins σ H s'->RelV v u->Q u s'):wpAny (model X.prog X.w) A (getAttr (.ref e) f b) Q E s:=by
 obtain ⟨cd,bm,hc,hm,hd,em,hbm,_⟩:=c.out
 obtain ⟨sl,ho⟩:=I.hok.xob he
 obtain ⟨mA,hn,r,wi⟩:=I.hok.xdi hdx
 obtain ⟨u,hu,ru⟩:=jO.some_of (v:=v) (o:=mA f) (by rw [<- l]; exact r f)
 obtain ⟨od,hod,hlook⟩:=qd8 hn
 have J:PySem.W.InstAt s.heap e ⟨.ref C,some dx,.fields vs,sl⟩ C (some od):=⟨ho,rfl,rfl,hod⟩
 refine LX.qnv I.kIn J c.ga c.gh ?_ (PySem.W.findObj_own (by show (PySem.W.clsIn X.K C).any _=true; rw [hc]; exact hd) n rfl (by rw [hlook,hu])) (qd9 ru) (h u _ (I.tok _) ru)
 unfold PySem.W.mroIn
 rw [hc,Option.bind_some,if_neg (by rw [LX.qgU hm]; decide),(qaG hm).b2]
end
def qmS (K:PySem.W.Frag) (ta tv:TE) (f:Str):TS:=fun D σ H=>tv σ H fun y H1=>ta σ H1 fun x H2=>∃ e C vs,x=.ref e/\H2 e=some (XOb e C vs none)/\jG K C/\qx K C f /\
 ∀ dx,H2 dx=none->dx≠e->D.nx σ (upd (upd H2 dx (XDi dx [(f,y)])) e (XOb e C vs (some dx)))
def qmT (K:PySem.W.Frag) (ta tv:TE) (f:Str):TS:=fun D σ H=>tv σ H fun y H1=>ta σ H1 fun x H2=>∃ e C vs dx fs,x=.ref e/\H2 e=some (XOb e C vs (some dx))/\H2 dx=some (XDi dx fs)/\fs.length<1000/\jG K C/\qx K C f /\
 D.nx σ (upd H2 dx (XDi dx (zb f y fs)))
def qlh (K:PySem.W.Frag) (ta:TE) (f:Str):TE:=fun σ H Q=>ta σ H fun x H1=>∃ e C vs dx fs v,x=.ref e/\H1 e=some (XOb e C vs (some dx))/\H1 dx=some (XDi dx fs)/\jG K C/\qx K C f/\fs.lookup f=some v/\Q v H1
section
variable {X:Cx} {o e value:Expr} {f:Str} {pos pos':Pos} {ta tv:TE}
theorem qku (ha:PE X o ta) (hv:PE X value tv) (hs:swapsWith value (some (.Attribute o f pos')) pos.line X.env=pure false):PS X (.Assign [.Attribute o f pos'] value pos) (qmS X.K ta tv f):=by
 intro pins s σ H D I h
 refine plainObj_wpAny_Assign_Attribute (thn (hv pins s σ H _ I h) fun u s1 ⟨y,H1,I1,ry,q⟩=>thn (ha pins s1 σ H1 _ I1 q) fun ov s2 ⟨x,H2,I2,rx,a,C,vs,ex,ea,c,n,q2⟩=>?_) hs
 subst ex
 obtain rfl:ov=Value.ref a:=rx
 exact qks I2 ea c n ry fun dx s3 z1 z2 I3=>⟨σ,_,I3,q2 dx z1 z2⟩
theorem qkv (ha:PE X o ta) (hv:PE X value tv) (hs:swapsWith value (some (.Attribute o f pos')) pos.line X.env=pure false):PS X (.Assign [.Attribute o f pos'] value pos) (qmT X.K ta tv f):=by
 intro pins s σ H D I h
 refine plainObj_wpAny_Assign_Attribute (thn (hv pins s σ H _ I h) fun u s1 ⟨y,H1,I1,ry,q⟩=>thn (ha pins s1 σ H1 _ I1 q) fun ov s2 ⟨x,H2,I2,rx,a,C,vs,dx,fs,ex,ea,ed,hl,c,n,q2⟩=>?_) hs
 subst ex
 obtain rfl:ov=Value.ref a:=rx
 exact qkt I2 ea ed hl c n ry fun s3 I3=>⟨σ,_,I3,q2⟩
theorem qlS (he:PE X e ta) (hb:attributeBase e f X.env (eval e X.env)=eval e X.env):PE X (.Attribute e f pos) (qlh X.K ta f):=by
 intro pins s σ H Q I h
 refine qgY hb (thn (he pins s σ H _ I h) fun u s1 ⟨x,H1,I1,rx,a,C,vs,dx,fs,v,ex,ea,ed,c,n,l,q⟩=>?_)
 subst ex
 obtain rfl:u=Value.ref a:=rx
 exact qlR I1 ea ed c n l fun u' s2 I2 ru=>⟨v,H1,I2,ru,q⟩
end
end L2
end
section
namespace L2
open PySem PySem.Spec PyProof.Rows
open LX (Fly Under XC QD)
structure qli (K:PySem.W.Frag) (C:Addr) (m:Str) (f:Addr):Prop where
 ga:PySem.W.specialIn K (.ref C) "__getattribute__" = some (some (.builtin "type.__getattribute__"))
 rd:PySem.W.readsIn K C (.type "type")=true
 at_:PySem.W.findCls K (.ref C) (.type "type") m=some (.val (.ref f))
 kp:PySem.W.keepIn K (.ref f)=true
section
variable {X:Cx} {CX:CXT} {k:Nat} {f C:Addr} {fd:FuncData} {ps:List Str} {sp:Sp} {dvs:List V} {ds:List Value} {E:XK} {x m:Str} {p pos apos:Pos} {e:Expr} {es:List Expr} {t:TA}
theorem qhK {pl:Sem Bool} (hg:Gl X x) (hm:X.mg x=some (.ref C)) (c:qli X.K C m f) (F:qy X.prog X.w X.K X.mg X.base CX k f fd ps sp) (hr:qO k X.A) (hb:Binds X.K fd ps ds) (hd:qD dvs ds) (hx:jW CX X E) (ha:PA X (e::es) t)
  (hdb:(x == ("__debug__" : Str))=false:=by decide)
  (hst:starEach (e::es) X.env=(false,eval e X.env)::starEach es X.env:=by rfl) (hpl:(backTo pos (starEach es X.env)).any (·.1)=false:=by rfl)
  (ht:eval (.Call (.Attribute (.Name x p) m apos) (e::es) [] pos) X.env=(do
   let ov <- eval (.Name x p) X.env
   standAt apos.atName
   let (f,first) <- holding [ov] (getMethod ov m pl)
   callWith pos f first (backTo pos (starEach (e::es) X.env)) (backToKw pos (keywordEach [] X.env))):=by rfl) :
  PE X (.Call (.Attribute (.Name x p) m apos) (e::es) [] pos) (qaC sp dvs E t):=by
 intro pins s σ H Q I h
 refine PySem.W.methodCall_KW (pl:=pl) (Zn I hg hm ?_ hdb) ht
 refine PySem.W.method_cls I.kIn c.ga (PySem.W.cls_value I.kIn c.rd c.at_ rfl ?_)
 refine PySem.W.callWith_K (first:=[]) (h₀:=X.base) I.ok.mod.kin c.kp (thn (ha pos pins _ σ H _ (I.tok _) h) fun us s2 ⟨vs,H2,I2,r,q2⟩=>⟨I2.kIn,?_⟩) hst hpl
 exact qbn F hr hb hd hx I2 r q2
end
abbrev xv (t:Addr):Array Value:=#[.ref t,.none,.none,.none,.bool false,.none]
def qbt (C:Addr) (sp:Sp) (E:XK) (t:TA):TS:=fun _ σ H=>t σ H fun vs H1=>vs.length<=1000/\∀ a ta,H1 a=none->sp (.ref a::vs) (upd H1 a (XOb a C (xv ta) none)) (fun v H2=>v=.non/\∃ dx,H2 a=some (XOb a C (xv ta) (some dx))/\E (.ref C) (some dx) (Zj H2 a)) E0
structure XMk (K:PySem.W.Frag) (C f:Addr):Prop where
 cls:jG K C
 init:PySem.W.findIn K (.ref C) "__init__" = some (some (.ref f))
 fn:PySem.W.isFn K (.ref f)=true
 kp:PySem.W.keepIn K (.ref C)=true
theorem jG.xc {K:PySem.W.Frag} {C:Addr} (c:jG K C):∃ nm q N bs bm hdct sn sub ab col dd k0 k1 k2 k3 k5,Under bm/\QD bm=true/\∀ h,K.In h->XC h nm q C N bs bm hdct sn sub ab col dd k0 k1 k2 k3 k5:=by
 obtain ⟨cd,bm,_,_,_,_,hbm,nm,q,N,bs,hdct,sn,sub,ab,col,dd,k0,k1,k2,k3,k5,lk⟩:=c.out
 exact ⟨nm,q,N,bs,bm,hdct,sn,sub,ab,col,dd,k0,k1,k2,k3,k5,qaG hbm,hbm,fun h X=>X _ _ lk⟩
theorem qnH {K:PySem.W.Frag} {f:Addr} (h:PySem.W.isFn K (.ref f)=true):∃ o,K.lookup f=some o/\o.cls=.type "function":=by
 have e:PySem.W.typeIn K (.ref f)=some (.type "function"):=beq_iff_eq.mp h
 obtain ⟨o,ho,hc⟩:=Option.map_eq_some_iff.mp e
 exact ⟨o,ho,hc⟩
section
variable {P:Program} {w:World} {K:PySem.W.Frag} {mg:Str->Option Value} {base:Heap} {N:List Str} {qual:Str} {scope:Scope} {f:Addr} {cd:Value} {A:Around} {outer:List Env} {s0:Shared} {H0:Hp} {E:XK}
variable {k:Nat} {fI C:Addr} {fd:FuncData} {ps:List Str} {sp:Sp} {x:Str} {np cpos pos:Pos} {es:List Expr} {t:TA}
theorem qeh {pins:List (Addr × Obj)} {σ : St} {H:Hp} {s:Shared} {us:List Value} {vs:List V}
  (M:XMk K C fI) (F:qy P w K mg base CX0 k fI fd ps sp) (hr:qO (k+1) (zc (CXR P w) P w K mg base N qual scope f cd A outer s0 H0 E).A) (hb:Binds K fd ps [])
  (I:Inv (zc (CXR P w) P w K mg base N qual scope f cd A outer s0 H0 E) pins σ H s) (r:qD vs us) (hl:vs.length<=1000)
  (h:∀ a ta,H a=none->sp (.ref a::vs) (upd H a (XOb a C (xv ta) none)) (fun v H2=>v=.non/\∃ dx,H2 a=some (XOb a C (xv ta) (some dx))/\E (.ref C) (some dx) (Zj H2 a)) E0) :
  wpAny (model P w) (zc (CXR P w) P w K mg base N qual scope f cd A outer s0 H0 E).A (call (.ref C) us)
   (fun v s1=>∃ (a ta dx:Addr) (H2:Hp),v=.ref a/\Inv (zc (CXR P w) P w K mg base N qual scope f cd A outer s0 H0 E) pins σ H2 s1/\s0.heap.objs.size<=a/\H2 a=some (XOb a C (xv ta) (some dx))/\E (.ref C) (some dx) (Zj H2 a))
   (zc (CXR P w) P w K mg base N qual scope f cd A outer s0 H0 E).xe s:=by
 obtain ⟨nm,q,N',bs,bm,hdct,sn,sub,ab,col,dd,k0,k1,k2,k3,k5,U,_,hC⟩:=M.cls.xc
 obtain ⟨oI,hoI,hcI⟩:=qnH M.fn
 have KX:K.In s.heap:=I.kIn
 obtain ⟨hh,g,d,tk,os⟩:=s
 refine LX.x_call U (hC _ KX) (PySem.W.looks_findIn KX M.init) (KX _ _ hoI) hcI (by rw [<- r.length,sizeLine_eq]; omega) fun h' a hsz hm=>?_
 obtain ⟨ta,ht,_,_⟩:=hm.there
 have hq:=h a ta (I.hok.fresh hsz)
 have I2:Inv (zc (CXR P w) P w K mg base N qual scope f cd A outer s0 H0 E) pins σ (upd H a (XOb a C (xv ta) none)) ⟨h',g,d,tk,os⟩:=I.laid (t':=tk) hm.keeps hsz (qfo ht)
 have r2:qD (V.ref a::vs) (Value.ref a::us):=.cons rfl r
 have hl2:(Value.ref a::us++[]).length=ps.length:=by
  rw [List.append_nil,<- r2.length]
  exact F.len _ _ _ _ hq
 refine wpAny_call (codeAny_mono (F.run _ _ _ _ ⟨Value.ref a::us,[]⟩ (Value.ref a::us) _ _ _ (hr.make C us []) (I2.env0.make C us []) ?_ r2 hq) fun res s' hq'=>?_)
 ·have:=hb ⟨h',g,d,tk,os⟩ (Value.ref a::us) I2.kIn hl2
  rw [List.append_nil] at this
  exact this
 ·cases res with
  | error e=>exact False.elim hq'
  | ok fl=>
   cases fl with
   | ret u=>
    obtain ⟨v,H',I3,rv,ev,dx,z1,z2⟩:=I2.after hq'
    subst ev
    exact ⟨rv,a,ta,dx,H',rfl,I3,Nat.le_trans I.sz hsz,z1,z2⟩
   | next=>exact False.elim hq'
   | brk=>exact False.elim hq'
   | cont=>exact False.elim hq'
theorem qei {pins:List (Addr × Obj)} {σ : St} {s:Shared} {xe:Sem Value} {D:Flow->Shared->Prop} {env:Env} (M:XMk K C fI) (hh:(zc (CXR P w) P w K mg base N qual scope f cd A outer s0 H0 E).A.handled=none)
  (h:wpAny (model P w) (zc (CXR P w) P w K mg base N qual scope f cd A outer s0 H0 E).A xe
   (fun v s1=>∃ (a ta dx:Addr) (H2:Hp),v=.ref a/\Inv (zc (CXR P w) P w K mg base N qual scope f cd A outer s0 H0 E) pins σ H2 s1/\s0.heap.objs.size<=a/\H2 a=some (XOb a C (xv ta) (some dx))/\E (.ref C) (some dx) (Zj H2 a))
   (zc (CXR P w) P w K mg base N qual scope f cd A outer s0 H0 E).xe s) :
  wpAny (model P w) (zc (CXR P w) P w K mg base N qual scope f cd A outer s0 H0 E).A (raiseStmt env (some xe) none) D (zc (CXR P w) P w K mg base N qual scope f cd A outer s0 H0 E).xe s:=by
 obtain ⟨nm,q,N',bs,bm,hdct,sn,sub,ab,col,dd,k0,k1,k2,k3,k5,U,_,hC⟩:=M.cls.xc
 refine LX.x_raise (C:=C) (nm:=nm) (q:=q) (N:=N') (bs:=bs) (hdct:=hdct) (sn:=sn) (sub:=sub) (ab:=ab) (col:=col) (dd:=dd) (k0:=k0) (k1:=k1) (k2:=k2) (k3:=k3) (k5:=k5) U hh (thn h fun v s1 ⟨a,ta,dx,H2,ev,I2,hsz,z1,z2⟩=>?_)
 obtain ⟨sl,ho⟩:=I2.hok.xob z1
 exact ⟨a,ta,some dx,sl,ev,hC _ I2.kIn,ho,qlQ I2 z1 rfl hsz z2⟩
theorem qkw {e:Expr} (M:XMk K C fI) (F:qy P w K mg base CX0 k fI fd ps sp) (hr:qO (k+1) (zc (CXR P w) P w K mg base N qual scope f cd A outer s0 H0 E).A) (hb:Binds K fd ps [])
  (hg:Gl (zc (CXR P w) P w K mg base N qual scope f cd A outer s0 H0 E) x) (hm:mg x=some (.ref C)) (ha:PA (zc (CXR P w) P w K mg base N qual scope f cd A outer s0 H0 E) (e::es) t)
  (hdb:(x == ("__debug__" : Str))=false:=by decide)
  (he:starEach (e::es) (zc (CXR P w) P w K mg base N qual scope f cd A outer s0 H0 E).env=(false,eval e (zc (CXR P w) P w K mg base N qual scope f cd A outer s0 H0 E).env)::starEach es (zc (CXR P w) P w K mg base N qual scope f cd A outer s0 H0 E).env:=by rfl)
  (hpl:(backTo cpos (starEach es (zc (CXR P w) P w K mg base N qual scope f cd A outer s0 H0 E).env)).any (·.1)=false:=by rfl) :
  PS (zc (CXR P w) P w K mg base N qual scope f cd A outer s0 H0 E) (.Raise (some (.Call (.Name x np) (e::es) [] cpos)) none pos) (qbt C sp E t):=by
 intro pins s σ H D I h
 rw [arm_exec_Raise]
 refine wpAny_bind (wpAny_standAt ?_)
 show wpAny _ _ (raiseStmt _ (some (do let v <- eval (.Call (.Name x np) (e::es) [] cpos) (zc (CXR P w) P w K mg base N qual scope f cd A outer s0 H0 E).env; standAt pos; pure v)) none) _ _ _
 refine qei (pins:=pins) (σ:=σ) M hr.hd (wpAny_bind (thn ?_ fun v s1 z=>wpAny_bind (wpAny_standAt (wpAny_pure z))))
 refine wpAny_Call_Name_kw (Zn I hg hm ?_ hdb)
 refine PySem.W.callWith_K (h₀:=base) I.ok.mod.kin M.kp (thn (ha cpos pins s σ H _ I h) fun us s1 ⟨vs,H1,I1,r,q1,q2⟩=>⟨I1.kIn,?_⟩) he hpl
 exact qeh M F hr hb I1 r q1 q2
theorem qiW (M:XMk K C fI) (F:qy P w K mg base CX0 k fI fd ps sp) (hr:qO (k+1) (zc (CXR P w) P w K mg base N qual scope f cd A outer s0 H0 E).A) (hb:Binds K fd ps [])
  (hg:Gl (zc (CXR P w) P w K mg base N qual scope f cd A outer s0 H0 E) x) (hm:mg x=some (.ref C)) (hdb:(x == ("__debug__" : Str))=false:=by decide) :
  PS (zc (CXR P w) P w K mg base N qual scope f cd A outer s0 H0 E) (.Raise (some (.Call (.Name x np) [] [] cpos)) none pos) (qbt C sp E QE):=by
 intro pins s σ H D I h
 obtain ⟨h1,h2⟩:=h
 rw [arm_exec_Raise]
 refine wpAny_bind (wpAny_standAt ?_)
 show wpAny _ _ (raiseStmt _ (some (do let v <- eval (.Call (.Name x np) [] [] cpos) (zc (CXR P w) P w K mg base N qual scope f cd A outer s0 H0 E).env; standAt pos; pure v)) none) _ _ _
 refine qei (pins:=pins) (σ:=σ) M hr.hd (wpAny_bind (thn ?_ fun v s1 z=>wpAny_bind (wpAny_standAt (wpAny_pure z))))
 refine wpAny_Call_Name_kw (Zn I hg hm ?_ hdb)
 exact PySem.W.callWith_K0 I.kIn M.kp (qeh (us:=[]) M F hr hb I .nil h1 h2)
end
end L2
end
section
namespace L2
open PySem PySem.Spec PyProof.Rows
open LX (Fly Under XC QD)
abbrev Cx.tr (X:Cx) (E:Value->Shared->Prop) (pn:List (Addr × Obj)):Cx:={ X with xe:=E,pn:=pn }
abbrev Cx.sut (X:Cx) (e:Addr):Cx:={ X with A:=X.A.mark (some (.ref e)),calm:=false,xe:=fun _ _=>False }
section
variable {X:Cx} {pins:List (Addr × Obj)} {σ : St} {H:Hp} {s:Shared}
theorem Cx.Ok.tr (ok:X.Ok) (E:Value->Shared->Prop) (pn:List (Addr × Obj)):(X.tr E pn).Ok :=
 ⟨ok.mod,ok.kind,ok.glob,ok.blt,ok.above,ok.inj,ok.has,ok.cab,ok.hd,ok.frames,ok.stk,ok.exf,ok.bs,ok.bsz,ok.noex,ok.exfs,ok.funs,ok.frf⟩
theorem Cx.Ok.untr {E:Value->Shared->Prop} {pn:List (Addr × Obj)} (ok:(X.tr E pn).Ok):X.Ok :=
 ⟨ok.mod,ok.kind,ok.glob,ok.blt,ok.above,ok.inj,ok.has,ok.cab,ok.hd,ok.frames,ok.stk,ok.exf,ok.bs,ok.bsz,ok.noex,ok.exfs,ok.funs,ok.frf⟩
theorem Inv.tr (I:Inv X pins σ H s) (E:Value->Shared->Prop):Inv (X.tr E (X.pn++pins)) [] σ H s:=⟨I.ok.tr _ _,I.os,I.bare,I.base,I.loc,I.cell,I.free,I.freeC,by rw [List.append_nil]; exact I.pin,I.hok,I.len⟩
theorem Inv.untr {E:Value->Shared->Prop} {more:List (Addr × Obj)} (I:Inv (X.tr E (X.pn++pins)) more σ H s):Inv X pins σ H s:=⟨I.ok.untr,I.os,I.bare,I.base,I.loc,I.cell,I.free,I.freeC,fun p hp=>I.pin p (List.mem_append_left _ hp),I.hok,I.len⟩
theorem SP.untr {E:Value->Shared->Prop} {D:Ends} {f:Flow} {s':Shared} (h:SP (X.tr E (X.pn++pins)) [] D f s'):SP X pins D f s':=by
 cases f with
 | next=>obtain ⟨σ',H',I,q⟩:=h; exact ⟨σ',H',I.untr,q⟩
 | brk=>obtain ⟨σ',H',I,q⟩:=h; exact ⟨σ',H',I.untr,q⟩
 | cont=>obtain ⟨σ',H',I,q⟩:=h; exact ⟨σ',H',I.untr,q⟩
 | ret u=>obtain ⟨v,σ',H',I,r,q⟩:=h; exact ⟨v,σ',H',I.untr,r,q⟩
theorem Inv.sut (I:Inv X pins σ H s) (e:Addr):Inv (X.sut e) pins σ H s :=
 ⟨⟨I.ok.mod,I.ok.kind,I.ok.glob,I.ok.blt,I.ok.above,I.ok.inj,I.ok.has,I.ok.cab,fun z=>(by cases z),I.ok.frames,I.ok.stk,I.ok.exf,I.ok.bs,I.ok.bsz,I.ok.noex,I.ok.exfs,I.ok.funs,I.ok.frf⟩,
  I.os,I.bare,I.base,I.loc,I.cell,I.free,I.freeC,I.pin,I.hok,I.len⟩
theorem Inv.unsut {e:Addr} (hd:X.calm=true->X.A.handled=none) (I:Inv (X.sut e) pins σ H s):Inv X pins σ H s :=
 ⟨⟨I.ok.mod,I.ok.kind,I.ok.glob,I.ok.blt,I.ok.above,I.ok.inj,I.ok.has,I.ok.cab,hd,I.ok.frames,I.ok.stk,I.ok.exf,I.ok.bs,I.ok.bsz,I.ok.noex,I.ok.exfs,I.ok.funs,I.ok.frf⟩,
  I.os,I.bare,I.base,I.loc,I.cell,I.free,I.freeC,I.pin,I.hok,I.len⟩
theorem Inv.track {a:Addr} {o:HO} (I:Inv X pins σ H s) (hn:H a=none) (h0:X.s_0.heap.get? a=none) (hL:a≠X.env.locals) (hc:∀ x c,X.env.cells.lookup x=some c->c≠a) (hp:∀ p∈X.pn++pins,p.1≠a)
  (new:zk X.prog X.w (upd H a o) s.heap a o):Inv X pins σ (upd H a o) s:=by
 refine ⟨I.ok,I.os,I.bare,⟨I.base.keep,I.base.slot,fun b ob q n hx=>?_,I.base.there,fun b xs q=>?_,fun b ob u q=>?_,fun b ps q=>?_⟩,I.loc,I.cell,?_,fun x c q=>?_,fun p z=>?_,fun b u q=>?_,I.len⟩
 ·rw [qd (fun z=>by subst z; rw [h0] at q; cases q)]; exact I.base.free b ob q n hx
 ·have z:=I.base.tups b xs q
  rw [qd (qg z hn)]; exact z
 ·have z:=I.base.frzs b ob u q
  rw [qd (qg z hn)]; exact z
 ·obtain ⟨m,z⟩:=I.base.tbls b ps q
  exact ⟨m,by rw [qd (qg z hn)]; exact z⟩
 ·rw [qd (Ne.symm hL)]; exact I.free
 ·rw [qd (hc x c q)]; exact I.freeC x c q
 ·obtain ⟨e1,e2,e3⟩:=I.pin p z
  exact ⟨e1,by rw [qd (hp p z)]; exact e2,e3⟩
 ·by_cases z:b=a
  ·subst z; rw [qc] at q; cases q; exact new
  ·rw [qd z] at q
   refine (I.hok b u q).stay (fun c v _ r=>r) (fun c r=>?_) fun c xs r=>?_
   ·rw [qd (qg r hn)]; exact r
   ·rw [qd (qg r hn)]; exact r
end
def subB (K:PySem.W.Frag) (C S:Addr):Prop:=∃ cd,PySem.W.clsIn K C=some cd/\cd.mro.contains (.ref S)=true
def qn9 (K:PySem.W.Frag) (S:Addr) (i len:Nat) (tb:XK->TS) (ts:TS):TS:=fun D σ H=>tb (fun c dx H'=>∃ C d,c=.ref C/\dx=some d/\jG K C/\subB K C S /\
 ∀ a xs,H' a=none->ts { nx:=fun _ _=>False,rt:=D.rt } ((List.replicate len none).set i (some (.ref a))) (upd H' a (XOb a C xs (some d)))) D σ H
theorem qcY {X:Cx} {pins:List (Addr × Obj)} {σ : St} {H:Hp} {s:Shared} (I:Inv X pins σ H s):Inv X pins (List.replicate X.N.length none) H s:=I.weak (by rw [List.length_replicate,I.len]) fun i v e=>by
 rw [List.getElem?_replicate] at e
 split at e <;> cases e
theorem Inv.gone {X:Cx} {pins:List (Addr × Obj)} {H:Hp} {s:Shared} {h':Heap} {m':Str->Option Value} {t':Nat} (I:Inv X pins (List.replicate X.N.length none) H s) (hn:h'.Ns X.env.locals m') (sb:Heap.SameBut X.env.locals s.heap h') :
  Inv X pins (List.replicate X.N.length none) H { s with heap:=h',toks:=t' }:=by
 have k:∀ b o,b≠X.env.locals->s.heap.get? b=some o->h'.get? b=some o:=fun b o z e=>(sb.2 b z).trans e
 have nL:∀ b o,X.s_0.heap.get? b=some o->b≠X.env.locals:=fun b o e=>Nat.ne_of_lt (Nat.lt_of_lt_of_le (Heap.lt_size e) I.ok.above)
 refine ⟨I.ok,I.os,I.bare,⟨fun b o e n hb hx=>k b o (nL b o e) (I.base.keep b o e n hb hx),fun b o e n hb hx=>?_,I.base.free,fun b o e hx=>?_,I.base.tups,I.base.frzs,I.base.tbls⟩,⟨m',hn,fun i x v _ e _=>?_⟩,fun x c e=>?_,I.free,I.freeC,fun p hp=>?_,fun b u e=>?_,I.len⟩
 ·obtain ⟨sl,q⟩:=I.base.slot b o e n hb hx
  exact ⟨sl,k b _ (nL b o e) q⟩
 ·obtain ⟨o',q⟩:=I.base.there b o e hx
  exact ⟨o',k b _ (nL b o e) q⟩
 ·rw [List.getElem?_replicate] at e
  split at e <;> cases e
 ·obtain ⟨v,o,ho,hd⟩:=I.cell x c e
  exact ⟨v,o,k c o (I.cne x c e) ho,hd⟩
 ·obtain ⟨e1,e2,e3,e4⟩:=I.pin p hp
  exact ⟨k _ _ e3 e1,e2,e3,e4⟩
 ·have nb:∀ c u',H c=some u'->c≠X.env.locals:=fun c u' q z=>by subst z; rw [I.free] at q; cases q
  refine (I.hok b u e).stay (fun c v hc r=>k c v ?_ r) (fun _ q=>q) fun _ _ q=>q
  rcases hc with rfl | hc
  ·exact nb _ _ e
  ·exact nb _ _ hc
theorem qmU {X:Cx} {rx n:Str} {i:Nat} {S:Addr} {body:List Stmt} {b0:Stmt} {suite:List Stmt} {tb:XK->TS} {ts:TS} {np hpos pos:Pos} (hex:X.ex=[]) (hst:X.stack=X.env::X.outer) (hfr:X.env.frame=some X.env.locals)
  (hN:X.N.Nodup) (hi:X.N[i]? = some n) (hl:X.env.scope.names.lookup n=some .local) (hg:Gl X rx) (hm:X.mg rx=some (.ref S)) (cS:jG X.K S)
  (hb:∀ (xe:Value->Shared->Prop) (pn:List (Addr × Obj)) (E1:XK),jW (CXR X.prog X.w) (X.tr xe pn) E1->PSs (X.tr xe pn) body (tb E1)) (hs:∀ e,PSs (X.sut e) (b0::suite) ts) (hdb:(rx == ("__debug__" : Str))=false:=by decide) :
  PS X (.Try body [.ExceptHandler (some (.Name rx np)) (some n) (b0::suite) hpos] [] [] pos) (qn9 X.K S i X.N.length tb ts):=by
 intro pins s σ H D I h
 refine wpAny_Try_except ?_
 let xe:Value->Shared->Prop:=fun e s1=>wpAny (model X.prog X.w) X.A (noteFrame e X.env) (fun _ s2=>wpAny (model X.prog X.w) X.A (setFlight e none) (fun _ s3=>
  wpAny (model X.prog X.w) X.A (handleBy e X.env [.ExceptHandler (some (.Name rx np)) (some n) (b0::suite) hpos]) (SP X pins D) X.xe s3) X.xe s2) X.xe s1
 refine wpAny_mono (hb xe (X.pn++pins) _ ?_ [] s σ H D (I.tr xe) h) (fun f s1 q=>?_) fun e s1 q=>q
 ·intro pins' σ1 H1 s1 e s2 I1 hx
  obtain ⟨a,C,dx,H',B,rfl,hos,hbare,un,hok,fly,c1,c2,hna,C',d',eC,ed,cC,sC,suit⟩:=hx
  cases eC
  cases ed
  have fly:Fly B (X.env::X.outer) a C dx .none s2.heap:=by rw [<- hst]; exact fly
  have frs_eq:frs X.stack=frs (X.env::X.outer):=by rw [hst]
  show wpAny (model X.prog X.w) X.A (noteFrame (.ref a) X.env) _ _ s2
  have Afr:X.A.frames=some (X.env::X.outer):=by rw [<- hst]; exact I.ok.frames
  have nof:∀ b∈frs X.stack,∀ o,s2.heap.get? b=some o->∀ vs,o.data≠.fields vs:=by rw [frs_eq]; exact Zz fly.ff
  have at_:∀ h2,Fly B (X.env::X.outer) a C dx .none h2->s2.heap.UpToSlots h2->Inv X pins σ1 H' { s2 with heap:=h2 }:=fun h2 fly2 up=>
   (I1.call' (s':={ s2 with heap:=h2 }) (ch:=[]) hos (qhJ un fly.st fly2.st c1 up nof) (qfp hok fly.st fly2.st c2) hbare fun b z=>absurd z (by simp)).untr
  refine wpAny_mono (LX.qiv (Q:=fun _ s3=>∃ h2,s3={ s2 with heap:=h2 }/\Fly B (X.env::X.outer) a C dx .none h2/\s2.heap.UpToSlots h2) (E:=X.xe) Afr hfr fly fun h2 f2 u2=>⟨h2,rfl,f2,u2⟩) (fun _ s3 z=>?_) fun _ _ z=>z
  refine thn z fun _ s4 ⟨h2,e4,fly2,up2⟩=>?_
  subst e4
  have J2:=at_ h2 fly2 up2
  obtain ⟨oe,vs,T,oT,tsr,⟨hoe,hcl,hdi,hda,_⟩,_⟩:=fly2.tr
  obtain ⟨nmS,qS,NS,bsS,bmS,hdS,snS,subS,abS,colS,ddS,j0,j1,j2,j3,j5,US,_,hS⟩:=cS.xc
  obtain ⟨cdC,bmC,hcdC,_,_,emC,_,nmC,qC,NC,bsC,hdC,snC,subC,abC,colC,ddC,k0,k1,k2,k3,k5,lkC⟩:=cC.out
  refine wpAny_handleBy_cons (codeAny_handlers_test (Zn (X:=X.sut a) (J2.sut a) hg hm ?_ hdb)) (by intro q; cases q)
  obtain ⟨hp,g,dd,tk,os⟩:=s2
  refine LX.qiw US (J2.kIn _ _ lkC) (hS _ J2.kIn) ?_ hoe hcl ?_
  ·obtain ⟨cd,e1,e2⟩:=sC
   rw [hcdC] at e1
   cases e1
   rw [emC] at e2
   exact e2
  show codeAny _ _ _ _ _
  refine codeAny_handlers_suite_as (LX.Jd (s:=⟨h2,g,dd,tk,os⟩) fly2 fun h3 fly3 up3=>?_)
  have J3:Inv X pins σ1 H' ⟨h3,g,dd,tk,os⟩:=at_ h3 fly3 (up2.trans up3)
  obtain ⟨oe,vs,T,oT,tsr,⟨hoe,hcl,hdi,hda,_⟩,_⟩:=fly3.tr
  obtain ⟨oec,oed,oedt,oes⟩:=oe
  cases hcl
  cases hdi
  cases hda
  have notIn:∀ b o,s1.heap.get? b=some o->b≠a:=fun b o q z=>by
   subst z
   by_cases hb:b∈frs X.stack
   ·obtain ⟨ob,qb⟩:∃ ob,hp.get? b=some ob:=un.there b o q (by simp)
    obtain ⟨oe2,vs2,_,_,_,⟨z1,_,_,z4,_⟩,_⟩:=fly.tr
    exact nof b hb oe2 z1 vs2 z4
   ·obtain ⟨o',eo⟩:=c1 b o q hb
    rw [fly.nw] at eo
    cases eo
  have K3:Inv X pins (List.replicate X.N.length none) (upd H' a (XOb a C vs (some dx))) ⟨h3,g,dd,tk,os⟩:=by
   refine (qcY J3).track hna ?_ ?_ ?_ ?_ (qfo hoe)
   ·cases q0:X.s_0.heap.get? a with
    | none=>rfl
    | some o=>
     obtain ⟨o1,q1⟩:=I1.base.there a o q0 (by show a∉X.ex; rw [hex]; simp)
     exact absurd rfl (notIn a o1 q1)
   ·intro z
    obtain ⟨m,⟨o,_,_,ho,_⟩,_⟩:=I1.loc
    exact notIn _ o ho z.symm
   ·intro x c q z
    obtain ⟨v,o,ho,_⟩:=I1.cell x c q
    exact notIn _ o ho z
   ·intro p hp' z
    exact notIn _ _ (I1.pin p (List.mem_append_left _ hp')).1 z
  have rdy:=suit a vs hna
  refine qaw (X:=X.sut a) (K3.sut a) hN hi (.inl hl) (v:=V.ref a) rfl (fun s5 I5=>?_) (.inr hl)
  refine wpAny_mono (hs a pins s5 _ _ _ I5 rdy) (fun f s6 q=>?_) fun _ _ z=>z.elim
  show wpAny (model X.prog X.w) X.A (do bindName X.env n .none; unbindBehindTheSuite X.env n hpos) (fun _ s7=>SP X pins D f s7) X.xe s6
  cases f with
  | next=>obtain ⟨_,_,_,z⟩:=q; exact z.elim
  | brk=>obtain ⟨_,_,_,z⟩:=q; exact z.elim
  | cont=>obtain ⟨_,_,_,z⟩:=q; exact z.elim
  | ret u=>
   obtain ⟨v,σ6,H6,I6,rv,q6⟩:=q
   have I6':Inv X pins (List.replicate X.N.length none) H6 s6:=qcY (I6.unsut I.ok.hd)
   obtain ⟨m,hn,_⟩:=id I6'.loc
   refine wpAny_nameGoes (m:=m) hl hn (by rw [I.ok.kind]; rfl) fun h7 m7 hn7 sb7=>⟨v,List.replicate X.N.length none,H6,?_,rv,q6⟩
   exact I6'.gone hn7 sb7
 ·cases f with
  | next=>exact wpAny_execs_nil q.untr
  | ret v=>exact q.untr
  | brk=>exact q.untr
  | cont=>exact q.untr
end L2
end
section
section
namespace L2
open PySem PySem.Spec PyProof.Rows
open PySem.W (WData Codec OpenSpec Well WellAll ReadsW ReadsAllW)
mutual
inductive Dw (K:PySem.W.Frag) (H:Hp):V->WData->Prop
 | non:Dw K H .non .none
 | bl (b:Bool):Dw K H (.bl b) (.bool b)
 | int (i:Int):Dw K H (.int i) (.int i)
 | str (x:Str):Dw K H (.str x) (.str x)
 | byt (b:Array UInt8):Dw K H (.byt b) (.bytes b.toList)
 | lst {a:Addr} {xs:List V} {ds:List WData}:SqL K H a xs->Zd K H xs ds->Dw K H (.ref a) (.list ds)
 | tup {a:Addr} {xs:List V} {ds:List WData}:SqT K H a xs->Zd K H xs ds->Dw K H (.ref a) (.tuple ds)
inductive Zd (K:PySem.W.Frag) (H:Hp):List V->List WData->Prop
 | nil:Zd K H [] []
 | cons {v:V} {vs:List V} {d:WData} {ds:List WData}:Dw K H v d->Zd K H vs ds->Zd K H (v::vs) (d::ds)
end
theorem qg4 {K:PySem.W.Frag} {H:Hp}:∀ ns:List Int,Zd K H (ns.map V.int) (ns.map WData.int)
 | []=>.nil
 | n::r=>.cons (.int n) (qg4 r)
theorem qg5 {K:PySem.W.Frag} {H:Hp}:∀ (ns:List Int) (xs:List V),Zd K H xs (ns.map WData.int)->xs=ns.map V.int
 | [],xs,h=>by
  cases h
  rfl
 | n::r,xs,h=>by
  cases h with
  | cons h1 h2=>
   cases h1
   rw [qg5 r _ h2] <;> rfl
section
variable {P:Program} {w:World} {K:PySem.W.Frag} {H:Hp} {h:Heap} {R:PySem.W.WRecords} {cl:Str->Option Addr}
theorem qmV {a:Addr} {xs:List V} (hok:HOk P w H h) (KX:K.In h) (q:SqL K H a xs):∃ (its:List Value) (o:Obj) (n:Nat),qD xs its/\h.get? a=some o/\o.cls=.type "list" /\ o.data=.seq its.toArray n:=by
 rcases q with q | ⟨o,its,n,e,hc,_,hd,_,hv⟩
 ·obtain ⟨_,its,n,hv,e⟩:=(show zk P w H h a (.lst xs) from q.ok hok)
  exact ⟨its,_,n,hv,e,rfl,rfl⟩
 ·exact ⟨its.toList,o,n,hv,KX _ _ e,hc,by simp [hd]⟩
theorem qmW {a:Addr} {xs:List V} (hok:HOk P w H h) (KX:K.In h) (q:SqT K H a xs):∃ (its:List Value) (o:Obj) (n:Nat),qD xs its/\h.get? a=some o/\o.cls=.type "tuple" /\ o.data=.seq its.toArray n:=by
 rcases q with q | ⟨o,its,n,e,hc,hd,_,hv⟩
 ·obtain ⟨_,its,hv,o,e,hc,n,hd⟩:=(show zk P w H h a (.tup xs) from q.ok hok)
  exact ⟨its,o,n,hv,e,hc,hd⟩
 ·exact ⟨its.toList,o,n,hv,KX _ _ e,hc,by simp [hd]⟩
mutual
theorem Dw.reads (hok:HOk P w H h) (KX:K.In h):∀ (d:WData) (v:V) (u:Value),Dw K H v d->RelV v u->∃ as,ReadsW R cl h u d as
 | .none,_,_,x,r=>by
  cases x
  cases r
  exact ⟨_,ReadsW.none⟩
 | .bool b,_,_,x,r=>by
  cases x
  cases r
  exact ⟨_,ReadsW.bool b⟩
 | .int i,_,_,x,r=>by
  cases x
  obtain ⟨t,rfl⟩:=r
  exact ⟨_,ReadsW.int i t⟩
 | .str s,_,_,x,r=>by
  cases x
  obtain ⟨t,rfl⟩:=r
  exact ⟨_,ReadsW.str s t⟩
 | .bytes b,_,_,x,r=>by
  cases x
  obtain ⟨t,rfl⟩:=r
  exact ⟨_,ReadsW.bytes _ t⟩
 | .list ds,_,_,x,r=>by
  cases x with
  | lst hs ha=>
   cases r
   obtain ⟨its,o,n,rv,ho,hc,hd⟩:=qmV hok KX hs
   obtain ⟨as,hr⟩:=Dw.readsAll hok KX ds _ its ha rv
   exact ⟨_,ReadsW.list ho hc hd hr⟩
 | .tuple ds,_,_,x,r=>by
  cases x with
  | tup hs ha=>
   cases r
   obtain ⟨its,o,n,rv,ho,hc,hd⟩:=qmW hok KX hs
   obtain ⟨as,hr⟩:=Dw.readsAll hok KX ds _ its ha rv
   exact ⟨_,ReadsW.tuple ho hc hd hr⟩
 | .float _,_,_,x,_=>by cases x
 | .dict _,_,_,x,_=>by cases x
 | .bytearray _,_,_,x,_=>by cases x
 | .set _,_,_,x,_=>by cases x
 | .frozenset _,_,_,x,_=>by cases x
 | .obj _ _,_,_,x,_=>by cases x
theorem Dw.readsAll (hok:HOk P w H h) (KX:K.In h):∀ (ds:List WData) (vs:List V) (us:List Value),Zd K H vs ds->qD vs us->∃ as,ReadsAllW R cl h us ds as
 | [],_,_,x,r=>by
  cases x
  cases r
  exact ⟨_,ReadsAllW.nil⟩
 | d::ds,_,_,x,r=>by
  cases x with
  | cons h1 h2=>
   cases r with
   | cons r1 r2=>
    obtain ⟨as,q1⟩:=Dw.reads hok KX d _ _ h1 r1
    obtain ⟨bs,q2⟩:=Dw.readsAll hok KX ds _ _ h2 r2
    exact ⟨_,ReadsAllW.cons q1 q2⟩
end
end
mutual
def plW:WData->Bool
 | .none=>true
 | .bool _=>true
 | .int _=>true
 | .str _=>true
 | .bytes _=>true
 | .list xs=>Ja xs
 | .tuple xs=>Ja xs
 | _=>false
def Ja:List WData->Bool
 | []=>true
 | x::r=>plW x&&Ja r
end
theorem qfq {α : Type} {f:α -> WData} (h:∀ a,plW (f a)=true):∀ l:List α,Ja (l.map f)=true
 | []=>rfl
 | x::r=>by
  show (plW (f x)&&Ja (r.map f))=true
  rw [h x,qfq h r] <;> rfl
theorem Z3:∀ (c:Codec) (a:c.denote),plW (c.enc a)=true
 | .unit,_=>rfl
 | .bool,_=>rfl
 | .int _ _,_=>rfl
 | .nat _ _,_=>rfl
 | .u8,_=>rfl
 | .bytes _ _,_=>rfl
 | .text _ _ _ _,_=>rfl
 | .list _ _ c,a=>qfq (fun x=>Z3 c x) a
 | .pair c d,a=>by
  show (plW (c.enc a.1)&&(plW (d.enc a.2)&&true))=true
  rw [Z3 c a.1,Z3 d a.2] <;> rfl
 | .triple c d e,a=>by
  show (plW (c.enc a.1)&&(plW (d.enc a.2.1)&&(plW (e.enc a.2.2)&&true)))=true
  rw [Z3 c a.1,Z3 d a.2.1,Z3 e a.2.2] <;> rfl
 | .option c,none=>rfl
 | .option c,some x=>Z3 c x
theorem qej:∀ (cs:List Codec) (a:Codec.denoteAll cs),Ja (Codec.encAll cs a)=true
 | [],_=>rfl
 | c::cs,a=>by
  show (plW (c.enc a.1)&&Ja (Codec.encAll cs a.2))=true
  rw [Z3 c a.1,qej cs a.2] <;> rfl
theorem qaH:∀ {xs:List WData} {d:WData},d∈xs->d.weight<=WData.weightAll xs
 | [],d,h=>absurd h (by simp)
 | x::r,d,h=>by
  show d.weight<=x.weight+1+WData.weightAll r
  rcases List.mem_cons.mp h with e | m
  ·rw [e]
   omega
  ·have z:=qaH m
   omega
def toV:Value->V
 | .none=>.non
 | .bool b=>.bl b
 | .int i _=>.int i
 | .str x _=>.str x
 | .bytes b _=>.byt b
 | .ref a=>.ref a
 | _=>.non
def OkU (A:List Addr):Value->Prop
 | .none=>True
 | .bool _=>True
 | .int _ _=>True
 | .str _ _=>True
 | .bytes _ _=>True
 | .ref a=>a∈A
 | _=>False
theorem OkU.mono {A B:List Addr} (h:∀ a∈A,a∈B):∀ {u:Value},OkU A u->OkU B u:=fun {u} x=>by
 cases u with
 | ref a=>exact h a x
 | none=>trivial
 | bool b=>trivial
 | int i t=>trivial
 | str s t=>trivial
 | bytes b t=>trivial
 | _=>exact False.elim x
theorem qkx {A:List Addr} {u:Value} (x:OkU A u):RelV (toV u) u:=by
 cases u with
 | ref a=>rfl
 | none=>rfl
 | bool b=>rfl
 | int i t=>exact ⟨t,rfl⟩
 | str s t=>exact ⟨t,rfl⟩
 | bytes b t=>exact ⟨t,rfl⟩
 | _=>exact False.elim x
theorem ZJ {A:List Addr}:∀ {vs:List Value},(∀ u∈vs,OkU A u)->qD (vs.map toV) vs
 | [],_=>.nil
 | u::r,h=>.cons (qkx (h u (List.mem_cons_self ..))) (ZJ fun x hx=>h x (List.mem_cons_of_mem _ hx))
def Ze (h:Heap) (A:List Addr) (a:Addr):Prop:=∃ vs:List Value,vs.length<=sizeLine/\(∀ u∈vs,OkU A u) /\
 (h.get? a=some { cls:=.type "list",data:=.seq vs.toArray } \/ h.get? a=some { cls:=.type "tuple",data:=.seq vs.toArray })
theorem Ze.mono {h:Heap} {A B:List Addr} {a:Addr} (k:∀ a∈A,a∈B) (x:Ze h A a):Ze h B a:=by
 obtain ⟨vs,h1,h2,h3⟩:=x
 exact ⟨vs,h1,fun u hu=>(h2 u hu).mono k,h3⟩
theorem ZS {P:Params} {h:Heap}:∀ {vs:List Value} {ds:List WData},WellAll P h vs ds->vs.length=ds.length
 | _,_,.nil=>rfl
 | _,_,.cons _ b=>by
  show _+1=_+1
  rw [ZS b]
theorem qek {P:Params} {h:Heap} {v:Value} {ds:List WData} (x:Well P h v (.list ds)):∃ (a:Addr) (vs:List Value),v=.ref a/\h.get? a=some { cls:=.type "list",data:=.seq vs.toArray }/\WellAll P h vs ds:=by
 cases x with
 | list ho hall=>exact ⟨_,_,rfl,ho,hall⟩
theorem qcZ {P:Params} {h:Heap} {v:Value} {ds:List WData} (x:Well P h v (.tuple ds)):∃ (a:Addr) (vs:List Value),v=.ref a/\h.get? a=some { cls:=.type "tuple",data:=.seq vs.toArray }/\WellAll P h vs ds:=by
 cases x with
 | tuple ho hall=>exact ⟨_,_,rfl,ho,hall⟩
theorem qel {P:Params} {h:Heap} {us:List Value} {d:WData} {ds:List WData} (x:WellAll P h us (d::ds)):∃ (v:Value) (vs:List Value),us=v::vs/\Well P h v d/\WellAll P h vs ds:=by
 cases x with
 | cons a b=>exact ⟨_,_,rfl,a,b⟩
theorem qg6 {n:Nat} (h:n<=1048576):n<=sizeLine:=Nat.le_trans h (by decide)
section
variable {P:Params} {h:Heap}
mutual
theorem qky:∀ (d:WData) (v:Value),Well P h v d->plW d=true->d.weight<=1048576->∃ A:List Addr,OkU A v/\∀ a∈A,Ze h A a
 | .none,_,x,_,_=>by
  cases x
  exact ⟨[],trivial,fun a m=>absurd m (by simp)⟩
 | .bool b,_,x,_,_=>by
  cases x
  exact ⟨[],trivial,fun a m=>absurd m (by simp)⟩
 | .int i,_,x,_,_=>by
  cases x
  exact ⟨[],trivial,fun a m=>absurd m (by simp)⟩
 | .str s,_,x,_,_=>by
  cases x
  exact ⟨[],trivial,fun a m=>absurd m (by simp)⟩
 | .bytes b,_,x,_,_=>by
  cases x
  exact ⟨[],trivial,fun a m=>absurd m (by simp)⟩
 | .list ds,_,x,p,z=>by
  obtain ⟨a,vs,rfl,ho,hall⟩:=qek x
  have z2:WData.weightAll ds<=1048576:=z
  obtain ⟨A,h1,h2⟩:=qaI ds _ hall p fun d hd=>Nat.le_trans (qaH hd) z2
  have k:∀ b∈A,b∈a::A:=fun b hb=>List.mem_cons_of_mem _ hb
  refine ⟨a::A,List.mem_cons_self ..,fun b hb=>?_⟩
  rcases List.mem_cons.mp hb with e | m
  ·rw [e]
   exact ⟨vs,qg6 (by rw [ZS hall]; exact Nat.le_trans (PySem.W.length_le_weightAllW ds) z2),fun u hu=>(h1 u hu).mono k,.inl ho⟩
  ·exact (h2 b m).mono k
 | .tuple ds,_,x,p,z=>by
  obtain ⟨a,vs,rfl,ho,hall⟩:=qcZ x
  have z2:WData.weightAll ds<=1048576:=z
  obtain ⟨A,h1,h2⟩:=qaI ds _ hall p fun d hd=>Nat.le_trans (qaH hd) z2
  have k:∀ b∈A,b∈a::A:=fun b hb=>List.mem_cons_of_mem _ hb
  refine ⟨a::A,List.mem_cons_self ..,fun b hb=>?_⟩
  rcases List.mem_cons.mp hb with e | m
  ·rw [e]
   exact ⟨vs,qg6 (by rw [ZS hall]; exact Nat.le_trans (PySem.W.length_le_weightAllW ds) z2),fun u hu=>(h1 u hu).mono k,.inr ho⟩
  ·exact (h2 b m).mono k
 | .float _,_,_,p,_=>Bool.noConfusion (show false=true from p)
 | .dict _,_,_,p,_=>Bool.noConfusion (show false=true from p)
 | .bytearray _,_,_,p,_=>Bool.noConfusion (show false=true from p)
 | .set _,_,_,p,_=>Bool.noConfusion (show false=true from p)
 | .frozenset _,_,_,p,_=>Bool.noConfusion (show false=true from p)
 | .obj _ _,_,_,p,_=>Bool.noConfusion (show false=true from p)
theorem qaI:∀ (ds:List WData) (vs:List Value),WellAll P h vs ds->Ja ds=true->(∀ d∈ds,d.weight<=1048576)->∃ A:List Addr,(∀ u∈vs,OkU A u)/\∀ a∈A,Ze h A a
 | [],_,x,_,_=>by
  cases x
  exact ⟨[],fun u m=>absurd m (by simp),fun a m=>absurd m (by simp)⟩
 | d::ds,_,x,p,z=>by
  obtain ⟨v,vs,rfl,x1,x2⟩:=qel x
  have q:plW d=true/\Ja ds=true:=Bool.and_eq_true_iff.mp p
  obtain ⟨A,a1,a2⟩:=qky d v x1 q.1 (z d (List.mem_cons_self ..))
  obtain ⟨B,b1,b2⟩:=qaI ds vs x2 q.2 fun e he=>z e (List.mem_cons_of_mem _ he)
  have kA:∀ b∈A,b∈A++B:=fun b hb=>List.mem_append.mpr (.inl hb)
  have kB:∀ b∈B,b∈A++B:=fun b hb=>List.mem_append.mpr (.inr hb)
  refine ⟨A++B,fun u hu=>?_,fun b hb=>?_⟩
  ·rcases List.mem_cons.mp hu with e | m
   ·rw [e]
    exact a1.mono kA
   ·exact (b1 u m).mono kB
  ·rcases List.mem_append.mp hb with m | m
   ·exact (a2 b m).mono kA
   ·exact (b2 b m).mono kB
end
end
def qhL (o:Obj):Option HO:=match o.data with
 | .seq vs _=>if (o.cls == Value.type "list")=true then some (.frz o (.lst (vs.toList.map toV))) else some (.frz o (.tup (vs.toList.map toV)))
 | _=>none
def Qm (K:PySem.W.Frag) (h:Heap) (A:List Addr):Hp:=fun b=>if b∈A then (if (K.lookup b).isNone=true then (h.get? b).bind qhL else none) else none
def qc0 (H:Hp):Prop:=∀ b,H b=none \/ ∃ o u,H b=some (.frz o u)
theorem qfr (vs:List Value):qhL { cls:=.type "list",data:=.seq vs.toArray }=some (.frz { cls:=.type "list",data:=.seq vs.toArray } (.lst (vs.map toV))):=by
 show (if (Value.type "list" == Value.type "list")=true then some (HO.frz { cls:=.type "list",data:=.seq vs.toArray } (.lst (vs.toArray.toList.map toV))) else some (HO.frz { cls:=.type "list",data:=.seq vs.toArray } (.tup (vs.toArray.toList.map toV))))=_
 rw [if_pos (beq_self_eq_true _)]
theorem qfs (vs:List Value):qhL { cls:=.type "tuple",data:=.seq vs.toArray }=some (.frz { cls:=.type "tuple",data:=.seq vs.toArray } (.tup (vs.map toV))):=by
 show (if (Value.type "tuple" == Value.type "list")=true then some (HO.frz { cls:=.type "tuple",data:=.seq vs.toArray } (.lst (vs.toArray.toList.map toV))) else some (HO.frz { cls:=.type "tuple",data:=.seq vs.toArray } (.tup (vs.toArray.toList.map toV))))=_
 rw [if_neg (by decide)]
section
variable {P:Program} {w:World} {K:PySem.W.Frag} {h:Heap} {A:List Addr}
theorem qb2 {b:Addr} {o:Obj} (hb:b∈A) (hk:K.lookup b=none) (e:h.get? b=some o):Qm K h A b=qhL o:=by
 unfold Qm
 rw [if_pos hb,hk,if_pos (show (none:Option Obj).isNone=true from rfl),e] <;> rfl
theorem qlT {b:Addr} {u:HO} (q:Qm K h A b=some u):b∈A/\K.lookup b=none:=by
 unfold Qm at q
 by_cases hb:b∈A
 ·rw [if_pos hb] at q
  cases hk:K.lookup b with
  | none=>exact ⟨hb,rfl⟩
  | some o=>
   rw [hk,if_neg (by simp)] at q
   cases q
 ·rw [if_neg hb] at q
  cases q
theorem qb3 (ar:∀ a∈A,Ze h A a) {b:Addr} {u:HO} (q:Qm K h A b=some u):K.lookup b=none/\∃ vs:List Value,vs.length<=sizeLine/\(∀ u∈vs,OkU A u) /\
  ((h.get? b=some { cls:=.type "list",data:=.seq vs.toArray }/\u=.frz { cls:=.type "list",data:=.seq vs.toArray } (.lst (vs.map toV))) \/
   (h.get? b=some { cls:=.type "tuple",data:=.seq vs.toArray }/\u=.frz { cls:=.type "tuple",data:=.seq vs.toArray } (.tup (vs.map toV)))):=by
 obtain ⟨hb,hk⟩:=qlT q
 obtain ⟨vs,h1,h2,h3⟩:=ar b hb
 refine ⟨hk,vs,h1,h2,?_⟩
 rcases h3 with e | e
 ·rw [qb2 hb hk e,qfr] at q
  exact .inl ⟨e,(Option.some.inj q).symm⟩
 ·rw [qb2 hb hk e,qfs] at q
  exact .inr ⟨e,(Option.some.inj q).symm⟩
theorem qiX (ar:∀ a∈A,Ze h A a):qc0 (Qm K h A):=fun b=>by
 cases q:Qm K h A b with
 | none=>exact .inl rfl
 | some u=>
  obtain ⟨_,vs,_,_,⟨_,e⟩ | ⟨_,e⟩⟩:=qb3 ar q
  ·exact .inr ⟨_,_,by rw [e]⟩
  ·exact .inr ⟨_,_,by rw [e]⟩
theorem qlU (ar:∀ a∈A,Ze h A a):HOk P w (Qm K h A) h:=fun b u q=>by
 obtain ⟨_,vs,h1,h2,⟨e,rfl⟩ | ⟨e,rfl⟩⟩:=qb3 ar q
 ·exact ⟨e,by rw [List.length_map]; exact h1,vs,_,ZJ h2,e⟩
 ·exact ⟨e,by rw [List.length_map]; exact h1,vs,ZJ h2,_,e,rfl,_,rfl⟩
theorem qb4 {c c':Value} {vs us:List Value} (e:(some { cls:=c,data:=.seq vs.toArray }:Option Obj)=some { cls:=c',data:=.seq us.toArray }):c=c'/\vs=us:=by
 have e1:=Option.some.inj e
 have e2:c=c':=congrArg Obj.cls e1
 have e3:Data.seq vs.toArray=Data.seq us.toArray:=congrArg Obj.data e1
 injection e3 with e4
 refine ⟨e2,?_⟩
 have e5:=congrArg Array.toList e4
 simpa using e5
theorem qoa (KX:K.In h) (ar:∀ a∈A,Ze h A a) {a:Addr} {vs:List Value} (ha:a∈A) (e:h.get? a=some { cls:=.type "list",data:=.seq vs.toArray }):(∀ u∈vs,OkU A u)/\SqL K (Qm K h A) a (vs.map toV):=by
 obtain ⟨us,h1,h2,h3⟩:=ar a ha
 have hu:us=vs:=by
  rcases h3 with q | q
  ·rw [e] at q
   exact (qb4 q).2.symm
  ·rw [e] at q
   exact absurd (Value.type.inj (qb4 q).1) (by decide)
 subst hu
 refine ⟨h2,?_⟩
 cases hk:K.lookup a with
 | none=>exact .inl (.inr ⟨_,by rw [qb2 ha hk e,qfr]⟩)
 | some o=>
  have e2:=KX a o hk
  rw [e] at e2
  obtain rfl:=Option.some.inj e2
  exact .inr ⟨_,us.toArray,_,hk,rfl,rfl,rfl,by rw [List.size_toArray]; exact h1,by simpa using ZJ h2⟩
theorem qob (KX:K.In h) (ar:∀ a∈A,Ze h A a) {a:Addr} {vs:List Value} (ha:a∈A) (e:h.get? a=some { cls:=.type "tuple",data:=.seq vs.toArray }):(∀ u∈vs,OkU A u)/\SqT K (Qm K h A) a (vs.map toV):=by
 obtain ⟨us,h1,h2,h3⟩:=ar a ha
 have hu:us=vs:=by
  rcases h3 with q | q
  ·rw [e] at q
   exact absurd (Value.type.inj (qb4 q).1) (by decide)
  ·rw [e] at q
   exact (qb4 q).2.symm
 subst hu
 refine ⟨h2,?_⟩
 cases hk:K.lookup a with
 | none=>exact .inl (.inr ⟨_,by rw [qb2 ha hk e,qfs]⟩)
 | some o=>
  have e2:=KX a o hk
  rw [e] at e2
  obtain rfl:=Option.some.inj e2
  exact .inr ⟨_,us.toArray,_,hk,rfl,rfl,by rw [List.size_toArray]; exact h1,by simpa using ZJ h2⟩
mutual
theorem qmX {Pm:Params} (KX:K.In h) (ar:∀ a∈A,Ze h A a):∀ (d:WData) (v:Value),Well Pm h v d->plW d=true->OkU A v->Dw K (Qm K h A) (toV v) d
 | .none,_,x,_,_=>by
  cases x
  exact .non
 | .bool b,_,x,_,_=>by
  cases x
  exact .bl b
 | .int i,_,x,_,_=>by
  cases x
  exact .int i
 | .str s,_,x,_,_=>by
  cases x
  exact .str s
 | .bytes b,_,x,_,_=>by
  cases x
  have z:=Dw.byt (K:=K) (H:=Qm K h A) b.toArray
  exact z
 | .list ds,_,x,p,hu=>by
  obtain ⟨a,vs,rfl,ho,hall⟩:=qek x
  obtain ⟨h2,hs⟩:=qoa KX ar hu ho
  exact .lst hs (qc1 KX ar ds _ hall p h2)
 | .tuple ds,_,x,p,hu=>by
  obtain ⟨a,vs,rfl,ho,hall⟩:=qcZ x
  obtain ⟨h2,hs⟩:=qob KX ar hu ho
  exact .tup hs (qc1 KX ar ds _ hall p h2)
 | .float _,_,_,p,_=>Bool.noConfusion (show false=true from p)
 | .dict _,_,_,p,_=>Bool.noConfusion (show false=true from p)
 | .bytearray _,_,_,p,_=>Bool.noConfusion (show false=true from p)
 | .set _,_,_,p,_=>Bool.noConfusion (show false=true from p)
 | .frozenset _,_,_,p,_=>Bool.noConfusion (show false=true from p)
 | .obj _ _,_,_,p,_=>Bool.noConfusion (show false=true from p)
theorem qc1 {Pm:Params} (KX:K.In h) (ar:∀ a∈A,Ze h A a):∀ (ds:List WData) (vs:List Value),WellAll Pm h vs ds->Ja ds=true->(∀ u∈vs,OkU A u)->Zd K (Qm K h A) (vs.map toV) ds
 | [],_,x,_,_=>by
  cases x
  exact .nil
 | d::ds,_,x,p,hu=>by
  obtain ⟨v,vs,rfl,x1,x2⟩:=qel x
  have q:plW d=true/\Ja ds=true:=Bool.and_eq_true_iff.mp p
  exact .cons (qmX KX ar d v x1 q.1 (hu _ (List.mem_cons_self ..))) (qc1 KX ar ds vs x2 q.2 fun u m=>hu u (List.mem_cons_of_mem _ m))
end
end
theorem qiY {P:Program} {w:World} {K:PySem.W.Frag} {mg mb:Str->Option Value} {CX:CXT} {k:Nat} {fa:Addr} {fd:FuncData} {ps:List Str} {sp:Sp} {s₁ : Shared} {vals:List Value} {ds:List WData} {R:PySem.W.WRecords} {cl:Str->Option Addr} {d0:WData}
  (KX:K.In s₁.heap) (hns:s₁.heap.Ns mainGlobals mg) (hb:s₁.heap.Ns builtinsNs mb) (hbb:∀ x:Str,x ≠ "__name__" -> mb x=bootBuiltins x) (hlim:s₁.heap.NoLimit) (hg:s₁.gens = #[])
  (hwl:WellAll w.params s₁.heap vals ds) (hpl:Ja ds=true) (hwt:∀ d∈ds,d.weight<=1048576) (hr:qO k callerA)
  (F:∀ base:Heap,K.In base->base.Ns mainGlobals mg->qy P w K mg base CX k fa fd ps sp) (hbind:∀ (s:Shared) (us:List Value),us.length=ps.length->BindsTo s fd ⟨us,[]⟩ (ps.zip us)) (hlen:ds.length=ps.length)
  (hsp:∀ (H:Hp) (xs:List V),qc0 H->Zd K H xs ds->sp xs H (fun v H'=>Dw K H' v d0) fun _ _ _=>False)
  (hCX:∀ H e s',CX [] H s₁ (fun _ _ _=>False) e s'->False) :
  codeAny (model P w) callerA (.call (.ref fa) ⟨vals,[]⟩) (fun r s'=>∃ u as,r=.ok (.ret u)/\ReadsW R cl s'.heap u d0 as/\OldK s₁.heap s'.heap/\s'.os=s₁.os/\AllBare s'.gens) s₁:=by
 obtain ⟨A,ho,ar⟩:=qaI ds vals hwl hpl hwt
 have hO:qc0 (Qm K s₁.heap A):=qiX ar
 have hok:HOk P w (Qm K s₁.heap A) s₁.heap:=qlU ar
 have hS:=qc1 KX ar ds vals hwl hpl ho
 have hV:=ZJ ho
 have hK:∀ b u,Qm K s₁.heap A b=some u->K.lookup b=none:=fun b u q=>(qb3 ar q).1
 have noA:∀ {b:Addr} {o:Obj} {es:Array DictEntry} {ep:Nat},s₁.heap.get? b=some o->o.data=.dict es ep->Qm K s₁.heap A b=none:=fun {b o es ep} e d=>by
  cases q:Qm K s₁.heap A b with
  | none=>rfl
  | some u=>
   obtain ⟨_,vs,_,_,⟨e2,_⟩ | ⟨e2,_⟩⟩:=qb3 ar q
   ·rw [e2] at e
    cases e
    have d':Data.seq vs.toArray _=Data.dict es ep:=d
    cases d'
   ·rw [e2] at e
    cases e
    have d':Data.seq vs.toArray _=Data.dict es ep:=d
    cases d'
 generalize Qm K s₁.heap A=H at hO hok hS hK noA
 have base_of:∀ {b:Addr} {o:Obj},s₁.heap.get? b=some o->H b=none->(qav s₁.heap H).get? b=some o:=fun e n=>qj6 e n
 have nsK:∀ {b:Addr} {m:Str->Option Value},s₁.heap.Ns b m->(qav s₁.heap H).Ns b m:=fun {b m} ⟨o,es,ep,e,d,r⟩=>⟨o,es,ep,base_of e (noA e d),d,r⟩
 have nK:∀ b o,K.lookup b=some o->H b=none:=fun b o e=>by
  cases q:H b with
  | none=>rfl
  | some u=>
   rw [hK b u q] at e
   cases e
 have hKb:K.In (qav s₁.heap H):=fun b o e=>base_of (KX b o e) (nK b o e)
 have hM:Mod K mg (qav s₁.heap H):=⟨hKb,nsK hns,⟨mb,nsK hb,hbb⟩,let ⟨mc,h1,h2⟩:=hlim; ⟨mc,nsK h1,h2⟩⟩
 have e0:qcx P w K mg (qav s₁.heap H) callerA [] s₁ H:=⟨rfl,hM,fun b o e=>qlz e,Nat.le_of_eq (qiz _ _),trivial,fun b hb=>absurd (show b∈([]:List Addr) from hb) (by simp),hok,.of_eq hg⟩
 have hl:vals.length=ps.length:=by rw [ZS hwl]; exact hlen
 refine codeAny_mono ((F _ hKb (nsK hns)).run callerA [] s₁ H ⟨vals,[]⟩ vals (vals.map toV) _ _ hr e0 (hbind s₁ vals hl) hV (hsp H _ hO hS)) fun r s' x=>?_
 cases r with
 | error e=>exact (hCX H e s' x).elim
 | ok fl=>
  cases fl with
  | next=>exact False.elim x
  | brk=>exact False.elim x
  | cont=>exact False.elim x
  | ret u=>
   obtain ⟨v,H',os,bare,un,hok',r',q⟩:=x
   have kept:∀ b o,s₁.heap.get? b=some o->s'.heap.get? b=some o:=fun b o e=>by
    cases q2:H b with
    | none=>exact un.keep b o e q2 (by intro z; exact absurd (show b∈([]:List Addr) from z) (by simp)) (by simp)
    | some u2=>
     rcases hO b with z | ⟨ob,u3,z⟩
     ·rw [q2] at z
      cases z
     ·have z2:=un.frzs b ob _ z
      obtain ⟨e1,_⟩:=hok b _ z
      obtain ⟨e2,_⟩:=hok' b _ z2
      rw [e] at e1
      cases e1
      exact e2
   have KX':K.In s'.heap:=fun b o e=>kept b o (KX b o e)
   obtain ⟨as,hrd⟩:=Dw.reads (R:=R) (cl:=cl) hok' KX' d0 v u q r'
   exact ⟨u,as,rfl,hrd,OldK.of_keep kept,os,bare⟩
theorem qdz {ds:List WData} (h:WData.layableAll ds=true):∀ d∈ds,d.weight<=1048576:=fun d hd=>
 (PySem.W.layableW_iff.mp (List.all_eq_true.mp h d hd)).2.2
theorem qc2:∀ (cs:List Codec) (a:Codec.denoteAll cs),(Codec.encAll cs a).length=cs.length
 | [],_=>rfl
 | c::cs,a=>by
  show (Codec.encAll cs a.2).length+1=cs.length+1
  rw [qc2 cs a.2]
theorem qiZ {r:OpenSpec} {k:Nat} {q:Program} {loose:List Str} {XP:(Str->Option Value)->Heap->Prop} {YP:World->Heap->Prop} {d:DefRec} {K:Params->PySem.W.Frag} {CX:World->CXT} {ps:List Str} {sp:World->Sp}
  (hwell:r.wellSaid=true) (hdf:d.params.defaults=[]) (hlen:r.args.length=ps.length) (hr:qO k callerA)
  (hY:∀ (w:World) (h:Heap),YP w h->(K w.params).In h)
  (F:∀ (w:World) (mg:Str->Option Value) (fa:Addr) (h:Heap),YP w h->(K w.params).In h->h.Ns mainGlobals mg->mg d.name=some (.ref fa) ->
   ∃ fd:FuncData,(∀ (s:Shared) (us:List Value),us.length=ps.length->BindsTo s fd ⟨us,[]⟩ (ps.zip us)) /\
    ∀ base:Heap,(K w.params).In base->base.Ns mainGlobals mg->qy r.prog w (K w.params) mg base (CX w) k fa fd ps (sp w))
  (hsp:∀ (w:World) (H:Hp) (xs:List V) (a:Codec.denoteAll r.args),qc0 H->Codec.withinAll r.args a=true->Codec.app r.args r.asked a=true->Zd (K w.params) H xs (Codec.encAll r.args a) ->
   sp w xs H (fun v H'=>Dw (K w.params) H' v (r.ret.enc (Codec.app r.args r.f a))) fun _ _ _=>False)
  (hCX:∀ (w:World) (H:Hp) (s:Shared) (e:Value) (s':Shared),CX w [] H s (fun _ _ _=>False) e s'->False) :
  PySem.W.WalkOS q loose XP YP r d [] (fun f vs=>PySem.call f vs):=by
 intro w s_0 s₁ mg mb G Y fa o pm cd doc dV kV ho hd hcd hD hmg hg args vals as hpre hlay hrd hwl hlo
 obtain ⟨a,e1,e2⟩:=PySem.W.os_pre_some hpre
 obtain ⟨e3,hwi⟩:=Codec.encAll_of_decAll r.args args a e1
 subst e3
 have KX:=hY w _ Y
 obtain ⟨fd,hb,hF⟩:=F w mg fa _ Y KX G.T.g hmg
 refine PySem.W.enter_call (codeAny_mono (qiY (R:=[]) (cl:=classAt s_0.heap) (d0:=r.ret.enc (Codec.app r.args r.f a)) KX G.T.g G.T.b G.T.builtins G.T.nolimit hg hwl (qej _ _) (qdz hlay) hr hF hb (by rw [qc2]; exact hlen)
  (fun H xs hO hS=>hsp w H xs a hO hwi e2 hS) fun H e s'=>hCX w H s₁ e s') fun r' s' hq=>?_)
 obtain ⟨u,as',rfl,h1,h2,h3,h4⟩:=hq
 exact ⟨.inl ⟨u,_,as',rfl,fun _=>rfl,h1,(OpenSpec.post_iff hwell hwi _ _).mpr rfl,fun z=>Bool.noConfusion (show false=true from z)⟩,h2,h3,h4⟩
theorem qhM {r:OpenSpec} {k:Nat} {q:Program} {loose:List Str} {XP:(Str->Option Value)->Heap->Prop} {YP:World->Heap->Prop} {d:DefRec} {K:Params->PySem.W.Frag} {CX:CXT} {ps:List Str} {sp:PySem.W.Frag->Sp}
  (hwell:r.wellSaid=true) (hdf:d.params.defaults=[]) (hlen:r.args.length=ps.length) (hr:qO k callerA)
  (hY:∀ (w:World) (h:Heap),YP w h->(K w.params).In h)
  (F:∀ (w:World) (mg:Str->Option Value) (fa:Addr) (h:Heap),YP w h->(K w.params).In h->h.Ns mainGlobals mg->mg d.name=some (.ref fa) ->
   ∃ fd:FuncData,(∀ (s:Shared) (us:List Value),us.length=ps.length->BindsTo s fd ⟨us,[]⟩ (ps.zip us)) /\
    ∀ base:Heap,(K w.params).In base->base.Ns mainGlobals mg->qy r.prog w (K w.params) mg base CX k fa fd ps (sp (K w.params)))
  (hsp:∀ (K:PySem.W.Frag) (H:Hp) (xs:List V) (a:Codec.denoteAll r.args),qc0 H->Codec.withinAll r.args a=true->Codec.app r.args r.asked a=true->Zd K H xs (Codec.encAll r.args a) ->
   sp K xs H (fun v H'=>Dw K H' v (r.ret.enc (Codec.app r.args r.f a))) fun _ _ _=>False)
  (hCX:∀ (H:Hp) (s:Shared) (e:Value) (s':Shared),CX [] H s (fun _ _ _=>False) e s'->False) :
  PySem.W.WalkOS q loose XP YP r d [] (fun f vs=>PySem.call f vs) :=
 qiZ (K:=K) (CX:=fun _=>CX) (sp:=fun w=>sp (K w.params)) hwell hdf hlen hr hY F (fun w H xs a h1 h2 h3 h4=>hsp (K w.params) H xs a h1 h2 h3 h4) fun _ H s e s'=>hCX H s e s'
end L2
end
end
section
set_option autoImplicit false
namespace RM
open Vastoa
def kd:Tok->Tok
 | .name _=>.name []
 | .num _=>.num []
 | .piece _=>.piece []
 | t=>t
def held:Tok->Text
 | .name x=>x
 | .num x=>x
 | .piece x=>x
 | .word x=>x
 | _=>[]
inductive Part where
 | EXPR | FORM | FUNCTION | FIELDS | PARAMS | GIVEN | MPARAMS | BINDS | BOUND | OR | MOR | AND | MAND | NOT | CMP | MCMP | UPD | MUPD | JOIN | MJOIN
 | SUM | MSUM | PROD | MPROD | NEG | APP | ARGS | ARG | SEL | DOTS | MDOTS | DFLT | ATOM | PIECES | LIST | MLIST
deriving DecidableEq
inductive Act where
 | begin | take | label | fresh | enter | leave
 | fin (k:Kind)
deriving DecidableEq
inductive Sym where
 | p (x:Part)
 | t (k:Tok)
 | a (x:Act)
deriving DecidableEq
abbrev je:Tok:=.name []
abbrev qft:Tok:=.num []
abbrev JA:Tok:=.piece []
abbrev qe1:Tok:=.sign [46,46]
open Part Act Sym in
def qB (x:Part) (k:Tok):List Sym:=match x with
 | EXPR=>[a enter,p FORM,a leave]
 | FORM=>
  if k=.word wFn then [t (.word wFn),p FUNCTION]
  else if k=.word wLet then [t (.word wLet),a begin,t je,p BOUND,p BINDS,t (.word wIn),p EXPR,a (fin .letIn)]
  else if k=.word wIf then [t (.word wIf),a begin,p EXPR,t (.word wThen),p EXPR,t (.word wElse),p EXPR,a (fin .cond)]
  else if k=.word wMust then [t (.word wMust),a begin,p EXPR,t sSemi,p EXPR,a (fin .must)]
  else [p OR]
 | FUNCTION=>
  if k=je then [t je,a begin,a label,t sColon,p EXPR,a (fin .fn)]
  else [t sBrace,a begin,p FIELDS]
 | FIELDS=>if k=sUnbrace then [t sUnbrace,t sColon,p EXPR,a (fin .fields)] else [p PARAMS]
 | PARAMS=>
  if k=qe1 then [t qe1,t sUnbrace,t sColon,p EXPR,a (fin .openFields)]
  else [t je,a fresh,a begin,a label,p GIVEN,a (fin .param),p MPARAMS]
 | GIVEN=>if k=sAsk then [t sAsk,p EXPR] else []
 | MPARAMS=>if k=sComma then [t sComma,p PARAMS] else [t sUnbrace,t sColon,p EXPR,a (fin .fields)]
 | BINDS=>if k=je then [t je,p BOUND,p BINDS] else []
 | BOUND=>[a fresh,a label,t sIs,p EXPR,t sSemi]
 | OR=>[p AND,p MOR]
 | MOR=>if k=.word wOr then [t (.word wOr),a take,p AND,a (fin (.op .or)),p MOR] else []
 | AND=>[p NOT,p MAND]
 | MAND=>if k=.word wAnd then [t (.word wAnd),a take,p NOT,a (fin (.op .and)),p MAND] else []
 | NOT=>if k=.word wNot then [t (.word wNot),a begin,p NOT,a (fin .not)] else [p CMP]
 | CMP=>[p UPD,p MCMP]
 | MCMP=>
  if k=.sign [61,61] then [t (.sign [61,61]),a take,p UPD,a (fin (.op .eq))]
  else if k=.sign [33,61] then [t (.sign [33,61]),a take,p UPD,a (fin (.op .ne))]
  else if k=.sign [60] then [t (.sign [60]),a take,p UPD,a (fin (.op .lt))]
  else if k=.sign [60,61] then [t (.sign [60,61]),a take,p UPD,a (fin (.op .le))]
  else if k=.word wHas then [t (.word wHas),a take,t je,a label,a (fin .has)]
  else []
 | UPD=>[p JOIN,p MUPD]
 | MUPD=>if k=.sign [47,47] then [t (.sign [47,47]),a take,p UPD,a (fin (.op .upd))] else []
 | JOIN=>[p SUM,p MJOIN]
 | MJOIN=>if k=.sign [43,43] then [t (.sign [43,43]),a take,p JOIN,a (fin (.op .join))] else []
 | SUM=>[p PROD,p MSUM]
 | MSUM=>
  if k=.sign [43] then [t (.sign [43]),a take,p PROD,a (fin (.op .add)),p MSUM]
  else if k=sMinus then [t sMinus,a take,p PROD,a (fin (.op .sub)),p MSUM]
  else []
 | PROD=>[p NEG,p MPROD]
 | MPROD=>if k=.sign [42] then [t (.sign [42]),a take,p NEG,a (fin (.op .mul)),p MPROD] else []
 | NEG=>if k=sMinus then [t sMinus,a begin,p NEG,a (fin .neg)] else [p APP]
 | APP=>[p SEL,p ARGS]
 | ARGS=>if begins k then [p ARG,p ARGS] else []
 | ARG=>[a take,p SEL,a (fin .app)]
 | SEL=>[p ATOM,p DOTS]
 | DOTS=>if k=sDot then [t sDot,a take,t je,a label,p MDOTS,p DFLT,a (fin .get)] else []
 | MDOTS=>if k=sDot then [t sDot,t je,a label,p MDOTS] else []
 | DFLT=>if k=sAsk then [t sAsk,p ATOM] else []
 | ATOM=>
  if k=je then [t je,a begin,a label,a (fin .name)]
  else if k=qft then [t qft,a begin,a label,a (fin .num)]
  else if k=.word wTrue then [t (.word wTrue),a begin,a (fin .yes)]
  else if k=.word wFalse then [t (.word wFalse),a begin,a (fin .no)]
  else if k=.word wNone then [t (.word wNone),a begin,a (fin .none)]
  else if k=.quote then [t .quote,a begin,p PIECES,t .unquote,a (fin .text)]
  else if k=.sign [40] then [t (.sign [40]),p EXPR,t sClose]
  else if k=.sign [91] then [t (.sign [91]),a begin,p LIST,a (fin .list)]
  else if k=sBrace then [t sBrace,a begin,p BINDS,t sUnbrace,a (fin .record)]
  else [t (.word wRec),t sBrace,a begin,p BINDS,t sUnbrace,a (fin .recur)]
 | PIECES=>
  if k=JA then [t JA,a begin,a label,a (fin .piece),p PIECES]
  else if k=.hole then [t .hole,p EXPR,t .unhole,p PIECES]
  else []
 | LIST=>if k=sListClose then [t sListClose] else [p EXPR,p MLIST,t sListClose]
 | MLIST=>if k=sComma then [t sComma,p EXPR,p MLIST] else []
structure Bg where
 first:Nat
 labels:List Text
 names:List Text
structure MS where
 ts:Marks
 pv:Mark
 lv:Nat
 W:List Sym
 B:List Tree
 G:List Bg
def qaJ (x:Act) (ts:Marks) (pv:Mark) (lv:Nat) (W:List Sym) (B:List Tree) (G:List Bg):Option (Except Fault MS):=match x with
 | .begin=>some (.ok ⟨ts,pv,lv,W,B,⟨B.length,[],[]⟩::G⟩)
 | .take=>if B.length=0 then none else some (.ok ⟨ts,pv,lv,W,B,⟨B.length - 1,[],[]⟩::G⟩)
 | .label=>match G with
  | []=>none
  | g::r=>some (.ok ⟨ts,pv,lv,W,B,⟨g.first,g.labels++[held pv.tok],g.names⟩::r⟩)
 | .fresh=>match G with
  | []=>none
  | g::r=>if held pv.tok∈g.names then some (.error ⟨5,pv.place⟩) else some (.ok ⟨ts,pv,lv,W,B,⟨g.first,g.labels,g.names++[held pv.tok]⟩::r⟩)
 | .enter=>match ts with
  | []=>none
  | m::_=>if lv=40 then some (.error ⟨4,m.place⟩) else some (.ok ⟨ts,pv,lv+1,W,B,G⟩)
 | .leave=>if lv=0 then none else some (.ok ⟨ts,pv,lv - 1,W,B,G⟩)
 | .fin k=>match G with
  | []=>none
  | g::r=>if g.first<=B.length then some (.ok ⟨ts,pv,lv,W,B.take g.first++[.node k g.labels (B.drop g.first)],r⟩) else none
def step (s:MS):Option (Except Fault MS):=match s.W with
 | []=>none
 | .p x::W=>match s.ts with
  | []=>none
  | m::_=>some (.ok { s with W:=qB x (kd m.tok)++W })
 | .t k::W=>match s.ts with
  | []=>none
  | m::r=>if kd m.tok=k then some (.ok ⟨r,m,s.lv,W,s.B,s.G⟩) else some (.error ⟨3,m.place⟩)
 | .a x::W=>qaJ x s.ts s.pv s.lv W s.B s.G
inductive Run (Q:MS->Prop) (E:Fault->Prop):MS->Prop
 | done {s:MS}:Q s->Run Q E s
 | next {s s':MS}:step s=some (.ok s')->Run Q E s'->Run Q E s
 | fail {s:MS} {x:Fault}:step s=some (.error x)->E x->Run Q E s
inductive qdA (Q:MS->Prop) (E:Fault->Prop):Nat->MS->Prop
 | done {s:MS}:Q s->qdA Q E 0 s
 | next {n:Nat} {s s':MS}:step s=some (.ok s')->qdA Q E n s'->qdA Q E (n+1) s
 | fail {n:Nat} {s:MS} {x:Fault}:step s=some (.error x)->E x->qdA Q E (n+1) s
theorem Run.count {Q:MS->Prop} {E:Fault->Prop} {s:MS} (h:Run Q E s):∃ n,qdA Q E n s:=by
 induction h with
 | done q=>exact ⟨0,.done q⟩
 | next e _ ih=>obtain ⟨n,h⟩:=ih; exact ⟨n+1,.next e h⟩
 | fail e q=>exact ⟨1,.fail e q⟩
mutual
def good:Tree->Bool
 | .node k ls l=>qH l&&(match k with
  | .piece=>ls.length == 1&&l.isEmpty
  | .num=>ls.length == 1&&l.isEmpty
  | .yes=>ls.isEmpty&&l.isEmpty
  | .no=>ls.isEmpty&&l.isEmpty
  | .none=>ls.isEmpty&&l.isEmpty
  | .name=>ls.length == 1&&l.isEmpty
  | .text=>ls.isEmpty
  | .list=>ls.isEmpty
  | .record=>ls.length == l.length
  | .recur=>ls.length == l.length
  | .get=>l.length == 1||l.length == 2
  | .app=>ls.isEmpty&&l.length == 2
  | .neg=>ls.isEmpty&&l.length == 1
  | .not=>ls.isEmpty&&l.length == 1
  | .has=>ls.length == 1&&l.length == 1
  | .fn=>ls.length == 1&&l.length == 1
  | .fields=>ls.isEmpty && !l.isEmpty
  | .openFields=>ls.isEmpty && !l.isEmpty
  | .param=>ls.length == 1&&(l.length == 0||l.length == 1)
  | .letIn=>ls.length+1 == l.length
  | .cond=>ls.isEmpty&&l.length == 3
  | .must=>ls.isEmpty&&l.length == 2
  | .op _=>ls.isEmpty&&l.length == 2)
def qH:List Tree->Bool
 | []=>true
 | t::r=>good t&&qH r
end
theorem ZK:∀ (a b:List Tree),qH (a++b)=(qH a&&qH b)
 | [],b=>by simp [qH]
 | t::r,b=>by simp [qH,ZK r b,Bool.and_assoc]
end RM
end
section
set_option autoImplicit false
namespace RM
open Vastoa
def Ends (ts:Marks):Prop:=∃ (pre:Marks) (q:Nat),ts=pre++[⟨q,.fin⟩]/\∀ m∈pre,m.tok≠.fin
theorem Ends.cons {ts:Marks} (h:Ends ts):∃ m r,ts=m::r/\(m.tok≠.fin->Ends r)/\(m.tok=.fin->r=[]):=by
 obtain ⟨pre,q,rfl,hp⟩:=h
 cases pre with
 | nil=>exact ⟨⟨q,.fin⟩,[],rfl,fun h=>absurd rfl h,fun _=>rfl⟩
 | cons m r=>exact ⟨m,r++[⟨q,.fin⟩],rfl,fun _=>⟨r,q,rfl,fun x hx=>hp x (List.mem_cons_of_mem _ hx)⟩,fun h=>absurd h (hp m List.mem_cons_self)⟩
def z8:Tok->Bool
 | .word _=>true
 | .sign _=>true
 | .quote=>true
 | .unquote=>true
 | .hole=>true
 | .unhole=>true
 | _=>false
theorem qv {k t:Tok} (h:z8 k=true):kd t=k ↔ t=k:=by
 cases t <;> cases k <;> simp_all [kd,z8]
theorem Q9 {k:Tok} (h:z8 k=true):k≠.fin:=by rintro rfl; cases h
theorem qb5 {t:Tok}:kd t=je ↔ ∃ x,t=.name x:=by cases t <;> simp [kd,je]
theorem qmY {t:Tok}:kd t=qft ↔ ∃ x,t=.num x:=by cases t <;> simp [kd,qft]
theorem qkz {t:Tok}:kd t=JA ↔ ∃ x,t=.piece x:=by cases t <;> simp [kd,JA]
theorem qi0 {t:Tok}:kd t=.fin ↔ t=.fin:=by cases t <;> simp [kd]
theorem qi1 (t:Tok):begins (kd t)=begins t:=by cases t <;> rfl
section
variable {Q:MS->Prop} {E:Fault->Prop} {ts:Marks} {pv:Mark} {lv:Nat} {W:List Sym} {B:List Tree} {G:List Bg}
theorem zK {x:Part} (he:Ends ts) (h:Run Q E ⟨ts,pv,lv,qB x (kd (next ts))++W,B,G⟩):Run Q E ⟨ts,pv,lv,.p x::W,B,G⟩:=by
 obtain ⟨m,r,rfl,_⟩:=he.cons
 exact .next rfl h
theorem qc3 {k:Tok} (he:Ends ts) (hk:k≠.fin)
  (h:∀ m,kd (next ts)=k->m.tok=next ts->m.place=here ts->Ends (ts.drop 1)->(ts.drop 1).length<ts.length->Run Q E ⟨ts.drop 1,m,lv,W,B,G⟩)
  (hx:kd (next ts)≠k->E ⟨3,here ts⟩):Run Q E ⟨ts,pv,lv,.t k::W,B,G⟩:=by
 obtain ⟨m,r,rfl,he',_⟩:=he.cons
 by_cases e:kd m.tok=k
 ·have hm:m.tok≠.fin:=fun z=>hk (by rw [<- e,z]; rfl)
  refine .next (s':=⟨r,m,lv,W,B,G⟩) ?_ (h m e rfl rfl (he' hm) (by simp))
  show (if kd m.tok=k then _ else _)=_
  rw [if_pos e]
 ·refine .fail (x:=⟨3,m.place⟩) ?_ (hx e)
  show (if kd m.tok=k then _ else _)=_
  rw [if_neg e]
theorem zf {k:Tok} (he:Ends ts) (hk:k≠.fin) (e:kd (next ts)=k)
  (h:∀ m,m.tok=next ts->m.place=here ts->Ends (ts.drop 1)->(ts.drop 1).length<ts.length->Run Q E ⟨ts.drop 1,m,lv,W,B,G⟩):Run Q E ⟨ts,pv,lv,.t k::W,B,G⟩ :=
 qc3 he hk (fun m _=>h m) fun z=>absurd e z
theorem zD (h:Run Q E ⟨ts,pv,lv,W,B,⟨B.length,[],[]⟩::G⟩):Run Q E ⟨ts,pv,lv,.a .begin::W,B,G⟩:=.next rfl h
theorem ZL {t:Tree} (h:Run Q E ⟨ts,pv,lv,W,B++[t],⟨B.length,[],[]⟩::G⟩):Run Q E ⟨ts,pv,lv,.a .take::W,B++[t],G⟩:=by
 refine .next (s':=⟨ts,pv,lv,W,B++[t],⟨B.length,[],[]⟩::G⟩) ?_ h
 show (if (B++[t]).length=0 then none else some (Except.ok (⟨ts,pv,lv,W,B++[t],⟨(B++[t]).length - 1,[],[]⟩::G⟩:MS)))=_
 rw [if_neg (by simp)]
 simp
theorem jY {g:Bg} (h:Run Q E ⟨ts,pv,lv,W,B,⟨g.first,g.labels++[held pv.tok],g.names⟩::G⟩):Run Q E ⟨ts,pv,lv,.a .label::W,B,g::G⟩:=.next rfl h
theorem qem {g:Bg} (h:held pv.tok∉g.names->Run Q E ⟨ts,pv,lv,W,B,⟨g.first,g.labels,g.names++[held pv.tok]⟩::G⟩) (hx:held pv.tok∈g.names->E ⟨5,pv.place⟩) :
  Run Q E ⟨ts,pv,lv,.a .fresh::W,B,g::G⟩:=by
 by_cases e:held pv.tok∈g.names
 ·refine .fail (x:=⟨5,pv.place⟩) ?_ (hx e)
  show (if held pv.tok∈g.names then _ else _)=_
  rw [if_pos e]
 ·refine .next (s':=⟨ts,pv,lv,W,B,⟨g.first,g.labels,g.names++[held pv.tok]⟩::G⟩) ?_ (h e)
  show (if held pv.tok∈g.names then _ else _)=_
  rw [if_neg e]
theorem qen (he:Ends ts) (h:lv≠40->Run Q E ⟨ts,pv,lv+1,W,B,G⟩) (hx:lv=40->E ⟨4,here ts⟩):Run Q E ⟨ts,pv,lv,.a .enter::W,B,G⟩:=by
 obtain ⟨m,r,rfl,_⟩:=he.cons
 by_cases e:lv=40
 ·refine .fail (x:=⟨4,m.place⟩) ?_ (hx e)
  show (if lv=40 then _ else _)=_
  rw [if_pos e]
 ·refine .next (s':=⟨m::r,pv,lv+1,W,B,G⟩) ?_ (h e)
  show (if lv=40 then _ else _)=_
  rw [if_neg e]
theorem qi2 (h:Run Q E ⟨ts,pv,lv,W,B,G⟩):Run Q E ⟨ts,pv,lv+1,.a .leave::W,B,G⟩:=by
 refine .next (s':=⟨ts,pv,lv,W,B,G⟩) ?_ h
 show (if lv+1=0 then none else _)=_
 rw [if_neg (by omega)]
 rfl
theorem zV {k:Kind} {ls ns:List Text} {l:List Tree} (h:Run Q E ⟨ts,pv,lv,W,B++[.node k ls l],G⟩):Run Q E ⟨ts,pv,lv,.a (.fin k)::W,B++l,⟨B.length,ls,ns⟩::G⟩:=by
 refine .next (s':=⟨ts,pv,lv,W,B++[.node k ls l],G⟩) ?_ h
 show (if B.length<=(B++l).length then _ else _)=_
 rw [if_pos (by simp)]
 simp
theorem Zk {k:Kind} {ls ns:List Text} (h:Run Q E ⟨ts,pv,lv,W,B++[.node k ls []],G⟩):Run Q E ⟨ts,pv,lv,.a (.fin k)::W,B,⟨B.length,ls,ns⟩::G⟩:=by
 have:=zV (k:=k) (ls:=ls) (ns:=ns) (l:=[]) h
 rwa [List.append_nil] at this
end
def zh (x:Part) (lv:Nat) (f:Read Tree):Prop :=
 ∀ (Q:MS->Prop) (E:Fault->Prop) (ts:Marks) (pv:Mark) (W:List Sym) (B:List Tree) (G:List Bg),Ends ts ->
  (∀ e ts' pv',f ts=.ok (e,ts')->Ends ts'->ts'.length<ts.length->good e=true->Run Q E ⟨ts',pv',lv,W,B++[e],G⟩) ->
  (∀ y,f ts=.error y->E y)->Run Q E ⟨ts,pv,lv,.p x::W,B,G⟩
def qkA (x:Part) (lv:Nat) (f:Nat->Tree->Read Tree):Prop :=
 ∀ (n:Nat) (Q:MS->Prop) (E:Fault->Prop) (a:Tree) (ts:Marks) (pv:Mark) (W:List Sym) (B:List Tree) (G:List Bg),Ends ts->ts.length<n->good a=true ->
  (∀ e ts' pv',f n a ts=.ok (e,ts')->Ends ts'->ts'.length<=ts.length->good e=true->Run Q E ⟨ts',pv',lv,W,B++[e],G⟩) ->
  (∀ y,f n a ts=.error y->E y)->Run Q E ⟨ts,pv,lv,.p x::W,B++[a],G⟩
theorem qdB:∀ (ops:List (Tok × Op)),(∀ p∈ops,z8 p.1=true)->∀ (z:Tok),(ops.find? fun p=>decide (p.1=kd z))=ops.find? fun p=>decide (p.1=z)
 | [],_,_=>rfl
 | p::r,hb,z=>by
  have hp:=hb p List.mem_cons_self
  have e1:decide (p.1=kd z)=decide (p.1=z):=decide_eq_decide.mpr ⟨fun q=>((qv hp).mp q.symm).symm,fun q=>((qv hp).mpr q.symm).symm⟩
  rw [List.find?_cons,List.find?_cons,e1,qdB r (fun q hq=>hb q (List.mem_cons_of_mem _ hq)) z]
theorem qaK {x y:Part} {lv:Nat} {ops:List (Tok × Op)} {under:Read Tree} (hy:zh y lv under) (hb:∀ p∈ops,z8 p.1=true)
  (hc:∀ k,qB x k=match ops.find? fun p=>p.1=k with
   | some p=>[.t p.1,.a .take,.p y,.a (.fin (.op p.2)),.p x]
   | none=>[]):qkA x lv (leftMore ops under):=by
 intro n
 induction n with
 | zero=>intro Q E a ts pv W B G _ h; exact absurd h (Nat.not_lt_zero _)
 | succ n ih=>
  intro Q E a ts pv W B G he hn ga hok hx
  refine zK he ?_
  rw [hc]
  have ek:=qdB ops hb (next ts)
  rw [ek]
  cases ef:ops.find? fun p=>decide (p.1=next ts) with
  | none=>
   refine hok a ts pv ?_ he (Nat.le_refl _) ga
   show (match ops.find? fun p=>decide (p.1=next ts) with | some p=>_ | none=>_)=_
   rw [ef]
  | some p=>
   have hp:=hb p (List.mem_of_find?_eq_some ef)
   have e1:p.1=next ts:=of_decide_eq_true (List.find?_some (p:=fun p:Tok × Op=>decide (p.1=next ts)) ef)
   have ev:leftMore ops under (n+1) a ts=(under (ts.drop 1)).bind fun b=>leftMore ops under n (.node (.op p.2) [] [a,b.1]) b.2:=by
    show (match ops.find? fun p=>decide (p.1=next ts) with | some p=>_ | none=>_)=_
    rw [ef]
   rw [ev] at hok hx
   refine zf he (Q9 hp) ((qv hp).mpr e1.symm) fun m _ _ he1 hl=>?_
   refine ZL (hy _ _ _ _ _ _ _ he1 (fun b ts2 pv2 eb he2 hl2 gb=>?_) fun z ez=>hx z (by rw [ez]; rfl))
   rw [eb] at hok hx
   have e3:B++[a]++[b]=B++[a,b]:=by simp
   rw [e3]
   refine zV (ih _ _ _ _ _ _ _ _ he2 (by omega) (by simp [good,qH,ga,gb]) (fun e ts' pv' h1 h2 h3 h4=>hok e ts' pv' h1 h2 (by omega) h4) fun z ez=>hx z ez)
theorem qaL {x y w:Part} {lv:Nat} {ops:List (Tok × Op)} {under:Read Tree} (hy:zh y lv under) (hm:qkA w lv (leftMore ops under)) (hc:∀ k,qB x k=[.p y,.p w]):zh x lv (left ops under):=by
 intro Q E ts pv W B G he hok hx
 refine zK he ?_
 rw [hc]
 have ev:left ops under ts=(under ts).bind fun a=>leftMore ops under (a.2.length+1) a.1 a.2:=rfl
 rw [ev] at hok hx
 refine hy _ _ _ _ _ _ _ he (fun a ts1 pv1 ea he1 hl1 ga=>?_) fun z ez=>hx z (by rw [ez]; rfl)
 rw [ea] at hok hx
 exact hm _ _ _ _ _ _ _ _ _ he1 (Nat.lt_succ_self _) ga (fun e ts' pv' h1 h2 h3 h4=>hok e ts' pv' h1 h2 (by omega) h4) fun z ez=>hx z ez
theorem qeo {x y w:Part} {lv:Nat} {t:Tok} {o:Op} {under:Read Tree} (hy:zh y lv under) (ht:z8 t=true) (hc:∀ k,qB x k=[.p y,.p w])
  (hw:∀ k,qB w k=if k=t then [.t t,.a .take,.p x,.a (.fin (.op o))] else []):zh x lv (fun ts=>right t o under (ts.length+1) ts):=by
 have all:∀ (n:Nat) (Q:MS->Prop) (E:Fault->Prop) (ts:Marks) (pv:Mark) (W:List Sym) (B:List Tree) (G:List Bg),Ends ts->ts.length<n ->
  (∀ e ts' pv',right t o under n ts=.ok (e,ts')->Ends ts'->ts'.length<ts.length->good e=true->Run Q E ⟨ts',pv',lv,W,B++[e],G⟩) ->
  (∀ y,right t o under n ts=.error y->E y)->Run Q E ⟨ts,pv,lv,.p x::W,B,G⟩:=by
  intro n
  induction n with
  | zero=>intro Q E ts pv W B G _ h; exact absurd h (Nat.not_lt_zero _)
  | succ n ih=>
   intro Q E ts pv W B G he hn hok hx
   refine zK he ?_
   rw [hc]
   have ev:right t o under (n+1) ts=(under ts).bind fun a=>if next a.2=t then also (fun b=>.node (.op o) [] [a.1,b]) (right t o under n (a.2.drop 1)) else .ok a:=rfl
   rw [ev] at hok hx
   refine hy _ _ _ _ _ _ _ he (fun a ts1 pv1 ea he1 hl1 ga=>?_) fun z ez=>hx z (by rw [ez]; rfl)
   rw [ea] at hok hx
   refine zK he1 ?_
   rw [hw]
   by_cases e1:next ts1=t
   ·rw [if_pos ((qv ht).mpr e1)]
    have ev2:(Except.ok (a,ts1):Except Fault (Tree × Marks)).bind (fun a=>if next a.2=t then also (fun b=>.node (.op o) [] [a.1,b]) (right t o under n (a.2.drop 1)) else .ok a)=also (fun b=>.node (.op o) [] [a,b]) (right t o under n (ts1.drop 1)):=by
     show (if next ts1=t then _ else _)=_
     rw [if_pos e1]
    rw [ev2] at hok hx
    refine zf he1 (Q9 ht) ((qv ht).mpr e1) fun m _ _ he2 hl2=>?_
    refine ZL (ih _ _ _ _ _ _ _ he2 (by omega) (fun b ts3 pv3 eb he3 hl3 gb=>?_) fun z ez=>hx z (by rw [ez]; rfl))
    rw [eb] at hok hx
    have e3:B++[a]++[b]=B++[a,b]:=by simp
    rw [e3]
    exact zV (hok _ _ _ rfl he3 (by omega) (by simp [good,qH,ga,gb]))
   ·rw [if_neg fun z=>e1 ((qv ht).mp z)]
    refine hok a ts1 _ ?_ he1 hl1 ga
    show (if next ts1=t then _ else _)=_
    rw [if_neg e1]
 intro Q E ts pv W B G he hok hx
 exact all _ _ _ _ _ _ _ _ he (Nat.lt_succ_self _) hok hx
theorem qbu {x y:Part} {lv:Nat} {t:Tok} {k:Kind} {under:Read Tree} (hy:zh y lv under) (ht:z8 t=true) (hg:∀ e,good e=true->good (.node k [] [e])=true)
  (hc:∀ z,qB x z=if z=t then [.t t,.a .begin,.p x,.a (.fin k)] else [.p y]):zh x lv (fun ts=>prefixed t k under (ts.length+1) ts):=by
 have all:∀ (n:Nat) (Q:MS->Prop) (E:Fault->Prop) (ts:Marks) (pv:Mark) (W:List Sym) (B:List Tree) (G:List Bg),Ends ts->ts.length<n ->
  (∀ e ts' pv',prefixed t k under n ts=.ok (e,ts')->Ends ts'->ts'.length<ts.length->good e=true->Run Q E ⟨ts',pv',lv,W,B++[e],G⟩) ->
  (∀ y,prefixed t k under n ts=.error y->E y)->Run Q E ⟨ts,pv,lv,.p x::W,B,G⟩:=by
  intro n
  induction n with
  | zero=>intro Q E ts pv W B G _ h; exact absurd h (Nat.not_lt_zero _)
  | succ n ih=>
   intro Q E ts pv W B G he hn hok hx
   refine zK he ?_
   rw [hc]
   by_cases e1:next ts=t
   ·rw [if_pos ((qv ht).mpr e1)]
    have ev:prefixed t k under (n+1) ts=also (fun e=>.node k [] [e]) (prefixed t k under n (ts.drop 1)):=by
     show (if next ts=t then _ else _)=_
     rw [if_pos e1]
    rw [ev] at hok hx
    refine zf he (Q9 ht) ((qv ht).mpr e1) fun m _ _ he1 hl1=>zD ?_
    refine ih _ _ _ _ _ _ _ he1 (by omega) (fun b ts3 pv3 eb he3 hl3 gb=>?_) fun z ez=>hx z (by rw [ez]; rfl)
    rw [eb] at hok hx
    exact zV (l:=[b]) (hok _ _ _ rfl he3 (by omega) (hg b gb))
   ·rw [if_neg fun z=>e1 ((qv ht).mp z)]
    have ev:prefixed t k under (n+1) ts=under ts:=by
     show (if next ts=t then _ else _)=_
     rw [if_neg e1]
    rw [ev] at hok hx
    exact hy _ _ _ _ _ _ _ he hok hx
 intro Q E ts pv W B G he hok hx
 exact all _ _ _ _ _ _ _ _ he (Nat.lt_succ_self _) hok hx
end RM
end
section
set_option autoImplicit false
namespace RM
open Vastoa
section
variable {Q:MS->Prop} {E:Fault->Prop} {ts:Marks} {pv:Mark} {lv:Nat} {W:List Sym} {B:List Tree} {G:List Bg} {sub:Read Tree}
theorem qep {t:Tok} (h:next ts=t):expect t ts=.ok ((),ts.drop 1):=by unfold expect; rw [if_pos h]
theorem qeq {t:Tok} (h:next ts≠t):expect t ts=.error ⟨3,here ts⟩:=by unfold expect; rw [if_neg h]; rfl
theorem ZA {t:Tok} (he:Ends ts) (ht:z8 t=true)
  (h:∀ m,expect t ts=.ok ((),ts.drop 1)->Ends (ts.drop 1)->(ts.drop 1).length<ts.length->Run Q E ⟨ts.drop 1,m,lv,W,B,G⟩)
  (hx:expect t ts=.error ⟨3,here ts⟩->E ⟨3,here ts⟩):Run Q E ⟨ts,pv,lv,.t t::W,B,G⟩ :=
 qc3 he (Q9 ht) (fun m e _ _ h1 h2=>h m (qep ((qv ht).mp e)) h1 h2) fun e=>hx (qeq fun z=>e ((qv ht).mpr z))
theorem QS {t:Tok} (hs:zh .EXPR lv sub) (he:Ends ts) (ht:z8 t=true)
  (hok:∀ e ts' pv',closedBy t sub ts=.ok (e,ts')->Ends ts'->ts'.length<ts.length->good e=true->Run Q E ⟨ts',pv',lv,W,B++[e],G⟩)
  (hx:∀ y,closedBy t sub ts=.error y->E y):Run Q E ⟨ts,pv,lv,.p .EXPR::.t t::W,B,G⟩:=by
 have ev:closedBy t sub ts=(sub ts).bind fun e=>(expect t e.2).bind fun u=>.ok (e.1,u.2):=rfl
 rw [ev] at hok hx
 refine hs _ _ _ _ _ _ _ he (fun a ts1 pv1 ea he1 hl1 ga=>?_) fun z ez=>hx z (by rw [ez]; rfl)
 rw [ea] at hok hx
 refine ZA he1 ht (fun m e1 he2 hl2=>hok a _ _ ?_ he2 (by omega) ga) fun e1=>hx _ ?_
 ·show (expect t ts1).bind _=_
  rw [e1]; rfl
 ·show (expect t ts1).bind _=_
  rw [e1]; rfl
theorem qcB {t:Tok} (h:kd t≠je):∀ x,t≠.name x:=fun x e=>h (by rw [e]; rfl)
theorem JB (he:Ends ts)
  (h:∀ m x,next ts=.name x->m.tok=.name x->m.place=here ts->Ends (ts.drop 1)->(ts.drop 1).length<ts.length->Run Q E ⟨ts.drop 1,m,lv,W,B,G⟩)
  (hx:(∀ x,next ts≠.name x)->E ⟨3,here ts⟩):Run Q E ⟨ts,pv,lv,.t je::W,B,G⟩ :=
 qc3 he (by intro z; cases z) (fun m e e2 e3 h1 h2=>by
  obtain ⟨x,ex⟩:=qb5.mp e
  exact h m x ex (e2.trans ex) e3 h1 h2) fun e=>hx (qcB e)
theorem qaM {x:Text} (h:next ts=.name x):nameTok ts=.ok (x,ts.drop 1):=by unfold nameTok; rw [h]
theorem qaN (h:∀ x,next ts≠.name x):nameTok ts=.error ⟨3,here ts⟩:=by
 unfold nameTok
 cases e:next ts with
 | name x=>exact absurd e (h x)
 | _=>rfl
theorem qhN (hs:zh .EXPR lv sub):∀ (n:Nat) (ts:Marks) (pv:Mark) (W:List Sym) (B:List Tree) (G:List Bg),Ends ts->ts.length<n ->
  (∀ l ts' pv',pieces sub n ts=.ok (l,ts')->Ends ts'->ts'.length<ts.length->qH l=true->Run Q E ⟨ts',pv',lv,W,B++l,G⟩) ->
  (∀ y,pieces sub n ts=.error y->E y)->Run Q E ⟨ts,pv,lv,.p .PIECES::.t .unquote::W,B,G⟩:=by
 intro n
 induction n with
 | zero=>intro ts pv W B G _ h; exact absurd h (Nat.not_lt_zero _)
 | succ n ih=>
  intro ts pv W B G he hn hok hx
  refine zK he ?_
  show Run Q E ⟨ts,pv,lv,(if kd (next ts)=JA then [.t JA,.a .begin,.a .label,.a (.fin .piece),.p .PIECES] else if kd (next ts)=.hole then [.t .hole,.p .EXPR,.t .unhole,.p .PIECES] else [])++.t .unquote::W,B,G⟩
  by_cases e1:kd (next ts)=JA
  ·rw [if_pos e1]
   obtain ⟨x,ex⟩:=qkz.mp e1
   have ev:pieces sub (n+1) ts=also (fun l=>.node .piece [x] []::l) (pieces sub n (ts.drop 1)):=by
    show (match next ts with | .unquote=>_ | .piece x=>_ | .hole=>_ | _=>_)=_
    rw [ex]
   rw [ev] at hok hx
   refine zf he (by intro z; cases z) e1 fun m em _ he1 hl1=>zD (jY (Zk ?_))
   have eh:held m.tok=x:=by rw [em,ex]; rfl
   rw [eh]
   refine ih _ _ _ _ _ he1 (by omega) (fun l ts2 pv2 el he2 hl2 gl=>?_) fun z ez=>hx z (by rw [ez]; rfl)
   rw [el] at hok hx
   have:=hok (.node .piece [x] []::l) ts2 pv2 rfl he2 (by omega) (by simp [qH,good,gl])
   rw [List.append_assoc]
   exact this
  ·rw [if_neg e1]
   by_cases e2:kd (next ts)=.hole
   ·rw [if_pos e2]
    have ex:next ts=.hole:=(qv (k:=.hole) rfl).mp e2
    have ev:pieces sub (n+1) ts=(closedBy .unhole sub (ts.drop 1)).bind fun e=>also (fun l=>e.1::l) (pieces sub n e.2):=by
     show (match next ts with | .unquote=>_ | .piece x=>_ | .hole=>_ | _=>_)=_
     rw [ex]
    rw [ev] at hok hx
    refine zf he (by intro z; cases z) e2 fun m em _ he1 hl1=>QS hs he1 rfl (fun a ts2 pv2 ea he2 hl2 ga=>?_) fun z ez=>hx z (by rw [ez]; rfl)
    rw [ea] at hok hx
    refine ih _ _ _ _ _ he2 (by omega) (fun l ts3 pv3 el he3 hl3 gl=>?_) fun z ez=>hx z (by show also _ (pieces sub n ts2)=_; rw [ez]; rfl)
    have:=hok (a::l) ts3 pv3 (by show also _ (pieces sub n ts2)=_; rw [el]; rfl) he3 (by omega) (by simp [qH,ga,gl])
    rw [List.append_assoc]
    exact this
   ·rw [if_neg e2]
    refine qc3 he (by intro z; cases z) (fun m e em _ he1 hl1=>?_) fun e=>hx _ ?_
    ·have ex:next ts=.unquote:=(qv (k:=.unquote) rfl).mp e
     have:=hok [] (ts.drop 1) m (by show (match next ts with | .unquote=>_ | .piece x=>_ | .hole=>_ | _=>_)=_; rw [ex]) he1 hl1 rfl
     rwa [List.append_nil] at this
    ·show (match next ts with | .unquote=>_ | .piece x=>_ | .hole=>_ | _=>_)=_
     cases ex:next ts with
     | unquote=>rw [ex] at e; exact absurd rfl e
     | piece x=>rw [ex] at e1; exact absurd rfl e1
     | hole=>rw [ex] at e2; exact absurd rfl e2
     | _=>rfl
theorem qi3 (hs:zh .EXPR lv sub):∀ (n:Nat) (ts:Marks) (pv:Mark) (W:List Sym) (B:List Tree) (G:List Bg),Ends ts->ts.length<n ->
  (∀ l ts' pv',elements sub n ts=.ok (l,ts')->Ends ts'->ts'.length<ts.length->qH l=true->Run Q E ⟨ts',pv',lv,W,B++l,G⟩) ->
  (∀ y,elements sub n ts=.error y->E y)->Run Q E ⟨ts,pv,lv,.p .EXPR::.p .MLIST::.t sListClose::W,B,G⟩:=by
 intro n
 induction n with
 | zero=>intro ts pv W B G _ h; exact absurd h (Nat.not_lt_zero _)
 | succ n ih=>
  intro ts pv W B G he hn hok hx
  have ev:elements sub (n+1) ts=(sub ts).bind fun e=>
   if next e.2=sComma then also (fun l=>e.1::l) (elements sub n (e.2.drop 1)) else (expect sListClose e.2).bind fun u=>.ok ([e.1],u.2):=rfl
  rw [ev] at hok hx
  refine hs _ _ _ _ _ _ _ he (fun a ts1 pv1 ea he1 hl1 ga=>?_) fun z ez=>hx z (by rw [ez]; rfl)
  rw [ea] at hok hx
  refine zK he1 ?_
  show Run Q E ⟨ts1,pv1,lv,(if kd (next ts1)=sComma then [.t sComma,.p .EXPR,.p .MLIST] else [])++.t sListClose::W,B++[a],G⟩
  by_cases e1:next ts1=sComma
  ·rw [if_pos ((qv (k:=sComma) rfl).mpr e1)]
   have ev2:(Except.ok (a,ts1):Except Fault (Tree × Marks)).bind (fun e=>if next e.2=sComma then also (fun l=>e.1::l) (elements sub n (e.2.drop 1)) else (expect sListClose e.2).bind fun u=>.ok ([e.1],u.2)) =
    also (fun l=>a::l) (elements sub n (ts1.drop 1)):=by
    show (if next ts1=sComma then _ else _)=_
    rw [if_pos e1]
   rw [ev2] at hok hx
   refine zf he1 (by intro z; cases z) ((qv (k:=sComma) rfl).mpr e1) fun m em _ he2 hl2=>?_
   refine ih _ _ _ _ _ he2 (by omega) (fun l ts3 pv3 el he3 hl3 gl=>?_) fun z ez=>hx z (by rw [ez]; rfl)
   have:=hok (a::l) ts3 pv3 (by rw [el]; rfl) he3 (by omega) (by simp [qH,ga,gl])
   rw [List.append_assoc]
   exact this
  ·rw [if_neg fun z=>e1 ((qv (k:=sComma) rfl).mp z)]
   have ev2:(Except.ok (a,ts1):Except Fault (Tree × Marks)).bind (fun e=>if next e.2=sComma then also (fun l=>e.1::l) (elements sub n (e.2.drop 1)) else (expect sListClose e.2).bind fun u=>.ok ([e.1],u.2)) =
    (expect sListClose ts1).bind fun u=>.ok ([a],u.2):=by
    show (if next ts1=sComma then _ else _)=_
    rw [if_neg e1]
   rw [ev2] at hok hx
   refine ZA he1 rfl (fun m e3 he2 hl2=>hok [a] _ _ (by rw [e3]; rfl) he2 (by omega) (by simp [qH,ga])) fun e3=>hx _ (by rw [e3]; rfl)
def Met (g:Bg) (seen:List Text):Prop:=∀ x,x∈g.names ↔ seen.contains x=true
theorem Met.more {g:Bg} {seen:List Text} {x:Text} (h:Met g seen) (f:Nat) (ls:List Text):Met ⟨f,ls,g.names++[x]⟩ (x::seen):=fun y=>by
 show y∈g.names++[x] ↔ _
 rw [List.mem_append,h y,List.contains_cons]
 simp
 constructor
 ·rintro (h | h)
  ·exact .inr h
  ·exact .inl h
 ·rintro (h | h)
  ·exact .inr h
  ·exact .inl h
def qdC (Q:MS->Prop) (E:Fault->Prop) (sub:Read Tree) (lv n:Nat) (V:List Sym):Prop :=
 ∀ (seen:List Text) (g:Bg) (ts:Marks) (pv:Mark) (W:List Sym) (B:List Tree) (G:List Bg),Ends ts->ts.length<n->Met g seen->(V≠[.p .BINDS]->∃ x,next ts=.name x) ->
  (∀ l ts' pv' ns,binds sub n seen ts=.ok (l,ts')->Ends ts'->ts'.length<=ts.length->qH (l.map fun x=>x.2)=true->(V≠[.p .BINDS]->l≠[])->Run Q E ⟨ts',pv',lv,W,B++l.map (fun x=>x.2),⟨g.first,g.labels++l.map (fun x=>x.1),ns⟩::G⟩) ->
  (∀ y,binds sub n seen ts=.error y->E y)->Run Q E ⟨ts,pv,lv,V++W,B,g::G⟩
theorem qer (hs:zh .EXPR lv sub) {n:Nat} (ih:qdC Q E sub lv n [.p .BINDS]):qdC Q E sub lv (n+1) [.t je,.p .BOUND,.p .BINDS]:=by
 intro seen g ts pv W B G he hn hm hv hok hx
 obtain ⟨x,ex⟩:=hv (by intro z; cases z)
 have ev:binds sub (n+1) seen ts=if seen.contains x then .error ⟨5,here ts⟩
   else (expect sIs (ts.drop 1)).bind fun u=>(closedBy sSemi sub u.2).bind fun e=>also (fun l=>(x,e.1)::l) (binds sub n (x::seen) e.2):=by
  show (match next ts with | .name x=>_ | _=>_)=_
  rw [ex]
 rw [ev] at hok hx
 refine zf he (by intro z; cases z) (by rw [ex]; rfl) fun m em ep he1 hl1=>?_
 have eh:held m.tok=x:=by rw [em,ex]; rfl
 refine zK he1 ?_
 show Run Q E ⟨ts.drop 1,m,lv,.a .fresh::.a .label::.t sIs::.p .EXPR::.t sSemi::.p .BINDS::W,B,g::G⟩
 refine qem (fun hn1=>?_) fun hn1=>?_
 ·rw [eh] at hn1 ⊢
  have hns:¬ seen.contains x=true:=fun z=>hn1 ((hm x).mpr z)
  rw [if_neg hns] at hok hx
  refine jY ?_
  rw [eh]
  refine ZA he1 rfl (fun m2 e2 he2 hl2=>?_) fun e2=>hx _ (by rw [e2]; rfl)
  rw [e2] at hok hx
  refine QS hs he2 rfl (fun a ts3 pv3 ea he3 hl3 ga=>?_) fun z ez=>hx z (by show (closedBy sSemi sub ((ts.drop 1).drop 1)).bind _=_; rw [ez]; rfl)
  refine ih (x::seen) _ ts3 pv3 W (B++[a]) G he3 (by omega) (hm.more _ _) (fun z=>absurd rfl z) (fun l ts4 pv4 ns el he4 hl4 gl _=>?_) fun z ez=>hx z ?_
  ·have:=hok ((x,a)::l) ts4 pv4 ns (by show (closedBy sSemi sub ((ts.drop 1).drop 1)).bind _=_; rw [ea]; show also _ (binds sub n (x::seen) ts3)=_; rw [el]; rfl) he4 (by omega) (by simp only [List.map_cons,qH,ga,gl,Bool.and_self]) (fun _ z=>by cases z)
   simp only [List.map_cons,List.append_assoc,List.singleton_append] at this ⊢
   exact this
  ·show (closedBy sSemi sub ((ts.drop 1).drop 1)).bind _=_
   rw [ea]
   show also _ (binds sub n (x::seen) ts3)=_
   rw [ez]; rfl
 ·rw [eh] at hn1
  rw [if_pos ((hm x).mp hn1)] at hx
  rw [ep]
  exact hx _ rfl
theorem qes (hs:zh .EXPR lv sub):∀ n,qdC Q E sub lv n [.p .BINDS]:=by
 intro n
 induction n with
 | zero=>intro seen g ts pv W B G _ h; exact absurd h (Nat.not_lt_zero _)
 | succ n ih=>
  intro seen g ts pv W B G he hn hm _ hok hx
  refine zK (W:=W) he ?_
  show Run Q E ⟨ts,pv,lv,(if kd (next ts)=je then [.t je,.p .BOUND,.p .BINDS] else [])++W,B,g::G⟩
  by_cases e1:kd (next ts)=je
  ·rw [if_pos e1]
   exact qer hs ih seen g ts pv W B G he hn hm (fun _=>qb5.mp e1) (fun l ts' pv' ns h1 h2 h3 h4 _=>hok l ts' pv' ns h1 h2 h3 h4 fun z=>absurd rfl z) hx
  ·rw [if_neg e1]
   have ev:binds sub (n+1) seen ts=.ok ([],ts):=by
    show (match next ts with | .name x=>_ | _=>_)=_
    cases ex:next ts with
    | name x=>exact absurd ex (qcB e1 x)
    | _=>rfl
   have:=hok [] ts pv g.names ev he (Nat.le_refl _) rfl fun z=>absurd rfl z
   simp only [List.map_nil,List.append_nil] at this
   exact this
theorem qc4 {k:Kind} (hk:k=.record \/ k=.recur) (hs:zh .EXPR lv sub) (he:Ends ts)
  (hok:∀ e ts' pv',fieldsOf k sub ts=.ok (e,ts')->Ends ts'->ts'.length<ts.length->good e=true->Run Q E ⟨ts',pv',lv,W,B++[e],G⟩)
  (hx:∀ y,fieldsOf k sub ts=.error y->E y):Run Q E ⟨ts,pv,lv,.a .begin::.p .BINDS::.t sUnbrace::.a (.fin k)::W,B,G⟩:=by
 have ev:fieldsOf k sub ts=(binds sub (ts.length+1) [] ts).bind fun l=>(expect sUnbrace l.2).bind fun u=>.ok (.node k (l.1.map fun x=>x.1) (l.1.map fun x=>x.2),u.2):=rfl
 rw [ev] at hok hx
 refine zD (qes hs (ts.length+1) [] ⟨B.length,[],[]⟩ ts pv _ B G he (Nat.lt_succ_self _) (fun x=>by simp) (fun z=>absurd rfl z) (fun l ts1 pv1 ns el he1 hl1 gl _=>?_) fun z ez=>hx z (by rw [ez]; rfl))
 rw [el] at hok hx
 refine ZA he1 rfl (fun m e2 he2 hl2=>zV (hok _ _ _ (by show (expect sUnbrace ts1).bind _=_; rw [e2]; rfl) he2 (by omega) ?_)) fun e2=>hx _ (by show (expect sUnbrace ts1).bind _=_; rw [e2]; rfl)
 rcases hk with rfl | rfl <;> simp [good,gl]
end
end RM
end
section
set_option autoImplicit false
namespace RM
open Vastoa
section
variable {lv:Nat} {sub:Read Tree}
theorem qfu (hs:zh .EXPR lv sub):zh .ATOM lv (atom sub):=by
 intro Q E ts pv W B G he hok hx
 refine zK he ?_
 simp only [qB]
 by_cases e1:kd (next ts)=je
 ·rw [if_pos e1]
  obtain ⟨x,ex⟩:=qb5.mp e1
  refine zf he (by intro z; cases z) e1 fun m em _ he1 hl1=>zD (jY (Zk (hok _ _ _ ?_ he1 hl1 rfl)))
  have eh:held m.tok=x:=by rw [em,ex]; rfl
  rw [eh]
  unfold atom; rw [ex]; rfl
 rw [if_neg e1]
 by_cases e2:kd (next ts)=qft
 ·rw [if_pos e2]
  obtain ⟨x,ex⟩:=qmY.mp e2
  refine zf he (by intro z; cases z) e2 fun m em _ he1 hl1=>zD (jY (Zk (hok _ _ _ ?_ he1 hl1 rfl)))
  have eh:held m.tok=x:=by rw [em,ex]; rfl
  rw [eh]
  unfold atom; rw [ex]; rfl
 rw [if_neg e2]
 by_cases e3:kd (next ts)=.word wTrue
 ·rw [if_pos e3]
  have ex:=(qv (k:=.word wTrue) rfl).mp e3
  refine zf he (by intro z; cases z) e3 fun m em _ he1 hl1=>zD (Zk (hok _ _ _ ?_ he1 hl1 rfl))
  unfold atom; rw [ex]; rfl
 rw [if_neg e3]
 by_cases e4:kd (next ts)=.word wFalse
 ·rw [if_pos e4]
  have ex:=(qv (k:=.word wFalse) rfl).mp e4
  refine zf he (by intro z; cases z) e4 fun m em _ he1 hl1=>zD (Zk (hok _ _ _ ?_ he1 hl1 rfl))
  unfold atom; rw [ex]; rfl
 rw [if_neg e4]
 by_cases e5:kd (next ts)=.word wNone
 ·rw [if_pos e5]
  have ex:=(qv (k:=.word wNone) rfl).mp e5
  refine zf he (by intro z; cases z) e5 fun m em _ he1 hl1=>zD (Zk (hok _ _ _ ?_ he1 hl1 rfl))
  unfold atom; rw [ex]; rfl
 rw [if_neg e5]
 by_cases e6:kd (next ts)=.quote
 ·rw [if_pos e6]
  have ex:=(qv (k:=.quote) rfl).mp e6
  have ev:atom sub ts=also (fun l=>.node .text [] l) (pieces sub ((ts.drop 1).length+1) (ts.drop 1)):=by unfold atom; rw [ex]
  rw [ev] at hok hx
  refine zf he (by intro z; cases z) e6 fun m em _ he1 hl1=>zD ?_
  refine qhN hs _ _ _ _ _ _ he1 (Nat.lt_succ_self _) (fun l ts2 pv2 el he2 hl2 gl=>zV (hok _ _ _ (by rw [el]; rfl) he2 (by omega) (by simp [good,gl]))) fun z ez=>hx z (by rw [ez]; rfl)
 rw [if_neg e6]
 by_cases e7:kd (next ts)=.sign [40]
 ·rw [if_pos e7]
  have ex:=(qv (k:=.sign [40]) rfl).mp e7
  have ev:atom sub ts=closedBy sClose sub (ts.drop 1):=by unfold atom; rw [ex]; rfl
  rw [ev] at hok hx
  refine zf he (by intro z; cases z) e7 fun m em _ he1 hl1=>?_
  exact QS hs he1 rfl (fun a ts2 pv2 ea he2 hl2 ga=>hok _ _ _ ea he2 (by omega) ga) hx
 rw [if_neg e7]
 by_cases e8:kd (next ts)=.sign [91]
 ·rw [if_pos e8]
  have ex:=(qv (k:=.sign [91]) rfl).mp e8
  have ev:atom sub ts=if next (ts.drop 1)=sListClose then .ok (.node .list [] [],(ts.drop 1).drop 1) else also (fun l=>.node .list [] l) (elements sub ((ts.drop 1).length+1) (ts.drop 1)):=by unfold atom; rw [ex]; rfl
  rw [ev] at hok hx
  refine zf he (by intro z; cases z) e8 fun m em _ he1 hl1=>zD (zK he1 ?_)
  simp only [qB]
  by_cases e9:next (ts.drop 1)=sListClose
  ·rw [if_pos ((qv (k:=sListClose) rfl).mpr e9)]
   rw [if_pos e9] at hok
   refine zf he1 (by intro z; cases z) ((qv (k:=sListClose) rfl).mpr e9) fun m2 _ _ he2 hl2=>Zk (hok _ _ _ rfl he2 (by omega) rfl)
  ·rw [if_neg fun z=>e9 ((qv (k:=sListClose) rfl).mp z)]
   rw [if_neg e9] at hok hx
   exact qi3 hs _ _ _ _ _ _ he1 (Nat.lt_succ_self _) (fun l ts2 pv2 el he2 hl2 gl=>zV (hok _ _ _ (by rw [el]; rfl) he2 (by omega) (by simp [good,gl]))) fun z ez=>hx z (by rw [ez]; rfl)
 rw [if_neg e8]
 by_cases e9:kd (next ts)=sBrace
 ·rw [if_pos e9]
  have ex:=(qv (k:=sBrace) rfl).mp e9
  have ev:atom sub ts=fieldsOf .record sub (ts.drop 1):=by unfold atom; rw [ex]; rfl
  rw [ev] at hok hx
  refine zf he (by intro z; cases z) e9 fun m em _ he1 hl1=>?_
  exact qc4 (.inl rfl) hs he1 (fun a ts2 pv2 ea he2 hl2 ga=>hok _ _ _ ea he2 (by omega) ga) hx
 rw [if_neg e9]
 refine qc3 he (by intro z; cases z) (fun m e em _ he1 hl1=>?_) fun e=>hx _ ?_
 ·have ex:=(qv (k:=.word wRec) rfl).mp e
  have ev:atom sub ts=(expect sBrace (ts.drop 1)).bind fun u=>fieldsOf .recur sub u.2:=by unfold atom; rw [ex]; rfl
  rw [ev] at hok hx
  refine ZA he1 rfl (fun m2 e3 he2 hl2=>?_) fun e3=>hx _ (by rw [e3]; rfl)
  rw [e3] at hok hx
  exact qc4 (.inr rfl) hs he2 (fun a ts2 pv2 ea he2 hl2 ga=>hok _ _ _ ea he2 (by omega) ga) hx
 ·unfold atom
  cases ex:next ts with
  | name x=>rw [ex] at e1; exact absurd rfl e1
  | num x=>rw [ex] at e2; exact absurd rfl e2
  | quote=>rw [ex] at e6; exact absurd rfl e6
  | word x=>
   rw [ex] at e3 e4 e5 e
   show (if x=wTrue then _ else if x=wFalse then _ else if x=wNone then _ else if x=wRec then _ else _)=_
   rw [if_neg (by rintro rfl; exact e3 rfl),if_neg (by rintro rfl; exact e4 rfl),if_neg (by rintro rfl; exact e5 rfl),if_neg (by rintro rfl; exact e rfl)]
   rfl
  | sign x=>
   rw [ex] at e7 e8 e9
   show (if x=[40] then _ else if x=[91] then _ else if x=[123] then _ else _)=_
   rw [if_neg (by rintro rfl; exact e7 rfl),if_neg (by rintro rfl; exact e8 rfl),if_neg (by rintro rfl; exact e9 rfl)]
   rfl
  | _=>rfl
theorem qi4 {Q:MS->Prop} {E:Fault->Prop}:∀ (n:Nat) (g:Bg) (ts:Marks) (pv:Mark) (W:List Sym) (B:List Tree) (G:List Bg),Ends ts->ts.length<n ->
  (∀ l ts' pv',path n ts=.ok (l,ts')->Ends ts'->ts'.length<=ts.length->Run Q E ⟨ts',pv',lv,W,B,⟨g.first,g.labels++l,g.names⟩::G⟩) ->
  (∀ y,path n ts=.error y->E y)->Run Q E ⟨ts,pv,lv,.p .MDOTS::W,B,g::G⟩:=by
 intro n
 induction n with
 | zero=>intro g ts pv W B G _ h; exact absurd h (Nat.not_lt_zero _)
 | succ n ih=>
  intro g ts pv W B G he hn hok hx
  refine zK he ?_
  simp only [qB]
  by_cases e1:next ts=sDot
  ·rw [if_pos ((qv (k:=sDot) rfl).mpr e1)]
   have ev:path (n+1) ts=(nameTok (ts.drop 1)).bind fun x=>also (fun l=>x.1::l) (path n x.2):=by
    show (if next ts=sDot then _ else _)=_
    rw [if_pos e1]
   rw [ev] at hok hx
   refine zf he (by intro z; cases z) ((qv (k:=sDot) rfl).mpr e1) fun m em _ he1 hl1=>?_
   refine JB he1 (fun m2 x ex em2 _ he2 hl2=>?_) fun hno=>hx _ (by rw [qaN hno]; rfl)
   rw [qaM ex] at hok hx
   refine jY ?_
   have eh:held m2.tok=x:=by rw [em2]; rfl
   rw [eh]
   refine ih _ _ _ _ _ _ he2 (by omega) (fun l ts3 pv3 el he3 hl3=>?_) fun z ez=>hx z (by show also _ (path n ((ts.drop 1).drop 1))=_; rw [ez]; rfl)
   have:=hok (x::l) ts3 pv3 (by show also _ (path n ((ts.drop 1).drop 1))=_; rw [el]; rfl) he3 (by omega)
   simp only [List.append_assoc,List.singleton_append] at this ⊢
   exact this
  ·rw [if_neg fun z=>e1 ((qv (k:=sDot) rfl).mp z)]
   have ev:path (n+1) ts=.ok ([],ts):=by
    show (if next ts=sDot then _ else _)=_
    rw [if_neg e1]
   have:=hok [] ts pv ev he (Nat.le_refl _)
   rw [List.append_nil] at this
   exact this
theorem qg7 (hs:zh .EXPR lv sub):zh .SEL lv (sel sub):=by
 intro Q E ts pv W B G he hok hx
 refine zK he ?_
 simp only [qB]
 have ev:sel sub ts=(atom sub ts).bind fun a=>(path (a.2.length+1) a.2).bind fun p=>
  if p.1.isEmpty then .ok (a.1,p.2) else if next p.2=sAsk then also (fun d=>.node .get p.1 [a.1,d]) (atom sub (p.2.drop 1)) else .ok (.node .get p.1 [a.1],p.2):=rfl
 rw [ev] at hok hx
 refine qfu hs _ _ _ _ _ _ _ he (fun a ts1 pv1 ea he1 hl1 ga=>?_) fun z ez=>hx z (by rw [ez]; rfl)
 rw [ea] at hok hx
 replace hok:∀ e ts' pv',((path (ts1.length+1) ts1).bind fun p=>
  if p.1.isEmpty then .ok (a,p.2) else if next p.2=sAsk then also (fun d=>.node .get p.1 [a,d]) (atom sub (p.2.drop 1)) else .ok (.node .get p.1 [a],p.2))=.ok (e,ts')->Ends ts'->ts'.length<ts.length->good e=true->Run Q E ⟨ts',pv',lv,W,B++[e],G⟩:=hok
 replace hx:∀ y,((path (ts1.length+1) ts1).bind fun p=>
  if p.1.isEmpty then .ok (a,p.2) else if next p.2=sAsk then also (fun d=>.node .get p.1 [a,d]) (atom sub (p.2.drop 1)) else .ok (.node .get p.1 [a],p.2))=.error y->E y:=hx
 refine zK he1 ?_
 simp only [qB]
 by_cases e1:next ts1=sDot
 ·rw [if_pos ((qv (k:=sDot) rfl).mpr e1)]
  have ev1:path (ts1.length+1) ts1=(nameTok (ts1.drop 1)).bind fun x=>also (fun l=>x.1::l) (path ts1.length x.2):=by
   show (if next ts1=sDot then _ else _)=_
   rw [if_pos e1]
  rw [ev1] at hok hx
  refine zf he1 (by intro z; cases z) ((qv (k:=sDot) rfl).mpr e1) fun m em _ he2 hl2=>ZL ?_
  refine JB he2 (fun m2 x ex em2 _ he3 hl3=>?_) fun hno=>hx _ (by rw [qaN hno]; rfl)
  rw [qaM ex] at hok hx
  refine jY ?_
  have eh:held m2.tok=x:=by rw [em2]; rfl
  rw [eh]
  refine qi4 ts1.length _ _ _ _ _ _ he3 (by omega) (fun l ts4 pv4 el he4 hl4=>?_) fun z ez=>hx z (by show (also _ (path ts1.length ((ts1.drop 1).drop 1))).bind _=_; rw [ez]; rfl)
  have ev2:((Except.ok (x,(ts1.drop 1).drop 1):Except Fault (Text × Marks)).bind fun x=>also (fun l=>x.1::l) (path ts1.length x.2))=.ok (x::l,ts4):=by
   show also _ (path ts1.length ((ts1.drop 1).drop 1))=_
   rw [el]; rfl
  rw [ev2] at hok hx
  replace hok:∀ e ts' pv',(if next ts4=sAsk then also (fun d=>.node .get (x::l) [a,d]) (atom sub (ts4.drop 1)) else .ok (.node .get (x::l) [a],ts4))=.ok (e,ts')->Ends ts'->ts'.length<ts.length->good e=true->Run Q E ⟨ts',pv',lv,W,B++[e],G⟩:=hok
  replace hx:∀ y,(if next ts4=sAsk then also (fun d=>.node .get (x::l) [a,d]) (atom sub (ts4.drop 1)) else (.ok (.node .get (x::l) [a],ts4):Except Fault (Tree × Marks)))=.error y->E y:=hx
  refine zK he4 ?_
  simp only [qB]
  by_cases e2:next ts4=sAsk
  ·rw [if_pos ((qv (k:=sAsk) rfl).mpr e2)]
   rw [if_pos e2] at hok hx
   refine zf he4 (by intro z; cases z) ((qv (k:=sAsk) rfl).mpr e2) fun m5 _ _ he5 hl5=>?_
   refine qfu hs _ _ _ _ _ _ _ he5 (fun d ts6 pv6 ed he6 hl6 gd=>?_) fun z ez=>hx z (by rw [ez]; rfl)
   have e3:B++[a]++[d]=B++[a,d]:=by simp
   rw [e3]
   exact zV (hok _ _ _ (by rw [ed]; rfl) he6 (by omega) (by simp [good,qH,ga,gd]))
  ·rw [if_neg fun z=>e2 ((qv (k:=sAsk) rfl).mp z)]
   rw [if_neg e2] at hok
   exact zV (l:=[a]) (hok _ _ _ rfl he4 (by omega) (by simp [good,qH,ga]))
 ·rw [if_neg fun z=>e1 ((qv (k:=sDot) rfl).mp z)]
  have ev1:path (ts1.length+1) ts1=.ok ([],ts1):=by
   show (if next ts1=sDot then _ else _)=_
   rw [if_neg e1]
  rw [ev1] at hok
  exact hok a ts1 pv1 rfl he1 hl1 ga
theorem qkB (hs:zh .EXPR lv sub):qkA .ARGS lv (arguments sub):=by
 intro n
 induction n with
 | zero=>intro Q E a ts pv W B G _ h; exact absurd h (Nat.not_lt_zero _)
 | succ n ih=>
  intro Q E a ts pv W B G he hn ga hok hx
  refine zK he ?_
  simp only [qB,qi1]
  by_cases e1:begins (next ts)=true
  ·rw [if_pos e1]
   have ev:arguments sub (n+1) a ts=(sel sub ts).bind fun x=>arguments sub n (.node .app [] [a,x.1]) x.2:=by
    show (if begins (next ts)=true then _ else _)=_
    rw [if_pos e1]
   rw [ev] at hok hx
   refine zK he (ZL (qg7 hs _ _ _ _ _ _ _ he (fun b ts2 pv2 eb he2 hl2 gb=>?_) fun z ez=>hx z (by rw [ez]; rfl)))
   rw [eb] at hok hx
   have e3:B++[a]++[b]=B++[a,b]:=by simp
   rw [e3]
   exact zV (ih _ _ _ _ _ _ _ _ he2 (by omega) (by simp [good,qH,ga,gb]) (fun e ts' pv' h1 h2 h3 h4=>hok e ts' pv' h1 h2 (by omega) h4) hx)
  ·rw [if_neg e1]
   refine hok a ts pv ?_ he (Nat.le_refl _) ga
   show (if begins (next ts)=true then _ else _)=_
   rw [if_neg e1]
theorem qlV (hs:zh .EXPR lv sub):zh .APP lv (app sub):=by
 intro Q E ts pv W B G he hok hx
 refine zK he ?_
 simp only [qB]
 have ev:app sub ts=(sel sub ts).bind fun f=>arguments sub (f.2.length+1) f.1 f.2:=rfl
 rw [ev] at hok hx
 refine qg7 hs _ _ _ _ _ _ _ he (fun a ts1 pv1 ea he1 hl1 ga=>?_) fun z ez=>hx z (by rw [ez]; rfl)
 rw [ea] at hok hx
 exact qkB hs _ _ _ _ _ _ _ _ _ he1 (Nat.lt_succ_self _) ga (fun e ts' pv' h1 h2 h3 h4=>hok e ts' pv' h1 h2 (by omega) h4) hx
theorem qg8 (hs:zh .EXPR lv sub):zh .NEG lv (neg sub):=qbu (qlV hs) rfl (fun e h=>by simp [good,qH,h]) fun _=>rfl
theorem qfv (hs:zh .EXPR lv sub):zh .PROD lv (prod sub) :=
 qaL (w:=.MPROD) (qg8 hs) (qaK (qg8 hs) (by simp [z8]) fun k=>by
  by_cases h:k=.sign [42]
  ·subst h; rfl
  ·have h':¬ Tok.sign [42]=k:=fun z=>h z.symm
   simp [qB,h,h']) fun _=>rfl
theorem qlW (hs:zh .EXPR lv sub):zh .SUM lv (sum sub) :=
 qaL (w:=.MSUM) (qfv hs) (qaK (qfv hs) (by simp [z8]) fun k=>by
  by_cases h:k=.sign [43]
  ·subst h; rfl
  ·have h':¬ Tok.sign [43]=k:=fun z=>h z.symm
   by_cases q:k=sMinus
   ·subst q; rfl
   ·have q':¬ Tok.sign [45]=k:=fun z=>q z.symm
    simp [qB,h,h',q,q']) fun _=>rfl
theorem qkC (hs:zh .EXPR lv sub):zh .JOIN lv (join sub):=qeo (w:=.MJOIN) (qlW hs) rfl (fun _=>rfl) fun _=>rfl
theorem qg9 (hs:zh .EXPR lv sub):zh .UPD lv (upd sub):=qeo (w:=.MUPD) (qkC hs) rfl (fun _=>rfl) fun _=>rfl
def qdD (sub:Read Tree) (a:Tree) (ts1:Marks):Except Fault (Tree × Marks):=match compared.find? fun p=>p.1=next ts1 with
 | some p=>also (fun b=>.node (.op p.2) [] [a,b]) (upd sub (ts1.drop 1))
 | none=>if next ts1=.word wHas then also (fun x=>.node .has [x] [a]) (nameTok (ts1.drop 1)) else .ok (a,ts1)
theorem qlX (hs:zh .EXPR lv sub):zh .CMP lv (cmp sub):=by
 intro Q E ts pv W B G he hok hx
 refine zK he ?_
 simp only [qB]
 have ev:cmp sub ts=(upd sub ts).bind fun a=>match compared.find? fun p=>p.1=next a.2 with
  | some p=>also (fun b=>.node (.op p.2) [] [a.1,b]) (upd sub (a.2.drop 1))
  | none=>if next a.2=.word wHas then also (fun x=>.node .has [x] [a.1]) (nameTok (a.2.drop 1)) else .ok a:=rfl
 rw [ev] at hok hx
 refine qg9 hs _ _ _ _ _ _ _ he (fun a ts1 pv1 ea he1 hl1 ga=>?_) fun z ez=>hx z (by rw [ez]; rfl)
 rw [ea] at hok hx
 refine zK he1 ?_
 have hch:qB .MCMP (kd (next ts1))=match compared.find? fun p=>decide (p.1=next ts1) with
   | some p=>[.t p.1,.a .take,.p .UPD,.a (.fin (.op p.2))]
   | none=>if next ts1=.word wHas then [.t (.word wHas),.a .take,.t je,.a .label,.a (.fin .has)] else []:=by
  rw [<- qdB compared (by simp [compared,z8]) (next ts1)]
  have eh:(next ts1=.word wHas)=(kd (next ts1)=.word wHas):=propext (qv (k:=.word wHas) rfl).symm
  simp only [eh]
  generalize kd (next ts1)=k
  by_cases h1:k=.sign [61,61]
  ·subst h1; rfl
  by_cases h2:k=.sign [33,61]
  ·subst h2; rfl
  by_cases h3:k=.sign [60]
  ·subst h3; rfl
  by_cases h4:k=.sign [60,61]
  ·subst h4; rfl
  have h1':¬ Tok.sign [61,61]=k:=fun z=>h1 z.symm
  have h2':¬ Tok.sign [33,61]=k:=fun z=>h2 z.symm
  have h3':¬ Tok.sign [60]=k:=fun z=>h3 z.symm
  have h4':¬ Tok.sign [60,61]=k:=fun z=>h4 z.symm
  simp [qB,compared,h1,h2,h3,h4,h1',h2',h3',h4']
 rw [hch]
 replace hok:∀ e ts' pv',qdD sub a ts1=.ok (e,ts')->Ends ts'->ts'.length<ts.length->good e=true->Run Q E ⟨ts',pv',lv,W,B++[e],G⟩:=hok
 replace hx:∀ y,qdD sub a ts1=.error y->E y:=hx
 unfold qdD at hok hx
 cases ef:compared.find? fun p=>decide (p.1=next ts1) with
 | some p=>
  rw [ef] at hok hx
  have hp:z8 p.1=true:=(show ∀ q∈compared,z8 q.1=true by simp [compared,z8]) p (List.mem_of_find?_eq_some ef)
  have e1:p.1=next ts1:=of_decide_eq_true (List.find?_some (p:=fun p:Tok × Op=>decide (p.1=next ts1)) ef)
  refine zf he1 (Q9 hp) ((qv hp).mpr e1.symm) fun m _ _ he2 hl2=>ZL ?_
  refine qg9 hs _ _ _ _ _ _ _ he2 (fun b ts3 pv3 eb he3 hl3 gb=>?_) fun z ez=>hx z (by show also _ (upd sub (ts1.drop 1))=_; rw [ez]; rfl)
  have e3:B++[a]++[b]=B++[a,b]:=by simp
  rw [e3]
  exact zV (hok _ _ _ (by show also _ (upd sub (ts1.drop 1))=_; rw [eb]; rfl) he3 (by omega) (by simp [good,qH,ga,gb]))
 | none=>
  rw [ef] at hok hx
  by_cases e1:next ts1=.word wHas
  ·rw [if_pos e1] at hok hx
   show Run Q E ⟨ts1,pv1,lv,(if next ts1=.word wHas then [.t (.word wHas),.a .take,.t je,.a .label,.a (.fin .has)] else [])++W,B++[a],G⟩
   rw [if_pos e1]
   refine zf he1 (by intro z; cases z) ((qv (k:=.word wHas) rfl).mpr e1) fun m _ _ he2 hl2=>ZL ?_
   refine JB he2 (fun m2 x ex em2 _ he3 hl3=>?_) fun hno=>hx _ (by rw [qaN hno]; rfl)
   refine jY ?_
   have eh:held m2.tok=x:=by rw [em2]; rfl
   rw [eh]
   exact zV (l:=[a]) (hok _ _ _ (by rw [qaM ex]; rfl) he3 (by omega) (by simp [good,qH,ga]))
  ·rw [if_neg e1] at hok
   show Run Q E ⟨ts1,pv1,lv,(if next ts1=.word wHas then [.t (.word wHas),.a .take,.t je,.a .label,.a (.fin .has)] else [])++W,B++[a],G⟩
   rw [if_neg e1]
   exact hok a ts1 pv1 rfl he1 hl1 ga
theorem qfw (hs:zh .EXPR lv sub):zh .NOT lv (nots sub):=qbu (qlX hs) rfl (fun e h=>by simp [good,qH,h]) fun _=>rfl
theorem qfx (hs:zh .EXPR lv sub):zh .AND lv (ands sub) :=
 qaL (w:=.MAND) (qfw hs) (qaK (qfw hs) (by simp [z8]) fun k=>by
  by_cases h:k=.word wAnd
  ·subst h; rfl
  ·have h':¬ Tok.word wAnd=k:=fun z=>h z.symm
   simp [qB,h,h']) fun _=>rfl
theorem qlY (hs:zh .EXPR lv sub):zh .OR lv (ors sub) :=
 qaL (w:=.MOR) (qfx hs) (qaK (qfx hs) (by simp [z8]) fun k=>by
  by_cases h:k=.word wOr
  ·subst h; rfl
  ·have h':¬ Tok.word wOr=k:=fun z=>h z.symm
   simp [qB,h,h']) fun _=>rfl
end
end RM
end
section
set_option autoImplicit false
namespace RM
open Vastoa
theorem Qr {A B:Type} (x:A) (f:A->Except Fault B):(Except.ok x:Except Fault A).bind f=f x:=rfl
section
variable {lv:Nat} {sub:Read Tree}
def given (sub:Read Tree) (ts:Marks):Except Fault (List Tree × Marks):=if next (ts.drop 1)=sAsk then also (fun e=>[e]) (sub (ts.drop 2)) else .ok ([],ts.drop 1)
def ZB (sub:Read Tree) (n:Nat) (seen:List Text) (x:Text) (d:List Tree × Marks):Except Fault ((List Tree × Bool) × Marks) :=
 if next d.2=sComma then also (fun l=>(.node .param [x] d.1::l.1,l.2)) (params sub n (x::seen) (d.2.drop 1))
 else (expect sUnbrace d.2).bind fun u=>.ok (([.node .param [x] d.1],false),u.2)
theorem qgv {n:Nat} {seen:List Text} {ts:Marks} {x:Text} (ex:next ts=.name x) :
  params sub (n+1) seen ts=if seen.contains x then .error ⟨5,here ts⟩ else (given sub ts).bind (ZB sub n seen x):=by
 show (match next ts with | .name x=>_ | .sign s=>_ | _=>_)=_
 rw [ex]
 rfl
theorem qfy {ts:Marks}:(ts.drop 1).drop 1=ts.drop 2:=by rw [List.drop_drop]
theorem qhO {Q:MS->Prop} {E:Fault->Prop} (hs:zh .EXPR lv sub):∀ (n:Nat) (seen:List Text) (g:Bg) (ts:Marks) (pv:Mark) (W:List Sym) (B:List Tree) (G:List Bg),Ends ts->ts.length<n->Met g seen ->
  (∀ l dots ts' pv' ns,params sub n seen ts=.ok ((l,dots),ts')->Ends ts'->ts'.length<ts.length->qH l=true ->
   Run Q E ⟨ts',pv',lv,.t sColon::.p .EXPR::.a (.fin (if dots then .openFields else .fields))::W,B++l,⟨g.first,g.labels,ns⟩::G⟩) ->
  (∀ y,params sub n seen ts=.error y->E y)->Run Q E ⟨ts,pv,lv,.p .PARAMS::W,B,g::G⟩:=by
 intro n
 induction n with
 | zero=>intro seen g ts pv W B G _ h; exact absurd h (Nat.not_lt_zero _)
 | succ n ih=>
  intro seen g ts pv W B G he hn hm hok hx
  refine zK he ?_
  simp only [qB]
  by_cases e1:kd (next ts)=qe1
  ·rw [if_pos e1]
   have ex:=(qv (k:=qe1) rfl).mp e1
   have ev:params sub (n+1) seen ts=(expect sUnbrace (ts.drop 1)).bind fun u=>.ok (([],true),u.2):=by
    show (match next ts with | .name x=>_ | .sign s=>_ | _=>_)=_
    rw [ex]; rfl
   rw [ev] at hok hx
   refine zf he (by intro z; cases z) e1 fun m _ _ he1 hl1=>?_
   refine ZA he1 rfl (fun m2 e2 he2 hl2=>?_) fun e2=>hx _ (by rw [e2]; rfl)
   have:=hok [] true _ m2 g.names (by rw [e2]; rfl) he2 (by omega) rfl
   rw [List.append_nil] at this
   exact this
  ·rw [if_neg e1]
   refine JB he (fun m x ex em ep he1 hl1=>?_) fun hno=>hx _ ?_
   ·rw [qgv ex] at hok hx
    have eh:held m.tok=x:=by rw [em]; rfl
    refine qem (fun hn1=>?_) fun hn1=>?_
    ·rw [eh] at hn1 ⊢
     have hns:¬ seen.contains x=true:=fun z=>hn1 ((hm x).mpr z)
     rw [if_neg hns] at hok hx
     refine zD (jY ?_)
     rw [eh]
     have rest:∀ (d:List Tree) (ts2:Marks) (pv2:Mark),given sub ts=.ok (d,ts2)->Ends ts2->ts2.length<ts.length->qH d=true->d.length<=1 ->
       Run Q E ⟨ts2,pv2,lv,.a (.fin .param)::.p .MPARAMS::W,B++d,⟨B.length,[]++[x],[]⟩::⟨g.first,g.labels,g.names++[x]⟩::G⟩:=by
      intro d ts2 pv2 ed he2 hl2 gd ld
      rw [ed] at hok hx
      replace hok:∀ l dots ts' pv' ns,ZB sub n seen x (d,ts2)=.ok ((l,dots),ts')->Ends ts'->ts'.length<ts.length->qH l=true ->
       Run Q E ⟨ts',pv',lv,.t sColon::.p .EXPR::.a (.fin (if dots then .openFields else .fields))::W,B++l,⟨g.first,g.labels,ns⟩::G⟩:=hok
      replace hx:∀ y,ZB sub n seen x (d,ts2)=.error y->E y:=hx
      have gp:good (.node .param [x] d)=true:=by
       match d,ld,gd with
       | [],_,_=>rfl
       | [a],_,ga=>simp [qH] at ga; simp [good,qH,ga]
      refine zV (zK he2 ?_)
      simp only [qB]
      by_cases e3:next ts2=sComma
      ·rw [if_pos ((qv (k:=sComma) rfl).mpr e3)]
       have ev:ZB sub n seen x (d,ts2)=also (fun l=>(.node .param [x] d::l.1,l.2)) (params sub n (x::seen) (ts2.drop 1)):=by
        show (if next ts2=sComma then _ else _)=_
        rw [if_pos e3]
       rw [ev] at hok hx
       refine zf he2 (by intro z; cases z) ((qv (k:=sComma) rfl).mpr e3) fun m3 _ _ he3 hl3=>?_
       refine ih (x::seen) _ _ _ _ _ _ he3 (by omega) (hm.more _ _) (fun l dots ts4 pv4 ns el he4 hl4 gl=>?_) fun z ez=>hx z (by rw [ez]; rfl)
       have:=hok (.node .param [x] d::l) dots ts4 pv4 ns (by rw [el]; rfl) he4 (by omega) (by simp [qH,gp,gl])
       rw [List.append_assoc]
       exact this
      ·rw [if_neg fun z=>e3 ((qv (k:=sComma) rfl).mp z)]
       have ev:ZB sub n seen x (d,ts2)=(expect sUnbrace ts2).bind fun u=>.ok (([.node .param [x] d],false),u.2):=by
        show (if next ts2=sComma then _ else _)=_
        rw [if_neg e3]
       rw [ev] at hok hx
       refine ZA he2 rfl (fun m3 e4 he3 hl3=>?_) fun e4=>hx _ (by rw [e4]; rfl)
       exact hok [.node .param [x] d] false _ m3 _ (by rw [e4]; rfl) he3 (by omega) (by simp [qH,gp])
     refine zK he1 ?_
     simp only [qB]
     by_cases e2:next (ts.drop 1)=sAsk
     ·rw [if_pos ((qv (k:=sAsk) rfl).mpr e2)]
      have ev:given sub ts=also (fun e=>[e]) (sub (ts.drop 2)):=by unfold given; rw [if_pos e2]
      refine zf he1 (by intro z; cases z) ((qv (k:=sAsk) rfl).mpr e2) fun m3 _ _ he3 hl3=>?_
      refine hs _ _ _ _ _ _ _ he3 (fun a ts4 pv4 ea he4 hl4 ga=>?_) fun z ez=>hx z ?_
      ·exact rest [a] ts4 pv4 (by rw [ev,<- qfy,ea]; rfl) he4 (by omega) (by simp [qH,ga]) (Nat.le_refl 1)
      ·rw [ev,<- qfy,ez]; rfl
     ·rw [if_neg fun z=>e2 ((qv (k:=sAsk) rfl).mp z)]
      have:=rest [] (ts.drop 1) m (by unfold given; rw [if_neg e2]) he1 hl1 rfl (Nat.zero_le _)
      rw [List.append_nil] at this
      exact this
    ·rw [eh] at hn1
     rw [if_pos ((hm x).mp hn1)] at hx
     rw [ep]
     exact hx _ rfl
   ·show (match next ts with | .name x=>_ | .sign s=>_ | _=>_)=_
    cases ex:next ts with
    | name x=>exact absurd ex (hno x)
    | sign s=>
     rw [ex] at e1
     show (if s=[46,46] then _ else _)=_
     rw [if_neg (by rintro rfl; exact e1 rfl)]
     rfl
    | _=>rfl
def bodyOf (sub:Read Tree) (p:(List Tree × Bool) × Marks):Except Fault (Tree × Marks) :=
 (expect sColon p.2).bind fun v=>also (fun e=>.node (if p.1.2 then .openFields else .fields) [] (p.1.1++[e])) (sub v.2)
theorem qfz {Q:MS->Prop} {E:Fault->Prop} {ts:Marks} {pv:Mark} {W:List Sym} {B:List Tree} {G:List Bg} {l:List Tree} {dots:Bool} {ns:List Text} (hs:zh .EXPR lv sub) (he:Ends ts) (gl:qH l=true)
  (hok:∀ e ts' pv',bodyOf sub ((l,dots),ts)=.ok (e,ts')->Ends ts'->ts'.length<ts.length->good e=true->Run Q E ⟨ts',pv',lv,W,B++[e],G⟩)
  (hx:∀ y,bodyOf sub ((l,dots),ts)=.error y->E y):Run Q E ⟨ts,pv,lv,.t sColon::.p .EXPR::.a (.fin (if dots then .openFields else .fields))::W,B++l,⟨B.length,[],ns⟩::G⟩:=by
 have ev:bodyOf sub ((l,dots),ts)=(expect sColon ts).bind fun v=>also (fun e=>.node (if dots then .openFields else .fields) [] (l++[e])) (sub v.2):=rfl
 rw [ev] at hok hx
 refine ZA he rfl (fun m e1 he1 hl1=>?_) fun e1=>hx _ (by rw [e1]; rfl)
 rw [e1] at hok hx
 refine hs _ _ _ _ _ _ _ he1 (fun a ts2 pv2 ea he2 hl2 ga=>?_) fun z ez=>hx z (by rw [Qr]; dsimp only; rw [ez]; rfl)
 rw [List.append_assoc]
 refine zV (hok _ _ _ (by rw [Qr]; dsimp only; rw [ea]; rfl) he2 (by omega) ?_)
 have gg:qH (l++[a])=true:=by rw [ZK,gl]; simp [qH,ga]
 cases dots <;> simp [good,gg]
theorem qfA (hs:zh .EXPR lv sub):zh .FUNCTION lv (function sub):=by
 intro Q E ts pv W B G he hok hx
 refine zK he ?_
 simp only [qB]
 by_cases e1:kd (next ts)=je
 ·rw [if_pos e1]
  obtain ⟨x,ex⟩:=qb5.mp e1
  have ev:function sub ts=(expect sColon (ts.drop 1)).bind fun u=>also (fun e=>.node .fn [x] [e]) (sub u.2):=by unfold function; rw [ex]
  rw [ev] at hok hx
  refine zf he (by intro z; cases z) e1 fun m em _ he1 hl1=>zD (jY ?_)
  have eh:held m.tok=x:=by rw [em,ex]; rfl
  rw [eh]
  refine ZA he1 rfl (fun m2 e2 he2 hl2=>?_) fun e2=>hx _ (by rw [e2]; rfl)
  rw [e2] at hok hx
  refine hs _ _ _ _ _ _ _ he2 (fun a ts3 pv3 ea he3 hl3 ga=>?_) fun z ez=>hx z (by rw [Qr]; dsimp only; rw [ez]; rfl)
  exact zV (l:=[a]) (hok _ _ _ (by rw [Qr]; dsimp only; rw [ea]; rfl) he3 (by omega) (by simp [good,qH,ga]))
 ·rw [if_neg e1]
  have ev:function sub ts=(expect sBrace ts).bind fun u=>
   (if next u.2=sUnbrace then .ok (([],false),u.2.drop 1) else params sub (u.2.length+1) [] u.2).bind (bodyOf sub):=by
   unfold function
   cases ex:next ts with
   | name x=>exact absurd ex (qcB e1 x)
   | _=>rfl
  rw [ev] at hok hx
  refine ZA he rfl (fun m e2 he1 hl1=>?_) fun e2=>hx _ (by rw [e2]; rfl)
  rw [e2] at hok hx
  replace hok:∀ e ts' pv',((if next (ts.drop 1)=sUnbrace then .ok (([],false),(ts.drop 1).drop 1) else params sub ((ts.drop 1).length+1) [] (ts.drop 1)).bind (bodyOf sub))=.ok (e,ts')->Ends ts'->ts'.length<ts.length->good e=true->Run Q E ⟨ts',pv',lv,W,B++[e],G⟩:=hok
  replace hx:∀ y,((if next (ts.drop 1)=sUnbrace then .ok (([],false),(ts.drop 1).drop 1) else params sub ((ts.drop 1).length+1) [] (ts.drop 1)).bind (bodyOf sub))=.error y->E y:=hx
  refine zD (zK he1 ?_)
  simp only [qB]
  by_cases e3:next (ts.drop 1)=sUnbrace
  ·rw [if_pos ((qv (k:=sUnbrace) rfl).mpr e3)]
   rw [if_pos e3] at hok hx
   refine zf he1 (by intro z; cases z) ((qv (k:=sUnbrace) rfl).mpr e3) fun m3 _ _ he3 hl3=>?_
   have:=qfz (Q:=Q) (E:=E) (B:=B) (G:=G) (W:=W) (pv:=m3) (l:=[]) (dots:=false) (ns:=[]) hs he3 rfl (fun e ts' pv' h1 h2 h3 h4=>hok e ts' pv' h1 h2 (by omega) h4) hx
   rw [List.append_nil] at this
   exact this
  ·rw [if_neg fun z=>e3 ((qv (k:=sUnbrace) rfl).mp z)]
   rw [if_neg e3] at hok hx
   refine qhO hs _ [] _ _ _ _ _ _ he1 (Nat.lt_succ_self _) (fun x=>by simp) (fun l dots ts4 pv4 ns el he4 hl4 gl=>?_) fun z ez=>hx z (by rw [ez]; rfl)
   rw [el] at hok hx
   exact qfz hs he4 gl (fun e ts' pv' h1 h2 h3 h4=>hok e ts' pv' h1 h2 (by omega) h4) hx
theorem qkD (hs:zh .EXPR lv sub):zh .FORM lv (expr sub):=by
 intro Q E ts pv W B G he hok hx
 refine zK he ?_
 simp only [qB]
 by_cases e1:kd (next ts)=.word wFn
 ·rw [if_pos e1]
  have ex:=(qv (k:=.word wFn) rfl).mp e1
  have ev:expr sub ts=function sub (ts.drop 1):=by unfold expr; rw [if_pos ex]
  rw [ev] at hok hx
  refine zf he (by intro z; cases z) e1 fun m _ _ he1 hl1=>?_
  exact qfA hs _ _ _ _ _ _ _ he1 (fun e ts' pv' h1 h2 h3 h4=>hok e ts' pv' h1 h2 (by omega) h4) hx
 rw [if_neg e1]
 have n1:¬ next ts=.word wFn:=fun z=>e1 ((qv (k:=.word wFn) rfl).mpr z)
 by_cases e2:kd (next ts)=.word wLet
 ·rw [if_pos e2]
  have ex:=(qv (k:=.word wLet) rfl).mp e2
  have ev:expr sub ts=letRest sub (ts.drop 1):=by unfold expr; rw [if_neg n1,if_pos ex]
  rw [ev] at hok hx
  refine zf he (by intro z; cases z) e2 fun m _ _ he1 hl1=>zD ?_
  generalize hr:ts.drop 1=r at he1 hl1 hok hx
  have ev2:letRest sub r=(binds sub (r.length+1) [] r).bind fun l=>
   if l.1.isEmpty then wrong l.2 else (expect (.word wIn) l.2).bind fun u=>also (fun e=>.node .letIn (l.1.map fun x=>x.1) ((l.1.map fun x=>x.2)++[e])) (sub u.2):=rfl
  rw [ev2] at hok hx
  by_cases e3:∃ x,next r=.name x
  ·refine qer (n:=r.length) hs (qes hs _) [] ⟨B.length,[],[]⟩ r m (.t (.word wIn)::.p .EXPR::.a (.fin .letIn)::W) B G he1 (Nat.lt_succ_self _) (fun x=>by simp) (fun _=>e3) (fun l ts2 pv2 ns el he2 hl2 gl ne=>?_) fun z ez=>hx z (by rw [ez]; rfl)
   rw [el] at hok hx
   have hne:¬ l.isEmpty=true:=fun z=>ne (by intro q; cases q) (List.isEmpty_iff.mp z)
   replace hok:∀ e ts' pv',(if l.isEmpty then wrong ts2 else (expect (.word wIn) ts2).bind fun u=>also (fun e=>.node .letIn (l.map fun x=>x.1) ((l.map fun x=>x.2)++[e])) (sub u.2))=.ok (e,ts')->Ends ts'->ts'.length<ts.length->good e=true->Run Q E ⟨ts',pv',lv,W,B++[e],G⟩:=hok
   replace hx:∀ y,(if l.isEmpty then wrong ts2 else (expect (.word wIn) ts2).bind fun u=>also (fun e=>Tree.node .letIn (l.map fun x=>x.1) ((l.map fun x=>x.2)++[e])) (sub u.2))=.error y->E y:=hx
   rw [if_neg hne] at hok hx
   refine ZA he2 rfl (fun m3 e4 he3 hl3=>?_) fun e4=>hx _ (by rw [e4]; rfl)
   rw [e4] at hok hx
   refine hs _ _ _ _ _ _ _ he3 (fun a ts4 pv4 ea he4 hl4 ga=>?_) fun z ez=>hx z (by rw [Qr]; dsimp only; rw [ez]; rfl)
   rw [List.append_assoc]
   refine zV (hok _ _ _ (by rw [Qr]; dsimp only; rw [ea]; rfl) he4 (by omega) ?_)
   have gg:qH ((l.map fun x=>x.2)++[a])=true:=by rw [ZK,gl]; simp [qH,ga]
   simp [good,gg]
  ·have hno:∀ x,next r≠.name x:=fun x z=>e3 ⟨x,z⟩
   refine JB he1 (fun m2 x ex2 _ _ _ _=>absurd ex2 (hno x)) fun _=>hx _ ?_
   have ev3:binds sub (r.length+1) [] r=.ok ([],r):=by
    show (match next r with | .name x=>_ | _=>_)=_
    cases ex2:next r with
    | name x=>exact absurd ex2 (hno x)
    | _=>rfl
   rw [ev3]
   rfl
 rw [if_neg e2]
 have n2:¬ next ts=.word wLet:=fun z=>e2 ((qv (k:=.word wLet) rfl).mpr z)
 by_cases e3:kd (next ts)=.word wIf
 ·rw [if_pos e3]
  have ex:=(qv (k:=.word wIf) rfl).mp e3
  have ev:expr sub ts=(closedBy (.word wThen) sub (ts.drop 1)).bind fun a=>(closedBy (.word wElse) sub a.2).bind fun b=>also (fun c=>.node .cond [] [a.1,b.1,c]) (sub b.2):=by
   unfold expr; rw [if_neg n1,if_neg n2,if_pos ex]
  rw [ev] at hok hx
  refine zf he (by intro z; cases z) e3 fun m _ _ he1 hl1=>zD ?_
  refine QS hs he1 rfl (fun a ts2 pv2 ea he2 hl2 ga=>?_) fun z ez=>hx z (by rw [ez]; rfl)
  rw [ea] at hok hx
  refine QS hs he2 rfl (fun b ts3 pv3 eb he3 hl3 gb=>?_) fun z ez=>hx z (by show (closedBy (.word wElse) sub ts2).bind _=_; rw [ez]; rfl)
  refine hs _ _ _ _ _ _ _ he3 (fun c ts4 pv4 ec he4 hl4 gc=>?_) fun z ez=>hx z ?_
  ·have e4:B++[a]++[b]++[c]=B++[a,b,c]:=by simp
   rw [e4]
   refine zV (hok _ _ _ ?_ he4 (by omega) (by simp [good,qH,ga,gb,gc]))
   show (closedBy (.word wElse) sub ts2).bind _=_
   rw [eb]
   rw [Qr]; dsimp only
   rw [ec]; rfl
  ·show (closedBy (.word wElse) sub ts2).bind _=_
   rw [eb]
   rw [Qr]; dsimp only
   rw [ez]; rfl
 rw [if_neg e3]
 have n3:¬ next ts=.word wIf:=fun z=>e3 ((qv (k:=.word wIf) rfl).mpr z)
 by_cases e4:kd (next ts)=.word wMust
 ·rw [if_pos e4]
  have ex:=(qv (k:=.word wMust) rfl).mp e4
  have ev:expr sub ts=(closedBy sSemi sub (ts.drop 1)).bind fun a=>also (fun b=>.node .must [] [a.1,b]) (sub a.2):=by
   unfold expr; rw [if_neg n1,if_neg n2,if_neg n3,if_pos ex]
  rw [ev] at hok hx
  refine zf he (by intro z; cases z) e4 fun m _ _ he1 hl1=>zD ?_
  refine QS hs he1 rfl (fun a ts2 pv2 ea he2 hl2 ga=>?_) fun z ez=>hx z (by rw [ez]; rfl)
  rw [ea] at hok hx
  refine hs _ _ _ _ _ _ _ he2 (fun b ts3 pv3 eb he3 hl3 gb=>?_) fun z ez=>hx z (by rw [Qr]; dsimp only; rw [ez]; rfl)
  have e5:B++[a]++[b]=B++[a,b]:=by simp
  rw [e5]
  exact zV (hok _ _ _ (by rw [Qr]; dsimp only; rw [eb]; rfl) he3 (by omega) (by simp [good,qH,ga,gb]))
 rw [if_neg e4]
 have n4:¬ next ts=.word wMust:=fun z=>e4 ((qv (k:=.word wMust) rfl).mpr z)
 have ev:expr sub ts=ors sub ts:=by unfold expr; rw [if_neg n1,if_neg n2,if_neg n3,if_neg n4]
 rw [ev] at hok hx
 exact qlY hs _ _ _ _ _ _ _ he hok hx
end
theorem qet:∀ (n lv:Nat),lv+n=40->zh .EXPR lv (level n)
 | 0,lv,h=>by
  intro Q E ts pv W B G he hok hx
  refine zK he (qen he (fun z=>absurd (by omega) z) fun _=>hx _ rfl)
 | n+1,lv,h=>by
  intro Q E ts pv W B G he hok hx
  have hs:=qet n (lv+1) (by omega)
  refine zK he (qen he (fun _=>?_) fun z=>absurd z (by omega))
  have ev:level (n+1) ts=expr (level n) ts:=rfl
  rw [ev] at hok hx
  exact qkD hs _ _ _ _ _ _ _ he (fun e ts' pv' h1 h2 h3 h4=>qi2 (hok e ts' pv' h1 h2 h3 h4)) hx
theorem machine {Q:MS->Prop} {E:Fault->Prop} {ts:Marks} {pv:Mark} (he:Ends ts)
  (hok:∀ e u pv',(level DEEP ts).bind (fun e=>(expect .fin e.2).bind fun _=>.ok e.1)=.ok e->good e=true->Q ⟨u,pv',0,[],[e],[]⟩)
  (hx:∀ y,(level DEEP ts).bind (fun e=>(expect .fin e.2).bind fun _=>.ok e.1)=.error y->E y):Run Q E ⟨ts,pv,0,[.p .EXPR,.t .fin],[],[]⟩:=by
 refine qet 40 0 rfl _ _ _ _ _ _ _ he (fun e ts' pv' h1 h2 h3 h4=>?_) fun z ez=>hx z (by show (level 40 ts).bind _=_; rw [ez]; rfl)
 obtain ⟨m,r,rfl,he',hf⟩:=h2.cons
 by_cases e1:kd m.tok=.fin
 ·have e2:m.tok=.fin:=qi0.mp e1
  refine .next (s':=⟨r,m,0,[],[]++[e],[]⟩) ?_ (.done (hok e r m ?_ h4))
  ·show (if kd m.tok=.fin then _ else _)=_
   rw [if_pos e1]
  ·show (level 40 ts).bind _=_
   rw [h1]
   show (expect .fin (m::r)).bind _=_
   rw [qep (show next (m::r)=.fin from e2)]
   rfl
 ·have e2:¬ m.tok=.fin:=fun z=>e1 (qi0.mpr z)
  refine .fail (x:=⟨3,m.place⟩) ?_ (hx _ ?_)
  ·show (if kd m.tok=.fin then _ else _)=_
   rw [if_neg e1]
  ·show (level 40 ts).bind _=_
   rw [h1]
   show (expect .fin (m::r)).bind _=_
   rw [qeq (show next (m::r)≠.fin from e2)]
   rfl
end RM
end
section
set_option autoImplicit false
namespace CM
open Vastoa
structure Here (txt:Text) (n:Nat) (lit:Bool) (O:List Bool) (i:Nat) (T:Marks):Prop where
 le:i<=txt.length
 fuel:txt.length<n+i
 eq:tokens txt=(cut n lit O i (txt.drop i)).map (T ++ ·)
theorem start (txt:Text):Here txt (txt.length+1) false [] 0 []:=⟨Nat.zero_le _,by omega,by
 unfold tokens
 rw [List.drop_zero]
 cases cut (txt.length+1) false [] 0 txt <;> rfl⟩
theorem jt {T:Marks} {i:Nat} {t:Tok} {r:Except Fault Marks}:(before i t r).map (T ++ ·)=r.map ((T++[⟨i,t⟩]) ++ ·):=by
 cases r with
 | error f=>rfl
 | ok l=>show Except.ok (T++⟨i,t⟩::l)=Except.ok (T++[⟨i,t⟩]++l); simp
theorem zo {txt:Text} {i c:Nat} (h:txt[i]? = some c):txt.drop i=c::txt.drop (i+1):=by
 obtain ⟨hi,rfl⟩:=List.getElem?_eq_some_iff.mp h
 exact List.drop_eq_getElem_cons hi
theorem qcC {txt:Text} {i:Nat} (h:txt[i]? = none):txt.drop i=[]:=List.drop_eq_nil_of_le (List.getElem?_eq_none_iff.mp h)
theorem Zf {txt:Text} {i c:Nat} (h:txt[i]? = some c):i<txt.length:=(List.getElem?_eq_some_iff.mp h).1
section
variable {txt:Text} {n i c:Nat} {O:List Bool} {T:Marks}
theorem Here.pos {lit:Bool} (h:Here txt n lit O i T):∃ m,n=m+1:=⟨n - 1,by have:=h.fuel; have:=h.le; omega⟩
theorem qmZ (h:Here txt n false O i T) (e:txt[i]? = none):tokens txt=.ok (T++[⟨i,.fin⟩]):=by
 obtain ⟨m,rfl⟩:=h.pos
 rw [h.eq,qcC e]
 rfl
theorem qkE (h:Here txt n false O i T) (e:txt[i]? = some c) (hb:blank c=true):Here txt (n - 1) false O (i+1) T:=by
 obtain ⟨m,rfl⟩:=h.pos
 have hi:=Zf e
 refine ⟨hi,by have:=h.fuel; omega,?_⟩
 rw [h.eq,zo e]
 show (if blank c then _ else _:Except Fault Marks).map _=_
 rw [if_pos hb]
 rfl
theorem qa8 {p:Nat->Bool}:∀ (l:Text) (k:Nat),k<=l.length->(∀ j,j<k->∃ x,l[j]? = some x/\p x=true)->(∀ x,l[k]? = some x->p x=false)->l.takeWhile p=l.take k
 | [],k,h,_,_=>by
  have:k=0:=(by simpa using h); subst this; rfl
 | a::l,0,_,_,h2=>by
  have:=h2 a rfl
  simp [List.takeWhile_cons,this]
 | a::l,k+1,h,h1,h2=>by
  obtain ⟨x,ex,px⟩:=h1 0 (Nat.succ_pos _)
  cases ex
  rw [List.takeWhile_cons,if_pos px,List.take_succ_cons]
  rw [qa8 l k (by simpa using h) (fun j hj=>h1 (j+1) (by omega)) fun x hx=>h2 x hx]
theorem qfB {p:Nat->Bool} {k:Nat} (hk:i+k<=txt.length) (h1:∀ j,j<k->∃ x,txt[i+j]? = some x/\p x=true) (h2:∀ x,txt[i+k]? = some x->p x=false):(txt.drop i).takeWhile p=(txt.drop i).take k :=
 qa8 _ k (by rw [List.length_drop]; omega) (fun j hj=>by rw [List.getElem?_drop]; exact h1 j hj) fun x hx=>h2 x (by rw [List.getElem?_drop] at hx; exact hx)
theorem qdE {k:Nat} (hk:i+k<=txt.length):((txt.drop i).take k).length=k:=by rw [List.length_take,List.length_drop]; omega
theorem qhP {k:Nat} (h:Here txt n false O i T) (e:txt[i]? = some 35) (hk:i+k<=txt.length) (h0:0<k) (h1:∀ j,j<k->∃ x,txt[i+j]? = some x/\x≠10) (h2:∀ x,txt[i+k]? = some x->x=10) :
  Here txt (n - 1) false O (i+k) T:=by
 obtain ⟨m,rfl⟩:=h.pos
 have hr:=qfB (p:=fun y=>y != 10) hk (fun j hj=>by obtain ⟨x,a,b⟩:=h1 j hj; exact ⟨x,a,by simpa using b⟩) fun x hx=>by have:=h2 x hx; subst this; rfl
 refine ⟨hk,by have:=h.fuel; omega,?_⟩
 rw [h.eq]
 have ed:=zo e
 have ev:cut (m+1) false O i (txt.drop i)=cut m false O (i+((txt.drop i).takeWhile fun y=>y != 10).length) ((txt.drop i).drop ((txt.drop i).takeWhile fun y=>y != 10).length):=by
  rw [ed]; rfl
 rw [ev,hr,qdE hk,List.drop_drop]
 rfl
theorem qi5 {c:Nat} (h:letter c=true):blank c=false/\c≠35:=by
 unfold letter at h; unfold blank
 simp at h ⊢
 omega
theorem qlZ {k:Nat} (h:Here txt n false O i T) (e:txt[i]? = some c) (hl:letter c=true) (hk:i+k<=txt.length) (h0:0<k) (h1:∀ j,j<k->∃ x,txt[i+j]? = some x/\inner x=true) (h2:∀ x,txt[i+k]? = some x->inner x=false) :
  (32<k->tokens txt=.error ⟨2,i⟩)/\(k<=32->Here txt (n - 1) false O (i+k) (T++[⟨i,if reserved.contains ((txt.drop i).take k) then .word ((txt.drop i).take k) else .name ((txt.drop i).take k)⟩])):=by
 obtain ⟨m,rfl⟩:=h.pos
 have hr:=qfB hk h1 h2
 have ed:=zo e
 obtain ⟨l1,l2⟩:=qi5 hl
 have ev:cut (m+1) false O i (txt.drop i)=if 32<((txt.drop i).takeWhile inner).length then .error ⟨2,i⟩
   else before i (if reserved.contains ((txt.drop i).takeWhile inner) then .word ((txt.drop i).takeWhile inner) else .name ((txt.drop i).takeWhile inner))
    (cut m false O (i+((txt.drop i).takeWhile inner).length) ((txt.drop i).drop ((txt.drop i).takeWhile inner).length)):=by
  rw [ed]
  show (if blank c then _ else if c=35 then _ else if letter c then _ else _)=_
  rw [if_neg (by rw [l1]; decide),if_neg l2,if_pos hl]
 rw [hr,qdE hk,List.drop_drop] at ev
 constructor
 ·intro hb
  rw [h.eq,ev,if_pos hb]
  rfl
 ·intro hb
  refine ⟨hk,by have:=h.fuel; omega,?_⟩
  rw [h.eq,ev,if_neg (by omega),jt]
  rfl
theorem qkF {c:Nat} (h:digit c=true):blank c=false/\c≠35/\letter c=false:=by
 unfold digit at h; unfold blank letter
 simp at h ⊢
 omega
theorem qi6 {k:Nat} (h:Here txt n false O i T) (e:txt[i]? = some c) (hl:digit c=true) (hk:i+k<=txt.length) (h0:0<k) (h1:∀ j,j<k->∃ x,txt[i+j]? = some x/\digit x=true) (h2:∀ x,txt[i+k]? = some x->digit x=false) :
  ((30<k \/ (c=48/\1<k))->tokens txt=.error ⟨2,i⟩)/\(¬ (30<k \/ (c=48/\1<k))->Here txt (n - 1) false O (i+k) (T++[⟨i,.num ((txt.drop i).take k)⟩])):=by
 obtain ⟨m,rfl⟩:=h.pos
 have hr:=qfB hk h1 h2
 have ed:=zo e
 obtain ⟨l1,l2,l3⟩:=qkF hl
 have ev:cut (m+1) false O i (txt.drop i)=if 30<((txt.drop i).takeWhile digit).length \/ (c=48/\1<((txt.drop i).takeWhile digit).length) then .error ⟨2,i⟩
   else before i (.num ((txt.drop i).takeWhile digit))
    (cut m false O (i+((txt.drop i).takeWhile digit).length) ((txt.drop i).drop ((txt.drop i).takeWhile digit).length)):=by
  rw [ed]
  show (if blank c then _ else if c=35 then _ else if letter c then _ else if digit c then _ else _)=_
  rw [if_neg (by rw [l1]; decide),if_neg l2,if_neg (by rw [l3]; decide),if_pos hl]
 rw [hr,qdE hk,List.drop_drop] at ev
 constructor
 ·intro hb
  rw [h.eq,ev,if_pos hb]
  rfl
 ·intro hb
  refine ⟨hk,by have:=h.fuel; omega,?_⟩
  rw [h.eq,ev,if_neg hb,jt]
  rfl
theorem qkG (h:Here txt n false O i T) (e:txt[i]? = some 34):Here txt (n - 1) true O (i+1) (T++[⟨i,.quote⟩]):=by
 obtain ⟨m,rfl⟩:=h.pos
 refine ⟨Zf e,by have:=h.fuel; omega,?_⟩
 rw [h.eq,zo e]
 show (before i .quote (cut m true O (i+1) (txt.drop (i+1)))).map _=_
 rw [jt]
 rfl
theorem qkH (h:Here txt n false O i T) (e:txt[i]? = some 123):Here txt (n - 1) false (false::O) (i+1) (T++[⟨i,.sign [123]⟩]):=by
 obtain ⟨m,rfl⟩:=h.pos
 refine ⟨Zf e,by have:=h.fuel; omega,?_⟩
 rw [h.eq,zo e]
 show (before i (.sign [123]) (cut m false (false::O) (i+1) (txt.drop (i+1)))).map _=_
 rw [jt]
 rfl
theorem qi7 {O':List Bool} (h:Here txt n false (true::O') i T) (e:txt[i]? = some 125):Here txt (n - 1) true O' (i+1) (T++[⟨i,.unhole⟩]):=by
 obtain ⟨m,rfl⟩:=h.pos
 refine ⟨Zf e,by have:=h.fuel; omega,?_⟩
 rw [h.eq,zo e]
 show (before i .unhole (cut m true O' (i+1) (txt.drop (i+1)))).map _=_
 rw [jt]
 rfl
theorem qhQ (h:Here txt n false O i T) (e:txt[i]? = some 125) (hO:O.head? ≠ some true):Here txt (n - 1) false (O.drop 1) (i+1) (T++[⟨i,.sign [125]⟩]):=by
 obtain ⟨m,rfl⟩:=h.pos
 refine ⟨Zf e,by have:=h.fuel; omega,?_⟩
 rw [h.eq,zo e]
 show (if O.head? = some true then _ else before i (.sign [125]) (cut m false (O.drop 1) (i+1) (txt.drop (i+1)))).map _=_
 rw [if_neg hO,jt]
 rfl
def other (c:Nat):Bool:=!(blank c)&&c != 35 && !(letter c) && !(digit c)&&c != 34&&c != 123&&c != 125
theorem qc5 {b x:Text} (h:signAt b=some x):x=b.take x.length/\0<x.length/\x.length<=b.length:=by
 unfold signAt at h
 split at h
 ·rename_i hs
  cases h
  have:(b.take 2)∈signs2:=List.contains_iff_mem.mp hs
  have l2:(b.take 2).length=2:=by
   simp only [signs2,List.mem_cons,List.not_mem_nil,or_false] at this
   rcases this with e | e | e | e | e | e <;> rw [e] <;> rfl
  have hb:2<=b.length:=by rw [List.length_take] at l2; omega
  exact ⟨by rw [l2],by omega,by omega⟩
 ·split at h
  ·rename_i hs
   cases h
   have:(b.take 1)∈signs1:=List.contains_iff_mem.mp hs
   have l2:(b.take 1).length=1:=by
    simp only [signs1,List.mem_cons,List.not_mem_nil,or_false] at this
    rcases this with e | e | e | e | e | e | e | e | e | e | e | e | e | e <;> rw [e] <;> rfl
   have hb:1<=b.length:=by rw [List.length_take] at l2; omega
   exact ⟨by rw [l2],by omega,by omega⟩
  ·cases h
theorem ql0 (h:Here txt n false O i T) (e:txt[i]? = some c) (ho:other c=true) :
  (signAt (txt.drop i)=none->tokens txt=.error ⟨2,i⟩)/\∀ x,signAt (txt.drop i)=some x->Here txt (n - 1) false O (i+x.length) (T++[⟨i,.sign x⟩]):=by
 obtain ⟨m,rfl⟩:=h.pos
 have ed:=zo e
 have ev:cut (m+1) false O i (txt.drop i)=match signAt (txt.drop i) with
   | some x=>before i (.sign x) (cut m false O (i+x.length) ((txt.drop i).drop x.length))
   | none=>.error ⟨2,i⟩:=by
  rw [ed]
  unfold other at ho
  simp at ho
  obtain ⟨⟨⟨⟨⟨⟨o1,o2⟩,o3⟩,o4⟩,o5⟩,o6⟩,o7⟩:=ho
  show (if blank c then _ else if c=35 then _ else if letter c then _ else if digit c then _ else if c=34 then _ else if c=123 then _ else if c=125 then _ else _)=_
  rw [if_neg (by rw [o1]; decide),if_neg o2,if_neg (by rw [o3]; decide),if_neg (by rw [o4]; decide),if_neg o5,if_neg o6,if_neg o7]
  cases signAt (c::txt.drop (i+1)) <;> rfl
 constructor
 ·intro hs
  rw [h.eq,ev,hs]
  rfl
 ·intro x hs
  obtain ⟨hx,h0,hl⟩:=qc5 hs
  have hl':i+x.length<=txt.length:=by rw [List.length_drop] at hl; have:=Zf e; omega
  refine ⟨hl',by have:=h.fuel; omega,?_⟩
  rw [h.eq,ev,hs]
  show (before i (.sign x) (cut m false O (i+x.length) ((txt.drop i).drop x.length))).map _=_
  rw [jt,List.drop_drop]
  rfl
def qcD (txt:Text) (i:Nat) (g:Text) (j:Nat):Prop:=j<=txt.length/\gather i (txt.drop i)=(gather j (txt.drop j)).map fun y=>(g++y.1,y.2.1,y.2.2)
theorem qhR (h:i<=txt.length):qcD txt i [] i:=⟨h,by cases gather i (txt.drop i) <;> rfl⟩
theorem qi8 {i j j' x:Nat} {g:Text} (h:qcD txt i g j) (hj:j'<=txt.length) (e:gather j (txt.drop j)=(gather j' (txt.drop j')).map fun y=>(x::y.1,y.2.1,y.2.2)):qcD txt i (g++[x]) j':=by
 refine ⟨hj,?_⟩
 rw [h.2,e]
 cases gather j' (txt.drop j') with
 | error f=>rfl
 | ok y=>show Except.ok _=Except.ok _; simp
theorem qfC {i j:Nat} {g:Text} {f:Fault} (h:qcD txt i g j) (e:gather j (txt.drop j)=.error f):gather i (txt.drop i)=.error f:=by rw [h.2,e]; rfl
theorem qeu {i j:Nat} {g r:Text} (h:qcD txt i g j) (e:gather j (txt.drop j)=.ok ([],j,r)):gather i (txt.drop i)=.ok (g,j,r):=by
 rw [h.2,e]
 show Except.ok _=Except.ok _
 simp
theorem qhS {j:Nat} (e:txt[j]? = none):gather j (txt.drop j)=.error ⟨2,j⟩:=by rw [qcC e]; rfl
theorem qeO {j c x:Nat} (e:txt[j]? = some 92) (e2:txt[j+1]? = some c) (u:unescape c=some x):gather j (txt.drop j)=(gather (j+2) (txt.drop (j+2))).map fun y=>(x::y.1,y.2.1,y.2.2):=by
 rw [zo e,zo e2]
 show (match unescape c with | some x=>_ | none=>_)=_
 rw [u]
theorem qfD {j c:Nat} (e:txt[j]? = some 92) (e2:txt[j+1]? = some c) (u:unescape c=none):gather j (txt.drop j)=.error ⟨2,j⟩:=by
 rw [zo e,zo e2]
 show (match unescape c with | some x=>_ | none=>_)=_
 rw [u]
theorem qgw {j:Nat} (e:txt[j]? = some 92) (e2:txt[j+1]? = none):gather j (txt.drop j)=.error ⟨2,j⟩:=by
 rw [zo e,qcC e2]
 rfl
theorem qbv (j c:Nat) (r:Text) (h:c≠92):gather j (c::r)=if c=34 \/ (c=36/\r.head? = some 123) then .ok ([],j,c::r)
  else if c<32/\c≠9/\c≠10 then .error ⟨2,j⟩ else (gather (j+1) r).map fun y=>(c::y.1,y.2.1,y.2.2):=by
 rw [gather]
 ·intro e; exact absurd e h
 ·intro d r' e; exact absurd e h
theorem qaO {j c:Nat} (e:txt[j]? = some c) (h:c≠92):gather j (txt.drop j)=if c=34 \/ (c=36/\txt[j+1]? = some 123) then .ok ([],j,txt.drop j)
  else if c<32/\c≠9/\c≠10 then .error ⟨2,j⟩ else (gather (j+1) (txt.drop (j+1))).map fun y=>(c::y.1,y.2.1,y.2.2):=by
 have hh:(txt.drop (j+1)).head? = txt[j+1]?:=by rw [List.head?_drop]
 rw [zo e,qbv _ _ _ h,hh]
def Jk (m:Nat) (O:List Bool) (j:Nat) (r:Text):Except Fault Marks:=match r with
 | 36::_::r=>before j .hole (cut m false (true::O) (j+2) r)
 | r=>before j .unquote (cut m false O (j+1) (r.drop 1))
theorem qfE {m:Nat} (g:Text) (j:Nat) (r:Text) (e:gather i (txt.drop i)=.ok (g,j,r)):cut (m+1) true O i (txt.drop i) =
  if g.isEmpty then Jk m O j r else before i (.piece g) (Jk m O j r):=by
 show (gather i (txt.drop i)).bind _=_
 rw [e]
 rfl
def pieceOf (i:Nat) (g:Text):Marks:=if g.isEmpty then [] else [⟨i,.piece g⟩]
theorem qev {g:Text} {r:Except Fault Marks}:(if g.isEmpty then r else before i (.piece g) r).map (T ++ ·)=r.map ((T++pieceOf i g) ++ ·):=by
 unfold pieceOf
 by_cases h:g.isEmpty=true
 ·rw [if_pos h,if_pos h,List.append_nil]
 ·rw [if_neg h,if_neg h,jt]
theorem qha {f:Fault} (h:Here txt n true O i T) (e:gather i (txt.drop i)=.error f):tokens txt=.error f:=by
 obtain ⟨m,rfl⟩:=h.pos
 rw [h.eq]
 show ((gather i (txt.drop i)).bind _).map _=_
 rw [e]
 rfl
theorem qi9 {j:Nat} {g:Text} (h:Here txt n true O i T) (hj:i<=j) (e:gather i (txt.drop i)=.ok (g,j,txt.drop j)) (e2:txt[j]? = some 34):Here txt (n - 1) false O (j+1) (T++pieceOf i g++[⟨j,.unquote⟩]):=by
 obtain ⟨m,rfl⟩:=h.pos
 refine ⟨Zf e2,by have:=h.fuel; omega,?_⟩
 rw [h.eq,qfE g j _ e,zo e2]
 show (if g.isEmpty then before j .unquote (cut m false O (j+1) (txt.drop (j+1))) else before i (.piece g) (before j .unquote (cut m false O (j+1) (txt.drop (j+1))))).map _=_
 rw [qev,jt]
 rfl
theorem qkI {j:Nat} {g:Text} (h:Here txt n true O i T) (hj:i<=j) (e:gather i (txt.drop i)=.ok (g,j,txt.drop j)) (e2:txt[j]? = some 36) (e3:txt[j+1]? = some 123):Here txt (n - 1) false (true::O) (j+2) (T++pieceOf i g++[⟨j,.hole⟩]):=by
 obtain ⟨m,rfl⟩:=h.pos
 refine ⟨Zf e3,by have:=h.fuel; omega,?_⟩
 rw [h.eq,qfE g j _ e,zo e2,zo e3]
 show (if g.isEmpty then before j .hole (cut m false (true::O) (j+2) (txt.drop (j+1+1))) else before i (.piece g) (before j .hole (cut m false (true::O) (j+2) (txt.drop (j+1+1))))).map _=_
 rw [qev,jt]
 rfl
end
def ZT:Tok->Bool
 | .word x=>reserved.contains x
 | .sign x=>([[123],[125]]++signs2++signs1).contains x
 | _=>true
def qbw (r:Except Fault Marks):Prop:=∀ l,r=.ok l->RM.Ends l/\∀ m∈l,ZT m.tok=true
theorem qbw.before {i:Nat} {t:Tok} {r:Except Fault Marks} (h:qbw r) (ht:ZT t=true) (hf:t≠.fin):qbw (Vastoa.before i t r):=by
 intro l e
 cases r with
 | error f=>cases e
 | ok l'=>
  cases e
  obtain ⟨⟨pre,q,rfl,hp⟩,h2⟩:=h l' rfl
  refine ⟨⟨⟨i,t⟩::pre,q,rfl,fun m hm=>?_⟩,fun m hm=>?_⟩
  ·rcases List.mem_cons.mp hm with rfl | hm
   ·exact hf
   ·exact hp m hm
  ·rcases List.mem_cons.mp hm with rfl | hm
   ·exact ht
   ·exact h2 m hm
theorem ZC (f:Fault):qbw (.error f):=fun l e=>by cases e
theorem qja {b x:Text} (h:signAt b=some x):ZT (.sign x)=true:=by
 unfold signAt at h
 unfold ZT
 split at h
 ·rename_i hs
  cases h
  have:=List.contains_iff_mem.mp hs
  exact List.contains_iff_mem.mpr (by simp only [List.mem_append]; exact .inl (.inr this))
 ·split at h
  ·rename_i hs
   cases h
   have:=List.contains_iff_mem.mp hs
   exact List.contains_iff_mem.mpr (by simp only [List.mem_append]; exact .inr this)
  ·cases h
theorem jA:∀ (n:Nat) (lit:Bool) (O:List Bool) (i:Nat) (b:Text),qbw (cut n lit O i b)
 | 0,_,_,i,_=>ZC _
 | n+1,true,O,i,b=>by
  show qbw ((gather i b).bind _)
  cases gather i b with
  | error f=>exact ZC f
  | ok g=>
   obtain ⟨g,j,r⟩:=g
   have hr:qbw (match r with
    | 36::_::r=>before j .hole (cut n false (true::O) (j+2) r)
    | r=>before j .unquote (cut n false O (j+1) (r.drop 1))):=by
    split
    ·exact (jA n false _ _ _).before rfl (by intro z; cases z)
    ·exact (jA n false _ _ _).before rfl (by intro z; cases z)
   show qbw (if g.isEmpty then _ else _)
   split
   ·exact hr
   ·exact hr.before rfl (by intro z; cases z)
 | n+1,false,O,i,[]=>fun l e=>by
  cases e
  exact ⟨⟨[],i,rfl,fun m hm=>by cases hm⟩,fun m hm=>by simp at hm; subst hm; rfl⟩
 | n+1,false,O,i,c::r=>by
  unfold cut
  split
  ·exact jA n false _ _ _
  split
  ·exact jA n false _ _ _
  split
  ·dsimp only
   split
   ·exact ZC _
   ·refine (jA n false _ _ _).before ?_ ?_
    ·split
     ·rename_i h; exact h
     ·rfl
    ·split <;> (intro z; cases z)
  split
  ·dsimp only
   split
   ·exact ZC _
   ·exact (jA n false _ _ _).before rfl (by intro z; cases z)
  split
  ·exact (jA n true _ _ _).before rfl (by intro z; cases z)
  split
  ·exact (jA n false _ _ _).before (by decide) (by intro z; cases z)
  split
  ·split
   ·exact (jA n true _ _ _).before rfl (by intro z; cases z)
   ·exact (jA n false _ _ _).before (by decide) (by intro z; cases z)
  split
  ·rename_i x hx
   exact (jA n false _ _ _).before (qja hx) (by intro z; cases z)
  ·exact ZC _
theorem qgx {b:Text} {ts:Marks} (h:tokens b=.ok ts):RM.Ends ts/\∀ m∈ts,ZT m.tok=true:=jA _ _ _ _ _ _ h
end CM
end
section
set_option autoImplicit false
namespace RM
open Vastoa
mutual
def tw:Tree->Nat
 | .node _ ls l=>1+ls.length+j8 l
def j8:List Tree->Nat
 | []=>0
 | t::r=>tw t+j8 r
end
mutual
def lw:Tree->Nat
 | .node _ ls l=>(ls.map List.length).sum+QL l
def QL:List Tree->Nat
 | []=>0
 | t::r=>lw t+QL r
end
theorem J0:∀ a b:List Tree,j8 (a++b)=j8 a+j8 b
 | [],b=>by simp [j8]
 | t::r,b=>by simp only [List.cons_append,j8,J0 r b]; omega
theorem J1:∀ a b:List Tree,QL (a++b)=QL a+QL b
 | [],b=>by simp [QL]
 | t::r,b=>by simp only [List.cons_append,QL,J1 r b]; omega
theorem qfF:∀ l:List Tree,l.length<=j8 l
 | []=>Nat.le_refl _
 | .node k ls l::r=>by have:=qfF r; simp only [List.length_cons,j8,tw]; omega
theorem qhT (B:List Tree) (n:Nat):j8 (B.take n)+j8 (B.drop n)=j8 B:=by rw [<- J0,List.take_append_drop]
theorem qhU (B:List Tree) (n:Nat):QL (B.take n)+QL (B.drop n)=QL B:=by rw [<- J1,List.take_append_drop]
def pw:Part->Nat
 | .EXPR=>12 | .FORM=>10 | .FUNCTION=>1 | .FIELDS=>1 | .PARAMS=>1 | .GIVEN=>1 | .MPARAMS=>1 | .BINDS=>1 | .BOUND=>16 | .OR=>10 | .MOR=>1 | .AND=>9 | .MAND=>1 | .NOT=>8 | .CMP=>8 | .MCMP=>1
 | .UPD=>7 | .MUPD=>1 | .JOIN=>6 | .MJOIN=>1 | .SUM=>5 | .MSUM=>1 | .PROD=>4 | .MPROD=>1 | .NEG=>3 | .APP=>3 | .ARGS=>1 | .ARG=>4 | .SEL=>2 | .DOTS=>1 | .MDOTS=>1 | .DFLT=>1 | .ATOM=>1
 | .PIECES=>1 | .LIST=>14 | .MLIST=>1
def sw:Sym->Nat
 | .p x=>pw x
 | _=>1
def ww:List Sym->Nat
 | []=>0
 | s::r=>sw s+ww r
theorem qew:∀ a b:List Sym,ww (a++b)=ww a+ww b
 | [],b=>by simp [ww]
 | s::a,b=>by simp only [List.cons_append,ww,qew a b]; omega
def ZD:List Sym->Nat
 | .t _::_=>2
 | .p .ARG::_=>1
 | .p .SEL::_=>1
 | .p .ATOM::_=>1
 | .a .take::.p .SEL::_=>1
 | _=>0
def gw:List Bg->Nat
 | []=>0
 | g::r=>1+g.labels.length+g.names.length+gw r
def glw:List Bg->Nat
 | []=>0
 | g::r=>(g.labels.map List.length).sum+glw r
def hw:Marks->Nat
 | []=>0
 | m::r=>(held m.tok).length+hw r
def jl:Bool->List Sym->Bool
 | _,[]=>true
 | _,.t _::W=>jl true W
 | f,.a .label::W=>f&&jl false W
 | f,.a _::W=>jl f W
 | f,.p .BOUND::W=>f&&jl false W
 | _,.p _::W=>jl false W
theorem qbx:∀ (W:List Sym),jl false W=true->jl true W=true
 | [],_=>rfl
 | .t _::W,h=>h
 | .a x::W,h=>by
  cases x with
  | label=>simp [jl] at h
  | _=>simp only [jl] at h ⊢; exact qbx W h
 | .p x::W,h=>by cases x <;> simp [jl] at h ⊢ <;> exact h
theorem qkJ {f:Bool} {W:List Sym} (h:jl false W=true):jl f W=true:=by
 cases f with
 | false=>exact h
 | true=>exact qbx W h
theorem QM:∀ (f:Bool) (C W:List Sym),jl f C=true->jl false W=true->jl f (C++W)=true
 | f,[],W,_,h=>qkJ h
 | f,.t _::C,W,h,hW=>by simp only [jl,List.cons_append] at h ⊢; exact QM true C W h hW
 | f,.a x::C,W,h,hW=>by
  cases x with
  | label=>simp only [jl,List.cons_append,Bool.and_eq_true] at h ⊢; exact ⟨h.1,QM false C W h.2 hW⟩
  | _=>simp only [jl,List.cons_append] at h ⊢; exact QM f C W h hW
 | f,.p x::C,W,h,hW=>by
  cases x with
  | BOUND=>simp only [jl,List.cons_append,Bool.and_eq_true] at h ⊢; exact ⟨h.1,QM false C W h.2 hW⟩
  | _=>simp only [jl,List.cons_append] at h ⊢; exact QM false C W h hW
theorem qgy (x:Part) (k:Tok):jl (decide (x=.BOUND)) (qB x k)=true:=by
 cases x <;> simp only [qB] <;> (repeat' split) <;> rfl
structure Fits (n c:Nat) (s:MS):Prop where
 size:ww s.W+j8 s.B+gw s.G+32 * s.ts.length<=32 * n+13+16 * ZD s.W
 lab:∃ f,jl f s.W=true/\QL s.B+glw s.G+hw s.ts+(if f then (held s.pv.tok).length else 0)<=c
theorem qgz (x:Part) (k:Tok) (W:List Sym):ww (qB x k)+16 * ZD (.p x::W)<=pw x+16 * ZD (qB x k++W):=by
 cases x <;> simp only [qB] <;> (repeat' split) <;> simp [ww,sw,pw,ZD]
theorem qlj:∀ W:List Sym,W.length<=ww W
 | []=>Nat.le_refl _
 | s::r=>by
  have:=qlj r
  have h1:1<=sw s:=by
   cases s with
   | p x=>cases x <;> simp [sw,pw]
   | t k=>exact Nat.le_refl _
   | a x=>exact Nat.le_refl _
  simp only [List.length_cons,ww]
  omega
theorem qhb (W:List Sym):ZD W<=2:=by unfold ZD; split <;> omega
theorem qjb {f:Bool} {x:Part} {k:Tok} {W:List Sym} (h:jl f (.p x::W)=true):jl f (qB x k++W)=true:=by
 have hc:=qgy x k
 by_cases hx:x=.BOUND
 ·subst hx
  simp only [jl,Bool.and_eq_true] at h
  obtain ⟨rfl,h⟩:=h
  exact QM true _ W hc h
 ·rw [decide_eq_false hx] at hc
  have hW:jl false W=true:=by
   cases x <;> first | exact absurd rfl hx | (simp only [jl] at h; exact h)
  cases f with
  | false=>exact QM false _ W hc hW
  | true=>exact qbx _ (QM false _ W hc hW)
theorem Fits.step {n c:Nat} {s s':MS} (h:Fits n c s) (e:step s=some (.ok s')):Fits n c s':=by
 obtain ⟨ts,pv,lv,W,B,G⟩:=s
 obtain ⟨h,f,hl,hc⟩:=h
 dsimp only at h hl hc
 cases W with
 | nil=>cases e
 | cons y W=>
  cases y with
  | p x=>
   cases ts with
   | nil=>cases e
   | cons m r=>
    cases e
    have c1:=qgz x (kd m.tok) W
    have w1:ww (.p x::W)=pw x+ww W:=rfl
    refine ⟨?_,f,qjb hl,hc⟩
    dsimp only
    rw [qew]
    omega
  | t k=>
   cases ts with
   | nil=>cases e
   | cons m r=>
    have e:(if kd m.tok=k then some (.ok ⟨r,m,lv,W,B,G⟩) else some (.error ⟨3,m.place⟩):Option (Except Fault MS))=some (Except.ok s'):=e
    split at e
    ·cases e
     have w1:ww (.t k::W)=1+ww W:=rfl
     have o1:ZD (.t k::W)=2:=rfl
     refine ⟨?_,true,hl,?_⟩
     ·dsimp only
      rw [List.length_cons] at h
      omega
     ·simp only [hw] at hc
      simp only [if_true]
      split at hc <;> omega
    ·cases e
  | a x=>
   have w1:ww (.a x::W)=1+ww W:=rfl
   have o1:ZD (.a x::W)<=ZD W:=by
    cases x with
    | take=>
     cases W with
     | nil=>exact Nat.le_refl _
     | cons z W=>
      cases z with
      | p q=>cases q <;> simp [ZD]
      | t q=>simp [ZD]
      | a q=>simp [ZD]
    | _=>simp [ZD]
   have e:qaJ x ts pv lv W B G=some (.ok s'):=e
   cases x with
   | begin=>cases e; refine ⟨?_,f,hl,?_⟩ <;> dsimp only [gw,glw] <;> simp only [List.length_nil,List.map_nil,List.sum_nil] <;> omega
   | take=>
    have e:(if B.length=0 then none else some (.ok ⟨ts,pv,lv,W,B,⟨B.length - 1,[],[]⟩::G⟩):Option (Except Fault MS))=some (Except.ok s'):=e
    split at e
    ·cases e
    ·cases e; refine ⟨?_,f,hl,?_⟩ <;> dsimp only [gw,glw] <;> simp only [List.length_nil,List.map_nil,List.sum_nil] <;> omega
   | label=>
    cases G with
    | nil=>cases e
    | cons g G=>
     cases e
     simp only [jl,Bool.and_eq_true] at hl
     obtain ⟨rfl,hl⟩:=hl
     refine ⟨?_,false,hl,?_⟩
     ·dsimp only [gw] at h ⊢; simp only [List.length_append,List.length_cons,List.length_nil]; omega
     ·dsimp only [glw] at hc ⊢
      simp only [List.map_append,List.map_cons,List.map_nil,List.sum_append,List.sum_cons,List.sum_nil,if_true] at hc ⊢
      simp only [Bool.false_eq_true,if_false]
      omega
   | fresh=>
    cases G with
    | nil=>cases e
    | cons g G=>
     have e:(if held pv.tok∈g.names then some (.error ⟨5,pv.place⟩) else some (.ok ⟨ts,pv,lv,W,B,⟨g.first,g.labels,g.names++[held pv.tok]⟩::G⟩):Option (Except Fault MS))=some (Except.ok s'):=e
     split at e
     ·cases e
     ·cases e; refine ⟨?_,f,hl,hc⟩; dsimp only [gw] at h ⊢; simp only [List.length_append,List.length_cons,List.length_nil]; omega
   | enter=>
    cases ts with
    | nil=>cases e
    | cons m r=>
     have e:(if lv=40 then some (.error ⟨4,m.place⟩) else some (.ok ⟨m::r,pv,lv+1,W,B,G⟩):Option (Except Fault MS))=some (Except.ok s'):=e
     split at e
     ·cases e
     ·cases e; refine ⟨?_,f,hl,hc⟩; dsimp only; omega
   | leave=>
    have e:(if lv=0 then none else some (.ok ⟨ts,pv,lv - 1,W,B,G⟩):Option (Except Fault MS))=some (Except.ok s'):=e
    split at e
    ·cases e
    ·cases e; refine ⟨?_,f,hl,hc⟩; dsimp only; omega
   | fin k=>
    cases G with
    | nil=>cases e
    | cons g G=>
     have e:(if g.first<=B.length then some (.ok ⟨ts,pv,lv,W,B.take g.first++[.node k g.labels (B.drop g.first)],G⟩) else none:Option (Except Fault MS))=some (Except.ok s'):=e
     split at e
     ·cases e
      have s1:=qhT B g.first
      have s2:=qhU B g.first
      refine ⟨?_,f,hl,?_⟩
      ·dsimp only [gw] at h ⊢
       rw [J0]
       simp only [j8,tw]
       omega
      ·dsimp only [glw] at hc ⊢
       rw [J1]
       simp only [QL,lw]
       omega
     ·cases e
theorem Fits.small {n c:Nat} {s:MS} (h:Fits n c s) (hn:n<=5000):s.W.length<=200000/\s.B.length<=200000/\gw s.G<=200000:=by
 have h0:=h.size
 have h1:=qlj s.W
 have h2:=qhb s.W
 have h3:=qfF s.B
 omega
theorem Fits.tree {n c:Nat} {s:MS} (h:Fits n c s) (hn:n<=5000):j8 s.B<=200000/\QL s.B<=c:=by
 have h0:=h.size
 have h2:=qhb s.W
 obtain ⟨f,_,h3⟩:=h.lab
 constructor <;> omega
theorem qjc:∀ G:List Bg,G.length<=gw G
 | []=>Nat.le_refl _
 | g::r=>by have:=qjc r; simp only [List.length_cons,gw]; omega
theorem qfG:∀ {G:List Bg} {g:Bg},g∈G->g.labels.length+g.names.length<=gw G
 | g'::r,g,h=>by
  rcases List.mem_cons.mp h with rfl | h
  ·simp only [gw]; omega
  ·have:=qfG h; simp only [gw]; omega
theorem qhV (ts:Marks) (pv:Mark):Fits ts.length (hw ts) ⟨ts,pv,0,[.p .EXPR,.t .fin],[],[]⟩:=by
 refine ⟨?_,false,rfl,?_⟩
 ·simp [ww,sw,pw,gw,ZD,j8]; omega
 ·simp [QL,glw]
end RM
end
section
set_option autoImplicit false
namespace CM
open Vastoa
def Holds (n:Nat) (r:Except Fault Marks):Prop:=∀ l,r=.ok l->RM.hw l<=n
theorem Holds.before {i n m:Nat} {t:Tok} {r:Except Fault Marks} (h:Holds n r) (ht:(RM.held t).length+n<=m):Holds m (Vastoa.before i t r):=by
 intro l e
 cases r with
 | error f=>cases e
 | ok l'=>
  cases e
  have:=h l' rfl
  show (RM.held t).length+RM.hw l'<=m
  omega
theorem Holds.le {n m:Nat} {r:Except Fault Marks} (h:Holds n r) (hm:n<=m):Holds m r:=fun l e=>Nat.le_trans (h l e) hm
theorem qjd:∀ (b:Text) (i:Nat) (g:Text) (j:Nat) (r:Text),gather i b=.ok (g,j,r)->g.length+r.length<=b.length:=by
 intro b
 induction hb:b.length using Nat.strongRecOn generalizing b with
 | ind n ih=>
  intro i g j r e
  subst hb
  match b,e with
  | [],e=>cases e
  | c::b',e=>
   by_cases h92:c=92
   ·subst h92
    match b',e with
    | [],e=>cases e
    | d::b2,e=>
     have e:(match unescape d with
      | some x=>(gather (i+2) b2).map fun y=>(x::y.1,y.2.1,y.2.2)
      | none=>.error ⟨2,i⟩:Except Fault (Text × Nat × Text))=.ok (g,j,r):=e
     cases hu:unescape d with
     | none=>rw [hu] at e; cases e
     | some x=>
      rw [hu] at e
      cases hg:gather (i+2) b2 with
      | error f=>rw [hg] at e; cases e
      | ok y=>
       rw [hg] at e
       cases e
       have:=ih b2.length (by simp; omega) b2 rfl (i+2) y.1 y.2.1 y.2.2 hg
       simp; omega
   ·rw [qbv i c b' h92] at e
    split at e
    ·cases e; simp
    ·split at e
     ·cases e
     ·cases hg:gather (i+1) b' with
      | error f=>rw [hg] at e; cases e
      | ok y=>
       rw [hg] at e
       cases e
       have:=ih b'.length (by simp) b' rfl (i+1) y.1 y.2.1 y.2.2 hg
       simp; omega
theorem qby (p:Nat->Bool) (b:Text):(b.takeWhile p).length<=b.length:=by
 induction b with
 | nil=>exact Nat.le_refl _
 | cons c b ih=>rw [List.takeWhile_cons]; split <;> simp <;> omega
theorem jB:∀ (n:Nat) (lit:Bool) (O:List Bool) (i:Nat) (b:Text),Holds b.length (cut n lit O i b)
 | 0,_,_,_,_=>fun l e=>by cases e
 | n+1,true,O,i,b=>by
  show Holds _ ((gather i b).bind _)
  cases hg:gather i b with
  | error f=>exact fun l e=>by cases e
  | ok g=>
   obtain ⟨g,j,r⟩:=g
   have hl:=qjd b i g j r hg
   have hr:Holds r.length (Jk n O j r):=by
    unfold Jk
    split
    ·exact (jB n false _ _ _).before (by simp [RM.held]; omega)
    ·exact (jB n false _ _ _).before (by simp [RM.held])
   show Holds b.length (if g.isEmpty then Jk n O j r else Vastoa.before i (.piece g) (Jk n O j r))
   split
   ·exact hr.le (by omega)
   ·exact hr.before (t:=.piece g) (by show g.length+r.length<=_; omega)
 | n+1,false,O,i,[]=>fun l e=>by cases e; exact Nat.le_refl _
 | n+1,false,O,i,c::r=>by
  unfold cut
  split
  ·exact (jB n false _ _ _).le (by simp)
  split
  ·exact (jB n false _ _ _).le (by rw [List.length_drop]; omega)
  split
  ·dsimp only
   split
   ·exact fun l e=>by cases e
   ·refine (jB n false _ _ _).before ?_
    have:=qby inner (c::r)
    rw [List.length_drop]
    split <;> (show ((c::r).takeWhile inner).length+_<=_; omega)
  split
  ·dsimp only
   split
   ·exact fun l e=>by cases e
   ·refine (jB n false _ _ _).before ?_
    have:=qby digit (c::r)
    rw [List.length_drop]
    show ((c::r).takeWhile digit).length+_<=_
    omega
  split
  ·exact (jB n true _ _ _).before (by simp [RM.held])
  split
  ·exact (jB n false _ _ _).before (by simp [RM.held])
  split
  ·split
   ·exact (jB n true _ _ _).before (by simp [RM.held])
   ·exact (jB n false _ _ _).before (by simp [RM.held])
  split
  ·exact (jB n false _ _ _).before (by rw [List.length_drop]; show 0+_<=_; omega)
  ·exact fun l e=>by cases e
theorem qgA {b:Text} {ts:Marks} (h:tokens b=.ok ts):RM.hw ts<=b.length:=jB _ _ _ _ _ _ h
end CM
end
section
namespace L2
open PySem PySem.Spec PyProof.Rows
section
variable (P:Program) (w:World) (K:PySem.W.Frag) (mg:Str->Option Value) (base:Heap) (CX:CXT) (k:Nat)
def FnAt (x:Str) (ps:List Str) (sp:Sp):Prop:=∃ f fd,mg x=some (.ref f)/\qy P w K mg base CX k f fd ps sp/\PySem.W.keepIn K (.ref f)=true/\Binds K fd ps []
def jf (C:Addr) (m:Str) (ps:List Str) (sp:Sp):Prop:=∃ f fd,qhD K C m f/\qy P w K mg base CX k f fd ps sp/\Binds K fd ps []
def qcE (C:Addr) (x:Str) (ps:List Str) (sp:Sp):Prop:=∃ f fd,mg x=some (.ref C)/\Mk K C f/\qy P w K mg base CX k f fd ps sp/\Binds K fd ps []
def Zg (C:Addr) (x:Str) (ps:List Str) (sp:Sp):Prop:=∃ f fd,mg x=some (.ref C)/\XMk K C f/\qy P w K mg base CX0 k f fd ps sp/\Binds K fd ps []
end
section
variable {X:Cx} {CX:CXT} {k:Nat} {C:Addr} {ps:List Str} {sp:Sp} {E:XK} {x m:Str} {p pos apos:Pos} {e o:Expr} {es:List Expr} {ta:TE} {t:TA}
theorem za (G:FnAt X.prog X.w X.K X.mg X.base CX k x ps sp) (hr:qO k X.A) (hx:jW CX X E) (ha:PA X (e::es) t) (hg:Gl X x:=by rfl)
  (hdb:(x == ("__debug__" : Str))=false:=by decide) (he:starEach (e::es) X.env=(false,eval e X.env)::starEach es X.env:=by rfl) (hpl:(backTo pos (starEach es X.env)).any (·.1)=false:=by rfl) :
  PE X (.Call (.Name x p) (e::es) [] pos) (qaC sp [] E t):=by
 obtain ⟨f,fd,h1,h2,h3,h4⟩:=G
 exact qlF h2 hr hg h1 h3 h4 .nil hx ha hdb he hpl
theorem zi {pl:Sem Bool} (G:jf X.prog X.w X.K X.mg X.base CX k C m ps sp) (c:Cls X.K C) (hr:qO k X.A) (hx:jW CX X E) (he:PE X o ta) (ha:PA X (e::es) t)
  (hst:starEach (e::es) X.env=(false,eval e X.env)::starEach es X.env:=by rfl) (hpl:(backTo pos (starEach es X.env)).any (·.1)=false:=by rfl)
  (ht:eval (.Call (.Attribute o m apos) (e::es) [] pos) X.env=(do
   let ov <- eval o X.env
   standAt apos.atName
   let (f,first) <- holding [ov] (getMethod ov m pl)
   callWith pos f first (backTo pos (starEach (e::es) X.env)) (backToKw pos (keywordEach [] X.env))):=by rfl) :
  PE X (.Call (.Attribute o m apos) (e::es) [] pos) (qcV C m sp [] E ta t):=by
 obtain ⟨f,fd,h1,h2,h3⟩:=G
 exact qlG he c h1 h2 hr h3 .nil hx ha hst hpl ht
theorem jk {pl:Sem Bool} (G:jf X.prog X.w X.K X.mg X.base CX k C m ps sp) (c:Cls X.K C) (hr:qO k X.A) (hx:jW CX X E) (he:PE X o ta)
  (ht:eval (.Call (.Attribute o m apos) [] [] pos) X.env=(do
   let ov <- eval o X.env
   standAt apos.atName
   let (f,first) <- holding [ov] (getMethod ov m pl)
   callWith pos f first (backTo pos (starEach [] X.env)) (backToKw pos (keywordEach [] X.env))):=by rfl) :
  PE X (.Call (.Attribute o m apos) [] [] pos) (qcV C m sp [] E ta QE):=by
 obtain ⟨f,fd,h1,h2,h3⟩:=G
 exact qkg he c h1 h2 hr h3 .nil hx ht
theorem Zl (G:qcE X.prog X.w X.K X.mg X.base CX k C x ps sp) (hr:qO (k+1) X.A) (hx:jW CX X E) (ha:PA X (e::es) t) (hg:Gl X x:=by rfl)
  (hdb:(x == ("__debug__" : Str))=false:=by decide) (he:starEach (e::es) X.env=(false,eval e X.env)::starEach es X.env:=by rfl) (hpl:(backTo pos (starEach es X.env)).any (·.1)=false:=by rfl) :
  PE X (.Call (.Name x p) (e::es) [] pos) (qlc C sp [] E t):=by
 obtain ⟨f,fd,h1,h2,h3,h4⟩:=G
 exact qlH h2 h3 hr hg h1 h4 .nil hx ha hdb he hpl
def GlV (mg:Str->Option Value) (x:Str) (v:V):Prop:=∃ u,mg x=some u/\RelV v u
theorem qN {v:V} (h:GlV X.mg x v) (hg:Gl X x:=by rfl) (hd:(x == ("__debug__" : Str))=false:=by decide):PE X (.Name x pos) (tC v):=by
 obtain ⟨u,h1,h2⟩:=h
 exact qlA hg h1 h2 hd
end
section
variable {P:Program} {w:World} {K:PySem.W.Frag} {mg:Str->Option Value} {base:Heap} {N:List Str} {qual:Str} {scope:Scope} {f:Addr} {cd:Value} {A:Around} {outer:List Env} {s0:Shared} {H0:Hp} {E:XK}
variable {k:Nat} {C:Addr} {ps:List Str} {sp:Sp} {x:Str} {np cpos pos:Pos} {es:List Expr} {t:TA}
theorem jZ {e:Expr} (G:Zg P w K mg base k C x ps sp) (hr:qO (k+1) (zc (CXR P w) P w K mg base N qual scope f cd A outer s0 H0 E).A)
  (ha:PA (zc (CXR P w) P w K mg base N qual scope f cd A outer s0 H0 E) (e::es) t) (hg:Gl (zc (CXR P w) P w K mg base N qual scope f cd A outer s0 H0 E) x:=by rfl)
  (hdb:(x == ("__debug__" : Str))=false:=by decide)
  (he:starEach (e::es) (zc (CXR P w) P w K mg base N qual scope f cd A outer s0 H0 E).env=(false,eval e (zc (CXR P w) P w K mg base N qual scope f cd A outer s0 H0 E).env)::starEach es (zc (CXR P w) P w K mg base N qual scope f cd A outer s0 H0 E).env:=by rfl)
  (hpl:(backTo cpos (starEach es (zc (CXR P w) P w K mg base N qual scope f cd A outer s0 H0 E).env)).any (·.1)=false:=by rfl) :
  PS (zc (CXR P w) P w K mg base N qual scope f cd A outer s0 H0 E) (.Raise (some (.Call (.Name x np) (e::es) [] cpos)) none pos) (qbt C sp E t):=by
 obtain ⟨g,fd,h1,h2,h3,h4⟩:=G
 exact qkw h2 h3 hr h4 hg h1 ha hdb he hpl
theorem qc6 (G:Zg P w K mg base k C x ps sp) (hr:qO (k+1) (zc (CXR P w) P w K mg base N qual scope f cd A outer s0 H0 E).A)
  (hg:Gl (zc (CXR P w) P w K mg base N qual scope f cd A outer s0 H0 E) x:=by rfl) (hdb:(x == ("__debug__" : Str))=false:=by decide) :
  PS (zc (CXR P w) P w K mg base N qual scope f cd A outer s0 H0 E) (.Raise (some (.Call (.Name x np) [] [] cpos)) none pos) (qbt C sp E QE):=by
 obtain ⟨g,fd,h1,h2,h3,h4⟩:=G
 exact qiW h2 h3 hr h4 hg h1 hdb
theorem Fun.okR {y qual:Str} {st:Stmt} {f:Addr} {fd:FuncData} {N ps:List Str} {k:Nat} {sp:Sp} (F:Fun K y qual st f fd) (S:qm N ps (qe st)) (len:∀ vs H Q E,sp vs H Q E->vs.length=ps.length)
  (hbody:∀ (cdv:Value) (A:Around) (outer:List Env) (s:Shared) (H:Hp) (vs:List V) (Q:VK) (E:XK),qO k (A.deeper (envOfC qual (qe st) s.heap.objs.size f cdv))->sp vs H Q E ->
   ∃ t,PSs (zc (CXR P w) P w K mg base N qual (qe st) f cdv A outer s H E) (qk st) t/\t { nx:=fun _ H'=>Q .non H',rt:=Q } (start N vs) H):qy P w K mg base (CXR P w) (k+1) f fd ps sp:=by
 obtain ⟨oc,od,kV,doc,pm,an,cdv,ct,osl,rfl,lk,hcd⟩:=F.ex
 exact qld lk hcd S len fun A outer s H vs Q E hr hsp=>hbody cdv A outer s H vs Q E hr hsp
end
end L2
end
section
namespace L2
open PySem PySem.Spec PyProof.Rows
def qaP (K:PySem.W.Frag) (a:Addr) (xs:List V):Prop:=∃ (o:Obj) (its:Array Value) (n:Nat),K.lookup a=some o/\o.cls=.type "tuple" /\ o.data=.seq its n/\its.size<=sizeLine/\qD xs its.toList
theorem qaP.sq {K:PySem.W.Frag} {a:Addr} {xs:List V} (h:qaP K a xs) (H:Hp):SqT K H a xs:=.inr h
def QG (P:Program) (w:World) (K:PySem.W.Frag) (a:Addr) (kvs:List (Key × V)):Prop:=(a == sysModules)=false/\∃ vs,KV kvs vs/\∀ h,K.In h->h.DictOf (zU P w) a vs
section
variable {X:Cx} {pins:List (Addr × Obj)} {σ : St} {H:Hp} {s:Shared} {a:Addr} {y v:V} {u r:Value} {o:Option V} {A:Around} {E:Value->Shared->Prop} {kvs:List (Key × V)} {k:Key}
theorem qje {Q:Value->Shared->Prop} (I:Inv X pins σ H s) (d:QG X.prog X.w X.K a kvs) (l:zw kvs k=some v) (ry:RelV (kV k) u) (h:∀ w' s',Inv X pins σ H s'->RelV v w'->Q w' s') :
  wpAny (model X.prog X.w) A (getItem (.ref a) u) Q E s:=by
 obtain ⟨hd,vs,rel,dd⟩:=d
 have dd:=dd _ I.kIn
 obtain ⟨w',hw,rw'⟩:=jO.some_of (v:=v) (o:=valueAt vs k) (by rw [<- l]; exact rel.val k)
 exact wpAny_getItem_of (qaF ry) dd.mapOf hw (h w' _ (I.tok _) rw')
theorem k_in {Q:Value->Shared->Prop} (I:Inv X pins σ H s) (d:QG X.prog X.w X.K a kvs) (ry:RelV (kV k) u) (h:∀ s',Inv X pins σ H s'->Q (.bool (zw kvs k).isSome) s') :
  wpAny (model X.prog X.w) A (compareOp .In u (.ref a)) Q E s:=by
 obtain ⟨hd,vs,rel,dd⟩:=d
 have dd:=dd _ I.kIn
 refine wpAny_in_of (qaF ry) hd dd.mapOf ?_
 rw [<- (rel.val k).isSome_eq]
 exact h _ (I.tok _)
theorem qm0 {Q:Value->Shared->Prop} (I:Inv X pins σ H s) (d:QG X.prog X.w X.K a kvs) (ry:RelV (kV k) u) (h:∀ w' s',Inv X pins σ H s'->RelV ((zw kvs k).getD .non) w'->Q w' s') :
  wpAny (model X.prog X.w) A (call (.builtin "dict.get") [.ref a,u]) Q E s:=by
 obtain ⟨hd,vs,rel,dd⟩:=d
 have dd:=dd _ I.kIn
 refine call_meetsIn PySem.F.slot_dict_get dd.typeIs PySem.F.entry_dict_get (PySem.F.args_dict_get_2 _ _) (meets_dict_get (zU X.prog X.w) a (qaF ry) hd) ⟨_,dd.mapOf,h _ _ (I.tok _) ?_⟩
 exact (rel.val k).getD rfl
theorem qcF (I:Inv X pins σ H s) (d:QG X.prog X.w X.K a kvs):s.TypeIs (.ref a) "dict" /\ (∀ b,Value.ref a=.ref b->∃ ob,s.heap.get? b=some ob/\ob.dict=none):=by
 obtain ⟨hd,vs,rel,dd⟩:=d
 have dd:=dd _ I.kIn
 refine ⟨dd.typeIs,fun b q=>?_⟩
 cases q
 obtain ⟨ob,_,_,h1,h2,_⟩:=dd
 exact ⟨ob,h1,h2.2.1⟩
end
def qlk (P:Program) (w:World) (K:PySem.W.Frag) (td ty:TE):TE:=fun σ H Q=>td σ H fun x H1=>ty σ H1 fun y H2=>∃ a kvs k v,x=.ref a/\QG P w K a kvs/\y=kV k/\zw kvs k=some v/\Q v H2
def qoc (P:Program) (w:World) (K:PySem.W.Frag) (ty td:TE):TE:=fun σ H Q=>ty σ H fun y H1=>td σ H1 fun x H2=>∃ a kvs k,x=.ref a/\QG P w K a kvs/\y=kV k/\Q (.bl (zw kvs k).isSome) H2
def qm1 (P:Program) (w:World) (K:PySem.W.Frag) (td ty:TE):TE:=fun σ H Q=>td σ H fun x H1=>∃ a kvs,x=.ref a/\QG P w K a kvs/\ty σ H1 fun y H2=>∃ k,y=kV k/\Q ((zw kvs k).getD .non) H2
section
variable {X:Cx} {o i e:Expr} {pos apos cpos:Pos} {td ty:TE}
theorem Zo (ho:PE X o td) (hi:PE X i ty) (hs:qmM i):PE X (.Subscript o i pos) (qlk X.prog X.w X.K td ty):=by
 intro pins s σ H Q I h
 refine qlN PySem.F.slot_dict_getitem.lookup hs (thn (ho pins s σ H _ I h) fun u s1 ⟨x,H1,I1,rx,q1⟩=>thn (hi pins s1 σ H1 _ I1 q1) fun iv s2 ⟨y,H2,I2,ry,a,kvs,k,v,ex,d,ey,l,q2⟩=>?_)
 subst ex ey
 obtain rfl:u=Value.ref a:=rx
 exact ⟨(qcF I2 d).1,qje I2 d l ry fun w' s3 I3 rw'=>⟨v,H2,I3,rw',q2⟩⟩
theorem qm2 (hi:PE X i ty) (ho:PE X o td):PC X .In i o (qoc X.prog X.w X.K ty td):=by
 intro pins s σ H Q I h
 refine thn (hi pins s σ H _ I h) fun iv s1 ⟨y,H1,I1,ry,q1⟩=>thn (ho pins s1 σ H1 _ I1 q1) fun u s2 ⟨x,H2,I2,rx,a,kvs,k,ex,d,ey,q2⟩=>?_
 subst ex ey
 obtain rfl:u=Value.ref a:=rx
 exact k_in I2 d ry fun s3 I3=>⟨.bl (zw kvs k).isSome,H2,I3,rfl,q2⟩
theorem qkK (ho:PE X o td) (he:PE X e ty) (m:M1 X o "get" apos e cpos):PE X (.Call (.Attribute o "get" apos) [e] [] cpos) (qm1 X.prog X.w X.K td ty):=by
 intro pins s σ H Q I h
 refine wpAny_Call_method m.base m.few m.line PySem.F.plainAttrs_dict PySem.F.slot_dict_get PySem.F.type_dict_get (thn (ho pins s σ H _ I h) fun u s1 ⟨x,H1,I1,rx,a,kvs,ex,d,q1⟩=>?_)
 subst ex
 obtain rfl:u=Value.ref a:=rx
 obtain ⟨t1,t2⟩:=qcF I1 d
 refine ⟨t1,t2,?_⟩
 rw [m.trees]
 refine Calls.callWith_builtin rfl (Calls.evalArgs_plain (Calls.spliced_cons (thn (he pins s1 σ H1 _ I1 q1) fun iv s2 ⟨y,H2,I2,ry,k,ey,q2⟩=>Calls.spliced_nil ?_)))
 subst ey
 exact qm0 I2 d ry fun w' s3 I3 rw'=>⟨_,H2,I3,rw',q2⟩
end
theorem qm3 {x:Str} {g:TG} {tt:TT} {te:TE} {vs:List Nat} {σ : St} {H1:Hp} {D:Addr} {Qd:Hp->Prop} (Pv:Nat->Hp->Prop) (h0:Pv 0 (upd H1 D (.lst [])))
  (hs:∀ i c H,x.cps[i]? = some c->Pv i H->g (.str ⟨#[c]⟩) (wipe σ vs) H fun σ2 H2=>wipe σ2 vs=wipe σ vs/\tt σ2 H2 fun b H3=>
   if b=true then te σ2 H3 fun y H4=>∃ acc,H4 D=some (.lst acc)/\acc.length<sizeLine/\Pv (i+1) (upd H4 D (.lst (acc++[y]))) else Pv (i+1) H3) (hd:∀ H,Pv x.cps.size H->Qd H) :
  ∃ W:Nat->Nat->Hp->Prop,(∃ m,W 0 m (upd H1 D (.lst [])))/\∀ i m H,W i m H ->
   ((Its x).stop i H/\Qd H) \/ ((Its x).go i H/\∃ Nx:Hp->Prop,(∀ H',Nx H'->∃ m',m'<m/\W (i+1) m' H')/\∀ v H',(Its x).yld i H v H'->g v (wipe σ vs) H' fun σ2 H2=>wipe σ2 vs=wipe σ vs/\tt σ2 H2 fun b H3=>
    if b=true then te σ2 H3 fun y H4=>∃ acc,H4 D=some (.lst acc)/\acc.length<sizeLine/\Nx (upd H4 D (.lst (acc++[y]))) else Nx H3):=by
 refine ⟨fun i m H=>m=x.cps.size - i/\i<=x.cps.size/\Pv i H,⟨x.cps.size,by simp,Nat.zero_le _,h0⟩,?_⟩
 rintro i m H ⟨rfl,hi,p⟩
 by_cases hlt:i<x.cps.size
 ·refine .inr ⟨hlt,Pv (i+1),fun H' p'=>⟨x.cps.size - (i+1),by omega,rfl,hlt,p'⟩,fun v H' y=>?_⟩
  obtain ⟨e,c,hc,rfl⟩:=y
  subst e
  exact hs i c _ hc p
 ·have e:i=x.cps.size:=by omega
  subst e
  exact .inl ⟨Nat.le_refl _,hd H p⟩
end L2
end
section
namespace L2
open PySem PySem.Spec PyProof.Rows
section
variable {X:Cx} {a b:Expr} {ta tb:TE} {es:List Expr} {t:TA} {pos tp:Pos}
theorem qr {H:Hp} {p:Addr} {o:HO} (h:H p=none):qE H (upd H p o):=fun b u e=>by rw [qd (qg e h)]; exact e
theorem ql1 {op:CmpOp} {r:R2} {R:V->Hp->VK->Prop} (ho:OpR X (compareOp op) r) (ha:PE X a ta) (hb:PE X b tb) (hm:behindInMarks op b=false) (i:∀ σ x H Q,R x H Q->tb σ H fun y H2=>r x y H2 Q) :
  PE X (.Compare a [op] [b] pos) (fun σ H Q=>ta σ H fun x H1=>R x H1 Q):=by
 intro pins s σ H Q I h
 refine wpAny_Compare1 (thn (ha pins s σ H _ I h) fun v s1 ⟨x,H1,I1,r1,q1⟩=>thn (hb pins s1 σ H1 _ I1 (i _ _ _ _ q1)) fun u s2 ⟨y,H2,I2,r2,q2⟩=>?_) hm
 exact ho pins s2 σ H2 x y v u Q I2 r1 r2 q2
theorem qhc {op:CmpOp} {r:R2} {R:V->Hp->VK->Prop} (ho:OpR X (compareOp op) r) (ha:PE X a ta) (hb:PE X b tb) (hm:behindInMarks op b=false) (i:∀ σ x H Q,R x H Q->tb σ H fun y H2=>r x y H2 Q) :
  PT X (.Compare a [op] [b] pos) (qcP fun σ H Q=>ta σ H fun x H1=>R x H1 Q):=by
 intro pins s σ H Q I h
 refine wpAny_isTrue_Compare1 (thn (ha pins s σ H _ I h) fun v s1 ⟨x,H1,I1,r1,q1⟩=>thn (hb pins s1 σ H1 _ I1 (i _ _ _ _ q1)) fun u s2 ⟨y,H2,I2,r2,q2⟩=>
  thn (ho pins s2 σ H2 x y v u _ I2 r1 r2 q2) fun c s3 ⟨z,H3,I3,r3,k,e,q3⟩=>?_) hm
 subst e
 cases r3
 exact wpAny_truthy_bool ⟨H3,I3,q3⟩
def qdF (neg:Bool) (xs:List V):V->Hp->VK->Prop:=fun x H Q=>Ql x=true/\∀ H',qE H H'->Q (.bl (if neg then !inV x xs else inV x xs)) H'
def qhW (neg:Bool) (xs:List V) (ta:TE):TE:=fun σ H Q=>ta σ H fun x H1=>qdF neg xs x H1 Q
theorem qdG {neg:Bool} {xs:List V} {K:PySem.W.Frag} (ht:∀ σ H Q,t σ H Q=Q xs H) (hx:xs.all Ql=true) (hl:xs.length<=1000) (σ : St) (x:V) (H:Hp) (Q:VK) (q:qdF neg xs x H Q):qmF t σ H fun y H2=>rIn K neg x y H2 Q:=by
 show t σ H _
 rw [ht]
 exact ⟨Nat.le_of_lt (QK hl),fun p hp=>⟨p,xs,rfl,.inr (SqT.of qc),q.1,hx,q.2 _ (qr hp)⟩⟩
variable {tr:Nat} {xs:List V}
theorem qjf (ha:PE X a ta) (hes:PA X es t) (ht:∀ σ H Q,t σ H Q=Q xs H:=by intro _ _ _; rfl) (hx:xs.all Ql=true:=by rfl) (hl:xs.length<=1000:=by decide)
  (hmk:behindInMarks .In (.Tuple es tr tp)=false:=by with_unfolding_all rfl):PE X (.Compare a [.In] [.Tuple es tr tp] pos) (qhW false xs ta):=ql1 (R:=qdF false xs) (ta:=ta) Z1 ha (qfd hes) hmk (qdG ht hx hl)
theorem qjg (ha:PE X a ta) (hes:PA X es t) (ht:∀ σ H Q,t σ H Q=Q xs H:=by intro _ _ _; rfl) (hx:xs.all Ql=true:=by rfl) (hl:xs.length<=1000:=by decide)
  (hmk:behindInMarks .In (.Tuple es tr tp)=false:=by with_unfolding_all rfl):PT X (.Compare a [.In] [.Tuple es tr tp] pos) (qcP (qhW false xs ta)):=qhc (R:=qdF false xs) (ta:=ta) Z1 ha (qfd hes) hmk (qdG ht hx hl)
theorem qex (ha:PE X a ta) (hes:PA X es t) (ht:∀ σ H Q,t σ H Q=Q xs H:=by intro _ _ _; rfl) (hx:xs.all Ql=true:=by rfl) (hl:xs.length<=1000:=by decide)
  (hmk:behindInMarks .NotIn (.Tuple es tr tp)=false:=by with_unfolding_all rfl):PT X (.Compare a [.NotIn] [.Tuple es tr tp] pos) (qcP (qhW true xs ta)):=qhc (R:=qdF true xs) (ta:=ta) qfg ha (qfd hes) hmk (qdG ht hx hl)
end
end L2
namespace L2
open PySem PySem.Spec PyProof.Rows
def nt (l:List Nat):List V:=l.map fun n:Nat=>V.int (n:Int)
theorem zz (l:List Nat):(nt l).length=l.length:=List.length_map _
def ntD (l:List Nat):PyData:=.list (l.map fun n:Nat=>.int (n:Int))
theorem qjh {K:PySem.W.Frag} {H:Hp}:∀ l:List Nat,qaE K H (nt l) (l.map fun n:Nat=>.int (n:Int))
 | []=>.nil
 | n::r=>.cons (.int _) (qjh r)
theorem qll {K:PySem.W.Frag} {H:Hp} {p:Addr} {l:List Nat} (h:SqL K H p (nt l)):Dp K H (.ref p) (ntD l):=.lst h (qjh l)
theorem qji:∀ l:List Nat,PyData.canLayAll0 (l.map fun n:Nat=>.int (n:Int))=true
 | []=>by simp [PyData.canLayAll0]
 | n::r=>by simp [PyData.canLayAll0,PyData.canLay0,qji r]
theorem qfH:∀ l:List Nat,PyData.depthAll (l.map fun n:Nat=>.int (n:Int))=0
 | []=>by simp [PyData.depthAll]
 | n::r=>by simp [PyData.depthAll,PyData.depth,qfH r]
theorem qey (l:List Nat):SeqAt.shaped (ntD l)=true:=by
 unfold SeqAt.shaped ntD
 simp [PyData.canLay0,qji,PyData.depth,qfH]
theorem qc7:∀ l m:List Nat,PyData.eqvAll (l.map fun n:Nat=>.int (n:Int)) (m.map fun n:Nat=>.int (n:Int))=decide (l=m)
 | [],[]=>by simp [PyData.eqvAll]
 | [],_::_=>by simp [PyData.eqvAll]
 | _::_,[]=>by simp [PyData.eqvAll]
 | a::l,b::m=>by
  simp only [List.map_cons,PyData.eqvAll,PyData.eqv,qc7 l m,List.cons.injEq]
  by_cases h:a=b
  ·subst h; simp
  ·have:¬ ((a:Int)=b):=by omega
   simp [h,this]
theorem qm4 (l m:List Nat):PyData.eqv (ntD l) (ntD m)=decide (l=m):=by
 unfold ntD
 simp only [PyData.eqv]
 exact qc7 l m
theorem qjj {K:PySem.W.Frag} {H:Hp} {p q:Addr} {l m:List Nat} {Q:VK} (h1:SqL K H p (nt l)) (h2:SqL K H q (nt m)) (h:Q (.bl (decide (l=m))) H):qmI K (.ref p) (.ref q) H Q :=
 ⟨_,_,qll h1,qll h2,qey l,qey m,by rw [qm4]; exact h⟩
end L2
end
section
set_option maxHeartbeats 400000
namespace L2
open PySem PySem.Spec PyProof.Rows
open Sem (wp)
section
variable {P:Program} {w:World} {A:Around} {R:Result->Shared->Prop} {it:Addr} {fp wr:List Addr} {n:Nat} {Pz:Nat->Value->Prop} {St:Nat->Heap->Prop} {kw:List (Str × Value)}
theorem qb6:(toString "max" ++ toString ".loop" : String) = "max.loop":=by decide
theorem ql2 (W:Walks P w A.in1 it fp wr n Pz St) (bt:Nat->Nat->Bool) (cmp:CmpOf P w A.in1 .Gt Pz bt) (b:Addr) (bf:b∉fp):∀ (k j:Nat) (s:Shared) (u:Value) (c:Nat),n - (j+1)=k->j+1<=n->St (j+1) s.heap->Pz (argBest bt j) u ->
  s.heap.get? b=some { cls:=.type "list",dict:=none,data:=.seq #[u,u] c,slots:=#[] } ->
  (∀ v h' tk,Pz (argBest bt (n - 1)) v->(∀ x o,x∉wr->x≠b->s.heap.get? x=some o->h'.get? x=some o)->R (.ok (.ret v)) { s with heap:=h',toks:=tk }) ->
  codeAny (model P w) A (.builtin "max.loop" ⟨[.ref it,.none,.ref b],kw⟩) R s:=by
 have bw:b∉wr:=fun z=>bf (W.sub _ z)
 intro k
 induction k with
 | zero=>
  intro j s u c e1 e2 st hu hb fin
  have en:j+1=n:=by omega
  refine codeAny_builtin F.entry_max_loop ?_
  rw [Around.under_plainId F.plain_max_loop _]
  refine wpAny_bind (wpAny_seqItems hb rfl ?_)
  refine wpAny_bind (wpAny_tryCatch (W.done s _ _ (en ▸ st) fun h1 tk kk=>?_))
  refine wpAny_bind (wpAny_updateSeq (kk b _ bw hb) rfl (wpAny_bind (wpAny_letGo (wpAny_pure ?_))))
  exact fin u _ tk (by rw [<- en]; exact hu) fun x o xw xb e=>(Heap.get?_update_other _ _ (Ne.symm xb)).trans (kk x o xw e)
 | succ k ih=>
  intro j s u c e1 e2 st hu hb fin
  have lt:j+1<n:=by omega
  refine codeAny_builtin F.entry_max_loop ?_
  rw [Around.under_plainId F.plain_max_loop _]
  refine wpAny_bind (wpAny_seqItems hb rfl ?_)
  refine wpAny_bind (wpAny_tryCatch (W.item (j+1) s _ _ lt st fun v h1 tk hv st1 kk=>?_))
  have hb1:=kk b _ bw hb
  refine wpAny_bind (wpAny_pure ?_)
  refine wpAny_bind (wpAny_tryCatch (wpAny_holding (wpAny_bind (cmp (j+1) (argBest bt j) v u _ _ _ hv hu ?_))))
  refine wpAny_bind (wpAny_holding (wpAny_truthy_bool (wpAny_bind (wpAny_letGo (wpAny_pure ?_)))))
  cases hc:bt (j+1) (argBest bt j) with
  | true=>
   simp only [if_true]
   refine wpAny_bind (wpAny_updateSeq hb1 rfl (wpAny_bind (wpAny_letGo ?_)))
   rw [qb6]
   refine wpAny_pure ⟨plainId_quiet F.plain_max_loop _,ih (j+1) _ v _ (by omega) lt (W.frame _ _ _ st1 fun x xf o e=>?_) (by simp only [argBest,hc,if_true]; exact hv) (Heap.get?_update_self _ hb1 rfl) fun v' h2 tk2 hv' kk2=>?_⟩
   ·exact (Heap.get?_update_other _ _ (fun z:b=x=>bf (by rw [z]; exact xf))).trans e
   ·exact fin v' h2 tk2 hv' fun x o xw xb e=>kk2 x o xw xb ((Heap.get?_update_other _ _ (Ne.symm xb)).trans (kk x o xw e))
  | false=>
   simp only [Bool.false_eq_true,if_false]
   refine wpAny_bind (wpAny_letGo ?_)
   rw [qb6]
   refine wpAny_pure ⟨plainId_quiet F.plain_max_loop _,ih (j+1) _ u c (by omega) lt st1 (by simp only [argBest,hc,Bool.false_eq_true,if_false]; exact hu) hb1 fun v' h2 tk2 hv' kk2=>?_⟩
   exact fin v' h2 tk2 hv' fun x o xw xb e=>kk2 x o xw xb (kk x o xw e)
theorem qkL (W:Walks P w A.in1 it fp wr n Pz St) (bt:Nat->Nat->Bool) (cmp:CmpOf P w A.in1 .Gt Pz bt) (b:Addr) (bf:b∉fp) {s:Shared} {c:Nat} {x0:Str} {d:Value} {r:List (Str × Value)} (st:St 0 s.heap)
  (hb:s.heap.get? b=some { cls:=.type "list",dict:=none,data:=.seq #[] c,slots:=#[] })
  (fin:∀ v h' tk,(0<n->Pz (argBest bt (n - 1)) v)->(n=0->v=d)->(∀ x o,x∉wr->x≠b->s.heap.get? x=some o->h'.get? x=some o)->R (.ok (.ret v)) { s with heap:=h',toks:=tk }) :
  codeAny (model P w) A (.builtin "max.loop" ⟨[.ref it,.none,.ref b],(x0,d)::r⟩) R s:=by
 have bw:b∉wr:=fun z=>bf (W.sub _ z)
 refine codeAny_builtin F.entry_max_loop ?_
 rw [Around.under_plainId F.plain_max_loop _]
 refine wpAny_bind (wpAny_seqItems hb rfl ?_)
 by_cases h0:n=0
 ·subst h0
  refine wpAny_bind (wpAny_tryCatch (W.done s _ _ st fun h1 tk kk=>?_))
  refine wpAny_bind (wpAny_rule (wpAny_pure ?_))
  exact fin d h1 tk (fun z=>absurd z (Nat.lt_irrefl _)) (fun _=>rfl) fun x o xw _ e=>kk x o xw e
 ·have hn:0<n:=Nat.pos_of_ne_zero h0
  refine wpAny_bind (wpAny_tryCatch (W.item 0 s _ _ hn st fun v h1 tk hv st1 kk=>?_))
  have hb1:=kk b _ bw hb
  refine wpAny_bind (wpAny_pure ?_)
  refine wpAny_bind (wpAny_updateSeq hb1 rfl ?_)
  rw [qb6]
  refine wpAny_pure ⟨plainId_quiet F.plain_max_loop _,ql2 W bt cmp b bf _ 0 _ v _ rfl hn (W.frame _ _ _ st1 fun x xf o e=>?_) hv (Heap.get?_update_self _ hb1 rfl) fun v' h2 tk2 hv' kk2=>?_⟩
  ·exact (Heap.get?_update_other _ _ (fun z:b=x=>bf (by rw [z]; exact xf))).trans e
  ·exact fin v' h2 tk2 (fun _=>hv') (fun z=>absurd z h0) fun x o xw xb e=>kk2 x o xw xb ((Heap.get?_update_other _ _ (Ne.symm xb)).trans (kk x o xw e))
end
theorem qjk (d:Value):Builtin.Builtins.bindParams "max" ["key","default"] 0 ⟨[],[(Str.ofString "default",d)]⟩=pure [none,some d]:=by rfl
theorem qjl (a d:Value):argsOk "max" ⟨[a],[("default",d)]⟩:=by unfold argsOk; kernel_rfl
section
variable {P:Program} {w:World} {A:Around} {E:Value->Shared->Prop} {s:Shared} {l:Addr} {xs:Array (Int × Tok)} {d:Value}
theorem ql3 {Q:Value->Shared->Prop} (hh:A.handled=none) (hl:s.heap.IsList l (intItems xs))
  (h:∀ v h' tk,(0<xs.size->(intItems xs)[argBest (fun i j=>decide (numAt xs i > numAt xs j)) (xs.size - 1)]? = some v)->(xs.size=0->v=d)->(∀ b o,s.heap.get? b=some o->h'.get? b=some o)->Q v { s with heap:=h',toks:=tk }) :
  wpAny (model P w) A (call (.builtin "max") [.ref l] [("default",d)]) Q E s:=by
 refine kmk_tree F.kind_max F.plain_max F.entry_max (qjl _ _) ?_
 show wpAny _ A.in1 (Builtin.Builtins.bindParams "max" ["key","default"] 0 ⟨[],[("default",d)]⟩ >>= _) _ _ s
 refine wpAny_bind (wpAny_of_eq (qjk d) ?_)
 refine wpAny_bind (wpAny_pure ?_)
 refine wpAny_bind (iter_intList hl fun s2 e st hfp hlI=>?_)
 subst e
 refine wpAny_bind (wpAny_newObj_type ?_)
 rw [qb6]
 have hW:=Walks.list (prog:=P) (w:=w) (A:=A.in1) hh s.heap.objs.size l hlI (intItems xs)
 refine wpAny_pure ⟨plainId_quiet F.plain_max_loop _,qkL hW _ (CmpOf.ints_gt (numAt xs) (fun _ _=>intItems_at)) _ (fun hm=>Nat.lt_irrefl _ (hfp _ hm)) (hW.frame _ _ _ st fun b _ o e=>Heap.get?_push_of_some _ e) (Heap.get?_push_size _ rfl) fun v h' tk h1 h2 hk=>?_⟩
 refine h v h' tk (fun z=>by simpa [intItems] using h1 (by simpa [intItems] using z)) (fun z=>h2 (by simpa [intItems] using z)) (old_kept fun b o hb e=>hk b o hb (Nat.ne_of_lt (Heap.lt_size e)) (Heap.get?_push_of_some _ e))
end
end L2
end
section
set_option maxHeartbeats 400000
namespace L2
open PySem PySem.Spec PyProof.Rows
section
variable {X:Cx}
theorem qm5 {A:Around} {E:Value->Shared->Prop} {s:Shared} {l:Addr} {its:List Value} {ns:List Int} {d:Int} {td:Tok} {Q:Value->Shared->Prop} (hh:A.handled=none) (hl:s.heap.IsList l its.toArray) (hi:IntsAre its ns)
  (h:∀ h' tk m t',(∀ b o,s.heap.get? b=some o->h'.get? b=some o)->(ns=[]->m=d)->(ns≠[]->m∈ns/\∀ y,y∈ns->y<=m)->Q (.int m t') { s with heap:=h',toks:=tk }):wpAny (model X.prog X.w) A (call (.builtin "max") [.ref l] [("default",.int d td)]) Q E s:=by
 obtain ⟨xs,e⟩:=hi.allInts.items
 have hn:numsOf (intItems xs).toList=ns:=by rw [<- e]; exact hi.numsOf
 rw [nums_intItems] at hn
 subst hn
 rw [e] at hl
 have em:(xs.toList.map (·.1))=[] ↔ xs.size=0:=by simp
 refine ql3 hh hl fun v h' tk h1 h2 hk=>?_
 by_cases h0:xs.size=0
 ·rw [h2 h0]
  exact h h' tk d td hk (fun _=>rfl) fun z=>absurd (em.mpr h0) z
 ·obtain ⟨t,rfl⟩:=intItems_at (h1 (Nat.pos_of_ne_zero h0))
  obtain ⟨g1,g2⟩:=argBest_gt (numAt xs) (xs.size - 1)
  refine h h' tk _ t hk (fun z=>absurd (em.mp z) h0) fun _=>⟨?_,fun y hy=>?_⟩
  ·rw [numAt_eq]; exact PySem.getD_mem (by rw [List.length_map,Array.length_toList]; omega)
  ·obtain ⟨j,hj,rfl⟩:=mem_getD hy
   rw [List.length_map,Array.length_toList] at hj
   rw [<- numAt_eq]; exact g2 j (by omega)
def qnI (K:PySem.W.Frag) (d:Int) (te:TE):TE:=fun σ H Q=>te σ H fun x H1=>∃ a ns,x=.ref a/\SqL K H1 a (ns.map V.int)/\∀ m,(ns=[]->m=d)->(ns≠[]->m∈ns/\∀ y,y∈ns->y<=m)->Q (.int m) H1
theorem ql4 {e:Expr} {te:TE} {d:Int} {j:Nat} {p pos kp dp:Pos} (hc:X.calm=true) (hg:Gl X "max") (hm:X.mg "max" = none) (he:PE X e te) (hst:starEach [e] X.env=[(false,eval e X.env)]:=by rfl)
  (h1:backTo pos (starEach [e] X.env)=(false,eval e X.env)::backTo pos (starEach [] X.env):=by rfl) (h2:(backTo pos (starEach [e] X.env)).any (·.1)=false:=by rfl) :
  PE X (.Call (.Name "max" p) [e] [⟨some "default",.Constant (.int d) j dp,kp⟩] pos) (qnI X.K d te):=by
 intro pins s σ H Q I h
 refine wpAny_Call_Name_kw (Jp I hg hm boot_max ?_ (by decide) (by decide))
 refine callWith_kw (thn (qa he qh hst pos pins s σ H (fun vs H1=>match vs with
  | [x]=>∃ a ns,x=.ref a/\SqL X.K H1 a (ns.map V.int)/\∀ m,(ns=[]->m=d)->(ns≠[]->m∈ns/\∀ y,y∈ns->y<=m)->Q (.int m) H1
  | _=>False) I h) fun us s1 ⟨vs,H1,I1,r,q⟩=>?_) h1 h2 rfl rfl
 match vs,r,q with
 | [x],r,⟨a,ns,ex,hs,q⟩=>
  subst ex
  rw [qD.ref1 r]
  refine kws_cons (wpAny_Constant_int (kws_nil ?_))
  have I2:=I1.tok (s1.toks+1)
  obtain ⟨its,rv,hl,_⟩:=I2.list hs
  exact qm5 (I2.ok.hd hc) hl.isList rv.ints fun h' tk m t' hk g1 g2=>⟨.int m,H1,I2.kept hk,⟨_,rfl⟩,q m g1 g2⟩
end
theorem qcG {α β : Type} {f g:α -> Option β}:∀ {l:List α},(∀ x,x∈l->f x=g x)->l.filterMap f=l.filterMap g
 | [],_=>rfl
 | a::l,h=>by
  rw [List.filterMap_cons,List.filterMap_cons,h a List.mem_cons_self,qcG fun x hx=>h x (List.mem_cons_of_mem _ hx)]
theorem qc8 {α : Type}:∀ l:List α,List.filterMap (fun k=>l[k]?) (List.range l.length)=l
 | []=>rfl
 | a::l=>by
  rw [List.length_cons,List.range_succ_eq_map,List.filterMap_cons]
  simp only [List.getElem?_cons_zero,List.filterMap_map]
  congr 1
  refine Eq.trans (qcG fun k _=>?_) (qc8 l)
  simp
theorem qkM (its:List Value):slicePick its.toArray none none (some (-1))=its.reverse.toArray:=by
 unfold slicePick
 congr 1
 have e1:sliceBounds none none (some (-1)) its.toArray.size=((its.length:Int) - 1,-1,-1):=by simp [sliceBounds]
 rw [e1]
 unfold sliceRange
 simp only [show ¬ ((-1:Int) > 0) by decide,if_false]
 have e2:(if ((its.length:Int) - 1) > -1 then (((its.length:Int) - 1) - -1 - -1 - 1) / - -1 else 0).toNat=its.length:=by
  by_cases h:its.length=0
  ·simp [h]
  ·rw [if_pos (by omega),show (- -1:Int)=1 from rfl,Int.ediv_one]; omega
 rw [e2]
 refine List.ext_getElem? fun i=>?_
 rw [List.filterMap_map]
 have all:∀ k,k<its.length->((fun x:Nat=>its.toArray[x]?) ∘ fun k:Nat=>(((its.length:Int) - 1) + -1 * (k:Int)).toNat) k=its[its.length - 1 - k]?:=fun k hk=>by
  show its.toArray[(((its.length:Int) - 1) + -1 * (k:Int)).toNat]? = _
  rw [show (((its.length:Int) - 1) + -1 * (k:Int)).toNat=its.length - 1 - k by omega]
  simp
 have lst:List.filterMap ((fun x:Nat=>its.toArray[x]?) ∘ fun k:Nat=>(((its.length:Int) - 1) + -1 * (k:Int)).toNat) (List.range its.length)=its.reverse:=by
  rw [show List.filterMap ((fun x:Nat=>its.toArray[x]?) ∘ fun k:Nat=>(((its.length:Int) - 1) + -1 * (k:Int)).toNat) (List.range its.length)=List.filterMap (fun k=>its.reverse[k]?) (List.range its.reverse.length) from ?_]
  ·exact qc8 its.reverse
  ·rw [List.length_reverse]
   refine qcG fun k hk=>?_
   have hk:=List.mem_range.mp hk
   rw [all k hk,List.getElem?_reverse hk]
 rw [lst]
def qod (K:PySem.W.Frag) (te:TE):TE:=fun σ H Q=>te σ H fun x H1=>∃ a xs,x=.ref a/\SqL K H1 a xs/\∀ p,H1 p=none->Q (.ref p) (upd H1 p (.lst xs.reverse))
theorem qc9 {X:Cx} {e:Expr} {te:TE} {j:Nat} {p1 p2 p3 pos:Pos} (he:PE X e te):PE X (.Subscript e (.Slice none none (some (.UnaryOp .USub (.Constant (.int 1) j p1) p3)) p2) pos) (qod X.K te):=by
 intro pins s σ H Q I h
 refine Subscript_ (thn (he pins s σ H _ I h) fun v s1 ⟨x,H1,I1,r1,a,xs,ex,hs,q1⟩=>?_)
 subst ex
 cases r1
 refine wpAny_Slice ?_
 rw [evalPart_none]
 refine wpAny_pure (wpAny_pure (thn (QR (qaB Js qw) pins s1 σ H1 (fun o H'=>o=some (-1)/\H'=H1) I1 ⟨1,rfl,-1,rfl,rfl,rfl⟩) fun vs s3 ⟨o,H3,I3,pu,eo,eH⟩=>?_))
 subst eo eH
 have I4:Inv X pins σ H3 { s3 with heap:=s3.heap.push { cls:=.type "slice",data:=.fields #[.none,.none,vs] } }:=I3.kept (t':=s3.toks) fun b ob q=>Heap.get?_push_of_some _ q
 obtain ⟨its,r,ht,hz⟩:=I4.list hs
 have hlen:=r.length
 refine tail_any (ops:=[.ref a,.ref s3.heap.objs.size]) ht.isList.typeIs slot_list_getitem.lookup ?_ (by with_unfolding_all rfl)
 refine wpAny_getItem_list_slice ht.isList (Heap.IsSliceOf.new ..) .none .none pu (by simp) ?_ (by rw [List.size_toArray] <;> omega)
 rw [qkM]
 refine ⟨.ref _,_,I4.laid (t':=s3.toks) (o:=.lst xs.reverse) (fun b ob q=>Heap.get?_push_of_some _ q) (Nat.le_refl _) ?_,rfl,q1 _ (I4.hok.fresh (Nat.le_refl _))⟩
 exact ⟨by rw [List.length_reverse]; exact hz,_,0,r.reverse,Heap.get?_push_size _ rfl⟩
end L2
end
section
namespace RT
open PySem PySem.Spec PyProof.Rows L2
def JC:List Str:=[Str.ofString "and",Str.ofString "else",Str.ofString "false",Str.ofString "fn",Str.ofString "has",Str.ofString "if",Str.ofString "in",Str.ofString "let",Str.ofString "must",Str.ofString "none",Str.ofString "not",Str.ofString "or",Str.ofString "rec",Str.ofString "then",Str.ofString "true",Str.ofString "with"]
def Za:List Str:=[Str.ofString "++",Str.ofString "//",Str.ofString "==",Str.ofString "!=",Str.ofString "<=",Str.ofString "..",Str.ofString "(",Str.ofString ")",Str.ofString "[",Str.ofString "]",Str.ofString "=",Str.ofString ";",Str.ofString ",",Str.ofString ".",Str.ofString ":",Str.ofString "?",Str.ofString "+",Str.ofString "-",Str.ofString "*",Str.ofString "<"]
def qda:List Str:=[Str.ofString "name",Str.ofString "number",Str.ofString "true",Str.ofString "false",Str.ofString "none",Str.ofString "rec",Str.ofString "quote",Str.ofString "(",Str.ofString "[",Str.ofString "{"]
def J4:List (Key × V):=[(Sum.inl 34,.int 34),(Sum.inl 92,.int 92),(Sum.inl 110,.int 10),(Sum.inl 116,.int 9),(Sum.inl 36,.int 36)]
def QT:List (Str × List Str):=[(Str.ofString "EXPR",[Str.ofString "@enter FORM @leave"]),
 (Str.ofString "FORM",[Str.ofString "fn FUNCTION",Str.ofString "let @begin name BOUND BINDS in EXPR @let",Str.ofString "if @begin EXPR then EXPR else EXPR @if",Str.ofString "must @begin EXPR ; EXPR @must",Str.ofString "OR"]),
 (Str.ofString "FUNCTION",[Str.ofString "name @begin @label : EXPR @fn",Str.ofString "{ @begin FIELDS"]),
 (Str.ofString "FIELDS",[Str.ofString "} : EXPR @fields",Str.ofString "PARAMS"]),
 (Str.ofString "PARAMS",[Str.ofString ".. } : EXPR @fields..",Str.ofString "name @fresh @begin @label GIVEN @param MORE-PARAMS"]),
 (Str.ofString "GIVEN",[Str.ofString "? EXPR",Str.ofString ""]),
 (Str.ofString "MORE-PARAMS",[Str.ofString ", PARAMS",Str.ofString "} : EXPR @fields"]),
 (Str.ofString "BINDS",[Str.ofString "name BOUND BINDS",Str.ofString ""]),
 (Str.ofString "BOUND",[Str.ofString "@fresh @label = EXPR ;"]),
 (Str.ofString "OR",[Str.ofString "AND MORE-OR"]),
 (Str.ofString "MORE-OR",[Str.ofString "or @take AND @or MORE-OR",Str.ofString ""]),
 (Str.ofString "AND",[Str.ofString "NOT MORE-AND"]),
 (Str.ofString "MORE-AND",[Str.ofString "and @take NOT @and MORE-AND",Str.ofString ""]),
 (Str.ofString "NOT",[Str.ofString "not @begin NOT @not",Str.ofString "CMP"]),
 (Str.ofString "CMP",[Str.ofString "UPD MORE-CMP"]),
 (Str.ofString "MORE-CMP",[Str.ofString "== @take UPD @==",Str.ofString "!= @take UPD @!=",Str.ofString "< @take UPD @<",Str.ofString "<= @take UPD @<=",Str.ofString "has @take name @label @has",Str.ofString ""]),
 (Str.ofString "UPD",[Str.ofString "JOIN MORE-UPD"]),
 (Str.ofString "MORE-UPD",[Str.ofString "// @take UPD @//",Str.ofString ""]),
 (Str.ofString "JOIN",[Str.ofString "SUM MORE-JOIN"]),
 (Str.ofString "MORE-JOIN",[Str.ofString "++ @take JOIN @++",Str.ofString ""]),
 (Str.ofString "SUM",[Str.ofString "PROD MORE-SUM"]),
 (Str.ofString "MORE-SUM",[Str.ofString "+ @take PROD @+ MORE-SUM",Str.ofString "- @take PROD @- MORE-SUM",Str.ofString ""]),
 (Str.ofString "PROD",[Str.ofString "NEG MORE-PROD"]),
 (Str.ofString "MORE-PROD",[Str.ofString "* @take NEG @* MORE-PROD",Str.ofString ""]),
 (Str.ofString "NEG",[Str.ofString "- @begin NEG @neg",Str.ofString "APP"]),
 (Str.ofString "APP",[Str.ofString "SEL ARGUMENTS"]),
 (Str.ofString "ARGUMENTS",[Str.ofString "ARGUMENT ARGUMENTS",Str.ofString ""]),
 (Str.ofString "ARGUMENT",[Str.ofString "@take SEL @app"]),
 (Str.ofString "SEL",[Str.ofString "ATOM DOTS"]),
 (Str.ofString "DOTS",[Str.ofString ". @take name @label MORE-DOTS DEFAULT @get",Str.ofString ""]),
 (Str.ofString "MORE-DOTS",[Str.ofString ". name @label MORE-DOTS",Str.ofString ""]),
 (Str.ofString "DEFAULT",[Str.ofString "? ATOM",Str.ofString ""]),
 (Str.ofString "ATOM",[Str.ofString "name @begin @label @name",Str.ofString "number @begin @label @num",Str.ofString "true @begin @yes",Str.ofString "false @begin @no",Str.ofString "none @begin @none",Str.ofString "quote @begin PIECES unquote @text",Str.ofString "( EXPR )",Str.ofString "[ @begin LIST @list",Str.ofString "{ @begin BINDS } @record",Str.ofString "rec { @begin BINDS } @recur"]),
 (Str.ofString "PIECES",[Str.ofString "piece @begin @label @piece PIECES",Str.ofString "hole EXPR unhole PIECES",Str.ofString ""]),
 (Str.ofString "LIST",[Str.ofString "]",Str.ofString "EXPR MORE-LIST ]"]),
 (Str.ofString "MORE-LIST",[Str.ofString ", EXPR MORE-LIST",Str.ofString ""])]
def tokF (x0 x1 x2:V):List (Str × V):=[("kind",x0),("place",x1),("held",x2)]
theorem qez (x0 x1 x2:V):(tokF x0 x1 x2).lookup ("kind" : Str)=some x0:=rfl
theorem qaQ (x0 x1 x2:V):(tokF x0 x1 x2).lookup ("place" : Str)=some x1:=rfl
theorem qeA (x0 x1 x2:V):(tokF x0 x1 x2).lookup ("held" : Str)=some x2:=rfl
def jC (x0 x1 x2 x3 x4 x5:V):List (Str × V):=[("text",x0),("place",x1),("tokens",x2),("opened",x3),("in_literal",x4),("ended",x5)]
theorem Z4 (x0 x1 x2 x3 x4 x5:V):(jC x0 x1 x2 x3 x4 x5).lookup ("text" : Str)=some x0:=rfl
theorem qK (x0 x1 x2 x3 x4 x5:V):(jC x0 x1 x2 x3 x4 x5).lookup ("place" : Str)=some x1:=rfl
theorem J5 (x0 x1 x2 x3 x4 x5:V):(jC x0 x1 x2 x3 x4 x5).lookup ("tokens" : Str)=some x2:=rfl
theorem ZU (x0 x1 x2 x3 x4 x5:V):(jC x0 x1 x2 x3 x4 x5).lookup ("opened" : Str)=some x3:=rfl
theorem qdb (x0 x1 x2 x3 x4 x5:V):(jC x0 x1 x2 x3 x4 x5).lookup ("in_literal" : Str)=some x4:=rfl
theorem qdc (x0 x1 x2 x3 x4 x5:V):(jC x0 x1 x2 x3 x4 x5).lookup ("ended" : Str)=some x5:=rfl
theorem zG (x0 x1 x2 x3 x4 x5:V):(jC x0 x1 x2 x3 x4 x5).lookup ("byte_at" : Str)=none:=rfl
theorem ze (x0 x1 x2 x3 x4 x5:V):(jC x0 x1 x2 x3 x4 x5).lookup ("add_token" : Str)=none:=rfl
theorem qbb (x0 x1 x2 x3 x4 x5:V):(jC x0 x1 x2 x3 x4 x5).lookup ("cut_outside" : Str)=none:=rfl
theorem qaR (x0 x1 x2 x3 x4 x5:V):(jC x0 x1 x2 x3 x4 x5).lookup ("pass_comment" : Str)=none:=rfl
theorem qcH (x0 x1 x2 x3 x4 x5:V):(jC x0 x1 x2 x3 x4 x5).lookup ("cut_name" : Str)=none:=rfl
theorem qbz (x0 x1 x2 x3 x4 x5:V):(jC x0 x1 x2 x3 x4 x5).lookup ("cut_number" : Str)=none:=rfl
theorem JL (x0 x1 x2 x3 x4 x5:V):(jC x0 x1 x2 x3 x4 x5).lookup ("cut_right_brace" : Str)=none:=rfl
theorem qcI (x0 x1 x2 x3 x4 x5:V):(jC x0 x1 x2 x3 x4 x5).lookup ("cut_sign" : Str)=none:=rfl
theorem qbc (x0 x1 x2 x3 x4 x5:V):(jC x0 x1 x2 x3 x4 x5).lookup ("cut_literal" : Str)=none:=rfl
theorem qce (x0 x1 x2 x3 x4 x5:V):(jC x0 x1 x2 x3 x4 x5).lookup ("cut_piece" : Str)=none:=rfl
theorem qah (x0 x1 x2 x3 x4 x5:V):(jC x0 x1 x2 x3 x4 x5).lookup ("is_piece_over" : Str)=none:=rfl
theorem qbd (x0 x1 x2 x3 x4 x5:V):(jC x0 x1 x2 x3 x4 x5).lookup ("gather_byte" : Str)=none:=rfl
def qbA (x0 x1 x2 x3:V):List (Str × V):=[("kind",x0),("labels",x1),("kids",x2),("depth",x3)]
theorem j4 (x0 x1 x2 x3:V):(qbA x0 x1 x2 x3).lookup ("kind" : Str)=some x0:=rfl
theorem J6 (x0 x1 x2 x3:V):(qbA x0 x1 x2 x3).lookup ("labels" : Str)=some x1:=rfl
theorem QN (x0 x1 x2 x3:V):(qbA x0 x1 x2 x3).lookup ("kids" : Str)=some x2:=rfl
theorem qaS (x0 x1 x2 x3:V):(qbA x0 x1 x2 x3).lookup ("depth" : Str)=some x3:=rfl
def qdH (x0 x1 x2:V):List (Str × V):=[("first",x0),("labels",x1),("names",x2)]
theorem qhX (x0 x1 x2:V):(qdH x0 x1 x2).lookup ("first" : Str)=some x0:=rfl
theorem qcl (x0 x1 x2:V):(qdH x0 x1 x2).lookup ("labels" : Str)=some x1:=rfl
theorem qhY (x0 x1 x2:V):(qdH x0 x1 x2).lookup ("names" : Str)=some x2:=rfl
def Q7 (x0 x1 x2 x3 x4 x5:V):List (Str × V):=[("tokens",x0),("at",x1),("level",x2),("waiting",x3),("built",x4),("begun",x5)]
theorem Zb (x0 x1 x2 x3 x4 x5:V):(Q7 x0 x1 x2 x3 x4 x5).lookup ("tokens" : Str)=some x0:=rfl
theorem Jl (x0 x1 x2 x3 x4 x5:V):(Q7 x0 x1 x2 x3 x4 x5).lookup ("at" : Str)=some x1:=rfl
theorem qaT (x0 x1 x2 x3 x4 x5:V):(Q7 x0 x1 x2 x3 x4 x5).lookup ("level" : Str)=some x2:=rfl
theorem JD (x0 x1 x2 x3 x4 x5:V):(Q7 x0 x1 x2 x3 x4 x5).lookup ("waiting" : Str)=some x3:=rfl
theorem QU (x0 x1 x2 x3 x4 x5:V):(Q7 x0 x1 x2 x3 x4 x5).lookup ("built" : Str)=some x4:=rfl
theorem ZE (x0 x1 x2 x3 x4 x5:V):(Q7 x0 x1 x2 x3 x4 x5).lookup ("begun" : Str)=some x5:=rfl
theorem qbB (x0 x1 x2 x3 x4 x5:V):(Q7 x0 x1 x2 x3 x4 x5).lookup ("step" : Str)=none:=rfl
theorem qbC (x0 x1 x2 x3 x4 x5:V):(Q7 x0 x1 x2 x3 x4 x5).lookup ("read_token" : Str)=none:=rfl
theorem qgB (x0 x1 x2 x3 x4 x5:V):(Q7 x0 x1 x2 x3 x4 x5).lookup ("act" : Str)=none:=rfl
theorem qbe (x0 x1 x2 x3 x4 x5:V):(Q7 x0 x1 x2 x3 x4 x5).lookup ("enter_level" : Str)=none:=rfl
theorem qcJ (x0 x1 x2 x3 x4 x5:V):(Q7 x0 x1 x2 x3 x4 x5).lookup ("end_node" : Str)=none:=rfl
structure Ad where
 Token:Addr
 Cutter:Addr
 Node:Addr
 Begun:Addr
 Reader:Addr
 Refusal:Addr
 TextTooLong:Addr
 WrongToken:Addr
 WrongSyntax:Addr
 LevelTooDeep:Addr
 NameTwice:Addr
 TreeTooDeep:Addr
 WORDS:Addr
 SIGNS:Addr
 ATOM_BEGINNINGS:Addr
 ESCAPES:Addr
 GRAMMAR:Addr
 gram:Str->Addr
structure Tx (P:Program) (w:World) (K:PySem.W.Frag) (mg:Str->Option Value) (a:Ad):Prop where
 c_Token:Cls K a.Token
 n_Token_kind:qx K a.Token "kind"
 n_Token_place:qx K a.Token "place"
 n_Token_held:qx K a.Token "held"
 c_Cutter:Cls K a.Cutter
 n_Cutter_text:qx K a.Cutter "text"
 n_Cutter_place:qx K a.Cutter "place"
 n_Cutter_tokens:qx K a.Cutter "tokens"
 n_Cutter_opened:qx K a.Cutter "opened"
 n_Cutter_in_literal:qx K a.Cutter "in_literal"
 n_Cutter_ended:qx K a.Cutter "ended"
 c_Node:Cls K a.Node
 n_Node_kind:qx K a.Node "kind"
 n_Node_labels:qx K a.Node "labels"
 n_Node_kids:qx K a.Node "kids"
 n_Node_depth:qx K a.Node "depth"
 c_Begun:Cls K a.Begun
 n_Begun_first:qx K a.Begun "first"
 n_Begun_labels:qx K a.Begun "labels"
 n_Begun_names:qx K a.Begun "names"
 c_Reader:Cls K a.Reader
 n_Reader_tokens:qx K a.Reader "tokens"
 n_Reader_at:qx K a.Reader "at"
 n_Reader_level:qx K a.Reader "level"
 n_Reader_waiting:qx K a.Reader "waiting"
 n_Reader_built:qx K a.Reader "built"
 n_Reader_begun:qx K a.Reader "begun"
 x_Refusal:jG K a.Refusal
 n_Refusal_number:qx K a.Refusal "number"
 n_Refusal_place:qx K a.Refusal "place"
 u_Refusal:subB K a.Refusal a.Refusal
 x_TextTooLong:jG K a.TextTooLong
 n_TextTooLong_number:qx K a.TextTooLong "number"
 n_TextTooLong_place:qx K a.TextTooLong "place"
 u_TextTooLong:subB K a.TextTooLong a.Refusal
 x_WrongToken:jG K a.WrongToken
 n_WrongToken_number:qx K a.WrongToken "number"
 n_WrongToken_place:qx K a.WrongToken "place"
 u_WrongToken:subB K a.WrongToken a.Refusal
 x_WrongSyntax:jG K a.WrongSyntax
 n_WrongSyntax_number:qx K a.WrongSyntax "number"
 n_WrongSyntax_place:qx K a.WrongSyntax "place"
 u_WrongSyntax:subB K a.WrongSyntax a.Refusal
 x_LevelTooDeep:jG K a.LevelTooDeep
 n_LevelTooDeep_number:qx K a.LevelTooDeep "number"
 n_LevelTooDeep_place:qx K a.LevelTooDeep "place"
 u_LevelTooDeep:subB K a.LevelTooDeep a.Refusal
 x_NameTwice:jG K a.NameTwice
 n_NameTwice_number:qx K a.NameTwice "number"
 n_NameTwice_place:qx K a.NameTwice "place"
 u_NameTwice:subB K a.NameTwice a.Refusal
 x_TreeTooDeep:jG K a.TreeTooDeep
 n_TreeTooDeep_number:qx K a.TreeTooDeep "number"
 n_TreeTooDeep_place:qx K a.TreeTooDeep "place"
 u_TreeTooDeep:subB K a.TreeTooDeep a.Refusal
 g_TAB:GlV mg "TAB" (.int (9))
 g_LINE_FEED:GlV mg "LINE_FEED" (.int (10))
 g_RETURN:GlV mg "RETURN" (.int (13))
 g_BLANK:GlV mg "BLANK" (.int (32))
 g_QUOTE:GlV mg "QUOTE" (.int (34))
 g_HASH:GlV mg "HASH" (.int (35))
 g_DOLLAR:GlV mg "DOLLAR" (.int (36))
 g_MINUS:GlV mg "MINUS" (.int (45))
 g_ZERO:GlV mg "ZERO" (.int (48))
 g_BACKSLASH:GlV mg "BACKSLASH" (.int (92))
 g_UNDERSCORE:GlV mg "UNDERSCORE" (.int (95))
 g_LEFT_BRACE:GlV mg "LEFT_BRACE" (.int (123))
 g_RIGHT_BRACE:GlV mg "RIGHT_BRACE" (.int (125))
 g_MOST_NAME_BYTES:GlV mg "MOST_NAME_BYTES" (.int (32))
 g_MOST_DIGITS:GlV mg "MOST_DIGITS" (.int (30))
 g_NOTHING:GlV mg "NOTHING" (.int (-1))
 g_MOST_TEXT_BYTES:GlV mg "MOST_TEXT_BYTES" (.int (2048))
 g_MOST_LEVELS:GlV mg "MOST_LEVELS" (.int (40))
 g_MOST_DEPTH:GlV mg "MOST_DEPTH" (.int (40))
 g_WORDS:GlV mg "WORDS" (.ref a.WORDS)
 t_WORDS:qaP K a.WORDS (JC.map V.str)
 g_SIGNS:GlV mg "SIGNS" (.ref a.SIGNS)
 t_SIGNS:qaP K a.SIGNS (Za.map V.str)
 g_ATOM_BEGINNINGS:GlV mg "ATOM_BEGINNINGS" (.ref a.ATOM_BEGINNINGS)
 t_ATOM_BEGINNINGS:qaP K a.ATOM_BEGINNINGS (qda.map V.str)
 g_ESCAPES:GlV mg "ESCAPES" (.ref a.ESCAPES)
 d_ESCAPES:QG P w K a.ESCAPES J4
 g_GRAMMAR:GlV mg "GRAMMAR" (.ref a.GRAMMAR)
 d_GRAMMAR:QG P w K a.GRAMMAR (QT.map fun r=>(Sum.inr r.1,V.ref (a.gram r.1)))
 t_gram:∀ r∈QT,qaP K (a.gram r.1) (r.2.map V.str)
 b_len:mg "len" = none
 b_ord:mg "ord" = none
 b_max:mg "max" = none
 b_tuple:mg "tuple" = none
end RT
end
section
namespace L2
open PySem PySem.Spec PyProof.Rows
def ClsAt (P:Program) (w:World) (K:PySem.W.Frag) (mg:Str->Option Value) (base:Heap) (k:Nat) (C:Addr) (x m:Str) (ps:List Str) (sp:Sp):Prop :=
 ∃ f fd,mg x=some (.ref C)/\qli K C m f/\qy P w K mg base CX0 k f fd ps sp/\Binds K fd ps []
theorem Jm {X:Cx} {k:Nat} {C:Addr} {ps:List Str} {sp:Sp} {x m:Str} {p pos apos:Pos} {e:Expr} {es:List Expr} {t:TA} {pl:Sem Bool} (G:ClsAt X.prog X.w X.K X.mg X.base k C x m ps sp) (hr:qO k X.A) (ha:PA X (e::es) t) (hg:Gl X x:=by rfl)
  (hdb:(x == ("__debug__" : Str))=false:=by decide)
  (hst:starEach (e::es) X.env=(false,eval e X.env)::starEach es X.env:=by rfl) (hpl:(backTo pos (starEach es X.env)).any (·.1)=false:=by rfl)
  (ht:eval (.Call (.Attribute (.Name x p) m apos) (e::es) [] pos) X.env=(do
   let ov <- eval (.Name x p) X.env
   standAt apos.atName
   let (f,first) <- holding [ov] (getMethod ov m pl)
   callWith pos f first (backTo pos (starEach (e::es) X.env)) (backToKw pos (keywordEach [] X.env))):=by rfl) :
  PE X (.Call (.Attribute (.Name x p) m apos) (e::es) [] pos) (qaC sp [] E0 t):=by
 obtain ⟨f,fd,h1,h2,h3,h4⟩:=G
 exact qhK hg h1 h2 h3 hr h4 .nil qM ha hdb hst hpl ht
end L2
namespace RT
open PySem PySem.Spec PyProof.Rows L2
def top (i:Nat):Stmt:=PySem.Challenge.pw_recipetexts_s07_sizes.main.body.getD i (.Pass ⟨0,0,0,0⟩)
abbrev jK:Stmt:=inClass (top 1) 0
abbrev z9:Stmt:=inClass (top 2) 0
abbrev jg:Stmt:=inClass (top 3) 0
abbrev ja:Stmt:=inClass (top 4) 0
abbrev zW:Stmt:=inClass (top 5) 0
abbrev jq:Stmt:=inClass (top 6) 0
abbrev jb:Stmt:=inClass (top 7) 0
abbrev Qs:Stmt:=inClass (top 10) 0
abbrev jQ:Stmt:=top 11
abbrev QV:Stmt:=top 12
abbrev QW:Stmt:=top 27
abbrev qdI:Stmt:=top 33
abbrev jR:Stmt:=top 34
abbrev Qt:Stmt:=top 35
abbrev Zp:Stmt:=top 36
abbrev ZM:Stmt:=top 37
abbrev QX:Stmt:=top 38
abbrev Qu:Stmt:=top 39
abbrev QY:Stmt:=top 40
abbrev QZ:Stmt:=top 41
abbrev Qv:Stmt:=top 42
abbrev Qa:Stmt:=top 43
abbrev Qw:Stmt:=top 44
abbrev Zq:Stmt:=top 45
abbrev Zr:Stmt:=top 46
abbrev Zs:Stmt:=top 47
abbrev Zt:Stmt:=top 48
abbrev Zu:Stmt:=top 49
abbrev ZN:Stmt:=top 50
abbrev Qb:Stmt:=top 51
abbrev Qx:Stmt:=top 52
abbrev Zv:Stmt:=top 53
abbrev ZO:Stmt:=top 54
abbrev Q0:Stmt:=top 55
abbrev jL:Stmt:=top 56
abbrev Zw:Stmt:=top 58
abbrev jS:Stmt:=top 59
abbrev Qc:Stmt:=inClass (top 67) 0
abbrev Qy:Stmt:=top 68
abbrev Q1:Stmt:=top 69
abbrev Qe:Stmt:=top 70
abbrev jM:Stmt:=top 71
abbrev jT:Stmt:=inClass (top 72) 0
abbrev jr:Stmt:=inClass (top 72) 1
abbrev jc:Stmt:=inClass (top 72) 2
abbrev zN:Stmt:=inClass (top 72) 3
abbrev zI:Stmt:=inClass (top 72) 4
abbrev jh:Stmt:=inClass (top 72) 5
abbrev zX:Stmt:=inClass (top 72) 6
abbrev zq:Stmt:=inClass (top 72) 7
abbrev ji:Stmt:=inClass (top 72) 8
abbrev zO:Stmt:=inClass (top 72) 9
abbrev jd:Stmt:=inClass (top 72) 10
abbrev zC:Stmt:=inClass (top 72) 11
abbrev zP:Stmt:=inClass (top 72) 12
abbrev qb7:Stmt:=top 73
abbrev Qg:Stmt:=inClass (top 79) 0
abbrev qai:Stmt:=top 80
abbrev ZP:Stmt:=top 81
abbrev Qz:Stmt:=top 82
abbrev jU:Stmt:=inClass (top 83) 0
abbrev jV:Stmt:=inClass (top 83) 1
abbrev zY:Stmt:=inClass (top 83) 2
abbrev Qh:Stmt:=inClass (top 83) 3
abbrev zQ:Stmt:=inClass (top 83) 4
abbrev jj:Stmt:=inClass (top 83) 5
abbrev qaj:Stmt:=top 84
abbrev Q2:Stmt:=top 86
abbrev rfF (n p:Int):List (Str × V):=[("number",.int n),("place",.int p)]
def JO (K:PySem.W.Frag):Sp:=fun vs H Q _=>∃ (e C:Addr) (xs:Array Value) (n p:Int),vs=[.ref e,.int n,.int p]/\H e=some (XOb e C xs none)/\jG K C/\qx K C "number" /\ qx K C "place" /\
 ∀ dx H',H dx=none->dx≠e->H' e=some (XOb e C xs (some dx))->H' dx=some (XDi dx (rfF n p))->(∀ b o,H b=some o->b≠e->H' b=some o)->Q .non H'
def spX (C:Addr) (n:Int) (one:Bool):Sp:=fun vs H Q _=>∃ (e:Addr) (xs:Array Value) (p:Int),(vs=if one then [.ref e,.int p] else [.ref e])/\(one=false->p=0)/\H e=some (XOb e C xs none) /\
 ∀ dx H',H dx=none->dx≠e->H' e=some (XOb e C xs (some dx))->H' dx=some (XDi dx (rfF n p))->(∀ b o,H b=some o->b≠e->H' b=some o)->Q .non H'
section
variable {P:Program} {w:World} {K:PySem.W.Frag} {mg:Str->Option Value} {base:Heap} {f:Addr} {fd:FuncData} {a:Ad}
theorem qdd:qm ["self","number","place"] ["self","number","place"] (qe jK):=⟨rfl,rfl,rfl,by decide +kernel,rfl,by decide +kernel,by decide +kernel⟩
theorem qde (F:Fun K "__init__" "Refusal.__init__" jK f fd):qy P w K mg base CX0 1 f fd ["self","number","place"] (JO K):=by
 refine F.ok qdd (fun vs H Q E h=>?_) (fun cdv A outer s H vs Q E hr h=>?_)
 ·obtain ⟨e,C,xs,n,p,rfl,_⟩:=h; rfl
 ·obtain ⟨e,C,xs,n,p,rfl,he,hC,n1,n2,k⟩:=h
  refine ⟨_,qi (qku (pv 0) (pv 1) rfl) (qf (qkv (pv 0) (pv 2) rfl)),?_⟩
  refine ⟨_,rfl,_,rfl,e,C,xs,rfl,he,hC,n1,fun dx hd hde=>?_⟩
  refine ⟨_,rfl,_,rfl,e,C,xs,dx,_,rfl,qc,(qd hde).trans qc,(by show 1<1000; decide),hC,n2,?_⟩
  refine k dx _ hd hde ?_ ?_ fun b o hb hbe=>?_
  ·rw [qd (Ne.symm hde),qc]
  ·rw [qc]; rfl
  ·rw [qd (qg hb hd),qd hbe,qd (qg hb hd)]; exact hb
theorem qbf:qm ["self"] ["self"] (qe z9):=⟨rfl,rfl,rfl,by decide +kernel,rfl,by decide +kernel,by decide +kernel⟩
theorem qbg (F:Fun K "__init__" "TextTooLong.__init__" z9 f fd) (T:Tx P w K mg a) (G:ClsAt P w K mg base 1 a.Refusal "Refusal" "__init__" ["self","number","place"] (JO K)):qy P w K mg base CX0 2 f fd ["self"] (spX a.TextTooLong 1 false):=by
 refine F.ok qbf (fun vs H Q E h=>?_) (fun cdv A outer s H vs Q E hr h=>?_)
 ·obtain ⟨e,xs,p,rfl,_⟩:=h; rfl
 ·obtain ⟨e,xs,p,rfl,hp,he,k⟩:=h
  refine ⟨_,qf (qt (Jm G hr (qa (pv 0) (qa qw (qa qw qh))))),?_⟩
  have hp0:=hp rfl
  subst hp0
  exact ⟨_,rfl,e,a.TextTooLong,xs,1,0,rfl,he,T.x_TextTooLong,T.n_TextTooLong_number,T.n_TextTooLong_place,k⟩
theorem qbD:qm ["self","place"] ["self","place"] (qe jg):=⟨rfl,rfl,rfl,by decide +kernel,rfl,by decide +kernel,by decide +kernel⟩
theorem qbE (F:Fun K "__init__" "WrongToken.__init__" jg f fd) (T:Tx P w K mg a) (G:ClsAt P w K mg base 1 a.Refusal "Refusal" "__init__" ["self","number","place"] (JO K)):qy P w K mg base CX0 2 f fd ["self","place"] (spX a.WrongToken 2 true):=by
 refine F.ok qbD (fun vs H Q E h=>?_) (fun cdv A outer s H vs Q E hr h=>?_)
 ·obtain ⟨e,xs,p,rfl,_⟩:=h; rfl
 ·obtain ⟨e,xs,p,rfl,hp,he,k⟩:=h
  refine ⟨_,qf (qt (Jm G hr (qa (pv 0) (qa qw (qa (pv 1) qh))))),?_⟩
  exact ⟨_,rfl,_,rfl,e,a.WrongToken,xs,2,p,rfl,he,T.x_WrongToken,T.n_WrongToken_number,T.n_WrongToken_place,k⟩
theorem qbh:qm ["self","place"] ["self","place"] (qe ja):=⟨rfl,rfl,rfl,by decide +kernel,rfl,by decide +kernel,by decide +kernel⟩
theorem qbi (F:Fun K "__init__" "WrongSyntax.__init__" ja f fd) (T:Tx P w K mg a) (G:ClsAt P w K mg base 1 a.Refusal "Refusal" "__init__" ["self","number","place"] (JO K)):qy P w K mg base CX0 2 f fd ["self","place"] (spX a.WrongSyntax 3 true):=by
 refine F.ok qbh (fun vs H Q E h=>?_) (fun cdv A outer s H vs Q E hr h=>?_)
 ·obtain ⟨e,xs,p,rfl,_⟩:=h; rfl
 ·obtain ⟨e,xs,p,rfl,hp,he,k⟩:=h
  refine ⟨_,qf (qt (Jm G hr (qa (pv 0) (qa qw (qa (pv 1) qh))))),?_⟩
  exact ⟨_,rfl,_,rfl,e,a.WrongSyntax,xs,3,p,rfl,he,T.x_WrongSyntax,T.n_WrongSyntax_number,T.n_WrongSyntax_place,k⟩
theorem qaU:qm ["self","place"] ["self","place"] (qe zW):=⟨rfl,rfl,rfl,by decide +kernel,rfl,by decide +kernel,by decide +kernel⟩
theorem qaV (F:Fun K "__init__" "LevelTooDeep.__init__" zW f fd) (T:Tx P w K mg a) (G:ClsAt P w K mg base 1 a.Refusal "Refusal" "__init__" ["self","number","place"] (JO K)):qy P w K mg base CX0 2 f fd ["self","place"] (spX a.LevelTooDeep 4 true):=by
 refine F.ok qaU (fun vs H Q E h=>?_) (fun cdv A outer s H vs Q E hr h=>?_)
 ·obtain ⟨e,xs,p,rfl,_⟩:=h; rfl
 ·obtain ⟨e,xs,p,rfl,hp,he,k⟩:=h
  refine ⟨_,qf (qt (Jm G hr (qa (pv 0) (qa qw (qa (pv 1) qh))))),?_⟩
  exact ⟨_,rfl,_,rfl,e,a.LevelTooDeep,xs,4,p,rfl,he,T.x_LevelTooDeep,T.n_LevelTooDeep_number,T.n_LevelTooDeep_place,k⟩
theorem qcf:qm ["self","place"] ["self","place"] (qe jq):=⟨rfl,rfl,rfl,by decide +kernel,rfl,by decide +kernel,by decide +kernel⟩
theorem qcg (F:Fun K "__init__" "NameTwice.__init__" jq f fd) (T:Tx P w K mg a) (G:ClsAt P w K mg base 1 a.Refusal "Refusal" "__init__" ["self","number","place"] (JO K)):qy P w K mg base CX0 2 f fd ["self","place"] (spX a.NameTwice 5 true):=by
 refine F.ok qcf (fun vs H Q E h=>?_) (fun cdv A outer s H vs Q E hr h=>?_)
 ·obtain ⟨e,xs,p,rfl,_⟩:=h; rfl
 ·obtain ⟨e,xs,p,rfl,hp,he,k⟩:=h
  refine ⟨_,qf (qt (Jm G hr (qa (pv 0) (qa qw (qa (pv 1) qh))))),?_⟩
  exact ⟨_,rfl,_,rfl,e,a.NameTwice,xs,5,p,rfl,he,T.x_NameTwice,T.n_NameTwice_number,T.n_NameTwice_place,k⟩
theorem qbj:qm ["self"] ["self"] (qe jb):=⟨rfl,rfl,rfl,by decide +kernel,rfl,by decide +kernel,by decide +kernel⟩
theorem qbk (F:Fun K "__init__" "TreeTooDeep.__init__" jb f fd) (T:Tx P w K mg a) (G:ClsAt P w K mg base 1 a.Refusal "Refusal" "__init__" ["self","number","place"] (JO K)):qy P w K mg base CX0 2 f fd ["self"] (spX a.TreeTooDeep 6 false):=by
 refine F.ok qbj (fun vs H Q E h=>?_) (fun cdv A outer s H vs Q E hr h=>?_)
 ·obtain ⟨e,xs,p,rfl,_⟩:=h; rfl
 ·obtain ⟨e,xs,p,rfl,hp,he,k⟩:=h
  refine ⟨_,qf (qt (Jm G hr (qa (pv 0) (qa qw (qa qw qh))))),?_⟩
  have hp0:=hp rfl
  subst hp0
  exact ⟨_,rfl,e,a.TreeTooDeep,xs,6,0,rfl,he,T.x_TreeTooDeep,T.n_TreeTooDeep_number,T.n_TreeTooDeep_place,k⟩
structure XAt (K:PySem.W.Frag) (S:Addr) (C dx:Addr) (H:Hp) (n p:Int):Prop where
 cls:jG K C
 sub:subB K C S
 nn:qx K C "number"
 np:qx K C "place"
 di:H dx=some (XDi dx (rfF n p))
def XW (K:PySem.W.Frag) (S:Addr) (H:Hp) (n p:Int) (E:XK):Prop:=∀ C dx H',qE H H'->XAt K S C dx H' n p->E (.ref C) (some dx) H'
theorem Q3 {S C:Addr} {n p:Int} {E:XK} {H:Hp} (cl:jG K C) (su:subB K C S) (n1:qx K C "number") (n2:qx K C "place") (h:XW K S H n p E) :
  ([V.int p]:List V).length<=1000/\∀ e ta,H e=none->spX C n true (.ref e::[V.int p]) (upd H e (XOb e C (xv ta) none)) (fun v H2=>v=.non/\∃ dx,H2 e=some (XOb e C (xv ta) (some dx))/\E (.ref C) (some dx) (Zj H2 e)) E0:=by
 refine ⟨by show 1<=1000; decide,fun e ta he=>⟨e,xv ta,p,rfl,(fun z=>by cases z),qc,fun dx H' hd hde h1 h2 hk=>⟨rfl,dx,h1,h C dx _ (fun b o hb=>?_) ⟨cl,su,n1,n2,?_⟩⟩⟩⟩
 ·have:=qg hb he
  rw [Qq this]
  exact hk b o (by rw [qd this]; exact hb) this
 ·rw [Qq hde]; exact h2
theorem qhd {S C:Addr} {n:Int} {E:XK} {H:Hp} (cl:jG K C) (su:subB K C S) (n1:qx K C "number") (n2:qx K C "place") (h:XW K S H n 0 E) :
  ([]:List V).length<=1000/\∀ e ta,H e=none->spX C n false (.ref e::[]) (upd H e (XOb e C (xv ta) none)) (fun v H2=>v=.non/\∃ dx,H2 e=some (XOb e C (xv ta) (some dx))/\E (.ref C) (some dx) (Zj H2 e)) E0:=by
 refine ⟨by show 0<=1000; decide,fun e ta he=>⟨e,xv ta,0,rfl,(fun z=>rfl),qc,fun dx H' hd hde h1 h2 hk=>⟨rfl,dx,h1,h C dx _ (fun b o hb=>?_) ⟨cl,su,n1,n2,?_⟩⟩⟩⟩
 ·have:=qg hb he
  rw [Qq this]
  exact hk b o (by rw [qd this]; exact hb) this
 ·rw [Qq hde]; exact h2
end
end RT
end
section
namespace RT
open PySem PySem.Spec PyProof.Rows L2
def strOf (b:List Nat):Str:=⟨b.toArray⟩
theorem zE (i j:Int):(i == j)=decide (j=i):=by
 by_cases h:i=j
 ·subst h; simp
 ·rw [beq_eq_false_iff_ne.mpr h,decide_eq_false (fun e=>h e.symm)]
def qaW:Sp:=fun vs H Q _=>∃ c:Int,vs=[.int c]/\Q (.bl (decide (65<=c/\c<=90 \/ 97<=c/\c<=122))) H
def qak:Sp:=fun vs H Q _=>∃ c:Int,vs=[.int c]/\Q (.bl (decide (48<=c/\c<=57))) H
def inName (c:Int):Bool:=decide (65<=c/\c<=90 \/ 97<=c/\c<=122)||decide (48<=c/\c<=57)||decide (c=45)||decide (c=95)
def qfI:Sp:=fun vs H Q _=>∃ c:Int,vs=[.int c]/\∀ H',qE H H'->Q (.bl (inName c)) H'
def qal:Sp:=fun vs H Q _=>∃ x:Str,vs=[.str x]/\x.cps.size<=1000/\∀ p,H p=none->Q (.ref p) (upd H p (.lst (nt x.cps.toList)))
def kindName (b:List Nat):Str:=if Vastoa.reserved.contains b then strOf b else "name"
def qfJ:Sp:=fun vs H Q _=>∃ (p:Addr) (b:List Nat),vs=[.ref p]/\H p=some (.lst (nt b))/\∀ H',qE H H'->Q (.str (kindName b)) H'
section
variable {P:Program} {w:World} {K:PySem.W.Frag} {mg:Str->Option Value} {base:Heap} {f:Addr} {fd:FuncData} {a:Ad}
theorem qfK:qm ["byte"] ["byte"] (qe Qy):=⟨rfl,rfl,rfl,by decide +kernel,rfl,by decide +kernel,by decide +kernel⟩
theorem qfL (F:Fun K "is_letter" "is_letter" Qy f fd):qy P w K mg base CX0 1 f fd ["byte"] qaW:=by
 refine F.ok qfK (fun vs H Q E h=>?_) (fun cdv A outer s H vs Q E hr h=>?_)
 ·obtain ⟨c,rfl,_⟩:=h; rfl
 ·obtain ⟨c,rfl,k⟩:=h
  refine ⟨_,qf (qF (qhv (qcv qbX qbX qw (pv 0) qw) (qiA (qcv qbX qbX qw (pv 0) qw)))),?_⟩
  simp [qfa,qj8,qfc,tC,zS,rI0,L2.start]
  by_cases h1:65<=c <;> by_cases h2:c<=90 <;> by_cases h3:97<=c <;> by_cases h4:c<=122 <;> simp [h1,h2,h3,h4] at k ⊢ <;> exact k
theorem qgC:qm ["byte"] ["byte"] (qe Q1):=⟨rfl,rfl,rfl,by decide +kernel,rfl,by decide +kernel,by decide +kernel⟩
theorem qgD (F:Fun K "is_digit" "is_digit" Q1 f fd):qy P w K mg base CX0 1 f fd ["byte"] qak:=by
 refine F.ok qgC (fun vs H Q E h=>?_) (fun cdv A outer s H vs Q E hr h=>?_)
 ·obtain ⟨c,rfl,_⟩:=h; rfl
 ·obtain ⟨c,rfl,k⟩:=h
  refine ⟨_,qf (qF (qcv qbX qbX qw (pv 0) qw)),?_⟩
  simp [qfa,qfc,tC,zS,rI0,L2.start]
  by_cases h1:48<=c <;> by_cases h2:c<=57 <;> simp [h1,h2] at k ⊢ <;> exact k
theorem qeP:qm ["byte"] ["byte"] (qe Qe):=⟨rfl,rfl,rfl,by decide +kernel,rfl,by decide +kernel,by decide +kernel⟩
theorem qeQ (F:Fun K "is_in_name" "is_in_name" Qe f fd) (T:Tx P w K mg a) (G1:FnAt P w K mg base CX0 1 "is_letter" ["byte"] qaW) (G2:FnAt P w K mg base CX0 1 "is_digit" ["byte"] qak) :
  qy P w K mg base CX0 2 f fd ["byte"] qfI:=by
 refine F.ok qeP (fun vs H Q E h=>?_) (fun cdv A outer s H vs Q E hr h=>?_)
 ·obtain ⟨c,rfl,_⟩:=h; rfl
 ·obtain ⟨c,rfl,k⟩:=h
  refine ⟨_,qf (qF (qhv (za G1 hr qM (qa (pv 0) qh)) (qhv (za G2 hr qM (qa (pv 0) qh))
   (qiA (qjf (pv 0) (qa (qN T.g_MINUS) (qa (qN T.g_UNDERSCORE) qh))))))),?_⟩
  simp [qfa,qj8,qaC,jF,QE,tC,zS,qhW,qdF,Ql,inV,eqV,qaW,qak,L2.start]
  by_cases h1:65<=c/\c<=90 \/ 97<=c/\c<=122
  ·rw [if_pos h1]
   have e:inName c=true:=by simp [inName,h1]
   rw [e] at k; exact k H (qE.refl H)
  ·rw [if_neg h1]
   by_cases h2:48<=c/\c<=57
   ·rw [if_pos h2]
    have e:inName c=true:=by simp [inName,h2]
    rw [e] at k; exact k H (qE.refl H)
   ·rw [if_neg h2]
    intro H' hs
    have e:inName c=(45 == c||95 == c):=by
     rw [zE,zE]
     simp only [inName,h1,h2,decide_false,Bool.false_or]
    rw [<- e]; exact k H' hs
theorem J7:qm ["written","sign"] ["written"] (qe QW):=⟨rfl,rfl,rfl,by decide +kernel,rfl,by decide +kernel,by decide +kernel⟩
theorem qgE (F:Fun K "bytes_of" "bytes_of" QW f fd) (T:Tx P w K mg a):qy P w K mg base CX0 1 f fd ["written"] qal:=by
 refine F.ok J7 (fun vs H Q E h=>?_) (fun cdv A outer s H vs Q E hr h=>?_)
 ·obtain ⟨c,rfl,_⟩:=h; rfl
 ·obtain ⟨x,rfl,hx,k⟩:=h
  refine ⟨_,qf (qF (qe0 (own:=[("sign",1)]) rfl J7.nd (qmP (pv 0)) (Jx rfl) (fun _ _ _ _ _=>jy (i:=1) J7.nd rfl (Or.inl rfl)) (fun _ _ _ _ _=>qag)
   (fun _ _ _ _ _=>z7 qkc (by rfl) T.b_ord boot_ord (qa (pv 1) qh)))),?_⟩
  refine ⟨_,rfl,x,rfl,fun D hD=>qm3 (fun i H'=>H'=upd H D (.lst (nt (x.cps.toList.take i)))) rfl ?_ ?_⟩
  ·rintro i c _ hc rfl
   simp [Zy,qkj,tCB,jF,QE,zS,wipe,L2.start,qc]
   have hi:i<x.cps.size:=(Array.getElem?_eq_some_iff.mp hc).1
   refine ⟨rfl,by rw [zz,List.length_take]; exact Nat.lt_of_le_of_lt (Nat.min_le_left _ _) (QK (by omega)),?_⟩
   rw [jI]
   congr 2
   have hc':x.cps.toList[i]? = some c:=by simpa using hc
   rw [List.take_succ,hc']
   simp [nt]
  ·rintro _ rfl
   have:=k D hD
   rw [List.take_of_length_le (by simp)]
   exact this
theorem qam:JC.map (fun x=>x.cps.toList)=Vastoa.reserved:=by decide +kernel
theorem JP:qm ["held","word"] ["held"] (qe jM):=⟨rfl,rfl,rfl,by decide +kernel,rfl,by decide +kernel,by decide +kernel⟩
theorem qdf (F:Fun K "kind_of_name" "kind_of_name" jM f fd) (T:Tx P w K mg a) (G:FnAt P w K mg base CX0 1 "bytes_of" ["written"] qal):qy P w K mg base CX0 2 f fd ["held"] qfJ:=by
 refine F.ok JP (fun vs H Q E h=>?_) (fun cdv A outer s H vs Q E hr h=>?_)
 ·obtain ⟨p,b,rfl,_⟩:=h; rfl
 ·obtain ⟨p,b,rfl,hp,k⟩:=h
  refine ⟨_,qi (Jq PassesOwn.never rfl (qfb (qN T.g_WORDS)) (jy (i:=1) JP.nd rfl (Or.inl rfl))
   (qf (qU (qL (qiO hr.units) (pv 0) (za G hr qM (qa (pv 1) qh)) (qV _)) (qf (qF (pv 1))) zm))) (qf (qF qJ)),?_⟩
  refine ⟨a.WORDS,rfl,⟨_,T.t_WORDS.sq _⟩,qdv (K:=K) (a:=a.WORDS) (xs:=JC.map V.str) (fun i σ H'=>∃ v:Option V,σ = [some (.ref p),v]/\qE H H'/\∀ j x,j<i->JC[j]? = some x->x.cps.toList≠b)
   ⟨none,rfl,qE.refl _,fun j x hj=>absurd hj (Nat.not_lt_zero _)⟩ (fun i σ H' _ _=>T.t_WORDS.sq _) ?_ ?_⟩
  ·rintro i y σ H' hi ⟨v,rfl,hs,hno⟩
   obtain ⟨x,hx,rfl⟩:∃ x,JC[i]? = some x/\V.str x=y:=by
    rw [List.getElem?_map] at hi
    exact Option.map_eq_some_iff.mp hi
   have hsz:x.cps.size<=1000:=by
    have all:∀ x∈JC,x.cps.size<=1000:=by decide +kernel
    exact all x (List.mem_of_getElem? hx)
   refine ⟨_,rfl,_,rfl,x,rfl,hsz,fun q hq=>qjj (SqL.of (qr hq _ _ (hs _ _ hp))) (SqL.of qc) ⟨_,rfl,zZ (fun e=>?_) fun e=>?_⟩⟩
   ·have e:b=x.cps.toList:=of_decide_eq_true e
    subst e
    refine ⟨_,rfl,?_⟩
    have h1:kindName x.cps.toList=x:=by
     have:x.cps.toList∈Vastoa.reserved:=by rw [<- qam]; exact List.mem_map.mpr ⟨x,List.mem_of_getElem? hx,rfl⟩
     unfold kindName
     rw [if_pos (List.contains_iff_mem.mpr this)]
     rfl
    rw [h1] at k
    exact k _ (hs.trans (qr hq))
   ·refine ⟨_,rfl,hs.trans (qr hq),fun j y hj hy=>?_⟩
    by_cases hji:j=i
    ·subst hji
     rw [hx] at hy
     cases hy
     exact fun z=>e (decide_eq_true z.symm)
    ·exact hno j y (by omega) hy
  ·rintro σ H' ⟨v,rfl,hs,hno⟩
   have h1:kindName b = "name":=by
    have:b∉Vastoa.reserved:=by
     rw [<- qam]
     intro hm
     obtain ⟨x,hx,rfl⟩:=List.mem_map.mp hm
     obtain ⟨j,hj⟩:=List.getElem?_of_mem hx
     exact hno j x (by have:=(List.getElem?_eq_some_iff.mp hj).1; rw [List.length_map]; exact this) hj rfl
    unfold kindName
    rw [if_neg (fun z=>this (List.contains_iff_mem.mp z))]
   rw [h1] at k
   exact k _ hs
def qhZ (a:Ad):Sp:=fun vs H Q _=>∃ (t dx:Addr) (k p h:V),vs=[.ref t,k,p,h]/\H t=some (.ins a.Token dx [])/\Q .non (upd H t (.ins a.Token dx (tokF k p h)))
theorem qeR:qm ["self","kind","place","held"] ["self","kind","place","held"] (qe Qc):=⟨rfl,rfl,rfl,by decide +kernel,rfl,by decide +kernel,by decide +kernel⟩
theorem qeS (F:Fun K "__init__" "Token.__init__" Qc f fd) (T:Tx P w K mg a):qy P w K mg base CX0 1 f fd ["self","kind","place","held"] (qhZ a):=by
 refine F.ok qeR (fun vs H Q E h=>?_) (fun cdv A outer s H vs Q E hr h=>?_)
 ·obtain ⟨t,dx,k,p,h,rfl,_⟩:=h; rfl
 ·obtain ⟨t,dx,kk,p,h,rfl,ht,k⟩:=h
  refine ⟨_,qi (zu (pv 0) (pv 1) rfl) (qi (zu (pv 0) (pv 2) rfl) (qf (zu (pv 0) (pv 3) rfl))),?_⟩
  refine ⟨_,rfl,_,rfl,t,_,dx,_,rfl,ht,T.c_Token,T.n_Token_kind,(by show 0<1000; decide),?_⟩
  refine ⟨_,rfl,_,rfl,t,_,dx,_,rfl,qc,T.c_Token,T.n_Token_place,(by show 1<1000; decide),?_⟩
  refine ⟨_,rfl,_,rfl,t,_,dx,_,rfl,qc,T.c_Token,T.n_Token_held,(by show 2<1000; decide),?_⟩
  rw [jI,jI]
  exact k
end
end RT
end
section
namespace RT
open PySem PySem.Spec PyProof.Rows L2
open Vastoa (Mark Marks)
abbrev qbF:=Vastoa.Tok
def jP:qbF->Str
 | .name _=> "name"
 | .num _=> "number"
 | .quote=> "quote"
 | .unquote=> "unquote"
 | .piece _=> "piece"
 | .hole=> "hole"
 | .unhole=> "unhole"
 | .fin=> "end"
 | .word x=>strOf x
 | .sign x=>strOf x
def qo (M:Addr->Prop) (H H':Hp):Prop:=∀ b o,H b=some o->¬ M b->H' b=some o
theorem qo.refl (M:Addr->Prop) (H:Hp):qo M H H:=fun _ _ h _=>h
theorem qo.trans {M:Addr->Prop} {H H1 H2:Hp} (h:qo M H H1) (h':qo M H1 H2):qo M H H2:=fun b o e n=>h' b o (h b o e n) n
theorem qo.of {M:Addr->Prop} {H H':Hp} (h:qE H H'):qo M H H':=fun b o e _=>h b o e
theorem qo.at_ {M:Addr->Prop} {H:Hp} {p:Addr} {o:HO} (h:M p):qo M H (upd H p o):=fun b u e n=>by rw [qd (fun z=>n (by rw [z]; exact h))]; exact e
theorem qo.new {M:Addr->Prop} {H:Hp} {p:Addr} {o:HO} (h:H p=none):qo M H (upd H p o):=qo.of (qr h)
theorem qo.wide {M M':Addr->Prop} {H H':Hp} (k:qo M H H') (h:∀ b,M b->M' b):qo M' H H':=fun b o e n=>k b o e fun z=>n (h b z)
def SqM (K:PySem.W.Frag) (M:Addr->Prop) (H:Hp) (p:Addr) (xs:List V):Prop:=(Rd H p (.lst xs)/\¬ M p) \/ ∃ (o:Obj) (its:Array Value) (n:Nat),K.lookup p=some o/\o.cls=.type "list" /\ o.dict=none/\o.data=.seq its n/\its.size<=sizeLine/\qD xs its.toList
theorem SqM.sq {K:PySem.W.Frag} {M:Addr->Prop} {H:Hp} {p:Addr} {xs:List V} (h:SqM K M H p xs):SqL K H p xs:=h.imp (·.1) id
theorem SqM.keep {K:PySem.W.Frag} {M:Addr->Prop} {H H':Hp} {p:Addr} {xs:List V} (h:SqM K M H p xs) (k:qo M H H'):SqM K M H' p xs:=by
 rcases h with ⟨q | ⟨o,q⟩,n⟩ | q
 ·exact .inl ⟨.inl (k _ _ q n),n⟩
 ·exact .inl ⟨.inr ⟨o,k _ _ q n⟩,n⟩
 ·exact .inr q
theorem ZV {A B:Type} {R:A->B->Prop}:∀ {as:List A} {bs:List B} {x:A} {y:B},Paired R as bs->R x y->Paired R (as++[x]) (bs++[y])
 | _,_,_,_,.nil,r=>.cons r .nil
 | _,_,_,_,.cons q t,r=>.cons q (ZV t r)
theorem qX {A B:Type} {R S:A->B->Prop} (i:∀ x y,R x y->S x y):∀ {as:List A} {bs:List B},Paired R as bs->Paired S as bs
 | _,_,.nil=>.nil
 | _,_,.cons q t=>.cons (i _ _ q) (qX i t)
theorem zR {A B:Type} {R:A->B->Prop}:∀ {as:List A} {bs:List B} {j:Nat} {y:B},Paired R as bs->bs[j]? = some y->∃ x,as[j]? = some x/\R x y
 | _,_,j,_,.nil,e=>by simp at e
 | _,_,0,_,.cons q t,e=>by simp at e; subst e; exact ⟨_,rfl,q⟩
 | _,_,j+1,y,.cons q t,e=>by
  obtain ⟨x,h1,h2⟩:=zR (j:=j) (y:=y) t (by simpa using e)
  exact ⟨x,by simpa using h1,h2⟩
def j6 (a:Ad) (M:Addr->Prop) (H:Hp) (t:Addr) (m:Mark):Prop:=∃ dx ha,H t=some (.ins a.Token dx (tokF (.str (jP m.tok)) (.int m.place) (.ref ha)))/\H ha=some (.lst (nt (RM.held m.tok)))/\¬ M t/\¬ M ha
theorem j6.keep {a:Ad} {M:Addr->Prop} {H H':Hp} {t:Addr} {m:Mark} (h:j6 a M H t m) (k:qo M H H'):j6 a M H' t m:=by
 obtain ⟨dx,ha,h1,h2,h3,h4⟩:=h
 exact ⟨dx,ha,k _ _ h1 h3,k _ _ h2 h4,h3,h4⟩
structure CA where
 c:Addr
 dx:Addr
 a:Addr
 tl:Addr
 ol:Addr
def CA.M (z:CA) (b:Addr):Prop:=b=z.c \/ b=z.tl \/ b=z.ol
theorem CA.mc (z:CA):z.M z.c:=.inl rfl
theorem CA.mt (z:CA):z.M z.tl:=.inr (.inl rfl)
theorem CA.mo (z:CA):z.M z.ol:=.inr (.inr rfl)
def opS (b:Bool):V:=.str (if b then "hole" else "brace")
structure qP (a:Ad) (K:PySem.W.Frag) (H:Hp) (z:CA) (txt:List Nat) (i:Nat) (T:Marks) (O:List Bool) (lit en:Bool):Prop where
 ins:H z.c=some (.ins a.Cutter z.dx (jC (.ref z.a) (.int i) (.ref z.tl) (.ref z.ol) (.bl lit) (.bl en)))
 txt:SqM K z.M H z.a (nt txt)
 tl:∃ as,H z.tl=some (.lst (as.map V.ref))/\Paired (j6 a z.M H) as T
 ol:H z.ol=some (.lst (O.reverse.map opS))
 nto:z.tl≠z.ol
section
variable {a:Ad} {K:PySem.W.Frag} {H H':Hp} {z:CA} {txt:List Nat} {i:Nat} {T:Marks} {O:List Bool} {lit en:Bool}
theorem qP.nct (h:qP a K H z txt i T O lit en):z.c≠z.tl:=by
 obtain ⟨as,h1,_⟩:=h.tl
 exact qbV h.ins h1 (by intro q; cases q)
theorem qP.nco (h:qP a K H z txt i T O lit en):z.c≠z.ol:=qbV h.ins h.ol (by intro q; cases q)
theorem qP.fresh (h:qP a K H z txt i T O lit en) {p:Addr} (hp:H p=none):¬ z.M p:=by
 obtain ⟨as,h1,_⟩:=h.tl
 rintro (rfl | rfl | rfl)
 ·rw [h.ins] at hp; cases hp
 ·rw [h1] at hp; cases hp
 ·rw [h.ol] at hp; cases hp
theorem qP.same (h:qP a K H z txt i T O lit en) (s:qE H H'):qP a K H' z txt i T O lit en:=by
 obtain ⟨as,h1,h2⟩:=h.tl
 exact ⟨s _ _ h.ins,h.txt.keep (qo.of s),⟨as,s _ _ h1,qX (fun x y q=>q.keep (qo.of s)) h2⟩,s _ _ h.ol,h.nto⟩
theorem qP.put (h:qP a K H z txt i T O lit en) (i':Nat) (lit' en':Bool):qP a K (upd H z.c (.ins a.Cutter z.dx (jC (.ref z.a) (.int i') (.ref z.tl) (.ref z.ol) (.bl lit') (.bl en')))) z txt i' T O lit' en':=by
 obtain ⟨as,h1,h2⟩:=h.tl
 have k:qo z.M H (upd H z.c (.ins a.Cutter z.dx (jC (.ref z.a) (.int i') (.ref z.tl) (.ref z.ol) (.bl lit') (.bl en')))):=qo.at_ z.mc
 exact ⟨qc,h.txt.keep k,⟨as,by rw [qd (Ne.symm h.nct)]; exact h1,qX (fun x y q=>q.keep k) h2⟩,by rw [qd (Ne.symm h.nco)]; exact h.ol,h.nto⟩
theorem qP.putO (h:qP a K H z txt i T O lit en) (O':List Bool):qP a K (upd H z.ol (.lst (O'.reverse.map opS))) z txt i T O' lit en:=by
 obtain ⟨as,h1,h2⟩:=h.tl
 have k:qo z.M H (upd H z.ol (.lst (O'.reverse.map opS))):=qo.at_ z.mo
 exact ⟨by rw [qd h.nco]; exact h.ins,h.txt.keep k,⟨as,by rw [qd h.nto]; exact h1,qX (fun x y q=>q.keep k) h2⟩,qc,h.nto⟩
theorem qP.putT (h:qP a K H z txt i T O lit en) {as:List Addr} {t:Addr} {m:Mark} (h1:H z.tl=some (.lst (as.map V.ref))) (ht:j6 a z.M H t m):qP a K (upd H z.tl (.lst (as.map V.ref++[.ref t]))) z txt i (T++[m]) O lit en:=by
 obtain ⟨as',h1',h2⟩:=h.tl
 rw [h1] at h1'
 have e:as=as':=by
  have:=Option.some.inj h1'
  injection this with this
  exact List.map_inj_right (fun x y q=>by injection q) |>.mp this
 subst e
 have k:qo z.M H (upd H z.tl (.lst (as.map V.ref++[.ref t]))):=qo.at_ z.mt
 exact ⟨by rw [qd h.nct]; exact h.ins,h.txt.keep k,⟨as++[t],by rw [qc,List.map_append]; rfl,qX (fun x y q=>q.keep k) (ZV h2 ht)⟩,by rw [qd (Ne.symm h.nto)]; exact h.ol,h.nto⟩
end
def qjm (a:Ad) (K:PySem.W.Frag) (H:Hp) (c:Addr) (txt:List Nat):Prop:=∃ dx ta p t o l e,H c=some (.ins a.Cutter dx (jC (.ref ta) p t o l e))/\SqL K H ta (nt txt)
theorem qP.text {a:Ad} {K:PySem.W.Frag} {H:Hp} {z:CA} {txt:List Nat} {i:Nat} {T:Marks} {O:List Bool} {lit en:Bool} (h:qP a K H z txt i T O lit en):qjm a K H z.c txt:=⟨_,_,_,_,_,_,_,h.ins,h.txt.sq⟩
def byteAt (txt:List Nat) (j:Nat):Int:=match txt[j]? with
 | some b=>(b:Int)
 | none=>-1
def QO (a:Ad) (K:PySem.W.Frag):Sp:=fun vs H Q _=>∃ (c:Addr) (txt:List Nat) (j:Nat),vs=[.ref c,.int j]/\qjm a K H c txt/\Q (.int (byteAt txt j)) H
def Qn (a:Ad) (K:PySem.W.Frag):Sp:=fun vs H Q _=>∃ (z:CA) (txt:List Nat) (i:Nat) (T:Marks) (O:List Bool) (lit en:Bool) (t:qbF) (n:Nat) (ha:Addr),vs=[.ref z.c,.str (jP t),.int n,.ref ha] /\
 qP a K H z txt i T O lit en/\H ha=some (.lst (nt (RM.held t)))/\¬ z.M ha/\T.length<1000000/\∀ H',qo z.M H H'->qP a K H' z txt (i+n) (T++[⟨i,t⟩]) O lit en->Q .non H'
section
variable {P:Program} {w:World} {K:PySem.W.Frag} {mg:Str->Option Value} {base:Heap} {f:Addr} {fd:FuncData} {a:Ad}
theorem qh0:qm ["self","place"] ["self","place"] (qe jr):=⟨rfl,rfl,rfl,by decide +kernel,rfl,by decide +kernel,by decide +kernel⟩
theorem qh1 (F:Fun K "byte_at" "Cutter.byte_at" jr f fd) (T:Tx P w K mg a):qy P w K mg base CX0 1 f fd ["self","place"] (QO a K):=by
 refine F.ok qh0 (fun vs H Q E h=>?_) (fun cdv A outer s H vs Q E hr h=>?_)
 ·obtain ⟨c,txt,j,rfl,_⟩:=h; rfl
 ·obtain ⟨c,txt,j,rfl,⟨dx,ta,p,t,o,l,e,hc,ht⟩,k⟩:=h
  refine ⟨_,qf (qF (qay (qL qhB (pv 1) (z7 zy (by rfl) T.b_len PySem.boot_len (qa (qj (pv 0) rfl) qh)) (qV _))
   (jz zH (qj (pv 0) rfl) (pv 1) (fun _ _=>rfl)) (qN T.g_NOTHING))),?_⟩
  refine ⟨_,rfl,_,rfl,c,_,dx,_,_,rfl,hc,T.c_Cutter,T.n_Cutter_text,Z4 _ _ _ _ _ _,ta,_,rfl,.inl ht,_,_,rfl,rfl,_,rfl,zZ (fun q=>?_) fun q=>?_⟩
  ·have hj:j<txt.length:=by
    have:=of_decide_eq_true q
    rw [zz] at this
    omega
   refine ⟨_,rfl,c,_,dx,_,_,rfl,hc,T.c_Cutter,T.n_Cutter_text,Z4 _ _ _ _ _ _,_,rfl,ta,_,_,_,rfl,rfl,ht,jJ (v:=V.int (txt[j]:Int)) (by simp [nt,hj]),?_⟩
   have:byteAt txt j=(txt[j]:Int):=by unfold byteAt; rw [List.getElem?_eq_getElem hj]
   rw [this] at k; exact k
  ·have hj:¬ j<txt.length:=fun z=>q (decide_eq_true (by rw [zz]; omega))
   have:byteAt txt j = -1:=by unfold byteAt; rw [List.getElem?_eq_none (by omega)]
   rw [this] at k; exact k
theorem qfM:qm ["self","kind","length","held"] ["self","kind","length","held"] (qe jc):=⟨rfl,rfl,rfl,by decide +kernel,rfl,by decide +kernel,by decide +kernel⟩
theorem qfN (F:Fun K "add_token" "Cutter.add_token" jc f fd) (T:Tx P w K mg a) (G:qcE P w K mg base CX0 1 a.Token "Token" ["self","kind","place","held"] (qhZ a)):qy P w K mg base CX0 3 f fd ["self","kind","length","held"] (Qn a K):=by
 refine F.ok qfM (fun vs H Q E h=>?_) (fun cdv A outer s H vs Q E hr h=>?_)
 ·obtain ⟨z,txt,i,Tk,O,lit,en,t,n,ha,rfl,_⟩:=h; rfl
 ·obtain ⟨z,txt,i,Tk,O,lit,en,t,n,ha,rfl,hC,hha,nha,hlen,k⟩:=h
  refine ⟨_,qi (qt (zF PySem.F.plainAttrs_list PySem.F.slot_list_append PySem.F.type_list_append zn (qj (pv 0) rfl)
   (qa (Zl G hr qM (qa (pv 1) (qa (qj (pv 0) rfl) (qa (pv 3) qh)))) qh))) (qf (Qi (pv 0) (pv 2) Jt)),?_⟩
  obtain ⟨as,h1,h2⟩:=hC.tl
  refine ⟨_,rfl,z.c,_,z.dx,_,_,rfl,hC.ins,T.c_Cutter,T.n_Cutter_tokens,J5 _ _ _ _ _ _,.inl ⟨rfl,_,SqL.of h1⟩,?_⟩
  refine ⟨_,rfl,_,rfl,z.c,_,z.dx,_,_,rfl,hC.ins,T.c_Cutter,T.n_Cutter_place,qK _ _ _ _ _ _,_,rfl,?_⟩
  intro x dx hx hdx hne
  refine ⟨x,dx,_,_,_,rfl,qc,rfl,?_⟩
  rw [jI]
  have nx:=hC.fresh hx
  have s1:qE H (upd (upd H dx (.own x)) x (.ins a.Token dx (tokF (.str (jP t)) (.int i) (.ref ha)))):=fun b o e=>by rw [qd (qg e hx),qd (qg e hdx)]; exact e
  have C1:=hC.same s1
  have tk:j6 a z.M (upd (upd H dx (.own x)) x (.ins a.Token dx (tokF (.str (jP t)) (.int i) (.ref ha)))) x ⟨i,t⟩:=⟨dx,ha,qc,s1 _ _ hha,nx,nha⟩
  have h1':=s1 _ _ h1
  refine ⟨z.tl,_,_,rfl,rfl,h1',?_,?_⟩
  ·rw [List.length_map,Paired.length h2]; exact Nat.lt_trans hlen (by decide)
  have C2:=C1.putT h1' tk
  refine ⟨_,rfl,z.c,_,z.dx,_,_,rfl,C2.ins,T.c_Cutter,T.n_Cutter_place,qK _ _ _ _ _ _,_,rfl,_,_,rfl,rfl,z.dx,_,C2.ins,(by show 6<1000; decide),?_⟩
  have C3:=C2.put (i+n) lit en
  refine k _ ?_ C3
  exact ((qo.of s1).trans (qo.at_ z.mt)).trans (qo.at_ z.mc)
end
end RT
end
section
namespace RT
open PySem PySem.Spec PyProof.Rows L2
open Vastoa (Mark Marks)
def XWM (M:Addr->Prop) (K:PySem.W.Frag) (S:Addr) (H:Hp) (n p:Int) (E:XK):Prop:=∀ C dx H',qo M H H'->XAt K S C dx H' n p->E (.ref C) (some dx) H'
theorem XWM.on {M:Addr->Prop} {K:PySem.W.Frag} {S:Addr} {H H1:Hp} {n p:Int} {E:XK} (h:XWM M K S H n p E) (k:qo M H H1):XW K S H1 n p E:=fun C dx H' s x=>h C dx H' (k.trans (qo.of s)) x
theorem XWM.from {M:Addr->Prop} {K:PySem.W.Frag} {S:Addr} {H H1:Hp} {n p:Int} {E:XK} (h:XWM M K S H n p E) (k:qo M H H1):XWM M K S H1 n p E:=fun C dx H' s x=>h C dx H' (k.trans s) x
def Run (txt:List Nat) (p:Nat->Bool) (i j:Nat):Prop:=i<=j/\j<=txt.length/\∀ x,i<=x->x<j->∃ c,txt[x]? = some c/\p c=true
theorem Run.more {txt:List Nat} {p:Nat->Bool} {i j c:Nat} (r:Run txt p i j) (e:txt[j]? = some c) (h:p c=true):Run txt p i (j+1) :=
 ⟨Nat.le_succ_of_le r.1,(List.getElem?_eq_some_iff.mp e).1,fun x h1 h2=>by
  by_cases hx:x=j
  ·subst hx; exact ⟨c,e,h⟩
  ·exact r.2.2 x h1 (by omega)⟩
theorem zM {txt:List Nat} {j c:Nat} (e:txt[j]? = some c):byteAt txt j=(c:Int):=by unfold byteAt; rw [e]
theorem ju {txt:List Nat} {j:Nat} (e:txt[j]? = none):byteAt txt j = -1:=by unfold byteAt; rw [e]
def qa9 (a:Ad) (K:PySem.W.Frag):Sp:=fun vs H Q _=>∃ (z:CA) (txt:List Nat) (i:Nat) (T:Marks) (O:List Bool) (lit en:Bool),vs=[.ref z.c]/\qP a K H z txt i T O lit en/\i<=txt.length /\
 ∀ H' j,qo z.M H H'->qP a K H' z txt j T O lit en->Run txt (fun y=>y != 10) i j->(∀ c,txt[j]? = some c->c=10)->Q .non H'
section
variable {P:Program} {w:World} {K:PySem.W.Frag} {mg:Str->Option Value} {base:Heap} {f:Addr} {fd:FuncData} {a:Ad}
theorem qdg:qm ["self"] ["self"] (qe zI):=⟨rfl,rfl,rfl,by decide +kernel,rfl,by decide +kernel,by decide +kernel⟩
theorem qdh (F:Fun K "pass_comment" "Cutter.pass_comment" zI f fd) (T:Tx P w K mg a) (G:jf P w K mg base CX0 1 a.Cutter "byte_at" ["self","place"] (QO a K)):qy P w K mg base CX0 2 f fd ["self"] (qa9 a K):=by
 refine F.ok qdg (fun vs H Q E h=>?_) (fun cdv A outer s H vs Q E hr h=>?_)
 ·obtain ⟨z,txt,i,Tk,O,lit,en,rfl,_⟩:=h; rfl
 ·obtain ⟨z,txt,i,Tk,O,lit,en,rfl,hC,hi,k⟩:=h
  refine ⟨_,qf (Qj PassesOwn.never (qex (zi G T.c_Cutter hr qM (pv 0) (qa (qj (pv 0) rfl) qh)) (qa (qN T.g_LINE_FEED) (qa (qN T.g_NOTHING) qh)))
   (qf (Qi (pv 0) qw Jt))),?_⟩
  refine ⟨fun m σ H'=>σ = [some (.ref z.c)]/\∃ j,qP a K H' z txt j Tk O lit en/\qo z.M H H'/\Run txt (fun y=>y != 10) i j/\m=txt.length - j,⟨_,rfl,i,hC,qo.refl _ _,⟨Nat.le_refl _,hi,fun x h1 h2=>by omega⟩,rfl⟩,?_⟩
  rintro m σ H1 ⟨rfl,j,C1,k1,r1,rfl⟩
  refine ⟨_,rfl,z.c,z.dx,_,rfl,C1.ins,zG _ _ _ _ _ _,_,rfl,z.c,_,z.dx,_,_,rfl,C1.ins,T.c_Cutter,T.n_Cutter_place,qK _ _ _ _ _ _,z.c,txt,j,rfl,C1.text,rfl,fun H2 s2=>⟨_,rfl,?_⟩⟩
  have C2:=C1.same s2
  cases e:txt[j]? with
  | none=>
   rw [ju e]
   refine zp ?_
   exact k H2 j (k1.trans (qo.of s2)) C2 r1 fun c hc=>by rw [e] at hc; cases hc
  | some c=>
   rw [zM e]
   have hin:inV (.int (c:Int)) [V.int 10,V.int (-1)]=decide (c=10):=by
    simp only [inV,List.any_cons,List.any_nil,eqV,zE,Bool.or_false]
    have:¬ ((c:Int) = -1):=by omega
    simp only [this,decide_false,Bool.or_false]
    by_cases h:c=10
    ·subst h; rfl
    ·rw [decide_eq_false h,decide_eq_false (by omega)]
   rw [hin]
   by_cases h:c=10
   ·rw [decide_eq_true h]
    refine zp ?_
    exact k H2 j (k1.trans (qo.of s2)) C2 r1 fun c' hc=>by rw [e] at hc; cases hc; exact h
   ·rw [decide_eq_false h]
    refine zL ⟨_,fun σ' H' q=>q,?_⟩
    refine ⟨_,rfl,z.c,_,z.dx,_,_,rfl,C2.ins,T.c_Cutter,T.n_Cutter_place,qK _ _ _ _ _ _,_,_,rfl,rfl,z.dx,_,C2.ins,(by show 6<1000; decide),?_⟩
    have C3:=C2.put (j+1) lit en
    have hj:j<txt.length:=(List.getElem?_eq_some_iff.mp e).1
    refine ⟨txt.length - (j+1),by omega,rfl,j+1,C3,(k1.trans (qo.of s2)).trans (qo.at_ z.mc),r1.more e (by simpa using h),rfl⟩
end
end RT
end
section
namespace RT
open PySem PySem.Spec PyProof.Rows L2
open Vastoa (Mark Marks)
def piece (txt:List Nat) (i j:Nat):List Nat:=(txt.drop i).take (j - i)
theorem qhe (txt:List Nat) {i j:Nat} (h:i<=j) (hj:j<=txt.length):Jv (nt txt) (some (i:Int)) (some (j:Int))=nt (piece txt i j):=by
 unfold Jv piece
 rw [HT.qbZ,HT.qbZ,zz,Nat.min_eq_left hj,Nat.min_eq_left (Nat.le_trans h hj)]
 simp only [nt,List.map_take,List.map_drop]
theorem qeB {txt:List Nat} {i j:Nat} (h:i<=j) (hj:j<=txt.length):(piece txt i j).length=j - i:=by
 unfold piece; rw [List.length_take,List.length_drop]; omega
theorem qfO (c:Nat):inName (c:Int)=Vastoa.inner c:=by
 unfold inName Vastoa.inner Vastoa.letter Vastoa.digit
 rw [Bool.eq_iff_iff]
 simp
 omega
theorem qh2:inName (-1)=false:=by decide
def nameTok (b:List Nat):qbF:=if Vastoa.reserved.contains b then .word b else .name b
theorem qfP (b:List Nat):jP (nameTok b)=kindName b:=by
 unfold nameTok kindName
 split <;> rfl
theorem qfQ (b:List Nat):RM.held (nameTok b)=b:=by
 unfold nameTok
 split <;> rfl
def qeC (a:Ad) (K:PySem.W.Frag):Sp:=fun vs H Q E=>∃ (z:CA) (txt:List Nat) (i:Nat) (T:Marks) (O:List Bool) (lit en:Bool),vs=[.ref z.c]/\qP a K H z txt i T O lit en/\i<=txt.length/\T.length<1000000 /\
 ∀ j,Run txt Vastoa.inner i j->(∀ c,txt[j]? = some c->Vastoa.inner c=false)->(32<j - i->XWM z.M K a.Refusal H 2 i E) /\
  (j - i<=32->∀ H',qo z.M H H'->qP a K H' z txt j (T++[⟨i,nameTok (piece txt i j)⟩]) O lit en->Q .non H')
section
variable {P:Program} {w:World} {K:PySem.W.Frag} {mg:Str->Option Value} {base:Heap} {f:Addr} {fd:FuncData} {a:Ad}
theorem ZW:qm ["self","end","held"] ["self"] (qe jh):=⟨rfl,rfl,rfl,by decide +kernel,rfl,by decide +kernel,by decide +kernel⟩
theorem qgF (F:Fun K "cut_name" "Cutter.cut_name" jh f fd) (T:Tx P w K mg a) (Gb:jf P w K mg base CX0 1 a.Cutter "byte_at" ["self","place"] (QO a K))
  (Gi:FnAt P w K mg base CX0 2 "is_in_name" ["byte"] qfI) (Gk:FnAt P w K mg base CX0 2 "kind_of_name" ["held"] qfJ) (Ga:jf P w K mg base CX0 3 a.Cutter "add_token" ["self","kind","length","held"] (Qn a K))
  (Gx:Zg P w K mg base 2 a.WrongToken "WrongToken" ["self","place"] (spX a.WrongToken 2 true)):qy P w K mg base (CXR P w) 4 f fd ["self"] (qeC a K):=by
 refine F.okR ZW (fun vs H Q E h=>?_) (fun cdv A outer s H vs Q E hr h=>?_)
 ·obtain ⟨z,txt,i,Tk,O,lit,en,rfl,_⟩:=h; rfl
 ·obtain ⟨z,txt,i,Tk,O,lit,en,rfl,hC,hi,hT,k⟩:=h
  have hr1:qO 1 _:=hr.mono (by decide)
  have hr2:qO 2 _:=hr.mono (by decide)
  refine ⟨_,qi (qZ (i:=1) ZW.nd rfl (Or.inl rfl) (qj (pv 0) rfl))
   (qi (Qj PassesOwn.leaving (QJ (za Gi hr2 qM (qa (zi Gb T.c_Cutter hr1 qM (pv 0) (qa (pv 1) qh)) qh))) (qf (qiC (i:=1) ZW.nd rfl (Or.inl rfl) qw qiD)))
   (qi (qU (qL JM (QQ qcO (pv 1) (qj (pv 0) rfl)) (qN T.g_MOST_NAME_BYTES) (qV _)) (qf (jZ Gx hr (qa (qj (pv 0) rfl) qh))) zm)
   (qi (qZ (i:=2) ZW.nd rfl (Or.inl rfl) (Ju qb1 (qj (pv 0) rfl) (QR (qj (pv 0) rfl)) (QR (pv 1))))
   (qf (qt (zi Ga T.c_Cutter hr qM (pv 0) (qa (za Gk hr2 qM (qa (pv 2) qh)) (qa (z7 zy (by rfl) T.b_len PySem.boot_len (qa (pv 2) qh)) (qa (pv 2) qh))))))))),?_⟩
  refine ⟨_,rfl,z.c,_,z.dx,_,_,rfl,hC.ins,T.c_Cutter,T.n_Cutter_place,qK _ _ _ _ _ _,?_⟩
  refine ⟨fun m σ H'=>∃ j:Nat,σ = [some (.ref z.c),some (.int (j:Int)),none]/\qP a K H' z txt i Tk O lit en/\qo z.M H H'/\Run txt Vastoa.inner i j/\m=txt.length - j,⟨_,i,rfl,hC,qo.refl _ _,⟨Nat.le_refl _,hi,fun x h1 h2=>by omega⟩,rfl⟩,?_⟩
  rintro m σ H1 ⟨j,rfl,C1,k1,r1,rfl⟩
  refine ⟨_,rfl,z.c,z.dx,_,rfl,C1.ins,zG _ _ _ _ _ _,_,rfl,z.c,txt,j,rfl,C1.text,_,rfl,fun H2 s2=>⟨_,rfl,?_⟩⟩
  have C2:=C1.same s2
  have k2:=k1.trans (qo.of s2)
  have over:(∀ c,txt[j]? = some c->Vastoa.inner c=false)->∀ D:Ends,D.rt=Q->D.nx=(fun _ H'=>Q .non H') ->
    qhw (qj9 (qcP (tOp (rI0 fun i j=>.bl (decide (j<i))) (tOp (rI0 fun i j=>.int (i - j)) (zS 1) (JV K (zS 0) "place")) (tC (.int 32)))) (qbt a.WrongToken (spX a.WrongToken 2 true) E (jF (JV K (zS 0) "place") QE)) qla)
     (qhw (qhy (tSl (qmG K) (JV K (zS 0) "text") (qhG (JV K (zS 0) "place")) (qhG (zS 1))) (Zy 2))
      (qlb (qcV a.Cutter "add_token" (Qn a K) [] E0 (zS 0) (jF (qaC qfJ [] E0 (jF (zS 2) QE)) (jF (tCB (fun xs H Q=>∃ p ys,xs=[V.ref p]/\(SqL K H p ys \/ SqT K H p ys)/\Q (.int ys.length) H) (jF (zS 2) QE)) (jF (zS 2) QE)))))) D [some (.ref z.c),some (.int (j:Int)),none] H2:=by
   intro hend D hD hN
   obtain ⟨kx,ko⟩:=k j r1 hend
   have hij:=r1.1
   refine ⟨_,rfl,_,rfl,z.c,_,z.dx,_,_,rfl,C2.ins,T.c_Cutter,T.n_Cutter_place,qK _ _ _ _ _ _,_,_,rfl,rfl,_,_,rfl,rfl,_,rfl,zZ (fun q=>?_) fun q=>?_⟩
   ·have q:=of_decide_eq_true q
    refine ⟨_,rfl,z.c,_,z.dx,_,_,rfl,C2.ins,T.c_Cutter,T.n_Cutter_place,qK _ _ _ _ _ _,?_⟩
    exact Q3 T.x_WrongToken T.u_WrongToken T.n_WrongToken_number T.n_WrongToken_place ((kx (by omega)).on k2)
   ·have q:¬ (32:Int)<(j:Int) - i:=fun y=>q (decide_eq_true y)
    refine ⟨_,rfl,z.c,_,z.dx,_,_,rfl,C2.ins,T.c_Cutter,T.n_Cutter_text,Z4 _ _ _ _ _ _,_,rfl,z.c,_,z.dx,_,_,rfl,C2.ins,T.c_Cutter,T.n_Cutter_place,qK _ _ _ _ _ _,_,rfl,_,rfl,_,rfl,z.a,_,rfl,C2.txt.sq,fun p hp=>?_⟩
    rw [qhe txt hij r1.2.1]
    have C3:=C2.same (qr (o:=.lst (nt (piece txt i j))) hp)
    refine ⟨_,rfl,z.c,z.dx,_,rfl,C3.ins,ze _ _ _ _ _ _,_,rfl,p,piece txt i j,rfl,qc,fun H4 s4=>?_⟩
    have C4:=C3.same s4
    have hp4:=s4 _ _ qc
    refine ⟨_,rfl,p,_,rfl,.inl (SqL.of hp4),_,rfl,z,txt,i,Tk,O,lit,en,nameTok (piece txt i j),j - i,p,?_,C4,by rw [qfQ]; exact hp4,C2.fresh hp,hT,fun H5 k5 C5=>?_⟩
    ·rw [qfP,zz,qeB hij r1.2.1]; rfl
    ·rw [hN]
     rw [show i+(j - i)=j by omega] at C5
     exact ko (by omega) H5 (((k2.trans (qo.new hp)).trans (qo.of s4)).trans k5) C5
  cases e:txt[j]? with
  | none=>
   rw [ju e,qh2]
   exact zp (over (fun c hc=>by rw [e] at hc; cases hc) _ rfl rfl)
  | some c=>
   rw [zM e,qfO]
   cases hin:Vastoa.inner c with
   | false=>exact zp (over (fun c' hc=>by rw [e] at hc; cases hc; exact hin) _ rfl rfl)
   | true=>
    refine zL ⟨_,fun σ' H' q=>q,?_⟩
    have hj:j<txt.length:=(List.getElem?_eq_some_iff.mp e).1
    refine ⟨_,rfl,_,_,rfl,rfl,txt.length - (j+1),by omega,j+1,rfl,C2,k2,r1.more e hin,rfl⟩
end
end RT
end
section
namespace RT
open PySem PySem.Spec PyProof.Rows L2
open Vastoa (Mark Marks)
def qdi (c:Int):Bool:=decide (48<=c/\c<=57)
theorem qbG (c:Nat):qdi (c:Int)=Vastoa.digit c:=by
 unfold qdi Vastoa.digit
 rw [Bool.eq_iff_iff]
 simp
 omega
theorem look {p:Nat->Bool} {q:Int->Bool} (txt:List Nat) (j:Nat) (h:∀ c:Nat,q (c:Int)=p c) (he:q (-1)=false):∃ b,q (byteAt txt j)=b/\(b=true->∃ c,txt[j]? = some c/\p c=true)/\(b=false->∀ c,txt[j]? = some c->p c=false):=by
 cases e:txt[j]? with
 | none=>exact ⟨false,by rw [ju e]; exact he,(fun z=>by cases z),fun _ c hc=>by cases hc⟩
 | some c=>
  refine ⟨p c,by rw [zM e]; exact h c,fun z=>⟨c,rfl,z⟩,fun z c' hc=>?_⟩
  cases hc; exact z
theorem ql5 {t u:TT} {σ : L2.St} {H:Hp} {Q:Bool->Hp->Prop} (b1 b2:Bool) (h1:∀ Q:Bool->Hp->Prop,Q b1 H->t σ H Q) (h2:b1=false->∀ Q:Bool->Hp->Prop,Q b2 H->u σ H Q) (q:Q (b1||b2) H):tOr t u σ H Q:=by
 refine h1 _ ?_
 cases b1 with
 | true=>exact zL q
 | false=>exact zp (h2 rfl _ q)
theorem qkN {t u:TT} {σ : L2.St} {H:Hp} {Q:Bool->Hp->Prop} (b1 b2:Bool) (h1:∀ Q:Bool->Hp->Prop,Q b1 H->t σ H Q) (h2:b1=true->∀ Q:Bool->Hp->Prop,Q b2 H->u σ H Q) (q:Q (b1&&b2) H):qmv t u σ H Q:=by
 refine h1 _ ?_
 cases b1 with
 | true=>exact zL (h2 rfl _ q)
 | false=>exact zp q
theorem qgG {txt:List Nat} {i j c:Nat} (h:i<j) (e:txt[i]? = some c):(piece txt i j)[0]? = some c:=by
 unfold piece
 rw [List.getElem?_take,if_pos (by omega),List.getElem?_drop]
 exact e
def qcm (a:Ad) (K:PySem.W.Frag):Sp:=fun vs H Q E=>∃ (z:CA) (txt:List Nat) (i:Nat) (T:Marks) (O:List Bool) (lit en:Bool),vs=[.ref z.c]/\qP a K H z txt i T O lit en/\i<=txt.length/\T.length<1000000 /\
 ∀ j,Run txt Vastoa.digit i j->(∀ c,txt[j]? = some c->Vastoa.digit c=false)->((30<j - i \/ (txt[i]? = some 48/\1<j - i))->XWM z.M K a.Refusal H 2 i E) /\
  (¬ (30<j - i \/ (txt[i]? = some 48/\1<j - i))->∀ H',qo z.M H H'->qP a K H' z txt j (T++[⟨i,.num (piece txt i j)⟩]) O lit en->Q .non H')
section
variable {P:Program} {w:World} {K:PySem.W.Frag} {mg:Str->Option Value} {base:Heap} {f:Addr} {fd:FuncData} {a:Ad}
theorem Zh:qm ["self","end","held"] ["self"] (qe zX):=⟨rfl,rfl,rfl,by decide +kernel,rfl,by decide +kernel,by decide +kernel⟩
theorem qeT (F:Fun K "cut_number" "Cutter.cut_number" zX f fd) (T:Tx P w K mg a) (Gb:jf P w K mg base CX0 1 a.Cutter "byte_at" ["self","place"] (QO a K))
  (Gi:FnAt P w K mg base CX0 1 "is_digit" ["byte"] qak) (Ga:jf P w K mg base CX0 3 a.Cutter "add_token" ["self","kind","length","held"] (Qn a K))
  (Gx:Zg P w K mg base 2 a.WrongToken "WrongToken" ["self","place"] (spX a.WrongToken 2 true)):qy P w K mg base (CXR P w) 4 f fd ["self"] (qcm a K):=by
 refine F.okR Zh (fun vs H Q E h=>?_) (fun cdv A outer s H vs Q E hr h=>?_)
 ·obtain ⟨z,txt,i,Tk,O,lit,en,rfl,_⟩:=h; rfl
 ·obtain ⟨z,txt,i,Tk,O,lit,en,rfl,hC,hi,hT,k⟩:=h
  have hr1:qO 1 _:=hr.mono (by decide)
  refine ⟨_,qi (qZ (i:=1) Zh.nd rfl (Or.inl rfl) (qj (pv 0) rfl))
   (qi (Qj PassesOwn.leaving (QJ (za Gi hr1 qM (qa (zi Gb T.c_Cutter hr1 qM (pv 0) (qa (pv 1) qh)) qh))) (qf (qiC (i:=1) Zh.nd rfl (Or.inl rfl) qw qiD)))
   (qi (qZ (i:=2) Zh.nd rfl (Or.inl rfl) (Ju qb1 (qj (pv 0) rfl) (QR (qj (pv 0) rfl)) (QR (pv 1))))
   (qi (qU (qnw (qL JM (z7 zy (by rfl) T.b_len PySem.boot_len (qa (pv 2) qh)) (qN T.g_MOST_DIGITS) (qV _))
    (qmw (qe9 (qL JM (z7 zy (by rfl) T.b_len PySem.boot_len (qa (pv 2) qh)) qw (qV _))
     (qdu (qL z6 (jz zH (pv 2) qw (fun _ _=>rfl)) (qN T.g_ZERO) (qV _)))).pt)).pt
    (qf (jZ Gx hr (qa (qj (pv 0) rfl) qh))) zm)
   (qf (qt (zi Ga T.c_Cutter hr qM (pv 0) (qa qJ (qa (z7 zy (by rfl) T.b_len PySem.boot_len (qa (pv 2) qh)) (qa (pv 2) qh))))))))),?_⟩
  refine ⟨_,rfl,z.c,_,z.dx,_,_,rfl,hC.ins,T.c_Cutter,T.n_Cutter_place,qK _ _ _ _ _ _,?_⟩
  refine ⟨fun m σ H'=>∃ j:Nat,σ = [some (.ref z.c),some (.int (j:Int)),none]/\qP a K H' z txt i Tk O lit en/\qo z.M H H'/\Run txt Vastoa.digit i j/\m=txt.length - j,⟨_,i,rfl,hC,qo.refl _ _,⟨Nat.le_refl _,hi,fun x h1 h2=>by omega⟩,rfl⟩,?_⟩
  rintro m σ H1 ⟨j,rfl,C2,k2,r1,rfl⟩
  refine ⟨_,rfl,z.c,z.dx,_,rfl,C2.ins,zG _ _ _ _ _ _,_,rfl,z.c,txt,j,rfl,C2.text,_,rfl,_,rfl,?_⟩
  obtain ⟨b,eb,ht,hf⟩:=look txt j qbG (by decide)
  show if qdi (byteAt txt j)=true then _ else _
  rw [eb]
  cases b with
  | true=>
   obtain ⟨c,e,hin⟩:=ht rfl
   refine zL ⟨_,fun σ' H' q=>q,?_⟩
   have hj:j<txt.length:=(List.getElem?_eq_some_iff.mp e).1
   exact ⟨_,rfl,_,_,rfl,rfl,txt.length - (j+1),by omega,j+1,rfl,C2,k2,r1.more e hin,rfl⟩
  | false=>
   obtain ⟨kx,ko⟩:=k j r1 (hf rfl)
   have hij:=r1.1
   have hl:(piece txt i j).length=j - i:=qeB hij r1.2.1
   refine zp ⟨_,rfl,z.c,_,z.dx,_,_,rfl,C2.ins,T.c_Cutter,T.n_Cutter_text,Z4 _ _ _ _ _ _,_,rfl,z.c,_,z.dx,_,_,rfl,C2.ins,T.c_Cutter,T.n_Cutter_place,qK _ _ _ _ _ _,_,rfl,_,rfl,_,rfl,z.a,_,rfl,C2.txt.sq,fun p hp=>?_⟩
   rw [qhe txt hij r1.2.1]
   have C3:=C2.same (qr (o:=.lst (nt (piece txt i j))) hp)
   have k3:=k2.trans (qo.new (o:=.lst (nt (piece txt i j))) hp)
   have hp3:(upd H1 p (.lst (nt (piece txt i j)))) p=some (.lst (nt (piece txt i j))):=qc
   generalize upd H1 p (.lst (nt (piece txt i j)))=H3 at C3 k3 hp3 ⊢
   dsimp only [Zy,qhw,qj9]
   refine ql5 (decide (30<j - i)) (decide (1<j - i)&&decide (txt[i]? = some 48)) (fun Q q=>?_) (fun _ Q q=>qkN (decide (1<j - i)) (decide (txt[i]? = some 48)) (fun Q q=>?_) (fun h1 Q q=>?_) q) ?_
   ·refine ⟨_,rfl,p,_,rfl,.inl (SqL.of hp3),_,_,rfl,rfl,_,rfl,?_⟩
    rw [zz,hl,show decide ((30:Int)<((j - i:Nat):Int))=decide (30<j - i) from decide_eq_decide.mpr (by omega)]; exact q
   ·refine ⟨_,rfl,p,_,rfl,.inl (SqL.of hp3),_,_,rfl,rfl,_,rfl,?_⟩
    rw [zz,hl,show decide ((1:Int)<((j - i:Nat):Int))=decide (1<j - i) from decide_eq_decide.mpr (by omega)]; exact q
   ·have h1:=of_decide_eq_true h1
    obtain ⟨c,hc,_⟩:=r1.2.2 i (Nat.le_refl _) (by omega)
    refine ⟨_,rfl,p,_,_,_,rfl,rfl,SqL.of hp3,jJ (j:=0) (v:=V.int (c:Int)) (by unfold nt; rw [List.getElem?_map,qgG (by omega) hc]; rfl),rfl,_,rfl,?_⟩
    rw [jp,zE,show decide ((48:Int)=(c:Int))=decide (txt[i]? = some 48) from decide_eq_decide.mpr (by rw [hc]; constructor <;> (intro y; first | (cases y; rfl) | (congr 1; omega)))]
    exact q
   ·refine zZ (fun q=>?_) fun q=>?_
    ·simp only [Bool.or_eq_true,Bool.and_eq_true,decide_eq_true_eq] at q
     exact ⟨_,rfl,z.c,_,z.dx,_,_,rfl,C3.ins,T.c_Cutter,T.n_Cutter_place,qK _ _ _ _ _ _,Q3 T.x_WrongToken T.u_WrongToken T.n_WrongToken_number T.n_WrongToken_place ((kx (q.imp id And.symm)).on k3)⟩
    ·simp only [Bool.or_eq_true,Bool.and_eq_true,decide_eq_true_eq] at q
     refine ⟨_,rfl,z.c,z.dx,_,rfl,C3.ins,ze _ _ _ _ _ _,_,rfl,p,_,rfl,.inl (SqL.of hp3),_,rfl,z,txt,i,Tk,O,lit,en,.num (piece txt i j),j - i,p,by rw [zz,hl]; rfl,C3,hp3,C2.fresh hp,hT,fun H5 k5 C5=>?_⟩
     rw [show i+(j - i)=j by omega] at C5
     exact ko (fun y=>q (y.imp id And.symm)) H5 (k3.trans k5) C5
end
end RT
end
section
namespace RT
open PySem PySem.Spec PyProof.Rows L2
open Vastoa (Mark Marks)
def qdj (a:Ad) (K:PySem.W.Frag):Sp:=fun vs H Q E=>∃ (z:CA) (txt:List Nat) (i:Nat) (T:Marks) (O:List Bool) (en:Bool),vs=[.ref z.c]/\qP a K H z txt i T O false en/\T.length<1000000 /\
 (∀ H' O',O=true::O'->qo z.M H H'->qP a K H' z txt (i+1) (T++[⟨i,.unhole⟩]) O' true en->Q .non H') /\
 (∀ H',O.head? ≠ some true->qo z.M H H'->qP a K H' z txt (i+1) (T++[⟨i,.sign [125]⟩]) (O.drop 1) false en->Q .non H')
def qeD (a:Ad) (K:PySem.W.Frag):Sp:=fun vs H Q E=>∃ (z:CA) (txt:List Nat) (i:Nat) (T:Marks) (O:List Bool) (lit en:Bool),vs=[.ref z.c]/\qP a K H z txt i T O lit en/\i<=txt.length/\T.length<1000000 /\
 (Vastoa.signAt (txt.drop i)=none->XWM z.M K a.Refusal H 2 i E)/\∀ x,Vastoa.signAt (txt.drop i)=some x->∀ H',qo z.M H H'->qP a K H' z txt (i+x.length) (T++[⟨i,.sign x⟩]) O lit en->Q .non H'
theorem ql6:Str.ofString "{" = strOf [123]:=by decide +kernel
theorem qjn:Str.ofString "}" = strOf [125]:=by decide +kernel
theorem qjo (txt:List Nat) {i:Nat} (l:Nat) (hi:i<=txt.length):Jv (nt txt) (some (i:Int)) (some ((i:Int)+(l:Int)))=nt ((txt.drop i).take l):=by
 unfold Jv
 rw [show ((i:Int)+(l:Int))=((i+l:Nat):Int) by omega,HT.qbZ,HT.qbZ,zz,Nat.min_eq_left hi]
 simp only [nt,List.map_take,List.map_drop]
 by_cases h:i+l<=txt.length
 ·rw [Nat.min_eq_left h,show i+l - i=l by omega]
 ·rw [Nat.min_eq_right (by omega),List.take_of_length_le (by simp),List.take_of_length_le (by simp; omega)]
theorem qbH:Za.map (fun x=>x.cps.toList)=Vastoa.signs2++Vastoa.signs1:=by decide +kernel
theorem qgH:∀ x∈Za,x.cps.size<=1000:=by decide +kernel
theorem qkO:∀ s∈Vastoa.signs2,s.length=2:=by decide +kernel
theorem qm6:∀ s∈Vastoa.signs1,s.length=1:=by decide +kernel
theorem qkP {b:List Nat} {j:Nat} {x:Str} (hj:Za[j]? = some x) (e:b.take x.cps.toList.length=x.cps.toList) (no:∀ y z,y<j->Za[y]? = some z->b.take z.cps.toList.length≠z.cps.toList):Vastoa.signAt b=some x.cps.toList:=by
 have hm:(Vastoa.signs2++Vastoa.signs1)[j]? = some x.cps.toList:=by rw [<- qbH,List.getElem?_map,hj]; rfl
 have no':∀ y s,y<j->(Vastoa.signs2++Vastoa.signs1)[y]? = some s->b.take s.length≠s:=fun y s hy hs=>by
  rw [<- qbH,List.getElem?_map] at hs
  obtain ⟨z,hz,rfl⟩:=Option.map_eq_some_iff.mp hs
  exact no y z hy hz
 generalize x.cps.toList=s at e hm
 unfold Vastoa.signAt
 by_cases h6:j<6
 ·have hs:s∈Vastoa.signs2:=by
   rw [List.getElem?_append_left (by exact h6)] at hm
   exact List.mem_of_getElem? hm
  rw [qkO s hs] at e
  rw [e,if_pos (List.contains_iff_mem.mpr hs)]
 ·have hs:s∈Vastoa.signs1:=by
   rw [List.getElem?_append_right (by exact Nat.le_of_not_lt h6)] at hm
   exact List.mem_of_getElem? hm
  rw [qm6 s hs] at e
  have n2:¬ (Vastoa.signs2.contains (b.take 2)=true):=fun z=>by
   have z:=List.contains_iff_mem.mp z
   obtain ⟨y,hy⟩:=List.getElem?_of_mem z
   have hy6:y<6:=(List.getElem?_eq_some_iff.mp hy).1
   refine no' y _ (by omega) (by rw [List.getElem?_append_left hy6]; exact hy) ?_
   rw [qkO _ z]
  rw [if_neg n2,e,if_pos (List.contains_iff_mem.mpr hs)]
theorem qjp {b:List Nat} (no:∀ (y:Nat) (z:Str),Za[y]? = some z->b.take z.cps.toList.length≠z.cps.toList):Vastoa.signAt b=none:=by
 have no':∀ s∈Vastoa.signs2++Vastoa.signs1,b.take s.length≠s:=fun s hs=>by
  rw [<- qbH] at hs
  obtain ⟨z,hz,rfl⟩:=List.mem_map.mp hs
  obtain ⟨y,hy⟩:=List.getElem?_of_mem hz
  exact no y z hy
 unfold Vastoa.signAt
 rw [if_neg,if_neg]
 ·intro z
  have z:=List.contains_iff_mem.mp z
  exact no' _ (List.mem_append_right _ z) (by rw [qm6 _ z])
 ·intro z
  have z:=List.contains_iff_mem.mp z
  exact no' _ (List.mem_append_left _ z) (by rw [qkO _ z])
section
variable {P:Program} {w:World} {K:PySem.W.Frag} {mg:Str->Option Value} {base:Heap} {f:Addr} {fd:FuncData} {a:Ad}
theorem Z5:qm ["self","closed"] ["self"] (qe zq):=⟨rfl,rfl,rfl,by decide +kernel,rfl,by decide +kernel,by decide +kernel⟩
theorem qbI (F:Fun K "cut_right_brace" "Cutter.cut_right_brace" zq f fd) (T:Tx P w K mg a) (Ga:jf P w K mg base CX0 3 a.Cutter "add_token" ["self","kind","length","held"] (Qn a K)) :
  qy P w K mg base CX0 4 f fd ["self"] (qdj a K):=by
 refine F.ok Z5 (fun vs H Q E h=>?_) (fun cdv A outer s H vs Q E hr h=>?_)
 ·obtain ⟨z,txt,i,Tk,O,en,rfl,_⟩:=h; rfl
 ·obtain ⟨z,txt,i,Tk,O,en,rfl,hC,hT,k1,k2⟩:=h
  refine ⟨_,qi (qZ (i:=1) Z5.nd rfl (Or.inl rfl) (qay (Qk (qj (pv 0) rfl) (by intro _; rfl)) (qae PySem.F.plainAttrs_list PySem.F.slot_list_pop PySem.F.type_list_pop qaf (qj (pv 0) rfl)) qJ))
   (qf (qU (qL z6 (pv 1) qJ (qV _)) (qi (qt (zi Ga T.c_Cutter hr qM (pv 0) (qa qJ (qa qw (qa (qW qh) qh))))) (qf (zu (pv 0) qax rfl)))
    (qf (qt (zi Ga T.c_Cutter hr qM (pv 0) (qa qJ (qa qw (qa (qW qh) qh)))))))),?_⟩
  refine ⟨_,rfl,z.c,_,z.dx,_,_,rfl,hC.ins,T.c_Cutter,T.n_Cutter_opened,ZU _ _ _ _ _ _,_,.inl ⟨_,SqL.of hC.ol,rfl⟩,?_⟩
  have unb:O.head? ≠ some true->∀ (H1:Hp) (p:Addr),H1 p=none->qo z.M H H1->qP a K H1 z txt i Tk (O.drop 1) false en ->
    Qn a K [.ref z.c,.str "}",.int 1,.ref p] (upd H1 p (.lst [])) (fun x H'=>Q .non H') E0:=fun hO H1 p hp k3 C1=>by
   refine ⟨z,txt,i,Tk,O.drop 1,false,en,.sign [125],1,p,by rw [qjn]; rfl,C1.same (qr hp),qc,C1.fresh hp,hT,fun H' k4 C4=>?_⟩
   exact k2 H' hO ((k3.trans (qo.new hp)).trans k4) C4
  cases O with
  | nil=>
   refine zp ⟨_,rfl,rfl,_,rfl,zp ?_⟩
   exact ⟨_,rfl,z.c,z.dx,_,rfl,hC.ins,ze _ _ _ _ _ _,Nat.zero_le _,fun p hp=>unb (by simp) H p hp (qo.refl _ _) hC⟩
  | cons b O=>
   have hne:(!(List.map opS (b::O).reverse).isEmpty)=true:=by simp
   rw [hne]
   have hpop:(List.map opS (b::O).reverse)[(List.map opS (b::O).reverse).length - 1]? = some (opS b):=by simp
   refine zL ⟨_,rfl,z.c,_,z.dx,_,_,rfl,hC.ins,T.c_Cutter,T.n_Cutter_opened,ZU _ _ _ _ _ _,.inl ⟨rfl,_,SqL.of hC.ol⟩,z.ol,_,opS b,rfl,rfl,hC.ol,hpop,?_⟩
   have ed:(List.map opS (b::O).reverse).dropLast=List.map opS O.reverse:=by simp
   rw [ed]
   have C1:=hC.putO O
   have k3:qo z.M H (upd H z.ol (.lst (List.map opS O.reverse))):=qo.at_ z.mo
   generalize upd H z.ol (.lst (List.map opS O.reverse))=H1 at C1 k3 ⊢
   cases b with
   | false=>
    refine ⟨_,rfl,rfl,_,rfl,zp ?_⟩
    exact ⟨_,rfl,z.c,z.dx,_,rfl,C1.ins,ze _ _ _ _ _ _,Nat.zero_le _,fun p hp=>unb (by simp) H1 p hp k3 C1⟩
   | true=>
    refine ⟨_,rfl,rfl,_,rfl,zL ?_⟩
    refine ⟨_,rfl,z.c,z.dx,_,rfl,C1.ins,ze _ _ _ _ _ _,Nat.zero_le _,fun p hp=>⟨z,txt,i,Tk,O,false,en,.unhole,1,p,rfl,C1.same (qr hp),qc,C1.fresh hp,hT,fun H' k4 C4=>?_⟩⟩
    refine ⟨_,rfl,z.c,_,z.dx,_,rfl,C4.ins,T.c_Cutter,T.n_Cutter_in_literal,(by show 6<1000; decide),?_⟩
    exact k1 _ O rfl (((k3.trans (qo.new hp)).trans k4).trans (qo.at_ z.mc)) (C4.put (i+1) true en)
theorem qcn:qm ["self","sign"] ["self"] (qe ji):=⟨rfl,rfl,rfl,by decide +kernel,rfl,by decide +kernel,by decide +kernel⟩
theorem qgI (F:Fun K "cut_sign" "Cutter.cut_sign" ji f fd) (T:Tx P w K mg a) (Gy:FnAt P w K mg base CX0 1 "bytes_of" ["written"] qal) (Ga:jf P w K mg base CX0 3 a.Cutter "add_token" ["self","kind","length","held"] (Qn a K))
  (Gx:Zg P w K mg base 2 a.WrongToken "WrongToken" ["self","place"] (spX a.WrongToken 2 true)):qy P w K mg base (CXR P w) 4 f fd ["self"] (qeD a K):=by
 refine F.okR qcn (fun vs H Q E h=>?_) (fun cdv A outer s H vs Q E hr h=>?_)
 ·obtain ⟨z,txt,i,Tk,O,lit,en,rfl,_⟩:=h; rfl
 ·obtain ⟨z,txt,i,Tk,O,lit,en,rfl,hC,hi,hT,kx,ko⟩:=h
  have hr1:qO 1 _:=hr.mono (by decide)
  refine ⟨_,qi (Jq PassesOwn.leaving rfl (qfb (qN T.g_SIGNS)) (jy (i:=1) qcn.nd rfl (Or.inl rfl))
   (qf (qU (qL (qiO hr.units) (Ju qb1 (qj (pv 0) rfl) (QR (qj (pv 0) rfl)) (QR (QQ Jr (qj (pv 0) rfl) (z7 qbo (by rfl) T.b_len PySem.boot_len (qa (pv 1) qh))))) (za Gy hr1 qM (qa (pv 1) qh)) (qV _))
    (qi (qt (zi Ga T.c_Cutter hr qM (pv 0) (qa (pv 1) (qa (z7 qbo (by rfl) T.b_len PySem.boot_len (qa (pv 1) qh)) (qa (qW qh) qh))))) (qf qlB)) zm)))
   (qf (jZ Gx hr (qa (qj (pv 0) rfl) qh))),?_⟩
  refine ⟨a.SIGNS,rfl,⟨_,T.t_SIGNS.sq _⟩,qdv (K:=K) (a:=a.SIGNS) (xs:=Za.map V.str) (fun j σ H'=>∃ v:Option V,σ = [some (.ref z.c),v]/\qP a K H' z txt i Tk O lit en/\qo z.M H H'/\∀ y x,y<j->Za[y]? = some x->(txt.drop i).take x.cps.toList.length≠x.cps.toList)
   ⟨none,rfl,hC,qo.refl _ _,fun j x hj=>absurd hj (Nat.not_lt_zero _)⟩ (fun i σ H' _ _=>T.t_SIGNS.sq _) ?_ ?_⟩
  ·rintro j y σ H1 hj ⟨v,rfl,C1,k1,hno⟩
   obtain ⟨x,hx,rfl⟩:∃ x,Za[j]? = some x/\V.str x=y:=by
    rw [List.getElem?_map] at hj
    exact Option.map_eq_some_iff.mp hj
   have hsz:x.cps.size<=1000:=qgH x (List.mem_of_getElem? hx)
   refine ⟨_,rfl,z.c,_,z.dx,_,_,rfl,C1.ins,T.c_Cutter,T.n_Cutter_text,Z4 _ _ _ _ _ _,_,rfl,z.c,_,z.dx,_,_,rfl,C1.ins,T.c_Cutter,T.n_Cutter_place,qK _ _ _ _ _ _,_,rfl,_,rfl,z.c,_,z.dx,_,_,rfl,C1.ins,T.c_Cutter,T.n_Cutter_place,qK _ _ _ _ _ _,_,rfl,x,rfl,Nat.le_of_lt (QK hsz),_,_,rfl,rfl,_,rfl,z.a,_,rfl,C1.txt.sq,fun p hp=>?_⟩
   rw [show ((i:Int)+(x.length:Int))=(i:Int)+(x.cps.toList.length:Int) from rfl,qjo txt _ hi]
   refine ⟨_,rfl,x,rfl,hsz,fun q hq=>qjj (SqL.of (qr hq _ _ qc)) (SqL.of qc) ⟨_,rfl,?_⟩⟩
   have s2:=(qr (o:=.lst (nt ((txt.drop i).take x.cps.toList.length))) hp).trans (qr (o:=.lst (nt x.cps.toList)) hq)
   have C2:=C1.same s2
   have k2:=k1.trans (qo.of s2)
   refine zZ (fun e=>?_) fun e=>?_
   ·have e:=of_decide_eq_true e
    have hs:=qkP hx e hno
    refine ⟨_,rfl,z.c,z.dx,_,rfl,C2.ins,ze _ _ _ _ _ _,_,rfl,_,rfl,x,rfl,Nat.le_of_lt (QK hsz),Nat.zero_le _,fun r hr'=>⟨z,txt,i,Tk,O,lit,en,.sign x.cps.toList,x.cps.toList.length,r,?_,C2.same (qr hr'),qc,C2.fresh hr',hT,fun H5 k5 C5=>?_⟩⟩
    ·rfl
    ·exact ko _ hs H5 ((k2.trans (qo.new hr')).trans k5) C5
   ·refine ⟨_,rfl,C2,k2,fun y x' hy hx'=>?_⟩
    by_cases hyj:y=j
    ·subst hyj
     rw [hx] at hx'
     cases hx'
     exact fun z=>e (decide_eq_true z)
    ·exact hno y x' (by omega) hx'
  ·rintro σ H1 ⟨v,rfl,C1,k1,hno⟩
   refine ⟨_,rfl,z.c,_,z.dx,_,_,rfl,C1.ins,T.c_Cutter,T.n_Cutter_place,qK _ _ _ _ _ _,Q3 T.x_WrongToken T.u_WrongToken T.n_WrongToken_number T.n_WrongToken_place ((kx (qjp fun y x hx=>?_)).on k1)⟩
   exact hno y x (by have:=(List.getElem?_eq_some_iff.mp hx).1; rw [List.length_map]; exact this) hx
end
end RT
end
section
namespace RT
open PySem PySem.Spec PyProof.Rows L2
open Vastoa (Mark Marks)
def over (txt:List Nat) (i:Nat):Bool:=match txt[i]? with
 | none=>true
 | some c=>if c=36 then decide (txt[i+1]? = some 123) else decide (c=34)
theorem qjq {txt:List Nat} {i:Nat} (h:txt[i]? = none):over txt i=true:=by unfold over; rw [h]
theorem qbJ {txt:List Nat} {i c:Nat} (h:txt[i]? = some c):over txt i=if c=36 then decide (txt[i+1]? = some 123) else decide (c=34):=by unfold over; rw [h]
def qjr (a:Ad) (K:PySem.W.Frag):Sp:=fun vs H Q E=>∃ (z:CA) (txt:List Nat) (i:Nat) (T:Marks) (O:List Bool) (lit en:Bool),vs=[.ref z.c]/\qP a K H z txt i T O lit en/\∀ H',qE H H'->Q (.bl (over txt i)) H'
theorem qP.move {a:Ad} {K:PySem.W.Frag} {H H':Hp} {z:CA} {txt:List Nat} {i i':Nat} {T:Marks} {O:List Bool} {lit en lit' en':Bool} (h:qP a K H z txt i T O lit en)
  (hc:H' z.c=some (.ins a.Cutter z.dx (jC (.ref z.a) (.int i') (.ref z.tl) (.ref z.ol) (.bl lit') (.bl en')))) (k:qo (· = z.c) H H'):qP a K H' z txt i' T O lit' en':=by
 obtain ⟨as,h1,h2⟩:=h.tl
 refine ⟨hc,h.txt.keep (k.wide fun b e=>by rw [e]; exact z.mc),⟨as,k _ _ h1 (Ne.symm h.nct),qX (fun x y q=>?_) h2⟩,k _ _ h.ol (Ne.symm h.nco),h.nto⟩
 obtain ⟨dx,ha,q1,q2,q3,q4⟩:=q
 exact ⟨dx,ha,k _ _ q1 (fun e=>q3 (.inl e)),k _ _ q2 (fun e=>q4 (.inl e)),q3,q4⟩
def qh3 (a:Ad) (z:CA) (i:Nat) (lit en:Bool):HO:=.ins a.Cutter z.dx (jC (.ref z.a) (.int i) (.ref z.tl) (.ref z.ol) (.bl lit) (.bl en))
def qfR (a:Ad) (K:PySem.W.Frag):Sp:=fun vs H Q E=>∃ (z:CA) (txt:List Nat) (i:Nat) (T:Marks) (O:List Bool) (lit en:Bool),vs=[.ref z.c]/\qP a K H z txt i T O lit en/\over txt i=false /\
 (∀ H' j x,qo (· = z.c) H H'->H' z.c=some (qh3 a z j lit en)->i<j->j<=txt.length->Vastoa.gather i (txt.drop i)=(Vastoa.gather j (txt.drop j)).map (fun y=>(x::y.1,y.2.1,y.2.2))->Q (.int (x:Int)) H') /\
 (Vastoa.gather i (txt.drop i)=.error ⟨2,i⟩->XWM (· = z.c) K a.Refusal H 2 i E)
theorem qdJ (c:Nat):(zw J4 (Sum.inl (c:Int))).getD .non=match Vastoa.unescape c with
  | some x=>V.int (x:Int)
  | none=>V.non:=by
 unfold Vastoa.unescape
 by_cases h1:c=34
 ·subst h1; decide +kernel
 by_cases h2:c=92
 ·subst h2; decide +kernel
 by_cases h3:c=110
 ·subst h3; decide +kernel
 by_cases h4:c=116
 ·subst h4; decide +kernel
 by_cases h5:c=36
 ·subst h5; decide +kernel
 rw [if_neg (by omega),if_neg h3,if_neg h4]
 have q1:¬ (34:Int)=c:=by omega
 have q2:¬ (92:Int)=c:=by omega
 have q3:¬ (110:Int)=c:=by omega
 have q4:¬ (116:Int)=c:=by omega
 have q5:¬ (36:Int)=c:=by omega
 simp [zw,J4,q1,q2,q3,q4,q5]
theorem ql7:(zw J4 (Sum.inl (-1))).getD .non=.non:=by decide +kernel
section
variable {P:Program} {w:World} {K:PySem.W.Frag} {mg:Str->Option Value} {base:Heap} {f:Addr} {fd:FuncData} {a:Ad}
theorem JE:qm ["self","byte"] ["self"] (qe zC):=⟨rfl,rfl,rfl,by decide +kernel,rfl,by decide +kernel,by decide +kernel⟩
theorem qcK (F:Fun K "is_piece_over" "Cutter.is_piece_over" zC f fd) (T:Tx P w K mg a) (Gb:jf P w K mg base CX0 1 a.Cutter "byte_at" ["self","place"] (QO a K)):qy P w K mg base CX0 2 f fd ["self"] (qjr a K):=by
 refine F.ok JE (fun vs H Q E h=>?_) (fun cdv A outer s H vs Q E hr h=>?_)
 ·obtain ⟨z,txt,i,Tk,O,lit,en,rfl,_⟩:=h; rfl
 ·obtain ⟨z,txt,i,Tk,O,lit,en,rfl,hC,k⟩:=h
  refine ⟨_,qi (qZ (i:=1) JE.nd rfl (Or.inl rfl) (zi Gb T.c_Cutter hr qM (pv 0) (qa (qj (pv 0) rfl) qh)))
   (qi (qU (qL z6 (pv 1) (qN T.g_DOLLAR) (qV _)) (qf (qF (qdw z6 (zi Gb T.c_Cutter hr qM (pv 0) (qa (QQ Jr (qj (pv 0) rfl) qw) qh)) (qN T.g_LEFT_BRACE) (qV _)))) zm)
   (qf (qF (qjf (pv 1) (qa (qN T.g_QUOTE) (qa (qN T.g_NOTHING) qh)))))),?_⟩
  refine ⟨_,rfl,z.c,z.dx,_,rfl,hC.ins,zG _ _ _ _ _ _,_,rfl,z.c,_,z.dx,_,_,rfl,hC.ins,T.c_Cutter,T.n_Cutter_place,qK _ _ _ _ _ _,z.c,txt,i,rfl,hC.text,?_⟩
  refine ⟨_,rfl,rfl,_,rfl,?_⟩
  rw [jp,zE]
  refine zZ (fun e=>?_) fun e=>?_
  ·have e:=of_decide_eq_true e
   refine ⟨_,rfl,z.c,z.dx,_,rfl,hC.ins,zG _ _ _ _ _ _,_,rfl,z.c,_,z.dx,_,_,rfl,hC.ins,T.c_Cutter,T.n_Cutter_place,qK _ _ _ _ _ _,_,_,rfl,rfl,z.c,txt,i+1,rfl,hC.text,rfl,?_⟩
   rw [jp,zE]
   have:over txt i=decide ((123:Int)=byteAt txt (i+1)):=by
    cases h:txt[i]? with
    | none=>rw [ju h] at e; omega
    | some c=>
     rw [zM h] at e
     rw [qbJ h,if_pos (by omega)]
     cases h2:txt[i+1]? with
     | none=>rw [ju h2]; decide
     | some d=>
      rw [zM h2]
      exact decide_eq_decide.mpr ⟨fun y=>by cases y; rfl,fun y=>by congr 1; omega⟩
   rw [this] at k
   exact k H (qE.refl H)
  ·have e:¬ (36:Int)=byteAt txt i:=fun y=>e (decide_eq_true y)
   refine ⟨_,rfl,rfl,fun H' s'=>?_⟩
   have:over txt i=inV (.int (byteAt txt i)) [V.int 34,V.int (-1)]:=by
    simp only [inV,List.any_cons,List.any_nil,eqV,zE,Bool.or_false]
    cases h:txt[i]? with
    | none=>rw [qjq h,ju h]; decide
    | some c=>
     rw [zM h] at e ⊢
     rw [qbJ h,if_neg (by omega)]
     by_cases h34:c=34
     ·subst h34; decide
     ·rw [decide_eq_false h34,decide_eq_false (by omega),decide_eq_false (by omega)]; rfl
   have k:=k H' s'
   rw [this] at k
   exact k
theorem ZQ:qm ["self","byte"] ["self"] (qe zP):=⟨rfl,rfl,rfl,by decide +kernel,rfl,by decide +kernel,by decide +kernel⟩
theorem qdK (F:Fun K "gather_byte" "Cutter.gather_byte" zP f fd) (T:Tx P w K mg a) (Gb:jf P w K mg base CX0 1 a.Cutter "byte_at" ["self","place"] (QO a K))
  (Gx:Zg P w K mg base 2 a.WrongToken "WrongToken" ["self","place"] (spX a.WrongToken 2 true)):qy P w K mg base (CXR P w) 4 f fd ["self"] (qfR a K):=by
 refine F.okR ZQ (fun vs H Q E h=>?_) (fun cdv A outer s H vs Q E hr h=>?_)
 ·obtain ⟨z,txt,i,Tk,O,lit,en,rfl,_⟩:=h; rfl
 ·obtain ⟨z,txt,i,Tk,O,lit,en,rfl,hC,ho,ko,kx⟩:=h
  have hr1:qO 1 _:=hr.mono (by decide)
  refine ⟨_,qi (qZ (i:=1) ZQ.nd rfl (Or.inl rfl) (zi Gb T.c_Cutter hr1 qM (pv 0) (qa (qj (pv 0) rfl) qh)))
   (qi (qU (qL z6 (pv 1) (qN T.g_BACKSLASH) (qV _))
    (qi (qZ (i:=1) ZQ.nd rfl (Or.inl rfl) (qkK (qN T.g_ESCAPES) (zi Gb T.c_Cutter hr1 qM (pv 0) (qa (QQ Jr (qj (pv 0) rfl) qw) qh)) ⟨rfl,rfl,rfl,rfl⟩))
    (qi (qU (qe8 (qmu (pv 1))) (qf (jZ Gx hr (qa (qj (pv 0) rfl) qh))) zm)
    (qi (Qi (pv 0) qw Jt) (qf (qF (pv 1)))))) zm)
   (qi (qU (qe9 (qL qhB (pv 1) (qN T.g_BLANK) (qV _)) (qdu (qex (pv 1) (qa (qN T.g_TAB) (qa (qN T.g_LINE_FEED) qh))))).pt
    (qf (jZ Gx hr (qa (qj (pv 0) rfl) qh))) zm)
   (qi (Qi (pv 0) qw Jt) (qf (qF (pv 1)))))),?_⟩
  have bad:∀ (H1:Hp),qE H H1->Vastoa.gather i (txt.drop i)=.error ⟨2,i⟩->XW K a.Refusal H1 2 i E:=fun H1 s1 hg=>(kx hg).on (qo.of s1)
  refine ⟨_,rfl,z.c,z.dx,_,rfl,hC.ins,zG _ _ _ _ _ _,_,rfl,z.c,_,z.dx,_,_,rfl,hC.ins,T.c_Cutter,T.n_Cutter_place,qK _ _ _ _ _ _,z.c,txt,i,rfl,hC.text,?_⟩
  obtain ⟨c,hc⟩:∃ c,txt[i]? = some c:=by
   cases h:txt[i]? with
   | none=>unfold over at ho; rw [h] at ho; cases ho
   | some c=>exact ⟨c,rfl⟩
  have hi:=CM.Zf hc
  rw [zM hc]
  refine ⟨_,rfl,rfl,_,rfl,?_⟩
  rw [jp,zE]
  refine zZ (fun e=>?_) fun e=>?_
  ·have e:c=92:=by have:=of_decide_eq_true e; omega
   subst e
   refine ⟨a.ESCAPES,J4,rfl,T.d_ESCAPES,_,rfl,z.c,z.dx,_,rfl,hC.ins,zG _ _ _ _ _ _,_,rfl,z.c,_,z.dx,_,_,rfl,hC.ins,T.c_Cutter,T.n_Cutter_place,qK _ _ _ _ _ _,_,_,rfl,rfl,z.c,txt,i+1,rfl,hC.text,Sum.inl (byteAt txt (i+1)),rfl,_,rfl,_,rfl,?_⟩
   have fin:(zw J4 (Sum.inl (byteAt txt (i+1)))).getD .non=.non->Vastoa.gather i (txt.drop i)=.error ⟨2,i⟩:=fun hn=>by
    cases h2:txt[i+1]? with
    | none=>exact CM.qgw hc h2
    | some d=>
     rw [zM h2,qdJ] at hn
     refine CM.qfD hc h2 ?_
     cases hu:Vastoa.unescape d with
     | none=>rfl
     | some x=>rw [hu] at hn; cases hn
   refine zZ (fun q=>?_) fun q=>?_
   ·have q:=of_decide_eq_true q
    refine ⟨_,rfl,z.c,_,z.dx,_,_,rfl,hC.ins,T.c_Cutter,T.n_Cutter_place,qK _ _ _ _ _ _,?_⟩
    exact Q3 T.x_WrongToken T.u_WrongToken T.n_WrongToken_number T.n_WrongToken_place (bad H (qE.refl H) (fin q))
   ·have q:¬ (zw J4 (Sum.inl (byteAt txt (i+1)))).getD .non=.non:=fun y=>q (decide_eq_true y)
    obtain ⟨d,x,h2,hu⟩:∃ d x,txt[i+1]? = some d/\Vastoa.unescape d=some x:=by
     cases h2:txt[i+1]? with
     | none=>rw [ju h2] at q; exact absurd ql7 q
     | some d=>
      rw [zM h2,qdJ] at q
      cases hu:Vastoa.unescape d with
      | none=>rw [hu] at q; exact absurd rfl q
      | some x=>exact ⟨d,x,rfl,hu⟩
    have ev:(zw J4 (Sum.inl (byteAt txt (i+1)))).getD .non=.int (x:Int):=by rw [zM h2,qdJ,hu]
    rw [ev]
    refine ⟨_,rfl,z.c,_,z.dx,_,_,rfl,hC.ins,T.c_Cutter,T.n_Cutter_place,qK _ _ _ _ _ _,_,_,rfl,rfl,z.dx,_,hC.ins,(by show 6<1000; decide),?_⟩
    refine ⟨_,rfl,?_⟩
    exact ko _ (i+2) x (qo.at_ rfl) qc (by omega) (CM.Zf h2) (CM.qeO hc h2 hu)
  ·have e:¬ c=92:=fun y=>e (decide_eq_true (by omega))
   have ga:=CM.qaO hc e
   have n1:¬ (c=34 \/ (c=36/\txt[i+1]? = some 123)):=by
    unfold over at ho
    rw [hc] at ho
    dsimp only at ho
    by_cases h36:c=36
    ·rw [if_pos h36] at ho
     have:=of_decide_eq_false ho
     rintro (y | ⟨_,y⟩)
     ·omega
     ·exact this y
    ·rw [if_neg h36] at ho
     have:=of_decide_eq_false ho
     rintro (y | ⟨y,_⟩)
     ·exact this y
     ·exact h36 y
   rw [if_neg n1] at ga
   have last:∀ H1,qE H H1->¬ (c<32/\c≠9/\c≠10)->Q (.int (c:Int)) (upd H1 z.c (qh3 a z (i+1) lit en)):=fun H1 s1 hn=>by
    rw [if_neg hn] at ga
    exact ko _ (i+1) c ((qo.of s1).trans (qo.at_ rfl)) qc (by omega) (by omega) ga
   refine ⟨_,rfl,_,_,rfl,rfl,_,rfl,zZ (fun h32=>?_) fun h32=>?_⟩
   ·have h32:c<32:=by have:=of_decide_eq_true h32; omega
    refine ⟨_,rfl,rfl,fun H1 s1=>⟨_,rfl,?_⟩⟩
    have C1:=hC.same s1
    have hin:inV (.int (c:Int)) [V.int 9,V.int 10]=decide (c=9 \/ c=10):=by
     simp only [inV,List.any_cons,List.any_nil,eqV,zE,Bool.or_false]
     rw [<- Bool.decide_or]
     exact decide_eq_decide.mpr (by omega)
    rw [hin]
    refine zZ (fun q=>?_) fun q=>?_
    ·have q:¬ (c=9 \/ c=10):=by simpa using q
     rw [if_pos ⟨h32,fun y=>q (.inl y),fun y=>q (.inr y)⟩] at ga
     refine ⟨_,rfl,z.c,_,z.dx,_,_,rfl,C1.ins,T.c_Cutter,T.n_Cutter_place,qK _ _ _ _ _ _,?_⟩
     exact Q3 T.x_WrongToken T.u_WrongToken T.n_WrongToken_number T.n_WrongToken_place (bad H1 s1 ga)
    ·have q:c=9 \/ c=10:=by
      by_cases y:c=9 \/ c=10
      ·exact y
      ·exact absurd (by rw [decide_eq_false y]; rfl) q
     refine ⟨_,rfl,z.c,_,z.dx,_,_,rfl,C1.ins,T.c_Cutter,T.n_Cutter_place,qK _ _ _ _ _ _,_,_,rfl,rfl,z.dx,_,C1.ins,(by show 6<1000; decide),_,rfl,?_⟩
     exact last H1 s1 (fun y=>by rcases q with q | q <;> simp [q] at y)
   ·have h32:¬ c<32:=fun y=>h32 (decide_eq_true (by omega))
    refine zp ⟨_,rfl,z.c,_,z.dx,_,_,rfl,hC.ins,T.c_Cutter,T.n_Cutter_place,qK _ _ _ _ _ _,_,_,rfl,rfl,z.dx,_,hC.ins,(by show 6<1000; decide),_,rfl,?_⟩
    exact last H (qE.refl H) (fun y=>h32 y.1)
end
end RT
end
section
namespace RT
open PySem PySem.Spec PyProof.Rows L2
open Vastoa (Mark Marks)
def qdk (a:Ad) (K:PySem.W.Frag):Sp:=fun vs H Q E=>∃ (z:CA) (txt:List Nat) (i:Nat) (T:Marks) (O:List Bool) (lit en:Bool),vs=[.ref z.c]/\qP a K H z txt i T O lit en/\i<=txt.length/\txt.length<=5000/\T.length<1000000 /\
 (∀ H' j g,qo z.M H H'->qP a K H' z txt j (T++CM.pieceOf i g) O lit en->i+g.length<=j->CM.qcD txt i g j->over txt j=true->Q .non H') /\
 (∀ p,Vastoa.gather i (txt.drop i)=.error ⟨2,p⟩->XWM z.M K a.Refusal H 2 p E)
theorem jv {n:Nat} (h:n<=1000000):n<sizeLine:=Nat.lt_of_le_of_lt h (by decide)
theorem XWM.wide {M M':Addr->Prop} {K:PySem.W.Frag} {S:Addr} {H:Hp} {n p:Int} {E:XK} (h:XWM M' K S H n p E) (i:∀ b,M b->M' b):XWM M K S H n p E:=fun C dx H' k x=>h C dx H' (k.wide i) x
theorem ql8 (g:List Nat) (x:Nat):nt g++[.int (x:Int)]=nt (g++[x]):=by simp [nt]
section
variable {P:Program} {w:World} {K:PySem.W.Frag} {mg:Str->Option Value} {base:Heap} {f:Addr} {fd:FuncData} {a:Ad}
theorem JF:qm ["self","first","held"] ["self"] (qe jd):=⟨rfl,rfl,rfl,by decide +kernel,rfl,by decide +kernel,by decide +kernel⟩
theorem qfS (F:Fun K "cut_piece" "Cutter.cut_piece" jd f fd) (T:Tx P w K mg a) (Go:jf P w K mg base CX0 2 a.Cutter "is_piece_over" ["self"] (qjr a K)) (Gg:jf P w K mg base (CXR P w) 4 a.Cutter "gather_byte" ["self"] (qfR a K))
  (Gt:qcE P w K mg base CX0 1 a.Token "Token" ["self","kind","place","held"] (qhZ a)):qy P w K mg base (CXR P w) 5 f fd ["self"] (qdk a K):=by
 refine F.okR JF (fun vs H Q E h=>?_) (fun cdv A outer s H vs Q E hr h=>?_)
 ·obtain ⟨z,txt,i,Tk,O,lit,en,rfl,_⟩:=h; rfl
 ·obtain ⟨z,txt,i,Tk,O,lit,en,rfl,hC,hi,hlen,hT,ko,kx⟩:=h
  have hr1:qO 1 _:=hr.mono (by decide)
  have hr2:qO 2 _:=hr.mono (by decide)
  refine ⟨_,qi (qZ (i:=1) JF.nd rfl (Or.inl rfl) (qj (pv 0) rfl))
   (qi (qZ (i:=2) JF.nd rfl (Or.inl rfl) (qW qh))
   (qi (Qj PassesOwn.leaving (qbl (QJ (jk Go T.c_Cutter hr2 qM (pv 0)))) (qf (qt (zF PySem.F.plainAttrs_list PySem.F.slot_list_append PySem.F.type_list_append zn (pv 2) (qa (jk Gg T.c_Cutter hr jX (pv 0)) qh)))))
   (qf (qU (Qk (pv 2) (by intro _; rfl)) (qf (qt (zF PySem.F.plainAttrs_list PySem.F.slot_list_append PySem.F.type_list_append zn (qj (pv 0) rfl) (qa (Zl Gt hr2 qM (qa qJ (qa (pv 1) (qa (pv 2) qh)))) qh)))) zm)))),?_⟩
  refine ⟨_,rfl,z.c,_,z.dx,_,_,rfl,hC.ins,T.c_Cutter,T.n_Cutter_place,qK _ _ _ _ _ _,?_⟩
  refine ⟨Nat.zero_le _,fun p hp=>?_⟩
  have np:=hC.fresh hp
  refine ⟨fun m σ H'=>σ = [some (.ref z.c),some (.int (i:Int)),some (.ref p)]/\∃ (j:Nat) (g:List Nat),H' z.c=some (qh3 a z j lit en)/\qo (· = z.c) H H'/\H' p=some (.lst (nt g))/\i+g.length<=j/\CM.qcD txt i g j/\m=txt.length - j,
   ⟨_,rfl,i,[],?_,qo.new hp,qc,Nat.le_refl _,CM.qhR hi,rfl⟩,?_⟩
  ·rw [qd (qg hC.ins hp)]; exact hC.ins
  rintro m σ H1 ⟨rfl,j,g,h1,k1,hp1,hgj,G1,rfl⟩
  have C1:=hC.move h1 k1
  refine ⟨_,rfl,z.c,z.dx,_,rfl,C1.ins,qah _ _ _ _ _ _,z,txt,j,Tk,O,lit,en,rfl,C1,fun H2 s2=>⟨_,rfl,?_⟩⟩
  have C2:=C1.same s2
  have k2:=k1.trans (qo.of s2)
  have hp2:=s2 _ _ hp1
  have pc:p≠z.c:=fun e=>np (by rw [e]; exact z.mc)
  cases ho:over txt j with
  | false=>
   refine zL ⟨_,fun σ' H' q=>q,?_⟩
   refine ⟨_,rfl,.inl ⟨rfl,_,SqL.of hp2⟩,_,rfl,z.c,z.dx,_,rfl,C2.ins,qbd _ _ _ _ _ _,z,txt,j,Tk,O,lit,en,rfl,C2,ho,fun H3 j' x k3 h3 hjj hj' eg=>?_,fun hg=>?_⟩
   ·have hp3:=k3 _ _ hp2 pc
    have hj1:j'<=txt.length:=hj'
    refine ⟨p,_,_,rfl,rfl,hp3,by rw [zz]; exact jv (by omega),?_⟩
    rw [ql8]
    refine ⟨txt.length - j',by omega,rfl,j',g++[x],by rw [qd (Ne.symm pc)]; exact h3,fun b o e n=>?_,qc,by simp; omega,CM.qi8 G1 hj' eg,rfl⟩
    rw [qd (qg e hp)]
    exact (k2.trans k3) b o e n
   ·have:=kx j (CM.qfC G1 hg)
    exact (this.from (k2.wide fun b e=>by rw [e]; exact z.mc)).wide fun b e=>by rw [e]; exact z.mc
  | true=>
   have k2':qo z.M H H2:=k2.wide fun b e=>by rw [e]; exact z.mc
   refine zp ⟨_,rfl,_,.inl ⟨_,SqL.of hp2,rfl⟩,?_⟩
   cases g with
   | nil=>
    refine zp ?_
    refine ko H2 j [] k2' ?_ hgj G1 ho
    show qP a K H2 z txt j (Tk++[]) O lit en
    rw [List.append_nil]; exact C2
   | cons x g=>
    obtain ⟨as,t1,t2⟩:=C2.tl
    refine zL ⟨_,rfl,z.c,_,z.dx,_,_,rfl,C2.ins,T.c_Cutter,T.n_Cutter_tokens,J5 _ _ _ _ _ _,.inl ⟨rfl,_,SqL.of t1⟩,?_⟩
    refine ⟨_,rfl,_,rfl,?_⟩
    intro t dx ht hdx hne
    refine ⟨t,dx,_,_,_,rfl,qc,rfl,?_⟩
    rw [jI]
    have s3:qE H2 (upd (upd H2 dx (.own t)) t (.ins a.Token dx (tokF (.str "piece") (.int i) (.ref p)))):=fun b o e=>by rw [qd (qg e ht),qd (qg e hdx)]; exact e
    have C3:=C2.same s3
    have tk:j6 a z.M (upd (upd H2 dx (.own t)) t (.ins a.Token dx (tokF (.str "piece") (.int i) (.ref p)))) t ⟨i,.piece (x::g)⟩:=⟨dx,p,qc,s3 _ _ hp2,C2.fresh ht,np⟩
    have t1':=s3 _ _ t1
    refine ⟨z.tl,_,_,rfl,rfl,t1',?_,?_⟩
    ·rw [List.length_map,Paired.length t2]; exact Nat.lt_trans hT (by decide)
    exact ko _ j (x::g) ((k2'.trans (qo.of s3)).trans (qo.at_ z.mt)) (C3.putT t1' tk) hgj G1 ho
end
end RT
end
section
namespace RT
open PySem PySem.Spec PyProof.Rows L2
open Vastoa (Mark Marks)
structure qjs (a:Ad) (K:PySem.W.Frag) (z:CA) (txt:List Nat) (H:Hp) (i:Nat) (Q:Hp->Prop) (E:XK):Prop where
 done:∀ H' T' O' i',qo z.M H H'->Vastoa.tokens txt=.ok T'->T'.length<=i'+1->i'<=txt.length->qP a K H' z txt i' T' O' false true->Q H'
 more:∀ H' n lit O' i' T',qo z.M H H'->CM.Here txt n lit O' i' T'->i<i'->T'.length<=i'->O'.length<=i'->qP a K H' z txt i' T' O' lit false->Q H'
 fail:∀ p:Nat,Vastoa.tokens txt=.error ⟨2,p⟩->XWM z.M K a.Refusal H 2 p E
def JQ (lit:Bool) (a:Ad) (K:PySem.W.Frag):Sp:=fun vs H Q E=>∃ (z:CA) (txt:List Nat) (n i:Nat) (T:Marks) (O:List Bool),vs=[.ref z.c]/\qP a K H z txt i T O lit false/\CM.Here txt n lit O i T/\T.length<=i/\O.length<=i/\txt.length<=5000 /\
 qjs a K z txt H i (Q .non) E
theorem qfT (b:Bool) (O:List Bool):O.reverse.map opS++[opS b]=(b::O).reverse.map opS:=by simp
section
variable {P:Program} {w:World} {K:PySem.W.Frag} {mg:Str->Option Value} {base:Heap} {f:Addr} {fd:FuncData} {a:Ad}
theorem qan:qm ["self","byte"] ["self"] (qe zO):=⟨rfl,rfl,rfl,by decide +kernel,rfl,by decide +kernel,by decide +kernel⟩
theorem qdL (F:Fun K "cut_literal" "Cutter.cut_literal" zO f fd) (T:Tx P w K mg a) (Gb:jf P w K mg base CX0 1 a.Cutter "byte_at" ["self","place"] (QO a K)) (Gp:jf P w K mg base (CXR P w) 5 a.Cutter "cut_piece" ["self"] (qdk a K))
  (Ga:jf P w K mg base CX0 3 a.Cutter "add_token" ["self","kind","length","held"] (Qn a K)) (Gx:Zg P w K mg base 2 a.WrongToken "WrongToken" ["self","place"] (spX a.WrongToken 2 true)):qy P w K mg base (CXR P w) 6 f fd ["self"] (JQ true a K):=by
 refine F.okR qan (fun vs H Q E h=>?_) (fun cdv A outer s H vs Q E hr h=>?_)
 ·obtain ⟨z,txt,n,i,Tk,O,rfl,_⟩:=h; rfl
 ·obtain ⟨z,txt,n,i,Tk,O,rfl,hC,hH,hT,hO,hlen,R⟩:=h
  have hr1:qO 1 _:=hr.mono (by decide)
  have hr3:qO 3 _:=hr.mono (by decide)
  refine ⟨_,qi (qt (jk Gp T.c_Cutter hr jX (pv 0)))
   (qi (qZ (i:=1) qan.nd rfl (Or.inl rfl) (zi Gb T.c_Cutter hr1 qM (pv 0) (qa (qj (pv 0) rfl) qh)))
   (qi (qU (qL z6 (pv 1) (qN T.g_NOTHING) (qV _)) (qf (jZ Gx hr3 (qa (qj (pv 0) rfl) qh))) zm)
   (qi (qU (qL z6 (pv 1) (qN T.g_QUOTE) (qV _)) (qf (qt (zi Ga T.c_Cutter hr3 qM (pv 0) (qa qJ (qa qw (qa (qW qh) qh))))))
    (qi (qt (zF PySem.F.plainAttrs_list PySem.F.slot_list_append PySem.F.type_list_append zn (qj (pv 0) rfl) (qa qJ qh))) (qf (qt (zi Ga T.c_Cutter hr3 qM (pv 0) (qa qJ (qa qw (qa (qW qh) qh))))))))
   (qf (zu (pv 0) qax rfl))))),?_⟩
  have hle:=hH.le
  refine ⟨_,rfl,z.c,z.dx,_,rfl,hC.ins,qce _ _ _ _ _ _,z,txt,i,Tk,O,true,false,rfl,hC,hH.le,hlen,by omega,fun H1 j g k1 C1 hgj G1 ho=>?_,fun p hp=>R.fail p (CM.qha hH hp)⟩
  have hj:=G1.1
  have hTl:(Tk++CM.pieceOf i g).length<=j:=by
   unfold CM.pieceOf
   cases g with
   | nil=>simp; omega
   | cons x g=>simp at hgj ⊢; omega
  refine ⟨_,rfl,z.c,z.dx,_,rfl,C1.ins,zG _ _ _ _ _ _,_,rfl,z.c,_,z.dx,_,_,rfl,C1.ins,T.c_Cutter,T.n_Cutter_place,qK _ _ _ _ _ _,z.c,txt,j,rfl,C1.text,?_⟩
  refine ⟨_,rfl,rfl,_,rfl,?_⟩
  rw [jp]
  cases e:txt[j]? with
  | none=>
   rw [ju e]
   refine zL ⟨_,rfl,z.c,_,z.dx,_,_,rfl,C1.ins,T.c_Cutter,T.n_Cutter_place,qK _ _ _ _ _ _,?_⟩
   exact Q3 T.x_WrongToken T.u_WrongToken T.n_WrongToken_number T.n_WrongToken_place ((R.fail j (CM.qha hH (CM.qfC G1 (CM.qhS e)))).on k1)
  | some c=>
   rw [zM e,show ((c:Int) == -1)=false from beq_eq_false_iff_ne.mpr (by omega)]
   refine zp ⟨_,rfl,rfl,_,rfl,?_⟩
   rw [jp,zE]
   have hjl:=CM.Zf e
   refine zZ (fun q=>?_) fun q=>?_
   ·have q:c=34:=by have:=of_decide_eq_true q; omega
    subst q
    have ge:Vastoa.gather i (txt.drop i)=.ok (g,j,txt.drop j):=CM.qeu G1 (by rw [CM.qaO e (by decide),if_pos (.inl rfl)])
    have H2:=CM.qi9 hH (by omega) ge e
    refine ⟨_,rfl,z.c,z.dx,_,rfl,C1.ins,ze _ _ _ _ _ _,Nat.zero_le _,fun p hp=>⟨z,txt,j,Tk++CM.pieceOf i g,O,true,false,.unquote,1,p,rfl,C1.same (qr hp),qc,C1.fresh hp,by omega,fun H3 k3 C3=>?_⟩⟩
    refine ⟨_,rfl,z.c,_,z.dx,_,rfl,C3.ins,T.c_Cutter,T.n_Cutter_in_literal,(by show 6<1000; decide),?_⟩
    refine R.more _ _ false O (j+1) _ (((k1.trans (qo.new hp)).trans k3).trans (qo.at_ z.mc)) H2 (by omega) ?_ (by omega) (C3.put (j+1) false false)
    rw [List.length_append]; show (Tk++CM.pieceOf i g).length+1<=_; omega
   ·have q:¬ c=34:=fun y=>q (decide_eq_true (by omega))
    rw [qbJ e] at ho
    have h36:c=36:=by
     by_cases y:c=36
     ·exact y
     ·rw [if_neg y] at ho; exact absurd (of_decide_eq_true ho) q
    subst h36
    have e3:txt[j+1]? = some 123:=of_decide_eq_true ho
    have ge:Vastoa.gather i (txt.drop i)=.ok (g,j,txt.drop j):=CM.qeu G1 (by rw [CM.qaO e (by decide),if_pos (.inr ⟨rfl,e3⟩)])
    have H2:=CM.qkI hH (by omega) ge e e3
    refine ⟨_,rfl,z.c,_,z.dx,_,_,rfl,C1.ins,T.c_Cutter,T.n_Cutter_opened,ZU _ _ _ _ _ _,.inl ⟨rfl,_,SqL.of C1.ol⟩,z.ol,_,_,rfl,rfl,C1.ol,by rw [List.length_map,List.length_reverse]; exact jv (by omega),?_⟩
    rw [show (V.str (Str.ofString "hole"))=opS true from rfl,qfT]
    have C2:=C1.putO (true::O)
    have k2:=k1.trans (qo.at_ (o:=.lst ((true::O).reverse.map opS)) z.mo)
    refine ⟨_,rfl,z.c,z.dx,_,rfl,C2.ins,ze _ _ _ _ _ _,Nat.zero_le _,fun p hp=>⟨z,txt,j,Tk++CM.pieceOf i g,true::O,true,false,.hole,2,p,rfl,C2.same (qr hp),qc,C2.fresh hp,by omega,fun H3 k3 C3=>?_⟩⟩
    refine ⟨_,rfl,z.c,_,z.dx,_,rfl,C3.ins,T.c_Cutter,T.n_Cutter_in_literal,(by show 6<1000; decide),?_⟩
    refine R.more _ _ false (true::O) (j+2) _ (((k2.trans (qo.new hp)).trans k3).trans (qo.at_ z.mc)) H2 (by omega) ?_ (by simp; omega) (C3.put (j+2) false false)
    rw [List.length_append]; show (Tk++CM.pieceOf i g).length+1<=_; omega
end
end RT
end
section
namespace RT
open PySem PySem.Spec PyProof.Rows L2
open Vastoa (Mark Marks)
theorem ql9 (c:Nat):decide (65<=(c:Int)/\(c:Int)<=90 \/ 97<=(c:Int)/\(c:Int)<=122)=Vastoa.letter c:=by
 unfold Vastoa.letter
 rw [Bool.eq_iff_iff]
 simp
 omega
theorem qm7 (c:Nat):inV (.int (c:Int)) [V.int 32,V.int 9,V.int 10,V.int 13]=Vastoa.blank c:=by
 simp only [inV,List.any_cons,List.any_nil,eqV,zE,Bool.or_false]
 unfold Vastoa.blank
 rw [Bool.eq_iff_iff]
 simp
 omega
section
variable {P:Program} {w:World} {K:PySem.W.Frag} {mg:Str->Option Value} {base:Heap} {f:Addr} {fd:FuncData} {a:Ad}
theorem qao:qm ["self","byte"] ["self"] (qe zN):=⟨rfl,rfl,rfl,by decide +kernel,rfl,by decide +kernel,by decide +kernel⟩
theorem qdM (F:Fun K "cut_outside" "Cutter.cut_outside" zN f fd) (T:Tx P w K mg a) (Gb:jf P w K mg base CX0 1 a.Cutter "byte_at" ["self","place"] (QO a K)) (Ga:jf P w K mg base CX0 3 a.Cutter "add_token" ["self","kind","length","held"] (Qn a K))
  (Gl:FnAt P w K mg base CX0 1 "is_letter" ["byte"] qaW) (Gd:FnAt P w K mg base CX0 1 "is_digit" ["byte"] qak) (Gc:jf P w K mg base CX0 2 a.Cutter "pass_comment" ["self"] (qa9 a K)) (Gn:jf P w K mg base (CXR P w) 4 a.Cutter "cut_name" ["self"] (qeC a K))
  (Gu:jf P w K mg base (CXR P w) 4 a.Cutter "cut_number" ["self"] (qcm a K)) (Gr:jf P w K mg base CX0 4 a.Cutter "cut_right_brace" ["self"] (qdj a K)) (Gs:jf P w K mg base (CXR P w) 4 a.Cutter "cut_sign" ["self"] (qeD a K)):qy P w K mg base (CXR P w) 6 f fd ["self"] (JQ false a K):=by
 refine F.okR qao (fun vs H Q E h=>?_) (fun cdv A outer s H vs Q E hr h=>?_)
 ·obtain ⟨z,txt,n,i,Tk,O,rfl,_⟩:=h; rfl
 ·obtain ⟨z,txt,n,i,Tk,O,rfl,hC,hH,hT,hO,hlen,R⟩:=h
  have hr1:qO 1 _:=hr.mono (by decide)
  have hr2:qO 2 _:=hr.mono (by decide)
  have hr3:qO 3 _:=hr.mono (by decide)
  have hr4:qO 4 _:=hr.mono (by decide)
  refine ⟨_,qi (qZ (i:=1) qao.nd rfl (Or.inl rfl) (zi Gb T.c_Cutter hr1 qM (pv 0) (qa (qj (pv 0) rfl) qh)))
   (qf (qU (qL z6 (pv 1) (qN T.g_NOTHING) (qV _)) (qi (qt (zi Ga T.c_Cutter hr3 qM (pv 0) (qa qJ (qa qw (qa (qW qh) qh))))) (qf (zu (pv 0) qax rfl)))
   (qf (qU (qjg (pv 1) (qa (qN T.g_BLANK) (qa (qN T.g_TAB) (qa (qN T.g_LINE_FEED) (qa (qN T.g_RETURN) qh))))) (qf (Qi (pv 0) qw Jt))
   (qf (qU (qL z6 (pv 1) (qN T.g_HASH) (qV _)) (qf (qt (jk Gc T.c_Cutter hr2 qM (pv 0))))
   (qf (qU (QJ (za Gl hr1 qM (qa (pv 1) qh))) (qf (qt (jk Gn T.c_Cutter hr4 jX (pv 0))))
   (qf (qU (QJ (za Gd hr1 qM (qa (pv 1) qh))) (qf (qt (jk Gu T.c_Cutter hr4 jX (pv 0))))
   (qf (qU (qL z6 (pv 1) (qN T.g_QUOTE) (qV _)) (qi (qt (zi Ga T.c_Cutter hr3 qM (pv 0) (qa qJ (qa qw (qa (qW qh) qh))))) (qf (zu (pv 0) qax rfl)))
   (qf (qU (qL z6 (pv 1) (qN T.g_LEFT_BRACE) (qV _)) (qi (qt (zF PySem.F.plainAttrs_list PySem.F.slot_list_append PySem.F.type_list_append zn (qj (pv 0) rfl) (qa qJ qh)))
    (qf (qt (zi Ga T.c_Cutter hr3 qM (pv 0) (qa qJ (qa qw (qa (qW qh) qh)))))))
   (qf (qU (qL z6 (pv 1) (qN T.g_RIGHT_BRACE) (qV _)) (qf (qt (jk Gr T.c_Cutter hr4 qM (pv 0)))) (qf (qt (jk Gs T.c_Cutter hr4 jX (pv 0)))))))))))))))))))),?_⟩
  have hle:=hH.le
  have hT6:Tk.length<1000000:=by omega
  refine ⟨_,rfl,z.c,z.dx,_,rfl,hC.ins,zG _ _ _ _ _ _,_,rfl,z.c,_,z.dx,_,_,rfl,hC.ins,T.c_Cutter,T.n_Cutter_place,qK _ _ _ _ _ _,z.c,txt,i,rfl,hC.text,?_⟩
  refine ⟨_,rfl,rfl,_,rfl,?_⟩
  rw [jp]
  cases e:txt[i]? with
  | none=>
   rw [ju e]
   refine zL ⟨_,rfl,z.c,z.dx,_,rfl,hC.ins,ze _ _ _ _ _ _,Nat.zero_le _,fun p hp=>⟨z,txt,i,Tk,O,false,false,.fin,0,p,rfl,hC.same (qr hp),qc,hC.fresh hp,hT6,fun H3 k3 C3=>?_⟩⟩
   refine ⟨_,rfl,z.c,_,z.dx,_,rfl,C3.ins,T.c_Cutter,T.n_Cutter_ended,(by show 6<1000; decide),?_⟩
   exact R.done _ _ O i (((qo.new hp).trans k3).trans (qo.at_ z.mc)) (CM.qmZ hH e) (by simp; omega) hle (C3.put i false true)
  | some c=>
   have hil:=CM.Zf e
   rw [zM e,show ((c:Int) == -1)=false from beq_eq_false_iff_ne.mpr (by omega)]
   refine zp ⟨_,rfl,rfl,fun H1 s1=>⟨_,rfl,?_⟩⟩
   have C1:=hC.same s1
   have k1:qo z.M H H1:=qo.of s1
   show if inV (.int (c:Int)) [V.int 32,V.int 9,V.int 10,V.int 13]=true then _ else _
   rw [qm7]
   refine zZ (fun hb=>?_) fun hb=>?_
   ·refine ⟨_,rfl,z.c,_,z.dx,_,_,rfl,C1.ins,T.c_Cutter,T.n_Cutter_place,qK _ _ _ _ _ _,_,_,rfl,rfl,z.dx,_,C1.ins,(by show 6<1000; decide),?_⟩
    exact R.more _ _ false O (i+1) Tk (k1.trans (qo.at_ z.mc)) (CM.qkE hH e hb) (by omega) (by omega) (by omega) (C1.put (i+1) false false)
   have hb:Vastoa.blank c=false:=by simpa using hb
   refine ⟨_,rfl,rfl,_,rfl,?_⟩
   rw [jp,zE]
   refine zZ (fun h35=>?_) fun h35=>?_
   ·have h35:c=35:=by have:=of_decide_eq_true h35; omega
    subst h35
    refine ⟨_,rfl,z.c,z.dx,_,rfl,C1.ins,qaR _ _ _ _ _ _,z,txt,i,Tk,O,false,false,rfl,C1,hle,fun H2 j k2 C2 r2 e2=>?_⟩
    have hij:i<j:=by
     rcases Nat.lt_or_ge i j with y | y
     ·exact y
     ·have:i=j:=Nat.le_antisymm r2.1 y
      subst this
      have:=e2 35 e
      omega
    have H2':=CM.qhP (k:=j - i) hH e (by have:=r2.2.1; omega) (by omega) (fun x hx=>by
     obtain ⟨c,h1,h2⟩:=r2.2.2 (i+x) (by omega) (by omega)
     exact ⟨c,h1,by simpa using h2⟩) (fun x hx=>e2 x (by rw [show i+(j - i)=j by omega] at hx; exact hx))
    rw [show i+(j - i)=j by omega] at H2'
    exact R.more H2 _ false O j Tk (k1.trans k2) H2' hij (by omega) (by omega) C2
   have h35:¬ c=35:=fun y=>h35 (decide_eq_true (by omega))
   refine ⟨_,rfl,_,rfl,_,rfl,?_⟩
   rw [ql9]
   refine zZ (fun hl=>?_) fun hl=>?_
   ·refine ⟨_,rfl,z.c,z.dx,_,rfl,C1.ins,qcH _ _ _ _ _ _,z,txt,i,Tk,O,false,false,rfl,C1,hle,hT6,fun j r2 e2=>?_⟩
    have hij:i<j:=by
     rcases Nat.lt_or_ge i j with y | y
     ·exact y
     ·have:i=j:=Nat.le_antisymm r2.1 y
      subst this
      have:=e2 c e
      unfold Vastoa.inner at this
      rw [hl] at this
      cases this
    have H2':=CM.qlZ (k:=j - i) hH e hl (by have:=r2.2.1; omega) (by omega) (fun x hx=>r2.2.2 (i+x) (by omega) (by omega)) (fun x hx=>e2 x (by rw [show i+(j - i)=j by omega] at hx; exact hx))
    rw [show i+(j - i)=j by omega] at H2'
    refine ⟨fun hx=>(R.fail i (H2'.1 hx)).from k1,fun hx H2 k2 C2=>?_⟩
    exact R.more H2 _ false O j _ (k1.trans k2) (H2'.2 hx) hij (by simp; omega) (by omega) C2
   have hl:Vastoa.letter c=false:=by simpa using hl
   refine ⟨_,rfl,_,rfl,_,rfl,?_⟩
   show if qdi (c:Int)=true then _ else _
   rw [qbG]
   refine zZ (fun hd=>?_) fun hd=>?_
   ·refine ⟨_,rfl,z.c,z.dx,_,rfl,C1.ins,qbz _ _ _ _ _ _,z,txt,i,Tk,O,false,false,rfl,C1,hle,hT6,fun j r2 e2=>?_⟩
    have hij:i<j:=by
     rcases Nat.lt_or_ge i j with y | y
     ·exact y
     ·have:i=j:=Nat.le_antisymm r2.1 y
      subst this
      have:=e2 c e
      rw [hd] at this
      cases this
    have H2':=CM.qi6 (k:=j - i) hH e hd (by have:=r2.2.1; omega) (by omega) (fun x hx=>r2.2.2 (i+x) (by omega) (by omega)) (fun x hx=>e2 x (by rw [show i+(j - i)=j by omega] at hx; exact hx))
    rw [show i+(j - i)=j by omega] at H2'
    have e48:txt[i]? = some 48 ↔ c=48:=⟨fun y=>by rw [e] at y; exact Option.some.inj y,fun y=>by rw [e,y]⟩
    rw [e48]
    refine ⟨fun hx=>(R.fail i (H2'.1 hx)).from k1,fun hx H2 k2 C2=>?_⟩
    exact R.more H2 _ false O j _ (k1.trans k2) (H2'.2 hx) hij (by simp; omega) (by omega) C2
   have hd:Vastoa.digit c=false:=by simpa using hd
   refine ⟨_,rfl,rfl,_,rfl,?_⟩
   rw [jp,zE]
   refine zZ (fun h34=>?_) fun h34=>?_
   ·have h34:c=34:=by have:=of_decide_eq_true h34; omega
    subst h34
    refine ⟨_,rfl,z.c,z.dx,_,rfl,C1.ins,ze _ _ _ _ _ _,Nat.zero_le _,fun p hp=>⟨z,txt,i,Tk,O,false,false,.quote,1,p,rfl,C1.same (qr hp),qc,C1.fresh hp,hT6,fun H3 k3 C3=>?_⟩⟩
    refine ⟨_,rfl,z.c,_,z.dx,_,rfl,C3.ins,T.c_Cutter,T.n_Cutter_in_literal,(by show 6<1000; decide),?_⟩
    exact R.more _ _ true O (i+1) _ (((k1.trans (qo.new hp)).trans k3).trans (qo.at_ z.mc)) (CM.qkG hH e) (by omega) (by simp; omega) (by omega) (C3.put (i+1) true false)
   have h34:¬ c=34:=fun y=>h34 (decide_eq_true (by omega))
   refine ⟨_,rfl,rfl,_,rfl,?_⟩
   rw [jp,zE]
   refine zZ (fun h123=>?_) fun h123=>?_
   ·have h123:c=123:=by have:=of_decide_eq_true h123; omega
    subst h123
    refine ⟨_,rfl,z.c,_,z.dx,_,_,rfl,C1.ins,T.c_Cutter,T.n_Cutter_opened,ZU _ _ _ _ _ _,.inl ⟨rfl,_,SqL.of C1.ol⟩,z.ol,_,_,rfl,rfl,C1.ol,by rw [List.length_map,List.length_reverse]; exact jv (by omega),?_⟩
    rw [show (V.str (Str.ofString "brace"))=opS false from rfl,qfT]
    have C2:=C1.putO (false::O)
    have k2:=k1.trans (qo.at_ (o:=.lst ((false::O).reverse.map opS)) z.mo)
    refine ⟨_,rfl,z.c,z.dx,_,rfl,C2.ins,ze _ _ _ _ _ _,Nat.zero_le _,fun p hp=>⟨z,txt,i,Tk,false::O,false,false,.sign [123],1,p,by rw [ql6]; rfl,C2.same (qr hp),qc,C2.fresh hp,hT6,fun H3 k3 C3=>?_⟩⟩
    exact R.more _ _ false (false::O) (i+1) _ ((k2.trans (qo.new hp)).trans k3) (CM.qkH hH e) (by omega) (by simp; omega) (by simp; omega) C3
   have h123:¬ c=123:=fun y=>h123 (decide_eq_true (by omega))
   refine ⟨_,rfl,rfl,_,rfl,?_⟩
   rw [jp,zE]
   refine zZ (fun h125=>?_) fun h125=>?_
   ·have h125:c=125:=by have:=of_decide_eq_true h125; omega
    subst h125
    refine ⟨_,rfl,z.c,z.dx,_,rfl,C1.ins,JL _ _ _ _ _ _,z,txt,i,Tk,O,false,rfl,C1,hT6,fun H2 O' eO k2 C2=>?_,fun H2 hO' k2 C2=>?_⟩
    ·subst eO
     exact R.more H2 _ true O' (i+1) _ (k1.trans k2) (CM.qi7 hH e) (by omega) (by simp; omega) (by simp at hO; omega) C2
    ·exact R.more H2 _ false (O.drop 1) (i+1) _ (k1.trans k2) (CM.qhQ hH e hO') (by omega) (by simp; omega) (by simp; omega) C2
   have h125:¬ c=125:=fun y=>h125 (decide_eq_true (by omega))
   have hoth:CM.other c=true:=by simp [CM.other,hb,h35,hl,hd,h34,h123,h125]
   obtain ⟨s1',s2'⟩:=CM.ql0 hH e hoth
   refine ⟨_,rfl,z.c,z.dx,_,rfl,C1.ins,qcI _ _ _ _ _ _,z,txt,i,Tk,O,false,false,rfl,C1,hle,hT6,fun hx=>(R.fail i (s1' hx)).from k1,fun x hx H2 k2 C2=>?_⟩
   have h0:=(CM.qc5 hx).2.1
   exact R.more H2 _ false O (i+x.length) _ (k1.trans k2) (s2' x hx) (by omega) (by simp; omega) (by omega) C2
end
end RT
end
section
namespace RT
open PySem PySem.Spec PyProof.Rows L2
open Vastoa (Mark Marks)
def qbK (a:Ad) (K:PySem.W.Frag):Sp:=fun vs H Q E=>∃ (c dx ta:Addr) (txt:List Nat),vs=[.ref c,.ref ta]/\H c=some (.ins a.Cutter dx [])/\SqL K H ta (nt txt) /\
 ∀ H' z,z.c=c->H z.tl=none->H z.ol=none->(∀ b o,H b=some o->b≠c->H' b=some o)->qP a K H' z txt 0 [] [] false false->Q .non H'
abbrev M0:Addr->Prop:=fun _=>False
def qlm (a:Ad) (K:PySem.W.Frag):Sp:=fun vs H Q E=>∃ (ta:Addr) (txt:List Nat),vs=[.ref ta]/\SqL K H ta (nt txt)/\txt.length<=5000 /\
 (∀ H' p as T,qE H H'->Vastoa.tokens txt=.ok T->T.length<=txt.length+1->H' p=some (.lst (as.map V.ref))->Paired (j6 a M0 H') as T->Q (.ref p) H') /\
 (∀ p:Nat,Vastoa.tokens txt=.error ⟨2,p⟩->XW K a.Refusal H 2 p E)
theorem j6.free {a:Ad} {M:Addr->Prop} {H:Hp} {t:Addr} {m:Mark} (h:j6 a M H t m):j6 a M0 H t m:=by
 obtain ⟨dx,ha,h1,h2,_,_⟩:=h
 exact ⟨dx,ha,h1,h2,id,id⟩
section
variable {P:Program} {w:World} {K:PySem.W.Frag} {mg:Str->Option Value} {base:Heap} {f:Addr} {fd:FuncData} {a:Ad}
theorem qdN:qm ["self","text"] ["self","text"] (qe jT):=⟨rfl,rfl,rfl,by decide +kernel,rfl,by decide +kernel,by decide +kernel⟩
theorem qdO (F:Fun K "__init__" "Cutter.__init__" jT f fd) (T:Tx P w K mg a):qy P w K mg base CX0 1 f fd ["self","text"] (qbK a K):=by
 refine F.ok qdN (fun vs H Q E h=>?_) (fun cdv A outer s H vs Q E hr h=>?_)
 ·obtain ⟨c,dx,ta,txt,rfl,_⟩:=h; rfl
 ·obtain ⟨c,dx,ta,txt,rfl,hc,ht,k⟩:=h
  refine ⟨_,qi (zu (pv 0) (pv 1) rfl) (qi (zu (pv 0) qw rfl) (qi (zu (pv 0) (qW qh) rfl) (qi (zu (pv 0) (qW qh) rfl) (qi (zu (pv 0) qax rfl) (qf (zu (pv 0) qax rfl)))))),?_⟩
  refine ⟨_,rfl,_,rfl,c,_,dx,_,rfl,hc,T.c_Cutter,T.n_Cutter_text,(by show 0<1000; decide),?_⟩
  refine ⟨_,rfl,c,_,dx,_,rfl,qc,T.c_Cutter,T.n_Cutter_place,(by show 1<1000; decide),?_⟩
  rw [jI]
  refine ⟨Nat.zero_le _,fun tl htl=>⟨_,rfl,c,_,dx,_,rfl,(qd (qg qc htl)).trans qc,T.c_Cutter,T.n_Cutter_tokens,(by show 2<1000; decide),?_⟩⟩
  have ctl:c≠tl:=qg qc htl
  rw [qd (Ne.symm ctl)] at htl
  refine ⟨Nat.zero_le _,fun ol hol=>⟨_,rfl,c,_,dx,_,rfl,(qd (qg qc hol)).trans qc,T.c_Cutter,T.n_Cutter_opened,(by show 3<1000; decide),?_⟩⟩
  have col:c≠ol:=qg qc hol
  rw [qd (Ne.symm col)] at hol
  have tlol:tl≠ol:=qg qc hol
  rw [qd (Ne.symm tlol),qd (Ne.symm col)] at hol
  refine ⟨_,rfl,c,_,dx,_,rfl,qc,T.c_Cutter,T.n_Cutter_in_literal,(by show 4<1000; decide),?_⟩
  refine ⟨_,rfl,c,_,dx,_,rfl,qc,T.c_Cutter,T.n_Cutter_ended,(by show 5<1000; decide),?_⟩
  rw [jI,jI]
  have kk:∀ b o,H b=some o->b≠c->upd (upd (upd (upd (upd H c (.ins a.Cutter dx (zb "place" (.int 0) (zb "text" (.ref ta) [])))) tl (.lst [])) c (.ins a.Cutter dx (zb "tokens" (.ref tl) (zb "place" (.int 0) (zb "text" (.ref ta) []))))) ol (.lst [])) c (.ins a.Cutter dx (jC (.ref ta) (.int 0) (.ref tl) (.ref ol) (.bl false) (.bl false))) b=some o:=fun b o e n=>by
   rw [qd n,qd (qg e hol),qd n,qd (qg e htl),qd n]; exact e
  refine k _ ⟨c,dx,ta,tl,ol⟩ rfl htl hol kk ⟨qc,?_,⟨[],?_,.nil⟩,?_,tlol⟩
  ·have nM:∀ o,H ta=some o->(∀ C d fs,o≠.ins C d fs)->¬ CA.M ⟨c,dx,ta,tl,ol⟩ ta:=fun o e ni z=>by
    rcases z with z | z | z
    ·have z:ta=c:=z
     rw [z,hc] at e; cases e; exact ni _ _ _ rfl
    ·exact qg e htl z
    ·exact qg e hol z
   have ne:∀ o,H ta=some o->(∀ C d fs,o≠.ins C d fs)->ta≠c:=fun o e ni z=>nM o e ni (.inl z)
   rcases ht with (q | ⟨o,q⟩) | q
   ·exact .inl ⟨.inl (kk _ _ q (ne _ q (fun _ _ _ z=>by cases z))),nM _ q (fun _ _ _ z=>by cases z)⟩
   ·exact .inl ⟨.inr ⟨o,kk _ _ q (ne _ q (fun _ _ _ z=>by cases z))⟩,nM _ q (fun _ _ _ z=>by cases z)⟩
   ·exact .inr q
  ·show upd _ c _ tl=_
   rw [qd (Ne.symm ctl),qd tlol,qd (Ne.symm ctl),qc]; rfl
  ·show upd _ c _ ol=_
   rw [qd (Ne.symm col),qc]; rfl
theorem qjt:qm ["text","cutter"] ["text"] (qe qb7):=⟨rfl,rfl,rfl,by decide +kernel,rfl,by decide +kernel,by decide +kernel⟩
theorem qm8 (F:Fun K "cut" "cut" qb7 f fd) (T:Tx P w K mg a) (Gm:qcE P w K mg base CX0 1 a.Cutter "Cutter" ["self","text"] (qbK a K)) (Gl:jf P w K mg base (CXR P w) 6 a.Cutter "cut_literal" ["self"] (JQ true a K))
  (Go:jf P w K mg base (CXR P w) 6 a.Cutter "cut_outside" ["self"] (JQ false a K)):qy P w K mg base (CXR P w) 7 f fd ["text"] (qlm a K):=by
 refine F.okR qjt (fun vs H Q E h=>?_) (fun cdv A outer s H vs Q E hr h=>?_)
 ·obtain ⟨ta,txt,rfl,_⟩:=h; rfl
 ·obtain ⟨ta,txt,rfl,ht,hlen,ko,kx⟩:=h
  have hr2:qO 2 _:=hr.mono (by decide)
  refine ⟨_,qi (qZ (i:=1) qjt.nd rfl (Or.inl rfl) (Zl Gm hr2 qM (qa (pv 0) qh)))
   (qi (Qj PassesOwn.leaving (qbl (QJ (qj (pv 1) rfl))) (qf (qU (QJ (qj (pv 1) rfl)) (qf (qt (jk Gl T.c_Cutter hr jX (pv 1)))) (qf (qt (jk Go T.c_Cutter hr jX (pv 1)))))))
   (qf (qF (qj (pv 1) rfl)))),?_⟩
  refine ⟨_,rfl,?_⟩
  intro c dx hc hdx hne
  have s1:qE H (upd (upd H dx (.own c)) c (.ins a.Cutter dx [])):=fun b o e=>by rw [qd (qg e hc),qd (qg e hdx)]; exact e
  refine ⟨c,dx,ta,txt,rfl,qc,s1.seq ht,fun H1 z ez htl hol k1 C1=>⟨rfl,?_⟩⟩
  have sub:∀ b o,H b=some o->¬ z.M b:=fun b o e y=>by
   have e1:=s1 b o e
   rcases y with y | y | y
   ·rw [y,ez] at e; rw [hc] at e; cases e
   ·rw [y,htl] at e1; cases e1
   ·rw [y,hol] at e1; cases e1
  have sH:qE H H1:=fun b o e=>k1 b o (s1 b o e) (qg e hc)
  have toS:∀ H2,qo z.M H1 H2->qE H H2:=fun H2 k b o e=>k b o (sH b o e) (sub b o e)
  refine ⟨fun m σ H2=>σ = [some (.ref ta),some (.ref z.c)]/\qo z.M H1 H2/\((∃ n lit O i Tk,qP a K H2 z txt i Tk O lit false/\CM.Here txt n lit O i Tk/\Tk.length<=i/\O.length<=i/\m=txt.length+1 - i) \/
   (∃ O i Tk,qP a K H2 z txt i Tk O false true/\Vastoa.tokens txt=.ok Tk/\Tk.length<=txt.length+1/\m=0)),⟨_,?_,qo.refl _ _,.inl ⟨_,false,[],0,[],C1,CM.start txt,Nat.le_refl _,Nat.le_refl _,rfl⟩⟩,?_⟩
  ·rw [ez]; rfl
  rintro m σ H2 ⟨rfl,k2,⟨n,lit,O,i,Tk,C2,hH,hT,hO,rfl⟩ | ⟨O,i,Tk,C2,hk,hl,rfl⟩⟩
  ·refine ⟨_,rfl,z.c,_,z.dx,_,_,rfl,C2.ins,T.c_Cutter,T.n_Cutter_ended,qdc _ _ _ _ _ _,_,rfl,zL ⟨_,fun σ' H' q=>q,?_⟩⟩
   refine ⟨_,rfl,z.c,_,z.dx,_,_,rfl,C2.ins,T.c_Cutter,T.n_Cutter_in_literal,qdb _ _ _ _ _ _,_,rfl,?_⟩
   have hle:=hH.le
   have res:qjs a K z txt H2 i (fun H'=>∃ m',m'<txt.length+1 - i/\([some (V.ref ta),some (.ref z.c)]=[some (V.ref ta),some (.ref z.c)]/\qo z.M H1 H'/\((∃ n lit O i Tk,qP a K H' z txt i Tk O lit false/\CM.Here txt n lit O i Tk/\Tk.length<=i/\O.length<=i/\m'=txt.length+1 - i) \/
    (∃ O i Tk,qP a K H' z txt i Tk O false true/\Vastoa.tokens txt=.ok Tk/\Tk.length<=txt.length+1/\m'=0)))) E:=by
    refine ⟨fun H' T' O' i' k3 e3 l3 b3 C3=>⟨0,by omega,rfl,k2.trans k3,.inr ⟨O',i',T',C3,e3,by omega,rfl⟩⟩,fun H' n' lit' O' i' T' k3 h3 b3 l3 o3 C3=>⟨txt.length+1 - i',?_,rfl,k2.trans k3,.inl ⟨n',lit',O',i',T',C3,h3,l3,o3,rfl⟩⟩,fun p hp=>?_⟩
    ·have:=h3.le; omega
    ·exact fun C dx' H' k3 x=>kx p hp C dx' H' (toS H' (k2.trans k3)) x
   cases lit with
   | true=>exact zL ⟨_,rfl,z.c,z.dx,_,rfl,C2.ins,qbc _ _ _ _ _ _,z,txt,n,i,Tk,O,rfl,C2,hH,hT,hO,hlen,res⟩
   | false=>exact zp ⟨_,rfl,z.c,z.dx,_,rfl,C2.ins,qbb _ _ _ _ _ _,z,txt,n,i,Tk,O,rfl,C2,hH,hT,hO,hlen,res⟩
  ·refine ⟨_,rfl,z.c,_,z.dx,_,_,rfl,C2.ins,T.c_Cutter,T.n_Cutter_ended,qdc _ _ _ _ _ _,_,rfl,zp ?_⟩
   refine ⟨_,rfl,z.c,_,z.dx,_,_,rfl,C2.ins,T.c_Cutter,T.n_Cutter_tokens,J5 _ _ _ _ _ _,?_⟩
   obtain ⟨as,t1,t2⟩:=C2.tl
   exact ko H2 z.tl as Tk (toS H2 k2) hk hl t1 (qX (fun x y q=>q.free) t2)
end
end RT
end
section
namespace RT
open PySem PySem.Spec PyProof.Rows L2
open Vastoa (Mark Marks)
abbrev qe2:=Vastoa.Kind
abbrev qfU:=RM.Act
open RM (Part Sym qB kd held)
def ZF:Part->Str
 | .EXPR=> "EXPR" | .FORM=> "FORM" | .FUNCTION=> "FUNCTION" | .FIELDS=> "FIELDS" | .PARAMS=> "PARAMS" | .GIVEN=> "GIVEN" | .MPARAMS=> "MORE-PARAMS" | .BINDS=> "BINDS" | .BOUND=> "BOUND" | .OR=> "OR" | .MOR=> "MORE-OR"
 | .AND=> "AND" | .MAND=> "MORE-AND" | .NOT=> "NOT" | .CMP=> "CMP" | .MCMP=> "MORE-CMP" | .UPD=> "UPD" | .MUPD=> "MORE-UPD" | .JOIN=> "JOIN" | .MJOIN=> "MORE-JOIN" | .SUM=> "SUM" | .MSUM=> "MORE-SUM" | .PROD=> "PROD"
 | .MPROD=> "MORE-PROD" | .NEG=> "NEG" | .APP=> "APP" | .ARGS=> "ARGUMENTS" | .ARG=> "ARGUMENT" | .SEL=> "SEL" | .DOTS=> "DOTS" | .MDOTS=> "MORE-DOTS" | .DFLT=> "DEFAULT" | .ATOM=> "ATOM" | .PIECES=> "PIECES"
 | .LIST=> "LIST" | .MLIST=> "MORE-LIST"
def kindS:qe2->Str
 | .piece=> "piece" | .num=> "num" | .yes=> "yes" | .no=> "no" | .none=> "none" | .name=> "name" | .text=> "text" | .list=> "list" | .record=> "record" | .recur=> "recur" | .get=> "get" | .app=> "app" | .neg=> "neg"
 | .not=> "not" | .has=> "has" | .fn=> "fn" | .fields=> "fields" | .openFields=> "fields.." | .param=> "param" | .letIn=> "let" | .cond=> "if" | .must=> "must"
 | .op .or=> "or" | .op .and=> "and" | .op .eq=> "==" | .op .ne=> "!=" | .op .lt=> "<" | .op .le=> "<=" | .op .upd=> "//" | .op .join=> "++" | .op .add=> "+" | .op .sub=> "-" | .op .mul=> "*"
def ZG:qfU->Str
 | .begin=> "begin" | .take=> "take" | .label=> "label" | .fresh=> "fresh" | .enter=> "enter" | .leave=> "leave"
 | .fin k=>kindS k
def j9:Sym->Str
 | .p x=>ZF x
 | .t k=>jP k
 | .a x=>strOf (64::(ZG x).cps.toList)
def allParts:List Part:=[.EXPR,.FORM,.FUNCTION,.FIELDS,.PARAMS,.GIVEN,.MPARAMS,.BINDS,.BOUND,.OR,.MOR,.AND,.MAND,.NOT,.CMP,.MCMP,.UPD,.MUPD,.JOIN,.MJOIN,.SUM,.MSUM,.PROD,.MPROD,.NEG,.APP,.ARGS,.ARG,.SEL,.DOTS,.MDOTS,.DFLT,.ATOM,.PIECES,.LIST,.MLIST]
def allKinds:List qe2:=[.piece,.num,.yes,.no,.none,.name,.text,.list,.record,.recur,.get,.app,.neg,.not,.has,.fn,.fields,.openFields,.param,.letIn,.cond,.must,.op .or,.op .and,.op .eq,.op .ne,.op .lt,.op .le,.op .upd,.op .join,.op .add,.op .sub,.op .mul]
def jN:List qbF:=[.name [],.num [],.piece [],.quote,.unquote,.hole,.unhole,.fin]++Vastoa.reserved.map .word++([[123],[125]]++Vastoa.signs2++Vastoa.signs1).map .sign
theorem QP (x:Part):x∈allParts:=by cases x <;> decide
theorem qju (k:qe2):k∈allKinds:=by
 cases k with
 | op o=>cases o <;> decide
 | _=>decide
theorem qaX {t:qbF} (h:CM.ZT t=true):kd t∈jN:=by
 unfold jN
 cases t with
 | word x=>
  have h:Vastoa.reserved.contains x=true:=h
  exact List.mem_append_left _ (List.mem_append_right _ (List.mem_map.mpr ⟨x,List.contains_iff_mem.mp h,rfl⟩))
 | sign x=>
  have h:([[123],[125]]++Vastoa.signs2++Vastoa.signs1).contains x=true:=h
  exact List.mem_append_right _ (List.mem_map.mpr ⟨x,List.contains_iff_mem.mp h,rfl⟩)
 | _=>exact List.mem_append_left _ (List.mem_append_left _ (by simp [kd]))
theorem qdP (t:qbF):jP (kd t)=jP t:=by cases t <;> rfl
theorem qkQ:∀ x∈jN,∀ y∈jN,jP x=jP y->x=y:=by decide +kernel
def qaY:Sym->Bool
 | .t k=>jN.contains k
 | _=>true
theorem qjv:∀ x∈allParts,∀ k∈jN,(qB x k).all qaY=true:=by decide +kernel
def Jg (x k:Str):Bool:=if x = "ARGUMENT" then qda.contains k else decide (x=k)
def QA (k:Str):List Str->List Str->List Str
 | [],last=>last
 | r::rs,_=>match Txt.words r with
  | []=>QA k rs []
  | x::l=>if Jg x k then x::l else QA k rs (x::l)
def rowsOf (x:Part):List Str:=(QT.lookup (ZF x)).getD []
end RT
namespace RT
open PySem PySem.Spec PyProof.Rows L2
open Vastoa (Mark Marks)
open RM (Part Sym qB kd held)
theorem qh4:∀ x∈allParts,∀ k∈jN,QA (jP k) (rowsOf x) []=(qB x k).map j9:=by decide +kernel
def qh5:List Str:=QT.map (·.1)
theorem qfV:∀ x∈allParts,ZF x∈qh5:=by decide +kernel
theorem qma:∀ k∈jN,jP k∉qh5:=by decide +kernel
def qap:List qfU:=[.begin,.take,.label,.fresh,.enter,.leave]++allKinds.map .fin
theorem qaZ (x:qfU):x∈qap:=by
 cases x with
 | fin k=>exact List.mem_append_right _ (List.mem_map.mpr ⟨k,qju k,rfl⟩)
 | _=>exact List.mem_append_left _ (by simp)
theorem qmb:∀ x∈qap,j9 (.a x)∉qh5:=by decide +kernel
theorem qm9:∀ x∈qap,Txt.startswith (j9 (.a x)) "@" = true/\qfn (j9 (.a x)) (some 1) none=ZG x/\(j9 (.a x)).length<=1000:=by decide +kernel
theorem qna:∀ k∈jN,Txt.startswith (jP k) "@" = false:=by decide +kernel
theorem qmc:∀ x∈qap,∀ y∈qap,ZG x=ZG y->x=y:=by decide +kernel
theorem qh6:∀ x∈allParts,∀ r∈rowsOf x,r.length<=1000:=by decide +kernel
theorem qkR:∀ x∈allParts,(ZF x,rowsOf x)∈QT:=by decide +kernel
theorem qdQ (g:Str->Addr) (y:Str):∀ l:List (Str × List Str),zw (l.map fun r=>((Sum.inr r.1:Key),V.ref (g r.1))) (Sum.inr y)=if y∈l.map (·.1) then some (V.ref (g y)) else none
 | []=>rfl
 | r::l=>by
  by_cases h:r.1=y
  ·subst h
   rw [List.map_cons,Jy rfl,if_pos (by simp)]
  ·rw [List.map_cons,Jz (fun z=>h (Sum.inr.inj z)),qdQ g y l]
   by_cases h2:y∈l.map (·.1)
   ·rw [if_pos h2,if_pos (by rw [List.map_cons]; exact List.mem_cons_of_mem _ h2)]
   ·rw [if_neg h2,if_neg (by rw [List.map_cons,List.mem_cons]; exact fun z=>z.elim (fun z=>h z.symm) h2)]
end RT
end
section
namespace RT
open PySem PySem.Spec PyProof.Rows L2
open Vastoa (Mark Marks)
open RM (Part Sym qB kd held)
def qjw:Sp:=fun vs H Q E=>∃ x k:Str,vs=[.str x,.str k]/\Q (.bl (Jg x k)) H
def qfW (a:Ad):Sp:=fun vs H Q E=>∃ (x:Part) (k:qbF),vs=[.str (ZF x),.str (jP k)]/\k∈jN/\∀ H' p,qE H H'->H p=none->H' p=some (.lst (((qB x k).map j9).map V.str))->Q (.ref p) H'
theorem Z6:∀ l:List Str,(l.map V.str).all Ql=true
 | []=>rfl
 | _::r=>by rw [List.map_cons,List.all_cons,Z6 r]; rfl
theorem qhf (k:Str):∀ l:List Str,inV (.str k) (l.map V.str)=l.contains k
 | []=>rfl
 | x::r=>by
  have ih:=qhf k r
  unfold inV at ih ⊢
  rw [List.map_cons,List.any_cons,ih,List.contains_cons]
  congr 1
  show (x == k)=(k == x)
  by_cases h:x=k
  ·subst h; rfl
  ·rw [beq_eq_false_iff_ne.mpr h,beq_eq_false_iff_ne.mpr (fun z=>h z.symm)]
theorem qgJ {k:Str} {r:Str} {x:Str} {l:List Str} (hw:Txt.words r=x::l) (hf:Jg x k=true) (rs last:List Str):QA k (r::rs) last=x::l:=by
 unfold QA; rw [hw]; dsimp only; rw [if_pos hf]
theorem qeE {k:Str} {r:Str} (h:∀ x l,Txt.words r=x::l->Jg x k=false) (rs last:List Str):QA k (r::rs) last=QA k rs (Txt.words r):=by
 conv=>lhs; unfold QA
 cases hw:Txt.words r with
 | nil=>rfl
 | cons x l=>
  dsimp only
  rw [if_neg (by rw [h x l hw]; decide)]
section
variable {P:Program} {w:World} {K:PySem.W.Frag} {mg:Str->Option Value} {base:Heap} {f:Addr} {fd:FuncData} {a:Ad}
theorem qmd:qm ["first","kind"] ["first","kind"] (qe qai):=⟨rfl,rfl,rfl,by decide +kernel,rfl,by decide +kernel,by decide +kernel⟩
theorem qme (F:Fun K "fits" "fits" qai f fd) (T:Tx P w K mg a):qy P w K mg base CX0 1 f fd ["first","kind"] qjw:=by
 refine F.ok qmd (fun vs H Q E h=>?_) (fun cdv A outer s H vs Q E hr h=>?_)
 ·obtain ⟨x,k,rfl,_⟩:=h; rfl
 ·obtain ⟨x,y,rfl,k⟩:=h
  refine ⟨_,qi (qU (qL z6 (pv 0) qJ (qV _)) (qf (qF (qdw Z1 (pv 1) (qN T.g_ATOM_BEGINNINGS) (by with_unfolding_all rfl)))) zm) (qf (qF (qdw z6 (pv 0) (pv 1) (qV _)))),?_⟩
  refine ⟨_,rfl,rfl,_,rfl,zZ (fun e=>?_) fun e=>?_⟩
  ·have e:x = "ARGUMENT":=by have:=of_decide_eq_true e; injection this
   refine ⟨_,rfl,a.ATOM_BEGINNINGS,_,rfl,.inr (T.t_ATOM_BEGINNINGS.sq _),rfl,Z6 _,?_⟩
   have:Jg x y=inV (.str y) (qda.map V.str):=by unfold Jg; rw [if_pos e,qhf]
   rw [this] at k; exact k
  ·have e:¬ x = "ARGUMENT":=fun z=>e (decide_eq_true (by rw [z]))
   refine ⟨_,rfl,_,rfl,rfl,?_⟩
   have:Jg x y=decide (V.str x=V.str y):=by
    unfold Jg; rw [if_neg e]
    exact decide_eq_decide.mpr ⟨fun z=>by rw [z],fun z=>by injection z⟩
   rw [this] at k; exact k
theorem JR:qm ["part","kind","symbols","choice"] ["part","kind"] (qe ZP):=⟨rfl,rfl,rfl,by decide +kernel,rfl,by decide +kernel,by decide +kernel⟩
theorem qjx (F:Fun K "choose" "choose" ZP f fd) (T:Tx P w K mg a) (G:FnAt P w K mg base CX0 1 "fits" ["first","kind"] qjw):qy P w K mg base CX0 2 f fd ["part","kind"] (qfW a):=by
 refine F.ok JR (fun vs H Q E h=>?_) (fun cdv A outer s H vs Q E hr h=>?_)
 ·obtain ⟨x,k,rfl,_⟩:=h; rfl
 ·obtain ⟨x,y,rfl,hy,k⟩:=h
  refine ⟨_,qi (qZ (i:=2) JR.nd rfl (Or.inl rfl) (qW qh))
   (qi (Jq PassesOwn.never rfl (qfb (Zo (qN T.g_GRAMMAR) (pv 0) (fun _ _=>rfl))) (jy (i:=3) JR.nd rfl (Or.inl rfl))
    (qi (qZ (i:=2) JR.nd rfl (Or.inl rfl) (qkr (pv 3)))
    (qf (qU (qe9 (Qk (pv 2) (by intro _; rfl)) (qdu (QJ (za G hr qM (qa (jz zH (pv 2) qw (fun _ _=>rfl)) (qa (pv 1) qh)))))).pt (qf (qF (pv 2))) zm))))
   (qf (qF (pv 2)))),?_⟩
  refine ⟨Nat.zero_le _,fun q hq=>?_⟩
  have hmem:=qfV x (QP x)
  have hrow:=T.t_gram _ (qkR x (QP x))
  have hval:zw (QT.map fun r=>((Sum.inr r.1:Key),V.ref (a.gram r.1))) (Sum.inr (ZF x))=some (.ref (a.gram (ZF x))):=by rw [qdQ]; exact if_pos hmem
  have hc:=qh4 x (QP x) y hy
  refine ⟨_,rfl,a.GRAMMAR,_,Sum.inr (ZF x),_,rfl,T.d_GRAMMAR,rfl,hval,a.gram (ZF x),rfl,⟨_,hrow.sq _⟩,
   qdv (K:=K) (a:=a.gram (ZF x)) (xs:=(rowsOf x).map V.str) (fun i σ H'=>∃ (v:Option V) (l:Addr) (ys:List Str),σ = [some (.str (ZF x)),some (.str (jP y)),some (.ref l),v]/\qE H H'/\H l=none/\H' l=some (.lst (ys.map V.str))/\QA (jP y) (rowsOf x) []=QA (jP y) ((rowsOf x).drop i) ys)
   ⟨none,q,[],rfl,qr hq,hq,qc,rfl⟩ (fun i σ H' _ _=>hrow.sq _) ?_ ?_⟩
  ·rintro i z σ H1 hi ⟨v,l,ys,rfl,s1,hl,hl1,ech⟩
   obtain ⟨r,hr',rfl⟩:∃ r,(rowsOf x)[i]? = some r/\V.str r=z:=by
    rw [List.getElem?_map] at hi
    exact Option.map_eq_some_iff.mp hi
   have hsz:r.length<=1000:=qh6 x (QP x) r (List.mem_of_getElem? hr')
   have hd:(rowsOf x).drop i=r::(rowsOf x).drop (i+1):=by
    obtain ⟨h1,h2⟩:=List.getElem?_eq_some_iff.mp hr'
    rw [<- h2]; exact List.drop_eq_getElem_cons h1
   rw [hd] at ech
   refine ⟨_,rfl,⟨_,rfl⟩,r,rfl,rfl,?_,fun p hp=>?_⟩
   ·have:(1000:Nat)+2<=sizeLine:=by decide
    omega
   have hpH:H p=none:=s1.free hp
   have s2:=s1.trans (qr (o:=.lst ((Txt.words r).map V.str)) hp)
   refine ⟨_,rfl,_,.inl ⟨_,SqL.of qc,rfl⟩,?_⟩
   cases hw:Txt.words r with
   | nil=>
    rw [hw] at s2
    refine zp (zp ?_)
    refine ⟨_,p,[],rfl,s2,hpH,qc,?_⟩
    rw [ech,qeE (fun x' l' z=>by rw [hw] at z; cases z),hw]
   | cons x0 l0=>
    rw [hw] at s2
    refine zL ⟨_,rfl,p,_,_,_,rfl,rfl,SqL.of qc,jJ (j:=0) rfl,_,rfl,x0,_,rfl,_,rfl,?_⟩
    cases hf:Jg x0 (jP y) with
    | true=>
     refine zL ⟨_,rfl,?_⟩
     rw [qgJ hw hf] at ech
     rw [ech] at hc
     refine k _ p s2 hpH ?_
     rw [qc,<- hc]
    | false=>
     refine zp ⟨_,p,x0::l0,rfl,s2,hpH,qc,?_⟩
     rw [ech,qeE (fun x' l' z=>by rw [hw] at z; cases z; exact hf),hw]
  ·rintro σ H1 ⟨v,l,ys,rfl,s1,hl,hl1,ech⟩
   refine ⟨_,rfl,?_⟩
   rw [List.length_map,List.drop_length] at ech
   refine k H1 l s1 hl ?_
   rw [hl1,<- hc,ech]
   rfl
end
end RT
end
section
namespace RT
open PySem PySem.Spec PyProof.Rows L2
open Vastoa (Mark Marks)
open RM (Part Sym qB kd held)
def qaq (M:Addr->Prop) (H:Hp) (lb:List Addr) (ls:List (List Nat)):Prop:=Paired (fun p (x:List Nat)=>H p=some (.lst (nt x))/\¬ M p) lb ls
mutual
def qI (a:Ad) (M:Addr->Prop) (H:Hp):Vastoa.Tree->Addr->Prop
 | .node k ls l,t=>∃ dx la ka lb ks,(H t=some (.ins a.Node dx (qbA (.str (kindS k)) (.ref la) (.ref ka) (.int ((Vastoa.depths l+1:Nat):Int))))/\¬ M t)/\(H la=some (.lst (lb.map V.ref))/\¬ M la)/\qaq M H lb ls/\(H ka=some (.lst (ks.map V.ref))/\¬ M ka)/\qp a M H l ks
def qp (a:Ad) (M:Addr->Prop) (H:Hp):List Vastoa.Tree->List Addr->Prop
 | [],ks=>ks=[]
 | t::l,ks=>∃ k r,ks=k::r/\qI a M H t k/\qp a M H l r
end
def Pass (M:Addr->Prop) (H:Hp) (M':Addr->Prop) (H':Hp):Prop:=∀ b o,H b=some o->¬ M b->H' b=some o/\¬ M' b
theorem qaq.pass {M M':Addr->Prop} {H H':Hp} (p:Pass M H M' H') {lb:List Addr} {ls:List (List Nat)} (h:qaq M H lb ls):qaq M' H' lb ls:=qX (fun x y q=>p _ _ q.1 q.2) h
mutual
theorem qI.pass {a:Ad} {M M':Addr->Prop} {H H':Hp} (p:Pass M H M' H'):∀ (T:Vastoa.Tree) (t:Addr),qI a M H T t->qI a M' H' T t
 | .node k ls l,t,h=>by
  unfold qI at h ⊢
  obtain ⟨dx,la,ka,lb,ks,h1,h2,h3,h4,h5⟩:=h
  exact ⟨dx,la,ka,lb,ks,p _ _ h1.1 h1.2,p _ _ h2.1 h2.2,h3.pass p,p _ _ h4.1 h4.2,qp.pass p l ks h5⟩
theorem qp.pass {a:Ad} {M M':Addr->Prop} {H H':Hp} (p:Pass M H M' H'):∀ (l:List Vastoa.Tree) (ks:List Addr),qp a M H l ks->qp a M' H' l ks
 | [],ks,h=>by unfold qp at h ⊢; exact h
 | T::l,ks,h=>by
  unfold qp at h ⊢
  obtain ⟨k,r,e,h1,h2⟩:=h
  exact ⟨k,r,e,qI.pass p T k h1,qp.pass p l r h2⟩
end
theorem j6.pass {a:Ad} {M M':Addr->Prop} {H H':Hp} (p:Pass M H M' H') {t:Addr} {m:Mark} (h:j6 a M H t m):j6 a M' H' t m:=by
 obtain ⟨dx,ha,h1,h2,h3,h4⟩:=h
 exact ⟨dx,ha,(p _ _ h1 h3).1,(p _ _ h2 h4).1,(p _ _ h1 h3).2,(p _ _ h2 h4).2⟩
theorem qT {a:Ad} {M:Addr->Prop} {H:Hp}:∀ {l:List Vastoa.Tree} {ks:List Addr},qp a M H l ks ↔ Paired (fun k T=>qI a M H T k) ks l
 | [],ks=>by
  unfold qp
  constructor
  ·rintro rfl; exact .nil
  ·intro h; cases h; rfl
 | T::l,ks=>by
  unfold qp
  constructor
  ·rintro ⟨k,r,rfl,h1,h2⟩
   exact .cons h1 (qT.mp h2)
  ·intro h
   cases h with
   | cons h1 h2=>exact ⟨_,_,rfl,h1,qT.mpr h2⟩
theorem qI.depth {a:Ad} {M:Addr->Prop} {H:Hp} {T:Vastoa.Tree} {t:Addr} (h:qI a M H T t):∃ dx x y z,H t=some (.ins a.Node dx (qbA x y z (.int ((Vastoa.depth T:Nat):Int)))):=by
 cases T with
 | node k ls l=>
  unfold qI at h
  obtain ⟨dx,la,ka,lb,ks,h1,_⟩:=h
  refine ⟨dx,.str (kindS k),.ref la,.ref ka,?_⟩
  unfold Vastoa.depth
  exact h1.1
theorem qh7:∀ (l:List Vastoa.Tree) (m:Int),(l.map (fun T=>((Vastoa.depth T:Nat):Int))=[]->m=0)->(l.map (fun T=>((Vastoa.depth T:Nat):Int))≠[]->m∈l.map (fun T=>((Vastoa.depth T:Nat):Int))/\∀ y,y∈l.map (fun T=>((Vastoa.depth T:Nat):Int))->y<=m)->m=((Vastoa.depths l:Nat):Int):=by
 have up:∀ (l:List Vastoa.Tree) (y:Int),y∈l.map (fun T=>((Vastoa.depth T:Nat):Int))->y<=((Vastoa.depths l:Nat):Int):=by
  intro l
  induction l with
  | nil=>intro y h; cases h
  | cons T l ih=>
   intro y h
   unfold Vastoa.depths
   rcases List.mem_cons.mp h with rfl | h
   ·show ((Vastoa.depth T:Nat):Int)<=_
    omega
   ·have:=ih y h; omega
 have isin:∀ (l:List Vastoa.Tree),l≠[]->((Vastoa.depths l:Nat):Int)∈l.map (fun T=>((Vastoa.depth T:Nat):Int)):=by
  intro l
  induction l with
  | nil=>intro h; exact absurd rfl h
  | cons T l ih=>
   intro _
   unfold Vastoa.depths
   by_cases hl:l=[]
   ·subst hl
    unfold Vastoa.depths
    simp
   ·have:=ih hl
    rcases Nat.le_total (Vastoa.depth T) (Vastoa.depths l) with h | h
    ·rw [Nat.max_eq_right h]; exact List.mem_cons_of_mem _ this
    ·rw [Nat.max_eq_left h]; exact List.mem_cons_self
 intro l m h0 h1
 cases l with
 | nil=>
  rw [h0 rfl]
  unfold Vastoa.depths
  rfl
 | cons T l=>
  obtain ⟨g1,g2⟩:=h1 (by simp)
  have a1:=up _ m g1
  have a2:=g2 _ (isin (T::l) (by simp))
  omega
def qjy (a:Ad) (H:Hp) (ks:List Addr) (ds:List Int):Prop:=Paired (fun k d=>∃ dx x y z,H k=some (.ins a.Node dx (qbA x y z (.int d)))) ks ds
theorem qfX {a:Ad} {M:Addr->Prop} {H:Hp}:∀ {l:List Vastoa.Tree} {ks:List Addr},qp a M H l ks->qjy a H ks (l.map fun T=>((Vastoa.depth T:Nat):Int))
 | [],ks,h=>by unfold qp at h; subst h; exact .nil
 | T::l,ks,h=>by
  unfold qp at h
  obtain ⟨k,r,rfl,h1,h2⟩:=h
  exact .cons h1.depth (qfX h2)
def qjz (a:Ad):Sp:=fun vs H Q E=>∃ (t dx ka:Addr) (k l:V) (ks:List Addr) (ds:List Int),vs=[.ref t,k,l,.ref ka]/\H t=some (.ins a.Node dx [])/\H ka=some (.lst (ks.map V.ref))/\qjy a H ks ds/\ks.length<=1000000 /\
 ∀ H' m,(∀ b o,H b=some o->b≠t->H' b=some o)->(ds=[]->m=0)->(ds≠[]->m∈ds/\∀ y,y∈ds->y<=m)->H' t=some (.ins a.Node dx (qbA k l (.ref ka) (.int (1+m))))->Q .non H'
def qdR (a:Ad):Sp:=fun vs H Q E=>∃ (g dx:Addr) (n:Int),vs=[.ref g,.int n]/\H g=some (.ins a.Begun dx []) /\
 ∀ H' la na,(∀ b o,H b=some o->b≠g->H' b=some o)->H la=none->H na=none->la≠na->H' g=some (.ins a.Begun dx (qdH (.int n) (.ref la) (.ref na)))->H' la=some (.lst [])->H' na=some (.dT [])->Q .non H'
section
variable {P:Program} {w:World} {K:PySem.W.Frag} {mg:Str->Option Value} {base:Heap} {f:Addr} {fd:FuncData} {a:Ad}
theorem JG:qm ["self","kind","labels","kids","kid"] ["self","kind","labels","kids"] (qe Qs):=⟨rfl,rfl,rfl,by decide +kernel,rfl,by decide +kernel,by decide +kernel⟩
theorem qfY (F:Fun K "__init__" "Node.__init__" Qs f fd) (T:Tx P w K mg a):qy P w K mg base CX0 1 f fd ["self","kind","labels","kids"] (qjz a):=by
 refine F.ok JG (fun vs H Q E h=>?_) (fun cdv A outer s H vs Q E hr h=>?_)
 ·obtain ⟨t,dx,ka,k,l,ks,ds,rfl,_⟩:=h; rfl
 ·obtain ⟨t,dx,ka,kk,l,ks,ds,rfl,ht,hka,hks,hlen,k⟩:=h
  refine ⟨_,qi (zu (pv 0) (pv 1) rfl) (qi (zu (pv 0) (pv 2) rfl) (qi (zu (pv 0) (pv 3) rfl)
   (qf (zu (pv 0) (QQ Jr qw (ql4 rfl (by rfl) T.b_max (qe0 (own:=[("kid",4)]) (te:=JV K (zS 4) "depth") rfl JG.nd (Jj (pv 3)) (Jx rfl) (fun _ _ _ _ _=>jy (i:=4) JG.nd rfl (Or.inl rfl)) (fun _ _ _ _ _=>qag) (fun _ _ _ _ _=>qj (pv 4) rfl)))) rfl)))),?_⟩
  have tka:ka≠t:=qbV hka ht (by intro q; cases q)
  refine ⟨_,rfl,_,rfl,t,_,dx,_,rfl,ht,T.c_Node,T.n_Node_kind,(by show 0<1000; decide),?_⟩
  refine ⟨_,rfl,_,rfl,t,_,dx,_,rfl,qc,T.c_Node,T.n_Node_labels,(by show 1<1000; decide),?_⟩
  refine ⟨_,rfl,_,rfl,t,_,dx,_,rfl,qc,T.c_Node,T.n_Node_kids,(by show 2<1000; decide),?_⟩
  rw [jI,jI]
  generalize hH1:upd H t (.ins a.Node dx (zb "kids" (.ref ka) (zb "labels" l (zb "kind" kk []))))=H1
  have k1:∀ b o,H b=some o->b≠t->H1 b=some o:=fun b o e n=>by rw [<- hH1,qd n]; exact e
  have ht1:H1 t=some (.ins a.Node dx (zb "kids" (.ref ka) (zb "labels" l (zb "kind" kk [])))):=by rw [<- hH1]; exact qc
  have hka1:=k1 _ _ hka tka
  refine ⟨_,rfl,ka,rfl,⟨_,SqL.of hka1⟩,fun D hD=>qg2 (K:=K) (a:=ka) (xs:=ks.map V.ref) (fun i H'=>H'=upd H1 D (.lst ((ds.take i).map V.int))) rfl (fun i H' _ e=>by subst e; exact SqL.of (qr hD _ _ hka1)) ?_ ?_⟩
  ·rintro i x _ hx rfl
   obtain ⟨kd,hkd,rfl⟩:∃ y,ks[i]? = some y/\V.ref y=x:=by
    rw [List.getElem?_map] at hx
    exact Option.map_eq_some_iff.mp hx
   have hil:i<ks.length:=(List.getElem?_eq_some_iff.mp hkd).1
   have hdl:i<ds.length:=by rw [<- Paired.length hks]; exact hil
   obtain ⟨kd',h1,dx',x1,y1,z1,h2⟩:=zR hks (List.getElem?_eq_getElem hdl)
   rw [hkd] at h1
   cases h1
   have nt':kd≠t:=fun e=>by
    subst e
    rw [ht] at h2
    have:=Option.some.inj h2
    injection this with _ _ e3
    cases e3
   refine ⟨rfl,⟨_,rfl,kd,_,dx',_,_,rfl,qr hD _ _ (k1 _ _ h2 nt'),T.c_Node,T.n_Node_depth,qaS _ _ _ _,_,qc,?_,?_⟩⟩
   ·rw [List.length_map,List.length_take]
    exact Nat.lt_of_le_of_lt (Nat.min_le_left _ _) (jv (by omega))
   ·rw [jI]
    congr 2
    rw [List.take_succ,List.getElem?_eq_getElem hdl,List.map_append]
    rfl
  ·rintro _ rfl
   rw [List.length_map,Paired.length hks,List.take_length]
   have s2:=qr (o:=.lst (ds.map V.int)) hD
   refine ⟨D,ds,rfl,SqL.of qc,fun m h1 h2=>⟨_,_,rfl,rfl,_,rfl,t,_,dx,_,rfl,s2 _ _ ht1,T.c_Node,T.n_Node_depth,(by show 3<1000; decide),?_⟩⟩
   refine k _ m (fun b o e n=>?_) h1 h2 ?_
   ·rw [qd n]; exact s2 _ _ (k1 b o e n)
   ·exact qc
theorem qeU:qm ["self","first"] ["self","first"] (qe Qg):=⟨rfl,rfl,rfl,by decide +kernel,rfl,by decide +kernel,by decide +kernel⟩
theorem qeV (F:Fun K "__init__" "Begun.__init__" Qg f fd) (T:Tx P w K mg a):qy P w K mg base CX0 1 f fd ["self","first"] (qdR a):=by
 refine F.ok qeU (fun vs H Q E h=>?_) (fun cdv A outer s H vs Q E hr h=>?_)
 ·obtain ⟨g,dx,n,rfl,_⟩:=h; rfl
 ·obtain ⟨g,dx,n,rfl,hg,k⟩:=h
  refine ⟨_,qi (zu (pv 0) (pv 1) rfl) (qi (zu (pv 0) (qW qh) rfl) (qf (zu (pv 0) qkn rfl))),?_⟩
  refine ⟨_,rfl,_,rfl,g,_,dx,_,rfl,hg,T.c_Begun,T.n_Begun_first,(by show 0<1000; decide),?_⟩
  refine ⟨Nat.zero_le _,fun la hla=>?_⟩
  have gla:g≠la:=qg qc hla
  rw [qd (Ne.symm gla)] at hla
  refine ⟨_,rfl,g,_,dx,_,rfl,(qd gla).trans qc,T.c_Begun,T.n_Begun_labels,(by show 1<1000; decide),fun na hna=>?_⟩
  have gna:g≠na:=qg qc hna
  rw [qd (Ne.symm gna)] at hna
  have lna:la≠na:=qg qc hna
  rw [qd (Ne.symm lna),qd (Ne.symm gna)] at hna
  refine ⟨_,rfl,g,_,dx,_,rfl,(qd gna).trans qc,T.c_Begun,T.n_Begun_names,(by show 2<1000; decide),?_⟩
  refine k _ la na (fun b o e n=>?_) hla hna lna qc ?_ ?_
  ·rw [qd n,qd (qg e hna),qd n,qd (qg e hla),qd n]; exact e
  ·rw [qd (Ne.symm gla),qd lna,qd (Ne.symm gla),qc]
  ·rw [qd (Ne.symm gna),qc]
end
end RT
end
section
namespace RT
open PySem PySem.Spec PyProof.Rows L2
open Vastoa (Mark Marks)
open RM (Part Sym qB kd held MS Bg)
def keyOf (x:List Nat):List Key:=x.map fun n=>Sum.inl ((n:Nat):Int)
theorem qkS (x:List Nat):(keyOf x).map kV=nt x:=by simp [keyOf,nt,kV]
theorem qjA {x y:List Nat} (h:keyOf x=keyOf y):x=y:=by
 unfold keyOf at h
 exact (List.map_inj_right (fun p q z=>by have:=Sum.inl.inj z; omega)).mp h
def Zc (ns:List (List Nat)):List (List Key × V):=ns.map fun x=>(keyOf x,V.bl true)
theorem qbL (x:List Nat):∀ ns:List (List Nat),zw (Zc ns) (keyOf x)=if x∈ns then some (.bl true) else none
 | []=>rfl
 | y::ns=>by
  have ih:=qbL x ns
  unfold Zc at ih ⊢
  by_cases h:y=x
  ·subst h
   rw [List.map_cons,Jy rfl,if_pos List.mem_cons_self]
  ·rw [List.map_cons,Jz (fun z=>h (qjA z)),ih]
   by_cases h2:x∈ns
   ·rw [if_pos h2,if_pos (List.mem_cons_of_mem _ h2)]
   ·rw [if_neg h2,if_neg (by rw [List.mem_cons]; exact fun z=>z.elim (fun z=>h z.symm) h2)]
theorem qjB {x:List Nat} {ns:List (List Nat)} (h:x∉ns):putK (Zc ns) (keyOf x) (.bl true)=Zc (ns++[x]):=by
 have e:zw (Zc ns) (keyOf x)=none:=by rw [qbL,if_neg h]
 refine (qkl _ e).trans ?_
 simp [Zc]
def qjC (a:Ad) (K:PySem.W.Frag):Sp:=fun vs H Q E=>∃ (na t:Addr) (ns:List (List Nat)) (m:Mark),vs=[.ref na,.ref t]/\H na=some (.dT (Zc ns))/\j6 a M0 H t m/\ns.length<=1000000 /\
 (held m.tok∈ns->XW K a.Refusal H 5 m.place E)/\(held m.tok∉ns->∀ H',(∀ b o,H b=some o->b≠na->H' b=some o)->H' na=some (.dT (Zc (ns++[held m.tok])))->Q .non H')
section
variable {P:Program} {w:World} {K:PySem.W.Frag} {mg:Str->Option Value} {base:Heap} {f:Addr} {fd:FuncData} {a:Ad}
theorem qbM:qm ["names","token","name"] ["names","token"] (qe Qz):=⟨rfl,rfl,rfl,by decide +kernel,rfl,by decide +kernel,by decide +kernel⟩
theorem qfZ (F:Fun K "meet_name" "meet_name" Qz f fd) (T:Tx P w K mg a) (Gx:Zg P w K mg base 2 a.NameTwice "NameTwice" ["self","place"] (spX a.NameTwice 5 true)):qy P w K mg base (CXR P w) 4 f fd ["names","token"] (qjC a K):=by
 refine F.okR qbM (fun vs H Q E h=>?_) (fun cdv A outer s H vs Q E hr h=>?_)
 ·obtain ⟨na,t,ns,m,rfl,_⟩:=h; rfl
 ·obtain ⟨na,t,ns,m,rfl,hna,⟨dx,ha,ht,hha,_,_⟩,hlen,kx,ko⟩:=h
  have hu:=qnG hr
  refine ⟨_,qi (qZ (i:=2) qbM.nd rfl (Or.inl rfl) (qiJ qeM (by rfl) T.b_tuple PyProof.Rows.boot_tuple (qa (qj (pv 1) rfl) qh)))
   (qi (qU (qe8 (qmN hu (pv 2) (pv 0))) (qf (jZ Gx hr (qa (qj (pv 1) rfl) qh))) zm)
   (qf (qlO hu (pv 0) (pv 2) qax rfl))),?_⟩
  refine ⟨_,rfl,t,_,dx,_,_,rfl,ht,T.c_Token,T.n_Token_held,qeA _ _ _,ha,_,rfl,.inl ⟨SqL.of hha,fun p hp=>?_⟩⟩
  have s1:=qr (o:=.tup (nt (held m.tok))) hp
  have hp1:(upd H p (.tup (nt (held m.tok)))) p=some (.tup ((keyOf (held m.tok)).map kV)):=by rw [qkS]; exact qc
  refine ⟨_,rfl,_,rfl,na,_,rfl,qfj.t (s1 _ _ hna) hp1,_,rfl,?_⟩
  rw [qbL]
  by_cases hm:held m.tok∈ns
  ·rw [if_pos hm]
   refine zL ⟨_,rfl,t,_,dx,_,_,rfl,s1 _ _ ht,T.c_Token,T.n_Token_place,qaQ _ _ _,?_⟩
   exact Q3 T.x_NameTwice T.u_NameTwice T.n_NameTwice_number T.n_NameTwice_place (fun C dx' H' s2 x=>kx hm C dx' H' (s1.trans s2) x)
  ·rw [if_neg hm]
   refine zp ⟨_,rfl,_,rfl,na,_,rfl,qfk.t (s1 _ _ hna) hp1 (by unfold Zc; rw [List.length_map]; exact jv hlen),?_⟩
   rw [qjB hm]
   refine ko hm _ (fun b o e n=>?_) qc
   rw [qd n]; exact s1 _ _ e
end
end RT
end
section
namespace RT
open PySem PySem.Spec PyProof.Rows L2
open Vastoa (Mark Marks)
open RM (Part Sym qB kd held MS Bg)
structure BA where
 g:Addr
 la:Addr
 na:Addr
structure RA where
 r:Addr
 dx:Addr
 ts:Addr
 wl:Addr
 bl:Addr
 gl:Addr
 gs:List BA
def QF (gs:List BA):List Addr:=gs.flatMap fun x=>[x.la,x.na]
def RA.own (z:RA):List Addr:=z.wl::z.bl::z.gl::QF z.gs
def RA.M (z:RA) (b:Addr):Prop:=b=z.r \/ b∈z.own
theorem RA.mr (z:RA):z.M z.r:=.inl rfl
theorem RA.mw (z:RA):z.M z.wl:=.inr List.mem_cons_self
theorem RA.mb (z:RA):z.M z.bl:=.inr (List.mem_cons_of_mem _ List.mem_cons_self)
theorem RA.mg (z:RA):z.M z.gl:=.inr (List.mem_cons_of_mem _ (List.mem_cons_of_mem _ List.mem_cons_self))
theorem zT {gs:List BA} {x:BA} (h:x∈gs):x.la∈QF gs/\x.na∈QF gs:=⟨List.mem_flatMap.mpr ⟨x,h,by simp⟩,List.mem_flatMap.mpr ⟨x,h,by simp⟩⟩
theorem RA.mo (z:RA) {b:Addr} (h:b∈QF z.gs):z.M b:=.inr (List.mem_cons_of_mem _ (List.mem_cons_of_mem _ (List.mem_cons_of_mem _ h)))
theorem Qo {A B:Type} {R S:A->B->Prop}:∀ {as:List A} {bs:List B},(∀ x y,x∈as->R x y->S x y)->Paired R as bs->Paired S as bs
 | _,_,_,.nil=>.nil
 | _,_,i,.cons q t=>.cons (i _ _ List.mem_cons_self q) (Qo (fun x y h=>i x y (List.mem_cons_of_mem _ h)) t)
def qbN (a:Ad) (M:Addr->Prop) (H:Hp) (x:BA) (g:Bg):Prop:=∃ dx lb,(H x.g=some (.ins a.Begun dx (qdH (.int (g.first:Int)) (.ref x.la) (.ref x.na)))/\¬ M x.g)/\H x.la=some (.lst (lb.map V.ref))/\qaq M H lb g.labels/\H x.na=some (.dT (Zc g.names))
structure qQ (a:Ad) (H:Hp) (z:RA) (toks:Marks) (n:Nat) (S:MS):Prop where
 ins:H z.r=some (.ins a.Reader z.dx (Q7 (.ref z.ts) (.int (n:Int)) (.int (S.lv:Int)) (.ref z.wl) (.ref z.bl) (.ref z.gl)))
 tks:∃ as,(H z.ts=some (.lst (as.map V.ref))/\¬ z.M z.ts)/\Paired (j6 a z.M H) as toks
 wl:H z.wl=some (.lst (S.W.reverse.map fun s=>V.str (j9 s)))
 bl:∃ bs,H z.bl=some (.lst (bs.map V.ref))/\qp a z.M H S.B bs
 gl:H z.gl=some (.lst ((z.gs.map (·.g)).reverse.map V.ref))
 gs:Paired (qbN a z.M H) z.gs S.G
 nd:z.own.Nodup
 ts:S.ts=toks.drop n
 pv:atI toks ((n:Int) - 1)=some S.pv
section
variable {a:Ad} {H H':Hp} {z:RA} {toks:Marks} {n:Nat} {S:MS}
theorem qbN.pass {M M':Addr->Prop} {x:BA} {g:Bg} (p:Pass M H M' H') (h:qbN a M H x g) (h1:H' x.la=H x.la) (h2:H' x.na=H x.na):qbN a M' H' x g:=by
 obtain ⟨dx,lb,q1,q2,q3,q4⟩:=h
 exact ⟨dx,lb,p _ _ q1.1 q1.2,by rw [h1]; exact q2,q3.pass p,by rw [h2]; exact q4⟩
theorem qQ.own_some (h:qQ a H z toks n S) {b:Addr} (hb:b∈z.own):∃ o,H b=some o/\∀ C d fs,o≠.ins C d fs:=by
 rcases List.mem_cons.mp hb with rfl | hb
 ·exact ⟨_,h.wl,fun _ _ _ q=>by cases q⟩
 rcases List.mem_cons.mp hb with rfl | hb
 ·obtain ⟨bs,h1,_⟩:=h.bl
  exact ⟨_,h1,fun _ _ _ q=>by cases q⟩
 rcases List.mem_cons.mp hb with rfl | hb
 ·exact ⟨_,h.gl,fun _ _ _ q=>by cases q⟩
 obtain ⟨x,hx,hb⟩:=List.mem_flatMap.mp hb
 obtain ⟨i,hi⟩:=List.getElem?_of_mem hx
 have hl:=(List.getElem?_eq_some_iff.mp hi).1
 have hlG:i<S.G.length:=by rw [<- Paired.length h.gs]; exact hl
 obtain ⟨x',e1,dx,lb,_,q2,_,q4⟩:=zR h.gs (List.getElem?_eq_getElem hlG)
 rw [hi] at e1
 cases e1
 rcases List.mem_cons.mp hb with rfl | hb
 ·exact ⟨_,q2,fun _ _ _ q=>by cases q⟩
 ·have:b=x.na:=by simpa using hb
  subst this
  exact ⟨_,q4,fun _ _ _ q=>by cases q⟩
theorem qQ.fresh (h:qQ a H z toks n S) {p:Addr} (hp:H p=none):¬ z.M p:=by
 rintro (rfl | hb)
 ·rw [h.ins] at hp; cases hp
 ·obtain ⟨o,e,_⟩:=h.own_some hb
  rw [e] at hp; cases hp
theorem qQ.nr (h:qQ a H z toks n S) {b:Addr} (hb:b∈z.own):b≠z.r:=fun e=>by
 obtain ⟨o,e1,e2⟩:=h.own_some hb
 rw [e,h.ins] at e1
 cases e1
 exact e2 _ _ _ rfl
theorem JS {M:Addr->Prop} (s:qE H H'):Pass M H M H':=fun b o e n=>⟨s b o e,n⟩
theorem jH {M:Addr->Prop} (k:qo M H H'):Pass M H M H':=fun b o e n=>⟨k b o e n,n⟩
theorem qQ.same (h:qQ a H z toks n S) (s:qE H H'):qQ a H' z toks n S:=by
 obtain ⟨as,t1,t2⟩:=h.tks
 obtain ⟨bs,b1,b2⟩:=h.bl
 have p:Pass z.M H z.M H':=JS s
 refine ⟨s _ _ h.ins,⟨as,⟨s _ _ t1.1,t1.2⟩,qX (fun x y q=>q.pass p) t2⟩,s _ _ h.wl,⟨bs,s _ _ b1,qp.pass p _ _ b2⟩,s _ _ h.gl,qX (fun x y q=>?_) h.gs,h.nd,h.ts,h.pv⟩
 obtain ⟨dx,lb,q1,q2,q3,q4⟩:=q
 exact ⟨dx,lb,p _ _ q1.1 q1.2,s _ _ q2,q3.pass p,s _ _ q4⟩
theorem qQ.put (h:qQ a H z toks n S) (n' lv':Nat) (ts':Marks) (pv':Mark) (ht:ts'=toks.drop n') (hp:atI toks ((n':Int) - 1)=some pv') :
  qQ a (upd H z.r (.ins a.Reader z.dx (Q7 (.ref z.ts) (.int (n':Int)) (.int (lv':Int)) (.ref z.wl) (.ref z.bl) (.ref z.gl)))) z toks n' { S with ts:=ts',pv:=pv',lv:=lv' }:=by
 obtain ⟨as,t1,t2⟩:=h.tks
 obtain ⟨bs,b1,b2⟩:=h.bl
 have k:qo z.M H (upd H z.r (.ins a.Reader z.dx (Q7 (.ref z.ts) (.int (n':Int)) (.int (lv':Int)) (.ref z.wl) (.ref z.bl) (.ref z.gl)))):=qo.at_ z.mr
 have p:=jH k
 have o:∀ b,b∈z.own->(upd H z.r (.ins a.Reader z.dx (Q7 (.ref z.ts) (.int (n':Int)) (.int (lv':Int)) (.ref z.wl) (.ref z.bl) (.ref z.gl)))) b=H b:=fun b hb=>qd (h.nr hb)
 refine ⟨qc,⟨as,p _ _ t1.1 t1.2,qX (fun x y q=>q.pass p) t2⟩,?_,⟨bs,?_,qp.pass p _ _ b2⟩,?_,?_,h.nd,ht,hp⟩
 ·rw [o _ (by simp [RA.own])]; exact h.wl
 ·rw [o _ (by simp [RA.own])]; exact b1
 ·rw [o _ (by simp [RA.own])]; exact h.gl
 ·refine Qo (fun x y hx q=>q.pass p (o _ ?_) (o _ ?_)) h.gs
  ·simp only [RA.own,List.mem_cons]; exact .inr (.inr (.inr (zT hx).1))
  ·simp only [RA.own,List.mem_cons]; exact .inr (.inr (.inr (zT hx).2))
end
end RT
end
section
namespace RT
open PySem PySem.Spec PyProof.Rows L2
open Vastoa (Mark Marks)
open RM (Part Sym qB kd held MS Bg)
def wV (W:List Sym):List V:=W.reverse.map fun s=>V.str (j9 s)
section
variable {a:Ad} {H H':Hp} {z:RA} {toks:Marks} {n:Nat} {S:MS}
theorem qQ.nwl (h:qQ a H z toks n S):z.wl≠z.bl/\z.wl≠z.gl/\z.wl∉QF z.gs:=by
 have:=List.nodup_cons.mp h.nd
 simp only [List.mem_cons,not_or] at this
 exact ⟨this.1.1,this.1.2.1,this.1.2.2⟩
theorem qQ.nbl (h:qQ a H z toks n S):z.bl≠z.gl/\z.bl∉QF z.gs:=by
 have:=List.nodup_cons.mp (List.nodup_cons.mp h.nd).2
 simp only [List.mem_cons,not_or] at this
 exact this.1
theorem qQ.ngl (h:qQ a H z toks n S):z.gl∉QF z.gs/\(QF z.gs).Nodup:=List.nodup_cons.mp (List.nodup_cons.mp (List.nodup_cons.mp h.nd).2).2
theorem qQ.ow (z:RA):z.wl∈z.own:=by simp [RA.own]
theorem qQ.ob (z:RA):z.bl∈z.own:=by simp [RA.own]
theorem qQ.og (z:RA):z.gl∈z.own:=by simp [RA.own]
theorem qQ.oo (z:RA) {b:Addr} (h:b∈QF z.gs):b∈z.own:=by simp only [RA.own,List.mem_cons]; exact .inr (.inr (.inr h))
theorem qQ.putW (h:qQ a H z toks n S) (W':List Sym):qQ a (upd H z.wl (.lst (wV W'))) z toks n { S with W:=W' }:=by
 obtain ⟨as,t1,t2⟩:=h.tks
 obtain ⟨bs,b1,b2⟩:=h.bl
 obtain ⟨n1,n2,n3⟩:=h.nwl
 have k:qo z.M H (upd H z.wl (.lst (wV W'))):=qo.at_ z.mw
 have p:=jH k
 refine ⟨by rw [qd (Ne.symm (h.nr (qQ.ow z)))]; exact h.ins,⟨as,p _ _ t1.1 t1.2,qX (fun x y q=>q.pass p) t2⟩,qc,⟨bs,by rw [qd (Ne.symm n1)]; exact b1,qp.pass p _ _ b2⟩,by rw [qd (Ne.symm n2)]; exact h.gl,?_,h.nd,h.ts,h.pv⟩
 refine Qo (fun x y hx q=>q.pass p (qd ?_) (qd ?_)) h.gs
 ·exact fun e=>n3 (e ▸ (zT hx).1)
 ·exact fun e=>n3 (e ▸ (zT hx).2)
theorem qQ.putB (h:qQ a H z toks n S) {bs:List Addr} {B':List Vastoa.Tree} (hb:qp a z.M H B' bs):qQ a (upd H z.bl (.lst (bs.map V.ref))) z toks n { S with B:=B' }:=by
 obtain ⟨as,t1,t2⟩:=h.tks
 obtain ⟨n1,n2,n3⟩:=h.nwl
 obtain ⟨m1,m2⟩:=h.nbl
 have k:qo z.M H (upd H z.bl (.lst (bs.map V.ref))):=qo.at_ z.mb
 have p:=jH k
 refine ⟨by rw [qd (Ne.symm (h.nr (qQ.ob z)))]; exact h.ins,⟨as,p _ _ t1.1 t1.2,qX (fun x y q=>q.pass p) t2⟩,by rw [qd n1]; exact h.wl,⟨bs,qc,qp.pass p _ _ hb⟩,by rw [qd (Ne.symm m1)]; exact h.gl,?_,h.nd,h.ts,h.pv⟩
 refine Qo (fun x y hx q=>q.pass p (qd ?_) (qd ?_)) h.gs
 ·exact fun e=>m2 (e ▸ (zT hx).1)
 ·exact fun e=>m2 (e ▸ (zT hx).2)
end
def QH (a:Ad) (K:PySem.W.Frag) (z:RA) (toks:Marks) (H:Hp) (r:Option (Except Vastoa.Fault MS)) (Q:Hp->Prop) (E:XK):Prop:=match r with
 | some (.ok S')=>∀ H' z' n',z'.r=z.r->Pass z.M H z'.M H'->qQ a H' z' toks n' S'->Q H'
 | some (.error f)=>XWM z.M K a.Refusal H (f.kind:Int) (f.place:Int) E
 | none=>False
def qeF (a:Ad) (K:PySem.W.Frag):Sp:=fun vs H Q E=>∃ (z:RA) (toks:Marks) (n:Nat) (S:MS) (k:qbF) (m:Mark) (r:Marks),vs=[.ref z.r,.str (jP k)]/\qQ a H z toks n S/\k∈jN/\CM.ZT m.tok=true/\S.ts=m::r /\
 QH a K z toks H (if kd m.tok=k then some (.ok ⟨r,m,S.lv,S.W,S.B,S.G⟩) else some (.error ⟨3,m.place⟩)) (Q .non) E
def qhg (a:Ad) (K:PySem.W.Frag):Sp:=fun vs H Q E=>∃ (z:RA) (toks:Marks) (n:Nat) (S:MS),vs=[.ref z.r]/\qQ a H z toks n S/\QH a K z toks H (RM.qaJ .enter S.ts S.pv S.lv S.W S.B S.G) (Q .non) E
theorem qa0 {toks:Marks} {n:Nat} {m:Mark} {r:Marks} (h:m::r=toks.drop n):toks[n]? = some m/\toks.drop (n+1)=r:=by
 constructor
 ·have:(toks.drop n)[0]? = some m:=by rw [<- h]; rfl
  rw [List.getElem?_drop] at this
  exact this
 ·rw [<- List.drop_drop,<- h]; rfl
theorem Jh {M M1 M2:Addr->Prop} {H H1 H2:Hp} (p:Pass M H M1 H1) (q:Pass M1 H1 M2 H2):Pass M H M2 H2:=fun b o e n=>q b o (p b o e n).1 (p b o e n).2
section
variable {P:Program} {w:World} {K:PySem.W.Frag} {mg:Str->Option Value} {base:Heap} {f:Addr} {fd:FuncData} {a:Ad}
theorem qba:qm ["self","kind","token"] ["self","kind"] (qe zY):=⟨rfl,rfl,rfl,by decide +kernel,rfl,by decide +kernel,by decide +kernel⟩
theorem qeW (F:Fun K "read_token" "Reader.read_token" zY f fd) (T:Tx P w K mg a) (Gx:Zg P w K mg base 2 a.WrongSyntax "WrongSyntax" ["self","place"] (spX a.WrongSyntax 3 true)):qy P w K mg base (CXR P w) 4 f fd ["self","kind"] (qeF a K):=by
 refine F.okR qba (fun vs H Q E h=>?_) (fun cdv A outer s H vs Q E hr h=>?_)
 ·obtain ⟨z,toks,n,S,k,m,r,rfl,_⟩:=h; rfl
 ·obtain ⟨z,toks,n,S,k,m,r,rfl,hR,hk,hm,hts,res⟩:=h
  refine ⟨_,qi (qZ (i:=2) qba.nd rfl (Or.inl rfl) (jz zH (qj (pv 0) rfl) (qj (pv 0) rfl) (fun _ _=>rfl)))
   (qi (qU (qL qnz (qj (pv 2) rfl) (pv 1) (qV _)) (qf (jZ Gx hr (qa (qj (pv 2) rfl) qh))) zm)
   (qf (Qi (pv 0) qw Jt))),?_⟩
  obtain ⟨as,t1,t2⟩:=hR.tks
  obtain ⟨e1,e2⟩:=qa0 (hts.symm.trans hR.ts)
  obtain ⟨t,ht,dx,ha,ht1,ht2,_,_⟩:=zR t2 e1
  refine ⟨_,rfl,z.r,_,z.dx,_,_,rfl,hR.ins,T.c_Reader,T.n_Reader_tokens,Zb _ _ _ _ _ _,_,rfl,z.r,_,z.dx,_,_,rfl,hR.ins,T.c_Reader,T.n_Reader_at,Jl _ _ _ _ _ _,z.ts,_,_,_,rfl,rfl,SqL.of t1.1,jJ (v:=V.ref t) (by rw [List.getElem?_map,ht]; rfl),?_⟩
  refine ⟨_,rfl,t,_,dx,_,_,rfl,ht1,T.c_Token,T.n_Token_kind,qez _ _ _,_,rfl,rfl,_,rfl,?_⟩
  have iff:(V.str (jP m.tok)=V.str (jP k)) ↔ kd m.tok=k:=by
   constructor
   ·intro e
    injection e with e
    rw [<- qdP] at e
    exact qkQ _ (qaX hm) _ hk e
   ·intro e; rw [<- e,qdP]
  by_cases hkd:kd m.tok=k
  ·rw [decide_eq_true (iff.mpr hkd)]
   rw [if_pos hkd] at res
   refine zp ⟨_,rfl,z.r,_,z.dx,_,_,rfl,hR.ins,T.c_Reader,T.n_Reader_at,Jl _ _ _ _ _ _,_,_,rfl,rfl,z.dx,_,hR.ins,(by show 6<1000; decide),?_⟩
   exact res _ z (n+1) rfl (jH (qo.at_ z.mr)) (hR.put (n+1) S.lv r m e2.symm (by rw [show (((n+1:Nat):Int) - 1)=(n:Int) by omega]; exact jJ e1))
  ·rw [decide_eq_false (fun y=>hkd (iff.mp y))]
   rw [if_neg hkd] at res
   refine zL ⟨_,rfl,t,_,dx,_,_,rfl,ht1,T.c_Token,T.n_Token_place,qaQ _ _ _,?_⟩
   exact Q3 T.x_WrongSyntax T.u_WrongSyntax T.n_WrongSyntax_number T.n_WrongSyntax_place (XWM.on res (qo.refl _ _))
theorem qdS:qm ["self"] ["self"] (qe zQ):=⟨rfl,rfl,rfl,by decide +kernel,rfl,by decide +kernel,by decide +kernel⟩
theorem qdT (F:Fun K "enter_level" "Reader.enter_level" zQ f fd) (T:Tx P w K mg a) (Gx:Zg P w K mg base 2 a.LevelTooDeep "LevelTooDeep" ["self","place"] (spX a.LevelTooDeep 4 true)):qy P w K mg base (CXR P w) 4 f fd ["self"] (qhg a K):=by
 refine F.okR qdS (fun vs H Q E h=>?_) (fun cdv A outer s H vs Q E hr h=>?_)
 ·obtain ⟨z,toks,n,S,rfl,_⟩:=h; rfl
 ·obtain ⟨z,toks,n,S,rfl,hR,res⟩:=h
  refine ⟨_,qi (qU (qL z6 (qj (pv 0) rfl) (qN T.g_MOST_LEVELS) (qV _)) (qf (jZ Gx hr (qa (qj (jz zH (qj (pv 0) rfl) (qj (pv 0) rfl) (fun _ _=>rfl)) rfl) qh))) zm)
   (qf (Qi (pv 0) qw Jt)),?_⟩
  refine ⟨_,rfl,z.r,_,z.dx,_,_,rfl,hR.ins,T.c_Reader,T.n_Reader_level,qaT _ _ _ _ _ _,rfl,_,rfl,?_⟩
  cases hS:S.ts with
  | nil=>rw [hS] at res; exact res.elim
  | cons m r=>
   rw [hS] at res
   obtain ⟨as,t1,t2⟩:=hR.tks
   obtain ⟨e1,e2⟩:=qa0 (hS.symm.trans hR.ts)
   obtain ⟨t,ht,dx,ha,ht1,ht2,_,_⟩:=zR t2 e1
   by_cases hl:S.lv=40
   ·rw [decide_eq_true (by rw [hl]; rfl)]
    have res:QH a K z toks H (if S.lv=40 then some (.error ⟨4,m.place⟩) else _) (Q .non) E:=res
    rw [if_pos hl] at res
    refine zL ⟨_,rfl,z.r,_,z.dx,_,_,rfl,hR.ins,T.c_Reader,T.n_Reader_tokens,Zb _ _ _ _ _ _,_,rfl,z.r,_,z.dx,_,_,rfl,hR.ins,T.c_Reader,T.n_Reader_at,Jl _ _ _ _ _ _,z.ts,_,_,_,rfl,rfl,SqL.of t1.1,jJ (v:=V.ref t) (by rw [List.getElem?_map,ht]; rfl),t,_,dx,_,_,rfl,ht1,T.c_Token,T.n_Token_place,qaQ _ _ _,?_⟩
    exact Q3 T.x_LevelTooDeep T.u_LevelTooDeep T.n_LevelTooDeep_number T.n_LevelTooDeep_place (XWM.on res (qo.refl _ _))
   ·rw [decide_eq_false (fun y=>hl (by injection y with y; omega))]
    have res:QH a K z toks H (if S.lv=40 then some (.error ⟨4,m.place⟩) else some (.ok ⟨m::r,S.pv,S.lv+1,S.W,S.B,S.G⟩)) (Q .non) E:=res
    rw [if_neg hl] at res
    refine zp ⟨_,rfl,z.r,_,z.dx,_,_,rfl,hR.ins,T.c_Reader,T.n_Reader_level,qaT _ _ _ _ _ _,_,_,rfl,rfl,z.dx,_,hR.ins,(by show 6<1000; decide),?_⟩
    exact res _ z n rfl (jH (qo.at_ z.mr)) (hR.put n (S.lv+1) (m::r) S.pv (by rw [<- hS]; exact hR.ts) hR.pv)
end
end RT
end
section
namespace RT
open PySem PySem.Spec PyProof.Rows L2
open Vastoa (Mark Marks)
open RM (Part Sym qB kd held MS Bg)
theorem qco {A B:Type} {R:A->B->Prop}:∀ {as:List A} {bs:List B} (n:Nat),Paired R as bs->Paired R (as.take n) (bs.take n)
 | _,_,0,_=>.nil
 | _,_,_+1,.nil=>.nil
 | _,_,n+1,.cons q t=>.cons q (qco n t)
theorem qcp {A B:Type} {R:A->B->Prop}:∀ {as:List A} {bs:List B} (n:Nat),Paired R as bs->Paired R (as.drop n) (bs.drop n)
 | _,_,0,r=>r
 | _,_,_+1,.nil=>.nil
 | _,_,n+1,.cons q t=>qcp n t
theorem qQ.pop {a:Ad} {H:Hp} {z:RA} {toks:Marks} {n:Nat} {S:MS} {x:BA} {gs:List BA} {g:Bg} {G:List Bg} (h:qQ a H z toks n S) (ez:z.gs=x::gs) (eG:S.G=g::G) :
  qQ a (upd H z.gl (.lst ((gs.map (·.g)).reverse.map V.ref))) { z with gs:=gs } toks n { S with G:=G }/\Pass z.M H ({ z with gs:=gs }:RA).M (upd H z.gl (.lst ((gs.map (·.g)).reverse.map V.ref))) /\
  qbN a ({ z with gs:=gs }:RA).M (upd H z.gl (.lst ((gs.map (·.g)).reverse.map V.ref))) x g/\¬ ({ z with gs:=gs }:RA).M x.la:=by
 obtain ⟨as,t1,t2⟩:=h.tks
 obtain ⟨bs,b1,b2⟩:=h.bl
 obtain ⟨n1,n2,n3⟩:=h.nwl
 obtain ⟨m1,m2⟩:=h.nbl
 obtain ⟨g1,g2⟩:=h.ngl
 have hgs:=h.gs
 rw [ez] at n3 m2 g1 g2 hgs
 rw [eG] at hgs
 have eo:QF (x::gs)=x.la::x.na::QF gs:=rfl
 rw [eo] at n3 m2 g1 g2
 simp only [List.mem_cons,not_or] at n3 m2 g1
 obtain ⟨nd1,nd2⟩:=List.nodup_cons.mp g2
 obtain ⟨nd3,nd4⟩:=List.nodup_cons.mp nd2
 simp only [List.mem_cons,not_or] at nd1
 have sub:∀ b,({ z with gs:=gs }:RA).M b->z.M b:=fun b hb=>by
  rcases hb with hb | hb
  ·exact .inl hb
  ·refine .inr ?_
   simp only [RA.own,List.mem_cons] at hb ⊢
   rcases hb with hb | hb | hb | hb
   ·exact .inl hb
   ·exact .inr (.inl hb)
   ·exact .inr (.inr (.inl hb))
   ·refine .inr (.inr (.inr ?_))
    rw [ez,eo]
    exact List.mem_cons_of_mem _ (List.mem_cons_of_mem _ hb)
 have k:qo z.M H (upd H z.gl (.lst ((gs.map (·.g)).reverse.map V.ref))):=qo.at_ z.mg
 have p:Pass z.M H ({ z with gs:=gs }:RA).M (upd H z.gl (.lst ((gs.map (·.g)).reverse.map V.ref))):=fun b o e nb=>⟨k b o e nb,fun y=>nb (sub b y)⟩
 have hr:∀ b,b∈z.own->b≠z.r:=fun b hb=>h.nr hb
 cases hgs with
 | cons q0 qs=>
  refine ⟨⟨?_,⟨as,p _ _ t1.1 t1.2,qX (fun x y q=>q.pass p) t2⟩,?_,⟨bs,?_,qp.pass p _ _ b2⟩,qc,?_,?_,h.ts,h.pv⟩,p,?_,?_⟩
  ·show upd H z.gl _ z.r=_
   rw [qd (Ne.symm (h.nr (qQ.og z)))]; exact h.ins
  ·show upd H z.gl _ z.wl=_
   rw [qd n2]; exact h.wl
  ·show upd H z.gl _ z.bl=_
   rw [qd m1]; exact b1
  ·refine Qo (fun x y hx q=>q.pass p (qd ?_) (qd ?_)) qs
   ·exact fun e=>g1.2.2 (e ▸ (zT hx).1)
   ·exact fun e=>g1.2.2 (e ▸ (zT hx).2)
  ·show (z.wl::z.bl::z.gl::QF gs).Nodup
   exact List.nodup_cons.mpr ⟨by simp only [List.mem_cons,not_or]; exact ⟨n1,n2,n3.2.2⟩,List.nodup_cons.mpr ⟨by simp only [List.mem_cons,not_or]; exact ⟨m1,m2.2.2⟩,List.nodup_cons.mpr ⟨g1.2.2,nd4⟩⟩⟩
  ·exact q0.pass p (qd (Ne.symm g1.1)) (qd (Ne.symm g1.2.1))
  ·rintro (y | y)
   ·obtain ⟨dx,lb,_,q2,_,_⟩:=q0
    rw [y,h.ins] at q2
    cases q2
   ·simp only [RA.own,List.mem_cons] at y
    rcases y with y | y | y | y
    ·exact n3.1 y.symm
    ·exact m2.1 y.symm
    ·exact g1.1 y.symm
    ·exact nd1.2 y
def qeG (a:Ad):Sp:=fun vs H Q E=>∃ (z:RA) (toks:Marks) (n:Nat) (S:MS) (k:qe2) (g:Bg) (G:List Bg),vs=[.ref z.r,.str (kindS k)]/\qQ a H z toks n S/\S.B.length<=1000000/\S.G=g::G/\g.first<=S.B.length /\
 ∀ H' z',z'.r=z.r->Pass z.M H z'.M H'->qQ a H' z' toks n ⟨S.ts,S.pv,S.lv,S.W,S.B.take g.first++[.node k g.labels (S.B.drop g.first)],G⟩->Q .non H'
section
variable {P:Program} {w:World} {K:PySem.W.Frag} {mg:Str->Option Value} {base:Heap} {f:Addr} {fd:FuncData} {a:Ad}
theorem J8:qm ["self","kind","begun","kids"] ["self","kind"] (qe jj):=⟨rfl,rfl,rfl,by decide +kernel,rfl,by decide +kernel,by decide +kernel⟩
theorem qgK (F:Fun K "end_node" "Reader.end_node" jj f fd) (T:Tx P w K mg a) (Gn:qcE P w K mg base CX0 1 a.Node "Node" ["self","kind","labels","kids"] (qjz a)):qy P w K mg base CX0 3 f fd ["self","kind"] (qeG a):=by
 refine F.ok J8 (fun vs H Q E h=>?_) (fun cdv A outer s H vs Q E hr h=>?_)
 ·obtain ⟨z,toks,n,S,k,g,G,rfl,_⟩:=h; rfl
 ·obtain ⟨z,toks,n,S,k,g,G,rfl,hR,hB,eG,hgf,res⟩:=h
  refine ⟨_,qi (qZ (i:=2) J8.nd rfl (Or.inl rfl) (qae PySem.F.plainAttrs_list PySem.F.slot_list_pop PySem.F.type_list_pop qaf (qj (pv 0) rfl)))
   (qi (qZ (i:=3) J8.nd rfl (Or.inl rfl) (qW qh))
   (qi (Qj PassesOwn.never (qL JM (z7 zy (by rfl) T.b_len PySem.boot_len (qa (qj (pv 0) rfl) qh)) (qj (pv 2) rfl) (qV _))
    (qf (qt (zF PySem.F.plainAttrs_list PySem.F.slot_list_append PySem.F.type_list_append zn (pv 3) (qa (qae PySem.F.plainAttrs_list PySem.F.slot_list_pop PySem.F.type_list_pop qaf (qj (pv 0) rfl)) qh)))))
   (qf (qt (zF PySem.F.plainAttrs_list PySem.F.slot_list_append PySem.F.type_list_append zn (qj (pv 0) rfl) (qa (Zl Gn hr qM (qa (pv 1) (qa (qj (pv 2) rfl) (qa (qc9 (pv 3)) qh)))) qh)))))),?_⟩
  obtain ⟨x,gs,ez⟩:∃ x gs,z.gs=x::gs:=by
   have:=Paired.length hR.gs
   rw [eG] at this
   cases hz:z.gs with
   | nil=>rw [hz] at this; cases this
   | cons x gs=>exact ⟨x,gs,rfl⟩
  obtain ⟨R1,p1,Bx,nla⟩:=hR.pop ez eG
  have hpop:(z.gs.map (·.g)).reverse.map V.ref=(gs.map (·.g)).reverse.map V.ref++[V.ref x.g]:=by rw [ez]; simp
  refine ⟨_,rfl,z.r,_,z.dx,_,_,rfl,hR.ins,T.c_Reader,T.n_Reader_begun,ZE _ _ _ _ _ _,.inl ⟨rfl,_,SqL.of hR.gl⟩,z.gl,_,V.ref x.g,rfl,rfl,hR.gl,by rw [hpop]; simp,?_⟩
  rw [show ((z.gs.map (·.g)).reverse.map V.ref).dropLast=(gs.map (·.g)).reverse.map V.ref by rw [hpop]; simp]
  generalize hz1:({ z with gs:=gs }:RA)=z1 at R1 p1 Bx nla
  have er:z1.r=z.r:=by rw [<- hz1]
  have ebl:z1.bl=z.bl:=by rw [<- hz1]
  generalize upd H z.gl (.lst ((gs.map (·.g)).reverse.map V.ref))=H1 at R1 p1 Bx ⊢
  obtain ⟨gdx,lb,⟨q1,q1n⟩,q2,q3,q4⟩:=Bx
  obtain ⟨bs,b1,b2⟩:=R1.bl
  have hbl:bs.length=S.B.length:=Paired.length (qT.mp b2)
  refine ⟨Nat.zero_le _,fun kl hkl=>?_⟩
  have nkl:=R1.fresh hkl
  have klbl:kl≠z1.bl:=fun e=>nkl (by rw [e]; exact z1.mb)
  refine ⟨fun m σ H'=>σ = [some (.ref z.r),some (.str (kindS k)),some (.ref x.g),some (.ref kl)]/\∃ j,g.first<=j/\j<=bs.length/\H' z1.bl=some (.lst ((bs.take j).map V.ref))/\H' kl=some (.lst ((bs.drop j).reverse.map V.ref))/\(∀ b o,H1 b=some o->b≠z1.bl->H' b=some o)/\j=m,
   ⟨_,rfl,bs.length,by omega,Nat.le_refl _,?_,?_,fun b o e _=>qr hkl _ _ e,rfl⟩,?_⟩
  ·rw [qd (Ne.symm klbl),List.take_length]; exact b1
  ·rw [qc,List.drop_length]; rfl
  rintro m σ H2 ⟨rfl,j,hj1,hj2,hb2,hk2,k2,rfl⟩
  have rbl:z.r≠z1.bl:=by rw [<- er]; exact Ne.symm (R1.nr (qQ.ob z1))
  have ins2:=k2 _ _ (er ▸ R1.ins) rbl
  have xg2:=k2 _ _ q1 (fun e=>q1n (by rw [e]; exact z1.mb))
  refine ⟨_,rfl,z.r,_,_,_,_,rfl,ins2,T.c_Reader,T.n_Reader_built,QU _ _ _ _ _ _,z1.bl,_,rfl,.inl (SqL.of hb2),_,rfl,x.g,_,gdx,_,_,rfl,xg2,T.c_Begun,T.n_Begun_first,qhX _ _ _,_,_,rfl,rfl,_,rfl,?_⟩
  rw [show (((bs.take j).map V.ref).length:Int)=(j:Int) by rw [List.length_map,List.length_take,Nat.min_eq_left hj2]]
  refine zZ (fun hlt=>?_) fun hlt=>?_
  ·have hlt:g.first<j:=by have:=of_decide_eq_true hlt; omega
   obtain ⟨j,rfl⟩:∃ i,j=i+1:=⟨j - 1,by omega⟩
   have hjl:j<bs.length:=by omega
   refine ⟨_,fun σ' H' q=>q,?_⟩
   have hlast:(bs.take (j+1)).map V.ref=(bs.take j).map V.ref++[V.ref bs[j]]:=by rw [List.take_succ,List.getElem?_eq_getElem hjl,List.map_append]; rfl
   refine ⟨_,rfl,.inl ⟨rfl,_,SqL.of hk2⟩,_,rfl,z.r,_,_,_,_,rfl,ins2,T.c_Reader,T.n_Reader_built,QU _ _ _ _ _ _,.inl ⟨rfl,_,SqL.of hb2⟩,z1.bl,_,V.ref bs[j],rfl,rfl,hb2,by rw [hlast]; simp,?_⟩
   rw [show ((bs.take (j+1)).map V.ref).dropLast=(bs.take j).map V.ref by rw [hlast]; simp]
   refine ⟨kl,_,_,rfl,rfl,by rw [qd klbl]; exact hk2,?_,?_⟩
   ·rw [List.length_map,List.length_reverse,List.length_drop]; exact jv (by omega)
   ·refine ⟨j,Nat.lt_succ_self _,rfl,j,by omega,by omega,?_,?_,fun b o e nb=>?_,rfl⟩
    ·rw [qd (Ne.symm klbl),qc]
    ·rw [qc,List.drop_eq_getElem_cons hjl,List.reverse_cons,List.map_append]; rfl
    ·rw [qd (qg e hkl),qd nb]; exact k2 b o e nb
  ·have hjf:j=g.first:=by
    have:¬ ((g.first:Int)<(j:Int)):=fun y=>hlt (decide_eq_true y)
    omega
   subst hjf
   refine ⟨_,rfl,z.r,_,_,_,_,rfl,ins2,T.c_Reader,T.n_Reader_built,QU _ _ _ _ _ _,.inl ⟨rfl,_,SqL.of hb2⟩,?_⟩
   refine ⟨_,rfl,_,rfl,x.g,_,gdx,_,_,rfl,xg2,T.c_Begun,T.n_Begun_labels,qcl _ _ _,_,rfl,kl,_,rfl,SqL.of hk2,fun rl hrl=>?_⟩
   rw [show ((bs.drop g.first).reverse.map V.ref).reverse=(bs.drop g.first).map V.ref by simp]
   have s3:=qr (o:=.lst ((bs.drop g.first).map V.ref)) hrl
   have hrl3:(upd H2 rl (.lst ((bs.drop g.first).map V.ref))) rl=some (.lst ((bs.drop g.first).map V.ref)):=qc
   generalize upd H2 rl (.lst ((bs.drop g.first).map V.ref))=H3 at s3 hrl3 ⊢
   intro t tdx ht htdx hne
   have s4:qE H3 (upd (upd H3 tdx (.own t)) t (.ins a.Node tdx [])):=fun b o e=>by rw [qd (qg e ht),qd (qg e htdx)]; exact e
   have R3:qQ a H3 z1 toks n { S with G:=G,B:=S.B.take g.first }:=by
    have hT:qp a z1.M H1 (S.B.take g.first) (bs.take g.first):=qT.mpr (qco _ (qT.mp b2))
    refine (R1.putB hT).same fun b o e=>?_
    by_cases hb:b=z1.bl
    ·subst hb
     rw [qc] at e
     rw [<- e]
     exact s3 _ _ hb2
    ·rw [qd hb] at e
     exact s3 _ _ (k2 b o e hb)
   have P3:Pass z1.M H1 z1.M H3:=fun b o e nb=>⟨s3 _ _ (k2 b o e (fun y=>nb (by rw [y]; exact z1.mb))),nb⟩
   have hKd:qp a z1.M H3 (S.B.drop g.first) (bs.drop g.first):=qp.pass P3 _ _ (qT.mpr (qcp _ (qT.mp b2)))
   have hND:=qfX (qp.pass (JS s4) _ _ hKd)
   refine ⟨t,tdx,rl,_,_,bs.drop g.first,_,rfl,qc,s4 _ _ hrl3,hND,by rw [List.length_drop]; omega,fun H5 m k5 h1 h2 ht5=>⟨rfl,?_⟩⟩
   have em:=qh7 _ m h1 h2
   have s5:qE H3 H5:=fun b o e=>k5 b o (s4 b o e) (qg e ht)
   have R5:=R3.same s5
   have nt5:¬ z1.M t:=R3.fresh ht
   have nrl:¬ z1.M rl:=fun y=>by
    rcases y with y | y
    ·have:=k2 _ _ R1.ins (by exact Ne.symm (R1.nr (qQ.ob z1)))
     rw [<- y,hrl] at this; cases this
    ·obtain ⟨o,e,_⟩:=R1.own_some y
     by_cases hb:rl=z1.bl
     ·rw [hb,hb2] at hrl; cases hrl
     ·rw [k2 _ _ e hb] at hrl; cases hrl
   have P5:Pass z1.M H1 z1.M H5:=fun b o e nb=>⟨s5 _ _ (P3 b o e nb).1,nb⟩
   have hTree:qI a z1.M H5 (.node k g.labels (S.B.drop g.first)) t:=by
    unfold qI
    refine ⟨tdx,x.la,rl,lb,bs.drop g.first,⟨?_,nt5⟩,P5 _ _ q2 nla,q3.pass P5,⟨s5 _ _ hrl3,nrl⟩,qp.pass (JS s5) _ _ hKd⟩
    rw [ht5,em,show (1+((Vastoa.depths (S.B.drop g.first):Nat):Int))=((Vastoa.depths (S.B.drop g.first)+1:Nat):Int) by omega]
   obtain ⟨bs5,b5,c5⟩:=R5.bl
   have hb5:H5 z1.bl=some (.lst ((bs.take g.first).map V.ref)):=s5 _ _ (s3 _ _ hb2)
   have e5:bs5=bs.take g.first:=by
    rw [b5] at hb5
    have:=Option.some.inj hb5
    injection this with this
    exact (List.map_inj_right (fun x y q=>by injection q)).mp this
   subst e5
   refine ⟨z1.bl,_,_,rfl,rfl,hb5,?_,?_⟩
   ·rw [List.length_map,List.length_take]; exact jv (by omega)
   have c6:qp a z1.M H5 (S.B.take g.first++[.node k g.labels (S.B.drop g.first)]) (bs.take g.first++[t]):=qT.mpr (ZV (qT.mp c5) hTree)
   have R6:=R5.putB c6
   rw [List.map_append] at R6
   exact res _ z1 er (Jh (Jh p1 P5) (jH (qo.at_ z1.mb))) R6
end
end RT
end
section
namespace RT
open PySem PySem.Spec PyProof.Rows L2
open Vastoa (Mark Marks)
open RM (Part Sym qB kd held MS Bg)
theorem qmf {α β : Type} (f:α -> β) (xs:List α) (i:Int):atI (xs.map f) i=(atI xs i).map f:=by
 unfold atI
 rw [List.length_map]
 cases ixN xs.length i with
 | none=>rfl
 | some j=>show (xs.map f)[j]? = (xs[j]?).map f; rw [List.getElem?_map]
theorem qh8 {A B:Type} {R:A->B->Prop} {as:List A} {bs:List B} {i:Int} {y:B} (h:Paired R as bs) (e:atI bs i=some y):∃ x,atI as i=some x/\R x y:=by
 unfold atI at e ⊢
 rw [Paired.length h]
 cases hj:ixN bs.length i with
 | none=>rw [hj] at e; cases e
 | some j=>
  rw [hj] at e
  exact zR h e
section
variable {a:Ad} {H H':Hp} {z:RA} {toks:Marks} {n:Nat} {S:MS}
theorem qQ.head {x:BA} {gs:List BA} {g g':Bg} {G:List Bg} {b:Addr} (h:qQ a H z toks n S) (ez:z.gs=x::gs) (eG:S.G=g::G) (hb:b=x.la \/ b=x.na) (k:∀ c o,H c=some o->c≠b->H' c=some o)
  (hx:qbN a z.M H' x g'):qQ a H' z toks n { S with G:=g'::G }/\Pass z.M H z.M H':=by
 obtain ⟨as,t1,t2⟩:=h.tks
 obtain ⟨bs,b1,b2⟩:=h.bl
 obtain ⟨n1,n2,n3⟩:=h.nwl
 obtain ⟨m1,m2⟩:=h.nbl
 obtain ⟨g1,g2⟩:=h.ngl
 have ho:b∈QF z.gs:=by
  rw [ez]
  rcases hb with rfl | rfl
  ·exact (zT List.mem_cons_self).1
  ·exact (zT List.mem_cons_self).2
 have hM:z.M b:=z.mo ho
 have p:Pass z.M H z.M H':=fun c o e nc=>⟨k c o e (fun y=>nc (by rw [y]; exact hM)),nc⟩
 have hgs:=h.gs
 rw [ez,eG] at hgs
 have nd:=g2
 rw [ez] at nd
 have eo:QF (x::gs)=x.la::x.na::QF gs:=rfl
 rw [eo] at nd
 obtain ⟨nd1,nd2⟩:=List.nodup_cons.mp nd
 obtain ⟨nd3,nd4⟩:=List.nodup_cons.mp nd2
 simp only [List.mem_cons,not_or] at nd1
 have hbn:b∉QF gs:=by rcases hb with rfl | rfl; exact nd1.2; exact nd3
 cases hgs with
 | cons q0 qs=>
  refine ⟨⟨k _ _ h.ins (Ne.symm (h.nr (qQ.oo z ho))),⟨as,p _ _ t1.1 t1.2,qX (fun x y q=>q.pass p) t2⟩,k _ _ h.wl (fun e=>n3 (by rw [e]; exact ho)),⟨bs,k _ _ b1 (fun e=>m2 (by rw [e]; exact ho)),qp.pass p _ _ b2⟩,k _ _ h.gl (fun e=>g1 (by rw [e]; exact ho)),?_,h.nd,h.ts,h.pv⟩,p⟩
  rw [ez]
  refine .cons hx (Qo (fun y g'' hy q=>?_) qs)
  obtain ⟨dx,lb,c1,c2,c3,c4⟩:=q
  exact ⟨dx,lb,p _ _ c1.1 c1.2,k _ _ c2 (fun e=>hbn (e ▸ (zT hy).1)),c3.pass p,k _ _ c4 (fun e=>hbn (e ▸ (zT hy).2))⟩
theorem qQ.push {H1:Hp} {x:BA} {dx:Addr} {first:Nat} (h:qQ a H z toks n S) (s:qE H H1) (hg:H x.g=none) (hla:H x.la=none) (hna:H x.na=none) (ln:x.la≠x.na) (gl1:x.g≠x.la) (gn1:x.g≠x.na)
  (e1:H1 x.g=some (.ins a.Begun dx (qdH (.int (first:Int)) (.ref x.la) (.ref x.na)))) (e2:H1 x.la=some (.lst [])) (e3:H1 x.na=some (.dT [])) :
  qQ a (upd H1 z.gl (.lst ((z.gs.map (·.g)).reverse.map V.ref++[.ref x.g]))) { z with gs:=x::z.gs } toks n { S with G:=⟨first,[],[]⟩::S.G } /\
  Pass z.M H ({ z with gs:=x::z.gs }:RA).M (upd H1 z.gl (.lst ((z.gs.map (·.g)).reverse.map V.ref++[.ref x.g]))):=by
 obtain ⟨as,t1,t2⟩:=h.tks
 obtain ⟨bs,b1,b2⟩:=h.bl
 obtain ⟨n1,n2,n3⟩:=h.nwl
 obtain ⟨m1,m2⟩:=h.nbl
 obtain ⟨g1,g2⟩:=h.ngl
 have some_ne:∀ {b:Addr},b∈z.own->b≠x.la/\b≠x.na:=fun {b} hb=>by
  obtain ⟨o,e,_⟩:=h.own_some hb
  exact ⟨qg e hla,qg e hna⟩
 have inM:∀ b,({ z with gs:=x::z.gs }:RA).M b->z.M b \/ b=x.la \/ b=x.na:=fun b hb=>by
  rcases hb with hb | hb
  ·exact .inl (.inl hb)
  ·have hb:b∈z.wl::z.bl::z.gl::x.la::x.na::QF z.gs:=hb
   simp only [List.mem_cons] at hb
   rcases hb with hb | hb | hb | hb | hb | hb
   ·exact .inl (by rw [hb]; exact z.mw)
   ·exact .inl (by rw [hb]; exact z.mb)
   ·exact .inl (by rw [hb]; exact z.mg)
   ·exact .inr (.inl hb)
   ·exact .inr (.inr hb)
   ·exact .inl (z.mo hb)
 have p:Pass z.M H ({ z with gs:=x::z.gs }:RA).M (upd H1 z.gl (.lst ((z.gs.map (·.g)).reverse.map V.ref++[.ref x.g]))):=fun b o e nb=>by
  refine ⟨?_,fun y=>?_⟩
  ·rw [qd (fun y=>nb (by rw [y]; exact z.mg))]; exact s b o e
  ·rcases inM b y with y | y | y
   ·exact nb y
   ·exact qg e hla y
   ·exact qg e hna y
 have own:∀ b o,H b=some o->b≠z.gl->(upd H1 z.gl (.lst ((z.gs.map (·.g)).reverse.map V.ref++[.ref x.g]))) b=some o:=fun b o e nb=>by rw [qd nb]; exact s b o e
 have xgl:x.g≠z.gl:=fun e=>by rw [e,h.gl] at hg; cases hg
 have nxg:¬ ({ z with gs:=x::z.gs }:RA).M x.g:=fun y=>by
  rcases inM _ y with y | y | y
  ·exact h.fresh hg y
  ·exact gl1 y
  ·exact gn1 y
 refine ⟨⟨own _ _ h.ins (Ne.symm (h.nr (qQ.og z))),⟨as,p _ _ t1.1 t1.2,qX (fun x y q=>q.pass p) t2⟩,own _ _ h.wl n2,⟨bs,own _ _ b1 m1,qp.pass p _ _ b2⟩,?_,?_,?_,h.ts,h.pv⟩,p⟩
 ·show upd H1 z.gl _ z.gl=_
  rw [qc]
  simp
 ·refine .cons ⟨dx,[],⟨?_,nxg⟩,?_,.nil,?_⟩ (Qo (fun y g'' hy q=>?_) h.gs)
  ·rw [qd xgl]; exact e1
  ·rw [qd (Ne.symm (some_ne (qQ.og z)).1)]; exact e2
  ·rw [qd (Ne.symm (some_ne (qQ.og z)).2)]; exact e3
  ·obtain ⟨dx,lb,c1,c2,c3,c4⟩:=q
   exact ⟨dx,lb,p _ _ c1.1 c1.2,own _ _ c2 (fun e=>g1 (e ▸ (zT hy).1)),c3.pass p,own _ _ c4 (fun e=>g1 (e ▸ (zT hy).2))⟩
 ·show (z.wl::z.bl::z.gl::x.la::x.na::QF z.gs).Nodup
  refine List.nodup_cons.mpr ⟨?_,List.nodup_cons.mpr ⟨?_,List.nodup_cons.mpr ⟨?_,List.nodup_cons.mpr ⟨?_,List.nodup_cons.mpr ⟨?_,g2⟩⟩⟩⟩⟩
  ·simp only [List.mem_cons,not_or]; exact ⟨n1,n2,(some_ne (qQ.ow z)).1,(some_ne (qQ.ow z)).2,n3⟩
  ·simp only [List.mem_cons,not_or]; exact ⟨m1,(some_ne (qQ.ob z)).1,(some_ne (qQ.ob z)).2,m2⟩
  ·simp only [List.mem_cons,not_or]; exact ⟨(some_ne (qQ.og z)).1,(some_ne (qQ.og z)).2,g1⟩
  ·simp only [List.mem_cons,not_or]; exact ⟨ln,fun y=>(some_ne (qQ.oo z y)).1 rfl⟩
  ·exact fun y=>(some_ne (qQ.oo z y)).2 rfl
end
def qln (a:Ad) (K:PySem.W.Frag):Sp:=fun vs H Q E=>∃ (z:RA) (toks:Marks) (n:Nat) (S:MS) (x:qfU),vs=[.ref z.r,.str (ZG x)]/\qQ a H z toks n S/\S.B.length<=1000000/\RM.gw S.G<=500000 /\
 QH a K z toks H (RM.qaJ x S.ts S.pv S.lv S.W S.B S.G) (Q .non) E
theorem qar (x y:qfU):decide (V.str (ZG x)=V.str (ZG y))=decide (x=y):=decide_eq_decide.mpr ⟨fun e=>qmc x (qaZ x) y (qaZ y) (by injection e),fun e=>by rw [e]⟩
end RT
end
section
namespace RT
open PySem PySem.Spec PyProof.Rows L2
open Vastoa (Mark Marks)
open RM (Part Sym qB kd held MS Bg)
section
variable {P:Program} {w:World} {K:PySem.W.Frag} {mg:Str->Option Value} {base:Heap} {f:Addr} {fd:FuncData} {a:Ad}
theorem qnb:qm ["self","action"] ["self","action"] (qe Qh):=⟨rfl,rfl,rfl,by decide +kernel,rfl,by decide +kernel,by decide +kernel⟩
theorem qnc (F:Fun K "act" "Reader.act" Qh f fd) (T:Tx P w K mg a) (Gb:qcE P w K mg base CX0 1 a.Begun "Begun" ["self","first"] (qdR a)) (Gm:FnAt P w K mg base (CXR P w) 4 "meet_name" ["names","token"] (qjC a K))
  (Ge:jf P w K mg base (CXR P w) 4 a.Reader "enter_level" ["self"] (qhg a K)) (Gn:jf P w K mg base CX0 3 a.Reader "end_node" ["self","kind"] (qeG a)):qy P w K mg base (CXR P w) 5 f fd ["self","action"] (qln a K):=by
 refine F.okR qnb (fun vs H Q E h=>?_) (fun cdv A outer s H vs Q E hr h=>?_)
 ·obtain ⟨z,toks,n,S,x,rfl,_⟩:=h; rfl
 ·obtain ⟨z,toks,n,S,x,rfl,hR,hB,hG,res⟩:=h
  have hr2:qO 2 _:=hr.mono (by decide)
  have hr3:qO 3 _:=hr.mono (by decide)
  refine ⟨_,qf (qU (qL z6 (pv 1) qJ (qV _)) (qf (qt (zF PySem.F.plainAttrs_list PySem.F.slot_list_append PySem.F.type_list_append zn (qj (pv 0) rfl) (qa (Zl Gb hr2 qM (qa (z7 zy (by rfl) T.b_len PySem.boot_len (qa (qj (pv 0) rfl) qh)) qh)) qh))))
   (qf (qU (qL z6 (pv 1) qJ (qV _)) (qf (qt (zF PySem.F.plainAttrs_list PySem.F.slot_list_append PySem.F.type_list_append zn (qj (pv 0) rfl) (qa (Zl Gb hr2 qM (qa (QQ qcO (z7 zy (by rfl) T.b_len PySem.boot_len (qa (qj (pv 0) rfl) qh)) qw) qh)) qh))))
   (qf (qU (qL z6 (pv 1) qJ (qV _)) (qf (qt (zF PySem.F.plainAttrs_list PySem.F.slot_list_append PySem.F.type_list_append zn (qj (jz zH (qj (pv 0) rfl) (qaB Js qw) (fun _ _=>rfl)) rfl) (qa (qj (jz zH (qj (pv 0) rfl) (QQ qcO (qj (pv 0) rfl) qw) (fun _ _=>rfl)) rfl) qh))))
   (qf (qU (qL z6 (pv 1) qJ (qV _)) (qf (qt (za Gm hr jX (qa (qj (jz zH (qj (pv 0) rfl) (qaB Js qw) (fun _ _=>rfl)) rfl) (qa (jz zH (qj (pv 0) rfl) (QQ qcO (qj (pv 0) rfl) qw) (fun _ _=>rfl)) qh)))))
   (qf (qU (qL z6 (pv 1) qJ (qV _)) (qf (qt (jk Ge T.c_Reader hr jX (pv 0))))
   (qf (qU (qL z6 (pv 1) qJ (qV _)) (qf (Qi (pv 0) qw qmE))
   (qf (qt (zi Gn T.c_Reader hr3 qM (pv 0) (qa (pv 1) qh))))))))))))))),?_⟩
  obtain ⟨as,t1,t2⟩:=hR.tks
  obtain ⟨bs,b1,b2⟩:=hR.bl
  have hbl:bs.length=S.B.length:=Paired.length (qT.mp b2)
  have hgl:=RM.qjc S.G
  have hgz:z.gs.length=S.G.length:=Paired.length hR.gs
  have glen:((z.gs.map (·.g)).reverse.map V.ref).length<sizeLine:=by
   rw [List.length_map,List.length_reverse,List.length_map]; exact jv (by omega)
  have beg:∀ (i:Int) (first:Nat),i=(first:Int)->(∀ H' z' n',z'.r=z.r->Pass z.M H z'.M H'->qQ a H' z' toks n' { S with G:=⟨first,[],[]⟩::S.G }->Q .non H') ->
    ∀ gx dx,H gx=none->H dx=none->dx≠gx->qdR a [.ref gx,.int i] (upd (upd H dx (.own gx)) gx (.ins a.Begun dx []))
     (fun v H2=>v=.non/\qg0 (.ref z.gl) [.ref gx] H2 (fun _ H3=>Q .non H3)) E0:=by
   intro i first ei kk gx dx hgx hdx hne
   subst ei
   have s1:qE H (upd (upd H dx (.own gx)) gx (.ins a.Begun dx [])):=fun b o e=>by rw [qd (qg e hgx),qd (qg e hdx)]; exact e
   refine ⟨gx,dx,first,rfl,qc,fun H2 la na k2 hla hna ln e1 e2 e3=>⟨rfl,?_⟩⟩
   have s2:qE H H2:=fun b o e=>k2 b o (s1 b o e) (qg e hgx)
   have gla:gx≠la:=qg qc hla
   have gna:gx≠na:=qg qc hna
   obtain ⟨R2,p2⟩:=hR.push (x:=⟨gx,la,na⟩) (first:=first) s2 hgx (s1.free hla) (s1.free hna) ln gla gna e1 e2 e3
   exact ⟨z.gl,_,_,rfl,rfl,s2 _ _ hR.gl,glen,kk _ { z with gs:=⟨gx,la,na⟩::z.gs } n rfl p2 R2⟩
  refine ⟨_,rfl,rfl,_,rfl,?_⟩
  rw [show V.str (Str.ofString "begin")=V.str (ZG .begin) from rfl,qar]
  by_cases h1:x=.begin
  ·subst h1
   rw [decide_eq_true rfl]
   refine zL ⟨_,rfl,z.r,_,z.dx,_,_,rfl,hR.ins,T.c_Reader,T.n_Reader_begun,ZE _ _ _ _ _ _,.inl ⟨rfl,_,SqL.of hR.gl⟩,?_⟩
   refine ⟨_,rfl,z.r,_,z.dx,_,_,rfl,hR.ins,T.c_Reader,T.n_Reader_built,QU _ _ _ _ _ _,z.bl,_,rfl,.inl (SqL.of b1),?_⟩
   exact beg _ S.B.length (by rw [List.length_map,hbl]) res
  rw [decide_eq_false h1]
  refine zp ⟨_,rfl,rfl,_,rfl,?_⟩
  rw [show V.str (Str.ofString "take")=V.str (ZG .take) from rfl,qar]
  by_cases h2:x=.take
  ·subst h2
   rw [decide_eq_true rfl]
   refine zL ⟨_,rfl,z.r,_,z.dx,_,_,rfl,hR.ins,T.c_Reader,T.n_Reader_begun,ZE _ _ _ _ _ _,.inl ⟨rfl,_,SqL.of hR.gl⟩,?_⟩
   refine ⟨_,rfl,z.r,_,z.dx,_,_,rfl,hR.ins,T.c_Reader,T.n_Reader_built,QU _ _ _ _ _ _,z.bl,_,rfl,.inl (SqL.of b1),_,_,rfl,rfl,?_⟩
   have res:QH a K z toks H (if S.B.length=0 then none else some (.ok { S with G:=⟨S.B.length - 1,[],[]⟩::S.G })) (Q .non) E:=res
   by_cases h0:S.B.length=0
   ·rw [if_pos h0] at res; exact res.elim
   ·rw [if_neg h0] at res
    exact beg _ (S.B.length - 1) (by rw [List.length_map,hbl]; omega) res
  rw [decide_eq_false h2]
  refine zp ⟨_,rfl,rfl,_,rfl,?_⟩
  rw [show V.str (Str.ofString "label")=V.str (ZG .label) from rfl,qar]
  obtain ⟨t,ht,dx,ha,ht1,ht2,nt1,nt2⟩:=qh8 t2 hR.pv
  have htV:atI (as.map V.ref) ((n:Int) - 1)=some (.ref t):=by rw [qmf,ht]; rfl
  by_cases h3:x=.label
  ·subst h3
   rw [decide_eq_true rfl]
   cases eG:S.G with
   | nil=>rw [eG] at res; exact res.elim
   | cons g G=>
    rw [eG] at res
    obtain ⟨y,gs,ez⟩:∃ y gs,z.gs=y::gs:=by
     rw [eG] at hgz
     cases hz:z.gs with
     | nil=>rw [hz] at hgz; cases hgz
     | cons y gs=>exact ⟨y,gs,rfl⟩
    have hgs:=hR.gs
    rw [ez,eG] at hgs
    cases hgs with
    | cons q0 qs=>
     obtain ⟨gdx,lb,⟨c1,c1n⟩,c2,c3,c4⟩:=q0
     have hlast:atI ((z.gs.map (·.g)).reverse.map V.ref) (-1)=some (.ref y.g):=by
      rw [ez,show ((y::gs).map (·.g)).reverse.map V.ref=(gs.map (·.g)).reverse.map V.ref++[V.ref y.g] by simp]
      exact qaD _ _
     have hlab:lb.length<1000000:=by
      have e1:=Paired.length c3
      have e2:=RM.qfG (G:=S.G) (g:=g) (by rw [eG]; exact List.mem_cons_self)
      omega
     refine zL ⟨_,rfl,z.r,_,z.dx,_,_,rfl,hR.ins,T.c_Reader,T.n_Reader_begun,ZE _ _ _ _ _ _,_,rfl,z.gl,_,_,_,rfl,rfl,SqL.of hR.gl,hlast,y.g,_,gdx,_,_,rfl,c1,T.c_Begun,T.n_Begun_labels,qcl _ _ _,.inl ⟨rfl,_,SqL.of c2⟩,?_⟩
     refine ⟨_,rfl,z.r,_,z.dx,_,_,rfl,hR.ins,T.c_Reader,T.n_Reader_tokens,Zb _ _ _ _ _ _,_,rfl,z.r,_,z.dx,_,_,rfl,hR.ins,T.c_Reader,T.n_Reader_at,Jl _ _ _ _ _ _,_,_,rfl,rfl,z.ts,_,_,_,rfl,rfl,SqL.of t1.1,htV,t,_,dx,_,_,rfl,ht1,T.c_Token,T.n_Token_held,qeA _ _ _,y.la,_,_,rfl,rfl,c2,by rw [List.length_map]; exact jv (by omega),?_⟩
     have yla:z.M y.la:=z.mo (by rw [ez]; exact (zT List.mem_cons_self).1)
     have kk:qo z.M H (upd H y.la (.lst (lb.map V.ref++[.ref ha]))):=qo.at_ yla
     have yn:y.na≠y.la:=qbV c4 c2 (by intro q; cases q)
     have bx:qbN a z.M (upd H y.la (.lst (lb.map V.ref++[.ref ha]))) y ⟨g.first,g.labels++[held S.pv.tok],g.names⟩:=by
      refine ⟨gdx,lb++[ha],⟨kk _ _ c1 c1n,c1n⟩,by rw [qc,List.map_append]; rfl,ZV (c3.pass (jH kk)) ⟨kk _ _ ht2 nt2,nt2⟩,by rw [qd yn]; exact c4⟩
     obtain ⟨R2,p2⟩:=hR.head ez eG (.inl rfl) (fun c o e nc=>by rw [qd nc]; exact e) bx
     exact res _ z n rfl p2 R2
  rw [decide_eq_false h3]
  refine zp ⟨_,rfl,rfl,_,rfl,?_⟩
  rw [show V.str (Str.ofString "fresh")=V.str (ZG .fresh) from rfl,qar]
  by_cases h4:x=.fresh
  ·subst h4
   rw [decide_eq_true rfl]
   cases eG:S.G with
   | nil=>rw [eG] at res; exact res.elim
   | cons g G=>
    rw [eG] at res
    obtain ⟨y,gs,ez⟩:∃ y gs,z.gs=y::gs:=by
     rw [eG] at hgz
     cases hz:z.gs with
     | nil=>rw [hz] at hgz; cases hgz
     | cons y gs=>exact ⟨y,gs,rfl⟩
    have hgs:=hR.gs
    rw [ez,eG] at hgs
    cases hgs with
    | cons q0 qs=>
     obtain ⟨gdx,lb,⟨c1,c1n⟩,c2,c3,c4⟩:=q0
     have hlast:atI ((z.gs.map (·.g)).reverse.map V.ref) (-1)=some (.ref y.g):=by
      rw [ez,show ((y::gs).map (·.g)).reverse.map V.ref=(gs.map (·.g)).reverse.map V.ref++[V.ref y.g] by simp]
      exact qaD _ _
     have hnm:g.names.length<=1000000:=by
      have e2:=RM.qfG (G:=S.G) (g:=g) (by rw [eG]; exact List.mem_cons_self)
      omega
     have res:QH a K z toks H (if held S.pv.tok∈g.names then some (.error ⟨5,S.pv.place⟩) else some (.ok { S with G:=⟨g.first,g.labels,g.names++[held S.pv.tok]⟩::G })) (Q .non) E:=res
     refine zL ⟨_,rfl,z.r,_,z.dx,_,_,rfl,hR.ins,T.c_Reader,T.n_Reader_begun,ZE _ _ _ _ _ _,_,rfl,z.gl,_,_,_,rfl,rfl,SqL.of hR.gl,hlast,y.g,_,gdx,_,_,rfl,c1,T.c_Begun,T.n_Begun_names,qhY _ _ _,?_⟩
     refine ⟨_,rfl,z.r,_,z.dx,_,_,rfl,hR.ins,T.c_Reader,T.n_Reader_tokens,Zb _ _ _ _ _ _,_,rfl,z.r,_,z.dx,_,_,rfl,hR.ins,T.c_Reader,T.n_Reader_at,Jl _ _ _ _ _ _,_,_,rfl,rfl,z.ts,_,_,_,rfl,rfl,SqL.of t1.1,htV,?_⟩
     refine ⟨y.na,t,g.names,S.pv,rfl,c4,⟨dx,ha,ht1,ht2,id,id⟩,hnm,fun hm=>?_,fun hm H2 k2 e2=>?_⟩
     ·rw [if_pos hm] at res
      exact XWM.on res (qo.refl _ _)
     ·rw [if_neg hm] at res
      have yna:z.M y.na:=z.mo (by rw [ez]; exact (zT List.mem_cons_self).2)
      have p0:Pass z.M H z.M H2:=fun b o e nb=>⟨k2 b o e (fun q=>nb (by rw [q]; exact yna)),nb⟩
      have yn:y.la≠y.na:=qbV c2 c4 (by intro q; cases q)
      have bx:qbN a z.M H2 y ⟨g.first,g.labels,g.names++[held S.pv.tok]⟩:=⟨gdx,lb,p0 _ _ c1 c1n,k2 _ _ c2 yn,c3.pass p0,e2⟩
      obtain ⟨R2,p2⟩:=hR.head ez eG (.inr rfl) k2 bx
      exact res _ z n rfl p2 R2
  rw [decide_eq_false h4]
  refine zp ⟨_,rfl,rfl,_,rfl,?_⟩
  rw [show V.str (Str.ofString "enter")=V.str (ZG .enter) from rfl,qar]
  by_cases h5:x=.enter
  ·subst h5
   rw [decide_eq_true rfl]
   exact zL ⟨_,rfl,z.r,z.dx,_,rfl,hR.ins,qbe _ _ _ _ _ _,z,toks,n,S,rfl,hR,res⟩
  rw [decide_eq_false h5]
  refine zp ⟨_,rfl,rfl,_,rfl,?_⟩
  rw [show V.str (Str.ofString "leave")=V.str (ZG .leave) from rfl,qar]
  by_cases h6:x=.leave
  ·subst h6
   rw [decide_eq_true rfl]
   have res:QH a K z toks H (if S.lv=0 then none else some (.ok { S with lv:=S.lv - 1 })) (Q .non) E:=res
   by_cases h0:S.lv=0
   ·rw [if_pos h0] at res; exact res.elim
   ·rw [if_neg h0] at res
    refine zL ⟨_,rfl,z.r,_,z.dx,_,_,rfl,hR.ins,T.c_Reader,T.n_Reader_level,qaT _ _ _ _ _ _,_,_,rfl,rfl,z.dx,_,hR.ins,(by show 6<1000; decide),?_⟩
    rw [show ((S.lv:Int) - 1)=((S.lv - 1:Nat):Int) by omega]
    exact res _ z n rfl (jH (qo.at_ z.mr)) (hR.put n (S.lv - 1) S.ts S.pv hR.ts hR.pv)
  rw [decide_eq_false h6]
  obtain ⟨k,rfl⟩:∃ k,x=.fin k:=by
   cases x with
   | fin k=>exact ⟨k,rfl⟩
   | begin=>exact absurd rfl h1
   | take=>exact absurd rfl h2
   | label=>exact absurd rfl h3
   | fresh=>exact absurd rfl h4
   | enter=>exact absurd rfl h5
   | leave=>exact absurd rfl h6
  cases eG:S.G with
  | nil=>rw [eG] at res; exact res.elim
  | cons g G=>
   rw [eG] at res
   have res:QH a K z toks H (if g.first<=S.B.length then some (.ok ⟨S.ts,S.pv,S.lv,S.W,S.B.take g.first++[.node k g.labels (S.B.drop g.first)],G⟩) else none) (Q .non) E:=res
   by_cases hf:g.first<=S.B.length
   ·rw [if_pos hf] at res
    exact zp ⟨_,rfl,z.r,z.dx,_,rfl,hR.ins,qcJ _ _ _ _ _ _,_,rfl,z,toks,n,S,k,g,G,rfl,hR,hB,eG,hf,fun H' z' e p R=>res H' z' n e p R⟩
   ·rw [if_neg hf] at res; exact res.elim
end
end RT
end
section
namespace RT
open PySem PySem.Spec PyProof.Rows L2
open Vastoa (Mark Marks)
open RM (Part Sym qB kd held MS Bg)
theorem QH.on {a:Ad} {K:PySem.W.Frag} {z:RA} {toks:Marks} {H H1:Hp} {r:Option (Except Vastoa.Fault MS)} {Q:Hp->Prop} {E:XK} (h:QH a K z toks H r Q E) (k:qo z.M H H1):QH a K z toks H1 r Q E:=by
 unfold QH at h ⊢
 split
 ·exact fun H' z' n' e p R=>h H' z' n' e (Jh (jH k) p) R
 ·exact XWM.from h k
 ·exact h
def qjD (a:Ad) (K:PySem.W.Frag):Sp:=fun vs H Q E=>∃ (z:RA) (toks:Marks) (n:Nat) (S:MS),vs=[.ref z.r]/\qQ a H z toks n S/\RM.Fits toks.length (RM.hw toks) S/\toks.length<=5000/\(∀ s∈S.W,qaY s=true)/\(∀ m∈toks,CM.ZT m.tok=true) /\
 QH a K z toks H (RM.step S) (Q .non) E
theorem qh9:∀ x∈allParts,∀ k∈jN,(qB x k).length<=8:=by decide +kernel
theorem qhh (s:Sym) (W:List Sym):wV (s::W)=wV W++[.str (j9 s)]:=by simp [wV]
theorem qnd (C W:List Sym):wV W++((C.map j9).map V.str).reverse=wV (C++W):=by
 unfold wV
 rw [List.reverse_append,List.map_append]
 simp
theorem qne (W:List Sym):(wV W).length=W.length:=by simp [wV]
section
variable {P:Program} {w:World} {K:PySem.W.Frag} {mg:Str->Option Value} {base:Heap} {f:Addr} {fd:FuncData} {a:Ad}
theorem qdU:qm ["self","symbol","chosen"] ["self"] (qe jV):=⟨rfl,rfl,rfl,by decide +kernel,rfl,by decide +kernel,by decide +kernel⟩
theorem qmg (F:Fun K "step" "Reader.step" jV f fd) (T:Tx P w K mg a) (Gc:FnAt P w K mg base CX0 2 "choose" ["part","kind"] (qfW a)) (Ga:jf P w K mg base (CXR P w) 5 a.Reader "act" ["self","action"] (qln a K))
  (Gr:jf P w K mg base (CXR P w) 4 a.Reader "read_token" ["self","kind"] (qeF a K)):qy P w K mg base (CXR P w) 6 f fd ["self"] (qjD a K):=by
 refine F.okR qdU (fun vs H Q E h=>?_) (fun cdv A outer s H vs Q E hr h=>?_)
 ·obtain ⟨z,toks,n,S,rfl,_⟩:=h; rfl
 ·obtain ⟨z,toks,n,S,rfl,hR,hF,hlen,hW,hT,res⟩:=h
  have hr2:qO 2 _:=hr.mono (by decide)
  have hr4:qO 4 _:=hr.mono (by decide)
  refine ⟨_,qi (qZ (i:=1) qdU.nd rfl (Or.inl rfl) (qae PySem.F.plainAttrs_list PySem.F.slot_list_pop PySem.F.type_list_pop qaf (qj (pv 0) rfl)))
   (qf (qU (qe8 (qm2 (pv 1) (qN T.g_GRAMMAR)))
    (qi (qZ (i:=2) qdU.nd rfl (Or.inl rfl) (za Gc hr2 qM (qa (pv 1) (qa (qj (jz zH (qj (pv 0) rfl) (qj (pv 0) rfl) (fun _ _=>rfl)) rfl) qh))))
     (qf (qt (zF PySem.F.plainAttrs_list PySem.F.slot_list_extend PySem.F.type_list_extend jw (qj (pv 0) rfl) (qa (qc9 (pv 2)) qh)))))
    (qf (qU (QJ (qnF PySem.F.slot_str_startswith PySem.F.type_str_startswith qeN (pv 1) qJ)) (qf (qt (zi Ga T.c_Reader hr jX (pv 0) (qa (Ju qmR (pv 1) (QR qw) qgZ) qh))))
     (qf (qt (zi Gr T.c_Reader hr4 jX (pv 0) (qa (pv 1) qh)))))))),?_⟩
  obtain ⟨hw1,hw2,hw3⟩:=hF.small hlen
  cases eW:S.W with
  | nil=>
   have:RM.step S=none:=by unfold RM.step; rw [eW]
   rw [this] at res; exact res.elim
  | cons y W=>
   have hwl:H z.wl=some (.lst (wV (y::W))):=by rw [<- eW]; exact hR.wl
   refine ⟨_,rfl,z.r,_,z.dx,_,_,rfl,hR.ins,T.c_Reader,T.n_Reader_waiting,JD _ _ _ _ _ _,.inl ⟨rfl,_,SqL.of hwl⟩,z.wl,_,.str (j9 y),rfl,rfl,hwl,by rw [qhh]; simp,?_⟩
   rw [show (wV (y::W)).dropLast=wV W by rw [qhh]; simp]
   have R1:=hR.putW W
   have k1:qo z.M H (upd H z.wl (.lst (wV W))):=qo.at_ z.mw
   have res1:=res.on k1
   have hwl1:(upd H z.wl (.lst (wV W))) z.wl=some (.lst (wV W)):=qc
   generalize upd H z.wl (.lst (wV W))=H1 at R1 k1 res1 hwl1 ⊢
   have hlW:W.length<=200000:=by rw [eW] at hw1; simp at hw1; omega
   refine ⟨_,rfl,a.GRAMMAR,_,Sum.inr (j9 y),rfl,T.d_GRAMMAR,rfl,_,rfl,?_⟩
   rw [qdQ]
   cases y with
   | p x=>
    rw [if_pos (show j9 (.p x)∈QT.map (·.1) from qfV x (QP x))]
    cases hS:S.ts with
    | nil=>
     have:RM.step S=none:=by unfold RM.step; rw [eW,hS]
     rw [this] at res; exact res.elim
    | cons m r=>
     have est:RM.step S=some (.ok { S with W:=qB x (kd m.tok)++W }):=by unfold RM.step; rw [eW,hS]
     rw [est] at res1
     obtain ⟨as,t1,t2⟩:=R1.tks
     obtain ⟨e1,e2⟩:=qa0 (hS.symm.trans hR.ts)
     obtain ⟨t,ht,dx,ha,ht1,ht2,_,_⟩:=zR t2 e1
     have hm:=hT m (List.mem_of_getElem? e1)
     refine zL ⟨_,rfl,_,rfl,z.r,_,z.dx,_,_,rfl,R1.ins,T.c_Reader,T.n_Reader_tokens,Zb _ _ _ _ _ _,_,rfl,z.r,_,z.dx,_,_,rfl,R1.ins,T.c_Reader,T.n_Reader_at,Jl _ _ _ _ _ _,z.ts,_,_,_,rfl,rfl,SqL.of t1.1,jJ (v:=V.ref t) (by rw [List.getElem?_map,ht]; rfl),t,_,dx,_,_,rfl,ht1,T.c_Token,T.n_Token_kind,qez _ _ _,?_⟩
     refine ⟨x,kd m.tok,by rw [qdP]; rfl,qaX hm,fun H2 p s2 hp hp2=>?_⟩
     have R2:=R1.same s2
     refine ⟨_,rfl,z.r,_,z.dx,_,_,rfl,R2.ins,T.c_Reader,T.n_Reader_waiting,JD _ _ _ _ _ _,.inl ⟨rfl,_,SqL.of (s2 _ _ hwl1)⟩,_,rfl,p,_,rfl,SqL.of hp2,fun q hq=>?_⟩
     have s3:=qr (o:=.lst (((qB x (kd m.tok)).map j9).map V.str).reverse) hq
     refine ⟨z.wl,q,_,_,rfl,rfl,s3 _ _ (s2 _ _ hwl1),qc,?_,?_⟩
     ·rw [qne,List.length_reverse,List.length_map,List.length_map]
      have hc:(qB x (kd m.tok)).length<=8:=by
       have:=qh9 x (QP x) _ (qaX hm)
       exact this
      have:(1000000:Nat)<sizeLine:=by decide
      omega
     ·rw [qnd]
      have R4:=(R2.same s3).putW (qB x (kd m.tok)++W)
      exact res1 _ z n rfl (Jh (JS (s2.trans s3)) (jH (qo.at_ z.mw))) R4
   | t k=>
    have hk:k∈jN:=List.contains_iff_mem.mp (hW (.t k) (by rw [eW]; exact List.mem_cons_self))
    rw [if_neg (show ¬ j9 (.t k)∈QT.map (·.1) from qma k hk)]
    refine zp ⟨_,rfl,⟨_,rfl⟩,_,_,rfl,rfl,_,rfl,?_⟩
    rw [show Txt.startswith (j9 (.t k)) "@" = false from qna k hk]
    cases hS:S.ts with
    | nil=>
     have:RM.step S=none:=by unfold RM.step; rw [eW,hS]
     rw [this] at res; exact res.elim
    | cons m r=>
     have est:RM.step S=(if kd m.tok=k then some (.ok ⟨r,m,S.lv,W,S.B,S.G⟩) else some (.error ⟨3,m.place⟩)):=by unfold RM.step; rw [eW,hS]
     rw [est] at res1
     obtain ⟨e1,e2⟩:=qa0 (hS.symm.trans hR.ts)
     exact zp ⟨_,rfl,z.r,z.dx,_,rfl,R1.ins,qbC _ _ _ _ _ _,_,rfl,z,toks,n,{ S with W:=W },k,m,r,rfl,R1,hk,hT m (List.mem_of_getElem? e1),hS,res1⟩
   | a x=>
    rw [if_neg (show ¬ j9 (.a x)∈QT.map (·.1) from qmb x (qaZ x))]
    obtain ⟨a1,a2,a3⟩:=qm9 x (qaZ x)
    refine zp ⟨_,rfl,⟨_,rfl⟩,_,_,rfl,rfl,_,rfl,?_⟩
    rw [show Txt.startswith (j9 (.a x)) (Str.ofString "@")=true from a1]
    have est:RM.step S=RM.qaJ x S.ts S.pv S.lv W S.B S.G:=by unfold RM.step; rw [eW]
    rw [est] at res1
    refine zL ⟨_,rfl,z.r,z.dx,_,rfl,R1.ins,qgB _ _ _ _ _ _,_,rfl,_,rfl,j9 (.a x),rfl,Nat.le_of_lt (QK a3),?_⟩
    rw [show qfn (j9 (.a x)) (some 1) none=ZG x from a2]
    exact ⟨z,toks,n,{ S with W:=W },x,rfl,R1,(by show S.B.length<=1000000; omega),(by show RM.gw S.G<=500000; omega),res1⟩
end
end RT
end
section
namespace RT
open PySem PySem.Spec PyProof.Rows L2
open Vastoa (Mark Marks)
open RM (Part Sym qB kd held MS Bg)
def qf0 (toks:Marks) (pv:Mark):MS:=⟨toks,pv,0,[.p .EXPR,.t .fin],[],[]⟩
def qbO (a:Ad):Sp:=fun vs H Q E=>∃ (r dx tl:Addr) (as:List Addr) (toks:Marks) (pv:Mark),vs=[.ref r,.ref tl]/\H r=some (.ins a.Reader dx [])/\H tl=some (.lst (as.map V.ref))/\Paired (j6 a M0 H) as toks/\atI toks (-1)=some pv /\
 ∀ H' z,z.r=r->(∀ b,z.M b->b=r \/ H b=none)->(∀ b o,H b=some o->b≠r->H' b=some o)->qQ a H' z toks 0 (qf0 toks pv)->Q .non H'
def qjE (a:Ad) (K:PySem.W.Frag):Sp:=fun vs H Q E=>∃ (t:Addr) (T:Vastoa.Tree),vs=[.ref t]/\qI a M0 H T t/\(40<Vastoa.depth T->XW K a.Refusal H 6 0 E)/\(¬ 40<Vastoa.depth T->Q .non H)
def qf1 (a:Ad) (K:PySem.W.Frag):Sp:=fun vs H Q E=>∃ (ta:Addr) (txt:List Nat),vs=[.ref ta]/\SqL K H ta (nt txt) /\
 (∀ T,Vastoa.read txt=.ok T->RM.good T=true->RM.tw T<=200000->RM.lw T<=2048->∀ H' t,qE H H'->qI a M0 H' T t->Q (.ref t) H')/\∀ x,Vastoa.read txt=.error x->XW K a.Refusal H (x.kind:Int) (x.place:Int) E
def qb8 (ts:Marks):Except Vastoa.Fault Vastoa.Tree:=(Vastoa.level Vastoa.DEEP ts).bind fun e=>(Vastoa.expect .fin e.2).bind fun _=>.ok e.1
theorem qjF {txt:List Nat} (h:2048<txt.length):Vastoa.read txt=.error ⟨1,0⟩:=by unfold Vastoa.read; rw [if_pos (show Vastoa.MOST<txt.length from h)]
theorem qkT {txt:List Nat} {x:Vastoa.Fault} (h:¬ 2048<txt.length) (e:Vastoa.tokens txt=.error x):Vastoa.read txt=.error x:=by unfold Vastoa.read; rw [if_neg (show ¬ Vastoa.MOST<txt.length from h),e]; rfl
theorem qjG {txt:List Nat} {ts:Marks} (h:¬ 2048<txt.length) (e:Vastoa.tokens txt=.ok ts):Vastoa.read txt=(qb8 ts).bind fun t=>if 40<Vastoa.depth t then .error ⟨6,0⟩ else .ok t:=by
 unfold Vastoa.read qb8
 rw [if_neg (show ¬ Vastoa.MOST<txt.length from h),e]
 show (Vastoa.level Vastoa.DEEP ts).bind _=_
 cases Vastoa.level Vastoa.DEEP ts with
 | error x=>rfl
 | ok e=>
  show (Vastoa.expect .fin e.2).bind _=((Vastoa.expect .fin e.2).bind _).bind _
  cases Vastoa.expect .fin e.2 with
  | error x=>rfl
  | ok u=>rfl
theorem qkU {S S':MS} (h:∀ s∈S.W,qaY s=true) (ht:∀ m∈S.ts,CM.ZT m.tok=true) (e:RM.step S=some (.ok S')):∀ s∈S'.W,qaY s=true:=by
 obtain ⟨ts,pv,lv,W,B,G⟩:=S
 cases W with
 | nil=>cases e
 | cons y W=>
  have hW:∀ s∈W,qaY s=true:=fun s hs=>h s (List.mem_cons_of_mem _ hs)
  cases y with
  | p x=>
   cases ts with
   | nil=>cases e
   | cons m r=>
    cases e
    intro s hs
    rcases List.mem_append.mp hs with hs | hs
    ·exact List.all_eq_true.mp (qjv x (QP x) _ (qaX (ht m List.mem_cons_self))) s hs
    ·exact hW s hs
  | t k=>
   cases ts with
   | nil=>cases e
   | cons m r=>
    have e:(if kd m.tok=k then some (.ok ⟨r,m,lv,W,B,G⟩) else some (.error ⟨3,m.place⟩):Option (Except Vastoa.Fault MS))=some (Except.ok S'):=e
    split at e
    ·cases e; exact hW
    ·cases e
  | a x=>
   have e:RM.qaJ x ts pv lv W B G=some (.ok S'):=e
   unfold RM.qaJ at e
   split at e
   ·cases e; exact hW
   ·split at e
    ·cases e
    ·cases e; exact hW
   ·split at e
    ·cases e
    ·cases e; exact hW
   ·split at e
    ·cases e
    ·split at e
     ·cases e
     ·cases e; exact hW
   ·split at e
    ·cases e
    ·split at e
     ·cases e
     ·cases e; exact hW
   ·split at e
    ·cases e
    ·cases e; exact hW
   ·split at e
    ·cases e
    ·split at e
     ·cases e; exact hW
     ·cases e
theorem qmh {α : Type} {l:List α} (h:l≠[]):∃ y,atI l (-1)=some y:=by
 obtain ⟨l',y,rfl⟩:∃ l' y,l=l'++[y]:=⟨l.dropLast,l.getLast h,(List.dropLast_concat_getLast h).symm⟩
 exact ⟨y,qaD _ _⟩
section
variable {P:Program} {w:World} {K:PySem.W.Frag} {mg:Str->Option Value} {base:Heap} {f:Addr} {fd:FuncData} {a:Ad}
theorem qdV:qm ["self","tokens"] ["self","tokens"] (qe jU):=⟨rfl,rfl,rfl,by decide +kernel,rfl,by decide +kernel,by decide +kernel⟩
theorem qdW (F:Fun K "__init__" "Reader.__init__" jU f fd) (T:Tx P w K mg a):qy P w K mg base CX0 1 f fd ["self","tokens"] (qbO a):=by
 refine F.ok qdV (fun vs H Q E h=>?_) (fun cdv A outer s H vs Q E hr h=>?_)
 ·obtain ⟨r,dx,tl,as,toks,pv,rfl,_⟩:=h; rfl
 ·obtain ⟨r,dx,tl,as,toks,pm,rfl,hc,htl,hts,hpv,k⟩:=h
  refine ⟨_,qi (zu (pv 0) (pv 1) rfl) (qi (zu (pv 0) qw rfl) (qi (zu (pv 0) qw rfl) (qi (zu (pv 0) (qW (qa qJ (qa qJ qh))) rfl) (qi (zu (pv 0) (qW qh) rfl) (qf (zu (pv 0) (qW qh) rfl)))))),?_⟩
  refine ⟨_,rfl,_,rfl,r,_,dx,_,rfl,hc,T.c_Reader,T.n_Reader_tokens,(by show 0<1000; decide),?_⟩
  refine ⟨_,rfl,r,_,dx,_,rfl,qc,T.c_Reader,T.n_Reader_at,(by show 1<1000; decide),?_⟩
  refine ⟨_,rfl,r,_,dx,_,rfl,qc,T.c_Reader,T.n_Reader_level,(by show 2<1000; decide),?_⟩
  rw [jI,jI]
  have k1:∀ b o,H b=some o->b≠r->(upd H r (.ins a.Reader dx (zb "level" (.int 0) (zb "at" (.int 0) (zb "tokens" (.ref tl) []))))) b=some o:=fun b o e n=>by rw [qd n]; exact e
  have f1:∀ b,(upd H r (.ins a.Reader dx (zb "level" (.int 0) (zb "at" (.int 0) (zb "tokens" (.ref tl) []))))) b=none->H b=none/\b≠r:=fun b e=>by
   have:b≠r:=fun y=>by rw [y,qc] at e; cases e
   rw [qd this] at e; exact ⟨e,this⟩
  have r1:(upd H r (.ins a.Reader dx (zb "level" (.int 0) (zb "at" (.int 0) (zb "tokens" (.ref tl) []))))) r=some _:=qc
  generalize upd H r (.ins a.Reader dx (zb "level" (.int 0) (zb "at" (.int 0) (zb "tokens" (.ref tl) []))))=H1 at k1 f1 r1 ⊢
  refine ⟨(by show 2<=sizeLine; decide),fun wl hwl=>?_⟩
  obtain ⟨w1,w2⟩:=f1 wl hwl
  refine ⟨_,rfl,r,_,dx,_,rfl,(qd (Ne.symm w2)).trans r1,T.c_Reader,T.n_Reader_waiting,(by show 3<1000; decide),?_⟩
  refine ⟨Nat.zero_le _,fun bl hbl=>?_⟩
  have b2:bl≠r:=fun y=>by rw [y,qc] at hbl; cases hbl
  rw [qd b2] at hbl
  have b3:bl≠wl:=fun y=>by rw [y,qc] at hbl; cases hbl
  rw [qd b3] at hbl
  obtain ⟨b1,_⟩:=f1 bl hbl
  refine ⟨_,rfl,r,_,dx,_,rfl,(qd (Ne.symm b2)).trans qc,T.c_Reader,T.n_Reader_built,(by show 4<1000; decide),?_⟩
  refine ⟨Nat.zero_le _,fun gl hgl=>?_⟩
  have g2:gl≠r:=fun y=>by rw [y,qc] at hgl; cases hgl
  rw [qd g2] at hgl
  have g4:gl≠bl:=fun y=>by rw [y,qc] at hgl; cases hgl
  rw [qd g4,qd g2] at hgl
  have g3:gl≠wl:=fun y=>by rw [y,qc] at hgl; cases hgl
  rw [qd g3] at hgl
  obtain ⟨g1,_⟩:=f1 gl hgl
  refine ⟨_,rfl,r,_,dx,_,rfl,(qd (Ne.symm g2)).trans qc,T.c_Reader,T.n_Reader_begun,(by show 5<1000; decide),?_⟩
  have inM:∀ b,(⟨r,dx,tl,wl,bl,gl,[]⟩:RA).M b->b=r \/ H b=none:=fun b hb=>by
   rcases hb with hb | hb
   ·exact .inl hb
   ·have hb:b∈[wl,bl,gl]:=hb
    simp only [List.mem_cons,List.not_mem_nil,or_false] at hb
    rcases hb with rfl | rfl | rfl
    ·exact .inr w1
    ·exact .inr b1
    ·exact .inr g1
  have keep:∀ b o,H b=some o->b≠r->upd (upd (upd (upd (upd (upd H1 wl (.lst [.str "end",.str "EXPR"])) r (.ins a.Reader dx (zb "waiting" (.ref wl) (zb "level" (.int 0) (zb "at" (.int 0) (zb "tokens" (.ref tl) [])))))) bl (.lst [])) r (.ins a.Reader dx (zb "built" (.ref bl) (zb "waiting" (.ref wl) (zb "level" (.int 0) (zb "at" (.int 0) (zb "tokens" (.ref tl) []))))))) gl (.lst [])) r (.ins a.Reader dx (Q7 (.ref tl) (.int 0) (.int 0) (.ref wl) (.ref bl) (.ref gl))) b=some o:=fun b o e n=>by
   rw [qd n,qd (qg e g1),qd n,qd (qg e b1),qd n,qd (qg e w1)]; exact k1 b o e n
  have pass:∀ b o,H b=some o->(∀ d,o≠.ins a.Reader d [])->¬ (⟨r,dx,tl,wl,bl,gl,[]⟩:RA).M b:=fun b o e ni y=>by
   rcases inM b y with y | y
   ·rw [y,hc] at e; cases e; exact ni _ rfl
   ·rw [y] at e; cases e
  have ner:∀ b o,H b=some o->(∀ d,o≠.ins a.Reader d [])->b≠r:=fun b o e ni y=>pass b o e ni (.inl y)
  refine k _ ⟨r,dx,tl,wl,bl,gl,[]⟩ rfl inM keep ⟨qc,⟨as,⟨keep _ _ htl (ner _ _ htl fun d q=>by cases q),pass _ _ htl fun d q=>by cases q⟩,?_⟩,?_,⟨[],?_,?_⟩,?_,.nil,?_,rfl,hpv⟩
  ·refine qX (fun t m q=>?_) hts
   obtain ⟨d,ha,q1,q2,_,_⟩:=q
   have i1:∀ d',HO.ins a.Token d (tokF (.str (jP m.tok)) (.int m.place) (.ref ha))≠.ins a.Reader d' []:=fun d' q=>by injection q with _ _ q; cases q
   exact ⟨d,ha,keep _ _ q1 (ner _ _ q1 i1),keep _ _ q2 (ner _ _ q2 fun d q=>by cases q),pass _ _ q1 i1,pass _ _ q2 fun d q=>by cases q⟩
  ·show upd _ r _ wl=_
   rw [qd w2,qd (Ne.symm g3),qd w2,qd (Ne.symm b3),qd w2,qc]; rfl
  ·show upd _ r _ bl=_
   rw [qd b2,qd (Ne.symm g4),qd b2,qc]; rfl
  ·unfold qf0 qp; rfl
  ·show upd _ r _ gl=_
   rw [qd g2,qc]; rfl
  ·show [wl,bl,gl].Nodup
   exact List.nodup_cons.mpr ⟨by simp only [List.mem_cons,List.not_mem_nil,or_false,not_or]; exact ⟨Ne.symm b3,Ne.symm g3⟩,List.nodup_cons.mpr ⟨by simp only [List.mem_cons,List.not_mem_nil,or_false]; exact Ne.symm g4,List.nodup_cons.mpr ⟨by simp,List.nodup_nil⟩⟩⟩
theorem qdX:qm ["tree"] ["tree"] (qe jQ):=⟨rfl,rfl,rfl,by decide +kernel,rfl,by decide +kernel,by decide +kernel⟩
theorem qdY (F:Fun K "refuse_deep" "refuse_deep" jQ f fd) (T:Tx P w K mg a) (Gx:Zg P w K mg base 2 a.TreeTooDeep "TreeTooDeep" ["self"] (spX a.TreeTooDeep 6 false)):qy P w K mg base (CXR P w) 4 f fd ["tree"] (qjE a K):=by
 refine F.okR qdX (fun vs H Q E h=>?_) (fun cdv A outer s H vs Q E hr h=>?_)
 ·obtain ⟨t,U,rfl,_⟩:=h; rfl
 ·obtain ⟨t,U,rfl,hU,kx,ko⟩:=h
  refine ⟨_,qf (qU (qL JM (qj (pv 0) rfl) (qN T.g_MOST_DEPTH) (qV _)) (qf (qc6 Gx hr)) zm),?_⟩
  obtain ⟨dx,x,y,z,ht⟩:=hU.depth
  refine ⟨_,rfl,t,_,dx,_,_,rfl,ht,T.c_Node,T.n_Node_depth,qaS _ _ _ _,_,_,rfl,rfl,_,rfl,zZ (fun e=>?_) fun e=>?_⟩
  ·have e:40<Vastoa.depth U:=by have:=of_decide_eq_true e; omega
   exact qhd T.x_TreeTooDeep T.u_TreeTooDeep T.n_TreeTooDeep_number T.n_TreeTooDeep_place (kx e)
  ·exact ko fun y=>e (decide_eq_true (by omega))
end
end RT
end
section
namespace RT
open PySem PySem.Spec PyProof.Rows L2
open Vastoa (Mark Marks)
open RM (Part Sym qB kd held MS Bg)
theorem qkV:∀ s∈([.p .EXPR,.t .fin]:List Sym),qaY s=true:=by decide +kernel
section
variable {P:Program} {w:World} {K:PySem.W.Frag} {mg:Str->Option Value} {base:Heap} {f:Addr} {fd:FuncData} {a:Ad}
theorem qdZ:qm ["text","reader","tree"] ["text"] (qe qaj):=⟨rfl,rfl,rfl,by decide +kernel,rfl,by decide +kernel,by decide +kernel⟩
theorem qmi (F:Fun K "read" "read" qaj f fd) (T:Tx P w K mg a) (Gx:Zg P w K mg base 2 a.TextTooLong "TextTooLong" ["self"] (spX a.TextTooLong 1 false)) (Gc:FnAt P w K mg base (CXR P w) 7 "cut" ["text"] (qlm a K))
  (Gi:qcE P w K mg base CX0 1 a.Reader "Reader" ["self","tokens"] (qbO a)) (Gs:jf P w K mg base (CXR P w) 6 a.Reader "step" ["self"] (qjD a K)) (Gd:FnAt P w K mg base (CXR P w) 4 "refuse_deep" ["tree"] (qjE a K)) :
  qy P w K mg base (CXR P w) 8 f fd ["text"] (qf1 a K):=by
 refine F.okR qdZ (fun vs H Q E h=>?_) (fun cdv A outer s H vs Q E hr h=>?_)
 ·obtain ⟨ta,txt,rfl,_⟩:=h; rfl
 ·obtain ⟨ta,txt,rfl,ht,ko,kx⟩:=h
  have hr2:qO 2 _:=hr.mono (by decide)
  have hr3:qO 3 _:=hr.mono (by decide)
  have hr4:qO 4 _:=hr.mono (by decide)
  have hr6:qO 6 _:=hr.mono (by decide)
  refine ⟨_,qi (qU (qL JM (z7 zy (by rfl) T.b_len PySem.boot_len (qa (pv 0) qh)) (qN T.g_MOST_TEXT_BYTES) (qV _)) (qf (qc6 Gx hr3)) zm)
   (qi (qZ (i:=1) qdZ.nd rfl (Or.inl rfl) (Zl Gi hr2 qM (qa (za Gc hr jX (qa (pv 0) qh)) qh)))
   (qi (Qj PassesOwn.leaving (Qk (qj (pv 1) rfl) (by intro _; rfl)) (qf (qt (jk Gs T.c_Reader hr6 jX (pv 1)))))
   (qi (qZ (i:=2) qdZ.nd rfl (Or.inl rfl) (jz zH (qj (pv 1) rfl) qw (fun _ _=>rfl)))
   (qi (qt (za Gd hr4 jX (qa (pv 2) qh)))
   (qf (qF (pv 2))))))),?_⟩
  refine ⟨_,rfl,ta,_,rfl,.inl ht,_,_,rfl,rfl,_,rfl,zZ (fun hl=>?_) fun hl=>?_⟩
  ·have hl:2048<txt.length:=by have:=of_decide_eq_true hl; rw [zz] at this; omega
   exact qhd T.x_TextTooLong T.u_TextTooLong T.n_TextTooLong_number T.n_TextTooLong_place (kx _ (qjF hl))
  have hl:¬ 2048<txt.length:=fun y=>hl (decide_eq_true (by rw [zz]; omega))
  refine ⟨_,rfl,ta,txt,rfl,ht,by omega,fun H1 tl as toks s1 etk ltk htl hts=>?_,fun p hp=>kx _ (qkT hl hp)⟩
  obtain ⟨hEnds,hok⟩:=CM.qgx etk
  have hrt:=qjG hl etk
  have hne:toks≠[]:=by
   obtain ⟨pre,q,e,_⟩:=hEnds
   rw [e]; simp
  obtain ⟨pm,hpm⟩:=qmh hne
  intro r dx hrn hdx hneq
  have s2:qE H1 (upd (upd H1 dx (.own r)) r (.ins a.Reader dx [])):=fun b o e=>by rw [qd (qg e hrn),qd (qg e hdx)]; exact e
  refine ⟨r,dx,tl,as,toks,pm,rfl,qc,s2 _ _ htl,qX (fun t m q=>q.keep (qo.of s2)) hts,hpm,fun H2 z ez inM k2 R2=>⟨rfl,?_⟩⟩
  have s3:qE H1 H2:=fun b o e=>k2 b o (s2 b o e) (qg e hrn)
  have out:∀ b o,H1 b=some o->¬ z.M b:=fun b o e y=>by
   rcases inM b y with y | y
   ·rw [y,hrn] at e; cases e
   ·rw [s2 b o e] at y; cases y
  obtain ⟨cnt,hrun⟩:=(RM.machine (Q:=fun S=>∃ e u pv',S=⟨u,pv',0,[],[e],[]⟩/\qb8 toks=.ok e/\RM.good e=true) (E:=fun y=>qb8 toks=.error y) (ts:=toks) (pv:=pm) hEnds (fun e u pv' h1 h2=>⟨e,u,pv',rfl,h1,h2⟩) (fun y h=>h)).count
  refine ⟨fun m σ H'=>∃ (z':RA) (n:Nat) (S:MS),σ = [some (.ref ta),some (.ref z'.r),none]/\qQ a H' z' toks n S/\RM.Fits toks.length (RM.hw toks) S/\(∀ s∈S.W,qaY s=true)/\(∀ b o,H1 b=some o->H' b=some o/\¬ z'.M b) /\
   RM.qdA (fun S=>∃ e u pv',S=⟨u,pv',0,[],[e],[]⟩/\qb8 toks=.ok e/\RM.good e=true) (fun y=>qb8 toks=.error y) m S,
   ⟨cnt,z,0,qf0 toks pm,by rw [ez]; rfl,R2,RM.qhV toks pm,qkV,fun b o e=>⟨s3 b o e,out b o e⟩,hrun⟩,?_⟩
  rintro m σ H3 ⟨z3,n,S,rfl,R3,hF,hW,fr,run⟩
  refine ⟨_,rfl,z3.r,_,z3.dx,_,_,rfl,R3.ins,T.c_Reader,T.n_Reader_waiting,JD _ _ _ _ _ _,_,.inl ⟨_,SqL.of R3.wl,rfl⟩,?_⟩
  have hts':∀ m∈S.ts,CM.ZT m.tok=true:=fun m hm=>hok m (by rw [R3.ts] at hm; exact List.mem_of_mem_drop hm)
  have ne:∀ r',RM.step S=some r'->(!(S.W.reverse.map fun s=>V.str (j9 s)).isEmpty)=true:=fun r' e=>by
   cases hw:S.W with
   | nil=>unfold RM.step at e; rw [hw] at e; cases e
   | cons y W=>simp
  cases run with
  | done q=>
   obtain ⟨e,u,pv',rfl,e1,e2⟩:=q
   refine zp ?_
   obtain ⟨bs,b1,b2⟩:=R3.bl
   have b2:qp a z3.M H3 [e] bs:=b2
   unfold qp at b2
   obtain ⟨t,r',rfl,hT,h0⟩:=b2
   unfold qp at h0
   subst h0
   refine ⟨_,rfl,z3.r,_,z3.dx,_,_,rfl,R3.ins,T.c_Reader,T.n_Reader_built,QU _ _ _ _ _ _,z3.bl,_,_,_,rfl,rfl,SqL.of b1,jJ (j:=0) (v:=V.ref t) rfl,?_⟩
   have hT0:qI a M0 H3 e t:=qI.pass (fun b o e _=>⟨e,id⟩) _ _ hT
   rw [e1] at hrt
   refine ⟨_,rfl,t,e,rfl,hT0,fun hd=>?_,fun hd=>?_⟩
   ·have:Vastoa.read txt=.error ⟨6,0⟩:=by rw [hrt]; show (if 40<Vastoa.depth e then _ else _)=_; rw [if_pos hd]
    exact fun C dx' H' s' x=>kx _ this C dx' H' ((s1.trans fun b o e=>(fr b o e).1).trans s') x
   ·have:Vastoa.read txt=.ok e:=by rw [hrt]; show (if 40<Vastoa.depth e then _ else _)=_; rw [if_neg hd]
    have hb:=hF.tree (by omega)
    have hh:=CM.qgA etk
    have e3:RM.tw e<=200000:=by have:=hb.1; simp only [RM.j8] at this; omega
    have e4:RM.lw e<=2048:=by have:=hb.2; simp only [RM.QL] at this; omega
    exact ⟨_,rfl,ko e this e2 e3 e4 H3 t (s1.trans fun b o e=>(fr b o e).1) hT0⟩
  | @next k S0 S' e run'=>
   rw [ne _ e]
   refine zL ⟨_,fun σ' H' q=>q,?_⟩
   refine ⟨_,rfl,z3.r,z3.dx,_,rfl,R3.ins,qbB _ _ _ _ _ _,z3,toks,n,S,rfl,R3,hF,by omega,hW,hok,?_⟩
   rw [e]
   exact fun H' z' n' er p R=>⟨k,Nat.lt_succ_self _,z',n',S',by rw [er],R,hF.step e,qkU hW hts' e,fun b o eb=>p b o (fr b o eb).1 (fr b o eb).2,run'⟩
  | @fail k S0 x e hx=>
   rw [ne _ e]
   refine zL ⟨_,fun σ' H' q=>q,?_⟩
   refine ⟨_,rfl,z3.r,z3.dx,_,rfl,R3.ins,qbB _ _ _ _ _ _,z3,toks,n,S,rfl,R3,hF,by omega,hW,hok,?_⟩
   rw [e]
   rw [hx] at hrt
   exact fun C dx' H' k' x'=>kx x hrt C dx' H' (s1.trans fun b o eb=>k' b o (fr b o eb).1 (fr b o eb).2) x'
end
end RT
end
section
namespace L2
open PySem PySem.Spec PyProof.Rows
def qe3:List Str->List Value->Bool
 | [],[]=>true
 | x::xs,.str y _::us=>x == y&&qe3 xs us
 | _,_=>false
theorem qeH:∀ {xs:List Str} {us:List Value},qe3 xs us=true->qD (xs.map V.str) us
 | [],[],_=>.nil
 | x::xs,.str y t::us,h=>by
  simp only [qe3,Bool.and_eq_true,beq_iff_eq] at h
  obtain ⟨rfl,h⟩:=h
  exact .cons ⟨t,rfl⟩ (qeH h)
def JT (K:PySem.W.Frag) (a:Addr) (xs:List Str):Bool:=match K.lookup a with
 | some ⟨.type ty,_,.seq its _,_⟩=>ty == "tuple" && decide (its.size<=1000)&&qe3 xs its.toList
 | _=>false
theorem Jn {K:PySem.W.Frag} {a:Addr} {xs:List Str} (h:JT K a xs=true):qaP K a (xs.map V.str):=by
 unfold JT at h
 split at h
 ·rename_i ty _ its n sl e
  simp only [Bool.and_eq_true,beq_iff_eq,decide_eq_true_eq] at h
  obtain ⟨⟨rfl,h2⟩,h3⟩:=h
  exact ⟨_,its,n,e,rfl,rfl,Nat.le_of_lt (QK h2),qeH h3⟩
 ·cases h
def Ji (K:PySem.W.Frag) (C S:Addr):Bool:=(PySem.W.clsIn K C).any fun cd=>cd.mro.contains (.ref S)
theorem JH {K:PySem.W.Frag} {C S:Addr} (h:Ji K C S=true):subB K C S:=by
 unfold Ji at h
 cases e:PySem.W.clsIn K C with
 | none=>rw [e] at h; cases h
 | some cd=>rw [e] at h; exact ⟨cd,e,h⟩
def qb9 (w:World) (kv:Key × V) (e:DictEntry):Prop:=e.hash=qj5 w kv.1/\Je kv.1 e.key=true/\RelV kv.2 e.val
theorem qa1 {P:Program} {w:World} {K:PySem.W.Frag} {a:Addr} {es:Array DictEntry} {ep:Nat} {kvs:List (Key × V)} (lk:K.lookup a=some ⟨.type "dict",none,.dict es ep,#[]⟩) (ha:(a == sysModules)=false) (h:Paired (qb9 w) kvs es.toList) (nd:(kvs.map (·.1)).Nodup) :
  QG P w K a kvs:=by
 have key:∀ {l:List (Key × V)} {m:List DictEntry},Paired (qb9 w) l m->∃ vs:List (Key × Value),KV l vs/\Pairs (zU P w) m vs/\vs.map (·.1)=l.map (·.1)/\∀ e∈m,∃ k,Je k e.key=true/\e.hash=qj5 w k:=by
  intro l m q
  induction q with
  | nil=>exact ⟨[],.nil,.nil,rfl,fun e he=>by cases he⟩
  | @cons kv e l m q t ih=>
   obtain ⟨vs,h1,h2,h3,h4⟩:=ih
   obtain ⟨q1,q2,q3⟩:=q
   refine ⟨(kv.1,e.val)::vs,.cons ⟨rfl,q3⟩ h1,.cons q2 rfl h2,by rw [List.map_cons,List.map_cons,h3],fun e' he=>?_⟩
   rcases List.mem_cons.mp he with rfl | he
   ·exact ⟨kv.1,q2,q1⟩
   ·exact h4 e' he
 obtain ⟨vs,h1,h2,h3,h4⟩:=key h
 refine ⟨ha,vs,h1,fun hp hk=>⟨_,es,ep,hk _ _ lk,⟨rfl,rfl,rfl⟩,rfl,fun e he=>h4 e (Array.mem_toList_iff.mpr he),h2,by rw [h3]; exact nd⟩⟩
theorem qjH {K:PySem.W.Frag} {h:Heap} {mg:Str->Option Value} {n:Str} {u:Value} {v:V} (X:K.In h) (G:h.Ns mainGlobals mg) (e:PySem.W.nsIn K mainGlobals n=some (some u)) (r:RelV v u):GlV mg n v:=⟨u,PySem.W.mg_of X G e,r⟩
theorem zJ {K:PySem.W.Frag} {h:Heap} {mg:Str->Option Value} {n:Str} {i:Int} {t:Tok} (X:K.In h) (G:h.Ns mainGlobals mg) (e:PySem.W.nsIn K mainGlobals n=some (some (.int i t))):GlV mg n (.int i):=qjH X G e ⟨t,rfl⟩
theorem Q4 {K:PySem.W.Frag} {h:Heap} {mg:Str->Option Value} {n:Str} {a:Addr} (X:K.In h) (G:h.Ns mainGlobals mg) (e:PySem.W.nsIn K mainGlobals n=some (some (.ref a))):GlV mg n (.ref a):=qjH X G e rfl
def J9 (es:Array DictEntry) (x:Str):Addr:=match es.toList.find? fun e=>Je (Sum.inr x) e.key with
 | some ⟨_,_,.ref a⟩=>a
 | _=>0
end L2
namespace RT
open PySem PySem.Spec PyProof.Rows L2
theorem qmj (l:List Int) (h:NeutralIO.bytes l=true):nt (VastoaNeutral.text l)=l.map V.int:=by
 unfold nt VastoaNeutral.text
 rw [List.map_map]
 refine List.map_congr_left fun x hx=>?_
 have:=List.all_eq_true.mp h x hx
 simp only [Bool.and_eq_true,decide_eq_true_eq] at this
 show V.int ((x.toNat:Nat):Int)=V.int x
 rw [Int.toNat_of_nonneg this.1]
end RT
end
section
namespace RT
open PySem PySem.Spec PyProof.Rows L2
abbrev VT:=Vastoa.Tree
inductive Pt where
 | s (x:Str)
 | t (T:VT)
 | l (b:List Nat)
def bts (x:Str):List Nat:=x.cps.toList
def z0:Pt->List Nat
 | .s x=>bts x
 | .t T=>Vastoa.shown T
 | .l b=>b
abbrev qR (L:List Pt):List Nat:=L.flatMap z0
def ps (x:String):Pt:=.s (Str.ofString x)
def atP (U:VT) (r:Nat):List Pt:=if U.kind.rank<r then [ps "(",.t U,ps ")"] else [.t U]
def btw (m:Pt):List (List Pt)->List Pt
 | []=>[]
 | [g]=>g
 | g::r=>g++(m::btw m r)
def jx (U:VT):List Pt:=if U.kind=.piece then [.t U] else [ps "${",.t U,ps "}"]
def z5 (ls:List (List Nat)) (l:List VT):List (List Pt):=(ls.zip l).map fun p=>[.l p.1,ps " = ",.t p.2,ps ";"]
def j7 (ls:List (List Nat)) (l:List VT):List Pt:=btw (ps " ") (z5 ls l)
def Q8 (ls:List (List Nat)) (l:List VT):List Pt:=if ls.isEmpty then [ps "{}"] else [ps "{ "]++j7 ls l++[ps " }"]
def ones (l:List VT):List (List Pt):=l.map fun U=>[.t U]
def fnP (l:List VT) (dots:List (List Pt)):List Pt:=match l.getLast? with
 | some e=>[ps "fn {"]++btw (ps ", ") (ones l.dropLast++dots)++[ps "}: ",.t e]
 | none=>[]
def jm (ls:List (List Nat)):List Pt:=ls.flatMap fun x=>[ps ".",.l x]
def qG:VT->List Pt
 | .node k ls l=>match k,ls,l with
  | .piece,[x],[]=>[.l (x.flatMap Vastoa.escaped)]
  | .num,[x],[]=>[.l x]
  | .yes,[],[]=>[ps "true"]
  | .no,[],[]=>[ps "false"]
  | .none,[],[]=>[ps "none"]
  | .name,[x],[]=>[.l x]
  | .text,[],l=>[ps "\""]++l.flatMap jx++[ps "\""]
  | .list,[],l=>[ps "["]++btw (ps ", ") (ones l)++[ps "]"]
  | .record,ls,l=>Q8 ls l
  | .recur,ls,l=>[ps "rec "]++Q8 ls l
  | .get,ls,[a]=>atP a 12++jm ls
  | .get,ls,[a,d]=>atP a 12++jm ls++[ps " ? "]++atP d 12
  | .app,[],[f,x]=>atP f 10++[ps " "]++atP x 11
  | .neg,[],[e]=>[ps "-"]++atP e 9
  | .not,[],[e]=>[ps "not "]++atP e 3
  | .has,[x],[e]=>atP e 5++[ps " has ",.l x]
  | .fn,[x],[e]=>[ps "fn ",.l x,ps ": ",.t e]
  | .fields,[],l=>fnP l []
  | .openFields,[],l=>fnP l [[ps ".."]]
  | .param,[x],[]=>[.l x]
  | .param,[x],[d]=>[.l x,ps " ? ",.t d]
  | .letIn,ls,l=>match l.getLast? with
   | some e=>[ps "let "]++j7 ls l++[ps " in ",.t e]
   | none=>[]
  | .cond,[],[a,b,c]=>[ps "if ",.t a,ps " then ",.t b,ps " else ",.t c]
  | .must,[],[a,b]=>[ps "must ",.t a,ps "; ",.t b]
  | .op o,[],[a,b]=>atP a o.leftRank++[ps " ",.s (kindS (.op o)),ps " "]++atP b o.rightRank
  | _,_,_=>[]
theorem zd (a b:List Pt):qR (a++b)=qR a++qR b:=List.flatMap_append
theorem QB (U:VT) (r:Nat):qR (atP U r)=Vastoa.Kid.at_ (U.kind,Vastoa.shown U) r:=by
 unfold atP Vastoa.Kid.at_
 split <;> simp [qR,z0,ps,bts] <;> rfl
theorem qa2 (m:Pt):∀ gs:List (List Pt),qR (btw m gs)=Vastoa.between (z0 m) (gs.map qR)
 | []=>rfl
 | [g]=>rfl
 | g::h::r=>by
  show qR (g++(m::btw m (h::r)))=qR g++z0 m++Vastoa.between (z0 m) ((h::r).map qR)
  rw [<- qa2 m (h::r)]
  simp [qR]
theorem zx:∀ l:List VT,Vastoa.shownKids l=l.map fun U=>(U.kind,Vastoa.shown U)
 | []=>by unfold Vastoa.shownKids; rfl
 | t::r=>by unfold Vastoa.shownKids; rw [zx r]; rfl
theorem qkW (ls:List (List Nat)) (l:List VT):(z5 ls l).map qR=(ls.zip (Vastoa.shownKids l)).map fun p=>p.1++[32,61,32]++p.2.2++[59]:=by
 rw [zx,List.zip_map_right]
 unfold z5
 rw [List.map_map,List.map_map]
 refine List.map_congr_left fun p _=>?_
 simp [qR,z0,ps,bts]
 rfl
theorem qdl (ls:List (List Nat)) (l:List VT):qR (j7 ls l)=Vastoa.shownBinds ls (Vastoa.shownKids l):=by
 unfold j7 Vastoa.shownBinds
 rw [qa2,qkW]
 rfl
theorem qf2 (ls:List (List Nat)) (l:List VT):qR (Q8 ls l)=Vastoa.shownRecord ls (Vastoa.shownKids l):=by
 unfold Q8 Vastoa.shownRecord
 split
 ·rfl
 ·rw [zd,zd,qdl]; rfl
theorem qeI (l:List VT):(ones l).map qR=(Vastoa.shownKids l).map fun p=>p.2:=by
 rw [zx]
 unfold ones
 rw [List.map_map,List.map_map]
 refine List.map_congr_left fun p _=>?_
 simp [qR,z0]
theorem qcq:∀ l:List VT,qR (l.flatMap jx)=(Vastoa.shownKids l).flatMap Vastoa.shownPiece
 | []=>by rw [zx]; rfl
 | U::r=>by
  have:=qcq r
  rw [zx] at this ⊢
  rw [List.flatMap_cons,zd,this,List.map_cons,List.flatMap_cons]
  congr 1
  unfold jx Vastoa.shownPiece
  show qR (if U.kind=.piece then _ else _)=if U.kind=.piece then _ else _
  split <;> simp [qR,z0,ps,bts] <;> rfl
theorem qbP:∀ ls:List (List Nat),qR (jm ls)=ls.flatMap fun x=>46::x
 | []=>rfl
 | x::r=>by
  have:=qbP r
  unfold jm at this ⊢
  rw [List.flatMap_cons,zd,this,List.flatMap_cons]
  congr 1
  simp [qR,z0,ps,bts]
  rfl
theorem qhi (l:List VT) (dots:List (List Pt)) (dt:List (List Nat)) (hd:dots.map qR=dt) (hl:l≠[]):qR (fnP l dots)=Vastoa.shownFn (Vastoa.shownKids l) dt:=by
 have e1:l.getLast? = some (l.getLast hl):=List.getLast?_eq_some_getLast hl
 unfold fnP Vastoa.shownFn
 rw [e1]
 show qR ([ps "fn {"]++_++[ps "}: ",.t _])=_
 rw [zd,zd,qa2,List.map_append,qeI,hd,zx,zx,<- List.map_dropLast,List.getLast?_map,e1]
 simp [qR,z0,ps,bts,Vastoa.wFn]
 rfl
end RT
end
section
namespace RT
open PySem PySem.Spec PyProof.Rows L2
inductive Shp:VT->Prop
 | piece (x):Shp (.node .piece [x] [])
 | num (x):Shp (.node .num [x] [])
 | yes:Shp (.node .yes [] [])
 | no:Shp (.node .no [] [])
 | none:Shp (.node .none [] [])
 | name (x):Shp (.node .name [x] [])
 | text (l):Shp (.node .text [] l)
 | list (l):Shp (.node .list [] l)
 | record (ls l) (h:ls.length=l.length):Shp (.node .record ls l)
 | recur (ls l) (h:ls.length=l.length):Shp (.node .recur ls l)
 | get1 (ls a):Shp (.node .get ls [a])
 | get2 (ls a d):Shp (.node .get ls [a,d])
 | app (f x):Shp (.node .app [] [f,x])
 | neg (e):Shp (.node .neg [] [e])
 | not (e):Shp (.node .not [] [e])
 | has (x e):Shp (.node .has [x] [e])
 | fn (x e):Shp (.node .fn [x] [e])
 | fields (l e):Shp (.node .fields [] (l++[e]))
 | opens (l e):Shp (.node .openFields [] (l++[e]))
 | param0 (x):Shp (.node .param [x] [])
 | param1 (x d):Shp (.node .param [x] [d])
 | letIn (ls l e) (h:ls.length=l.length):Shp (.node .letIn ls (l++[e]))
 | cond (a b c):Shp (.node .cond [] [a,b,c])
 | must (a b):Shp (.node .must [] [a,b])
 | op (o a b):Shp (.node (.op o) [] [a,b])
theorem Jb {α : Type} {l:List α} (h:l.length=1):∃ x,l=[x]:=by
 match l,h with
 | [x],_=>exact ⟨x,rfl⟩
theorem qia {α : Type} {l:List α} (h:l.length=2):∃ x y,l=[x,y]:=by
 match l,h with
 | [x,y],_=>exact ⟨x,y,rfl⟩
theorem qoe {α : Type} {l:List α} (h:l.length=3):∃ x y z,l=[x,y,z]:=by
 match l,h with
 | [x,y,z],_=>exact ⟨x,y,z,rfl⟩
theorem qkX {α : Type} {l:List α} (h:l≠[]):∃ y x,l=y++[x]:=⟨_,_,(List.dropLast_concat_getLast h).symm⟩
theorem qdm:∀ {T:VT},RM.good T=true->Shp T
 | .node k ls l,h=>by
  unfold RM.good at h
  rw [Bool.and_eq_true] at h
  have h:=h.2
  cases k <;> simp only [Bool.and_eq_true,Bool.or_eq_true,beq_iff_eq,List.isEmpty_iff,Bool.not_eq_true',List.isEmpty_eq_false_iff] at h
  case piece=>obtain ⟨x,rfl⟩:=Jb h.1; rw [h.2]; exact .piece x
  case num=>obtain ⟨x,rfl⟩:=Jb h.1; rw [h.2]; exact .num x
  case yes=>rw [h.1,h.2]; exact .yes
  case no=>rw [h.1,h.2]; exact .no
  case none=>rw [h.1,h.2]; exact .none
  case name=>obtain ⟨x,rfl⟩:=Jb h.1; rw [h.2]; exact .name x
  case text=>rw [h]; exact .text l
  case list=>rw [h]; exact .list l
  case record=>exact .record ls l h
  case recur=>exact .recur ls l h
  case get=>
   rcases h with h | h
   ·obtain ⟨x,rfl⟩:=Jb h; exact .get1 ls x
   ·obtain ⟨x,y,rfl⟩:=qia h; exact .get2 ls x y
  case app=>obtain ⟨x,y,rfl⟩:=qia h.2; rw [h.1]; exact .app x y
  case neg=>obtain ⟨x,rfl⟩:=Jb h.2; rw [h.1]; exact .neg x
  case not=>obtain ⟨x,rfl⟩:=Jb h.2; rw [h.1]; exact .not x
  case has=>obtain ⟨x,rfl⟩:=Jb h.1; obtain ⟨y,rfl⟩:=Jb h.2; exact .has x y
  case fn=>obtain ⟨x,rfl⟩:=Jb h.1; obtain ⟨y,rfl⟩:=Jb h.2; exact .fn x y
  case fields=>obtain ⟨y,x,rfl⟩:=qkX h.2; rw [h.1]; exact .fields y x
  case openFields=>obtain ⟨y,x,rfl⟩:=qkX h.2; rw [h.1]; exact .opens y x
  case param=>
   obtain ⟨x,rfl⟩:=Jb h.1
   rcases h.2 with h | h
   ·rw [List.length_eq_zero_iff.mp h]; exact .param0 x
   ·obtain ⟨y,rfl⟩:=Jb h; exact .param1 x y
  case letIn=>
   obtain ⟨y,x,rfl⟩:=qkX (l:=l) (by intro e; subst e; simp at h)
   exact .letIn ls y x (by simpa using h)
  case cond=>obtain ⟨x,y,z,rfl⟩:=qoe h.2; rw [h.1]; exact .cond x y z
  case must=>obtain ⟨x,y,rfl⟩:=qia h.2; rw [h.1]; exact .must x y
  case op=>obtain ⟨x,y,rfl⟩:=qia h.2; rw [h.1]; exact .op _ x y
mutual
def wt:VT->Nat
 | .node _ ls l=>12 * (2+ls.length+l.length)+2 * (ls.map List.length).sum+zr l
def zr:List VT->Nat
 | []=>0
 | t::r=>wt t+zr r
end
def wp:Pt->Nat
 | .s x=>1+x.cps.size
 | .t T=>wt T
 | .l b=>1+b.length
def wP (L:List Pt):Nat:=(L.map wp).sum
theorem Jo (x:Pt) (L:List Pt):wP (x::L)=wp x+wP L:=by simp [wP]
theorem zl (a b:List Pt):wP (a++b)=wP a+wP b:=by simp [wP]
theorem qa3:∀ a b:List VT,zr (a++b)=zr a+zr b
 | [],b=>by simp [zr]
 | t::r,b=>by simp only [List.cons_append,zr,qa3 r b]; omega
theorem qnf (T:VT):24<=wt T:=by cases T; unfold wt; omega
theorem qjI (x:Pt):1<=wp x:=by
 cases x with
 | s x=>show 1<=1+_; omega
 | t T=>have:=qnf T; show 1<=wt T; omega
 | l b=>show 1<=1+_; omega
theorem qdn:∀ L:List Pt,L.length<=wP L
 | []=>Nat.zero_le _
 | x::L=>by have:=qdn L; have:=qjI x; rw [Jo,List.length_cons]; omega
def wG (gs:List (List Pt)):Nat:=(gs.map wP).sum
theorem qca (g:List Pt) (gs:List (List Pt)):wG (g::gs)=wP g+wG gs:=by simp [wG]
theorem qng (a b:List (List Pt)):wG (a++b)=wG a+wG b:=by simp [wG]
theorem qbQ (m:Pt):∀ gs:List (List Pt),wP (btw m gs)<=wG gs+wp m * gs.length
 | []=>Nat.zero_le _
 | [g]=>by show wP g<=_; rw [qca]; omega
 | g::h::r=>by
  show wP (g++(m::btw m (h::r)))<=_
  have:=qbQ m (h::r)
  rw [zl,Jo,qca,List.length_cons,Nat.mul_add]
  omega
theorem qcb:∀ l:List VT,wG (ones l)=zr l
 | []=>by unfold zr; rfl
 | t::r=>by
  have:=qcb r
  unfold ones at this ⊢
  unfold zr
  rw [List.map_cons,qca,this]
  simp [wP,wp]
theorem qf3:∀ (ls:List (List Nat)) (l:List VT),ls.length=l.length->wG (z5 ls l)=7 * ls.length+(ls.map List.length).sum+zr l
 | [],[],_=>by unfold zr; rfl
 | x::ls,t::l,h=>by
  have:=qf3 ls l (by simpa using h)
  unfold z5 at this ⊢
  unfold zr
  rw [List.zip_cons_cons,List.map_cons,qca,this]
  have e:wP [.l x,ps " = ",.t t,ps ";"]=7+x.length+wt t:=by
   show 1+x.length+(4+(wt t+(2+0)))=_
   omega
  rw [e,List.map_cons,List.sum_cons,List.length_cons]
  omega
theorem qib (ls:List (List Nat)) (l:List VT) (h:ls.length=l.length):(z5 ls l).length=ls.length:=by unfold z5; simp [h]
theorem qf4 (ls:List (List Nat)) (l:List VT) (h:ls.length=l.length):wP (j7 ls l)<=9 * ls.length+(ls.map List.length).sum+zr l:=by
 have:=qbQ (ps " ") (z5 ls l)
 rw [qf3 ls l h,qib ls l h] at this
 have e:wp (ps " ")=2:=rfl
 rw [e] at this
 unfold j7
 omega
theorem qjJ (ls:List (List Nat)) (l:List VT) (h:ls.length=l.length):wP (Q8 ls l)<=9 * ls.length+(ls.map List.length).sum+zr l+6:=by
 unfold Q8
 split
 ·show 3+0<=_; omega
 ·have:=qf4 ls l h
  rw [zl,zl]
  have e1:wP [ps "{ "]=3:=rfl
  have e2:wP [ps " }"]=3:=rfl
  omega
theorem ZX (U:VT) (r:Nat):wP (atP U r)<=wt U+4:=by
 unfold atP
 split
 ·show 2+(wt U+(2+0))<=_; omega
 ·show wt U+0<=_; omega
theorem qeJ:∀ l:List VT,wP (l.flatMap jx)<=zr l+5 * l.length
 | []=>Nat.zero_le _
 | U::r=>by
  have:=qeJ r
  rw [List.flatMap_cons,zl,List.length_cons]
  unfold zr
  have:wP (jx U)<=wt U+5:=by
   unfold jx
   split
   ·show wt U+0<=_; omega
   ·show 3+(wt U+(2+0))<=_; omega
  omega
theorem qd0:∀ ls:List (List Nat),wP (jm ls)=3 * ls.length+(ls.map List.length).sum
 | []=>rfl
 | x::r=>by
  have:=qd0 r
  unfold jm at this ⊢
  rw [List.flatMap_cons,zl,this]
  have:wP [ps ".",.l x]=3+x.length:=by show 2+(1+x.length+0)=_; omega
  rw [this,List.map_cons,List.sum_cons,List.length_cons]
  omega
theorem qd1:∀ x:List Nat,(x.flatMap Vastoa.escaped).length<=2 * x.length
 | []=>Nat.zero_le _
 | c::r=>by
  have:=qd1 r
  rw [List.flatMap_cons,List.length_append,List.length_cons]
  have:(Vastoa.escaped c).length<=2:=by unfold Vastoa.escaped; split <;> (try split) <;> (try split) <;> simp
  omega
theorem Z7 {α : Type} (l:List α) (e:α):(l++[e]).getLast? = some e:=by simp
theorem qas (l:List VT) (e:VT) (dots:List (List Pt)):fnP (l++[e]) dots=[ps "fn {"]++btw (ps ", ") (ones l++dots)++[ps "}: ",.t e]:=by
 unfold fnP
 rw [Z7,List.dropLast_concat]
theorem qf5 (e:VT):∀ (ls:List (List Nat)) (l:List VT),ls.length=l.length->ls.zip (l++[e])=ls.zip l
 | [],[],_=>rfl
 | x::ls,y::l,h=>by
  rw [List.cons_append,List.zip_cons_cons,List.zip_cons_cons,qf5 e ls l (by simpa using h)]
theorem qgL (ls:List (List Nat)) (l:List VT) (e:VT) (h:ls.length=l.length):z5 ls (l++[e])=z5 ls l:=by
 unfold z5
 rw [qf5 e ls l h]
theorem qdo (ls:List (List Nat)) (l:List VT) (e:VT):qG (.node .letIn ls (l++[e]))=[ps "let "]++j7 ls (l++[e])++[ps " in ",.t e]:=by
 show (match (l++[e]).getLast? with
  | some e'=>[ps "let "]++j7 ls (l++[e])++[ps " in ",.t e']
  | none=>[])=_
 rw [Z7]
theorem qf6 {T:VT} (h:Shp T):wP (qG T)<wt T:=by
 cases h with
 | piece x=>have:=qd1 x; show (1+(x.flatMap Vastoa.escaped).length)+0<_; simp only [wt,zr,List.map,List.sum_cons,List.sum_nil,List.length_cons,List.length_nil]; omega
 | num x=>show (1+x.length)+0<_; simp only [wt,zr,List.map,List.sum_cons,List.sum_nil,List.length_cons,List.length_nil]; omega
 | yes=>show 5<_; unfold wt zr; decide
 | no=>show 6<_; unfold wt zr; decide
 | none=>show 5<_; unfold wt zr; decide
 | name x=>show (1+x.length)+0<_; simp only [wt,zr,List.map,List.sum_cons,List.sum_nil,List.length_cons,List.length_nil]; omega
 | text l=>
  have:=qeJ l
  show wP ([ps "\""]++l.flatMap jx++[ps "\""])<_
  rw [zl,zl]
  have e1:wP [ps "\""]=2:=rfl
  simp only [wt,List.map,List.sum_nil,List.length_nil]; omega
 | list l=>
  have:=qbQ (ps ", ") (ones l)
  rw [qcb,show (ones l).length=l.length by simp [ones],show wp (ps ", ")=3 from rfl] at this
  show wP ([ps "["]++btw (ps ", ") (ones l)++[ps "]"])<_
  rw [zl,zl]
  have e1:wP [ps "["]=2:=rfl
  have e2:wP [ps "]"]=2:=rfl
  simp only [wt,List.map,List.sum_nil,List.length_nil]; omega
 | record ls l h=>have:=qjJ ls l h; show wP (Q8 ls l)<_; simp only [wt]; omega
 | recur ls l h=>
  have:=qjJ ls l h
  show wP ([ps "rec "]++Q8 ls l)<_
  rw [zl]
  have e1:wP [ps "rec "]=5:=rfl
  simp only [wt]; omega
 | get1 ls a=>
  have:=ZX a 12; have:=qd0 ls
  show wP (atP a 12++jm ls)<_
  rw [zl]
  simp only [wt,zr,List.length_cons,List.length_nil]; omega
 | get2 ls a d=>
  have:=ZX a 12; have:=ZX d 12; have:=qd0 ls
  show wP (atP a 12++jm ls++[ps " ? "]++atP d 12)<_
  rw [zl,zl,zl]
  have e1:wP [ps " ? "]=4:=rfl
  simp only [wt,zr,List.length_cons,List.length_nil]; omega
 | app f x=>
  have:=ZX f 10; have:=ZX x 11
  show wP (atP f 10++[ps " "]++atP x 11)<_
  rw [zl,zl]
  have e1:wP [ps " "]=2:=rfl
  simp only [wt,zr,List.length_cons,List.length_nil]; omega
 | neg e=>
  have:=ZX e 9
  show wP ([ps "-"]++atP e 9)<_
  rw [zl]
  have e1:wP [ps "-"]=2:=rfl
  simp only [wt,zr,List.length_cons,List.length_nil]; omega
 | not e=>
  have:=ZX e 3
  show wP ([ps "not "]++atP e 3)<_
  rw [zl]
  have e1:wP [ps "not "]=5:=rfl
  simp only [wt,zr,List.length_cons,List.length_nil]; omega
 | has x e=>
  have:=ZX e 5
  show wP (atP e 5++[ps " has ",.l x])<_
  rw [zl]
  have e1:wP [ps " has ",.l x]=7+x.length:=by show 6+(1+x.length+0)=_; omega
  simp only [wt,zr,List.length_cons,List.length_nil,List.map,List.sum_cons,List.sum_nil]; omega
 | fn x e=>
  show 4+((1+x.length)+(3+(wt e+0)))<_
  simp only [wt,zr,List.length_cons,List.length_nil,List.map,List.sum_cons,List.sum_nil]; omega
 | fields l e=>
  have:=qbQ (ps ", ") (ones l)
  rw [qcb,show (ones l).length=l.length by simp [ones],show wp (ps ", ")=3 from rfl] at this
  show wP (fnP (l++[e]) [])<_
  rw [qas,zl,zl,List.append_nil]
  have e1:wP [ps "fn {"]=5:=rfl
  have e2:wP [ps "}: ",.t e]=4+wt e:=rfl
  simp only [wt,qa3,zr,List.length_append,List.length_cons,List.length_nil]; omega
 | opens l e=>
  have:=qbQ (ps ", ") (ones l++[[ps ".."]])
  rw [qng,qcb,List.length_append,show (ones l).length=l.length by simp [ones],show wp (ps ", ")=3 from rfl,show wG [[ps ".."]]=3 from rfl] at this
  show wP (fnP (l++[e]) [[ps ".."]])<_
  rw [qas,zl,zl]
  have e1:wP [ps "fn {"]=5:=rfl
  have e2:wP [ps "}: ",.t e]=4+wt e:=rfl
  simp only [wt,qa3,zr,List.length_append,List.length_cons,List.length_nil] at this ⊢; omega
 | param0 x=>show (1+x.length)+0<_; simp only [wt,zr,List.map,List.sum_cons,List.sum_nil,List.length_cons,List.length_nil]; omega
 | param1 x d=>
  show (1+x.length)+(4+(wt d+0))<_
  simp only [wt,zr,List.length_cons,List.length_nil,List.map,List.sum_cons,List.sum_nil]; omega
 | letIn ls l e h=>
  have:=qf4 ls l h
  rw [qdo,zl,zl]
  have e0:j7 ls (l++[e])=j7 ls l:=by unfold j7; rw [qgL ls l e h]
  have e1:wP [ps "let "]=5:=rfl
  have e2:wP [ps " in ",.t e]=5+wt e:=rfl
  rw [e0]
  simp only [wt,qa3,zr,List.length_append,List.length_cons,List.length_nil]; omega
 | cond a b c=>
  show 4+(wt a+(7+(wt b+(7+(wt c+0)))))<_
  simp only [wt,zr,List.length_cons,List.length_nil,List.map,List.sum_cons,List.sum_nil]; omega
 | must a b=>
  show 6+(wt a+(3+(wt b+0)))<_
  simp only [wt,zr,List.length_cons,List.length_nil,List.map,List.sum_cons,List.sum_nil]; omega
 | op o a b=>
  have:=ZX a o.leftRank; have:=ZX b o.rightRank
  show wP (atP a o.leftRank++[ps " ",.s (kindS (.op o)),ps " "]++atP b o.rightRank)<_
  rw [zl,zl]
  have e1:wP [ps " ",.s (kindS (.op o)),ps " "]<=8:=by cases o <;> decide +kernel
  simp only [wt,zr,List.length_cons,List.length_nil,List.map,List.sum_cons,List.sum_nil]; omega
theorem qY (k:Vastoa.Kind) (ls:List (List Nat)) (l:List VT):Vastoa.shown (.node k ls l)=Vastoa.shownNode k ls (Vastoa.shownKids l):=by rw [Vastoa.shown]
theorem qf7 {T:VT} (h:Shp T):Vastoa.shown T=qR (qG T):=by
 cases h with
 | piece x=>rw [qY]; show x.flatMap Vastoa.escaped=qR [.l (x.flatMap Vastoa.escaped)]; simp [qR,z0]
 | num x=>rw [qY]; show x=qR [.l x]; simp [qR,z0]
 | yes=>unfold Vastoa.shown Vastoa.shownKids; rfl
 | no=>unfold Vastoa.shown Vastoa.shownKids; rfl
 | none=>unfold Vastoa.shown Vastoa.shownKids; rfl
 | name x=>rw [qY]; show x=qR [.l x]; simp [qR,z0]
 | text l=>
  show _=qR ([ps "\""]++l.flatMap jx++[ps "\""])
  rw [zd,zd,qcq]
  rw [qY]; rfl
 | list l=>
  show _=qR ([ps "["]++btw (ps ", ") (ones l)++[ps "]"])
  rw [zd,zd,qa2,qeI]
  rw [qY]; rfl
 | record ls l h=>show _=qR (Q8 ls l); rw [qf2]; rw [qY]; rfl
 | recur ls l h=>show _=qR ([ps "rec "]++Q8 ls l); rw [zd,qf2]; rw [qY]; rfl
 | get1 ls a=>show _=qR (atP a 12++jm ls); rw [zd,QB,qbP]; rw [qY,zx]; rfl
 | get2 ls a d=>show _=qR (atP a 12++jm ls++[ps " ? "]++atP d 12); rw [zd,zd,zd,QB,QB,qbP]; rw [qY,zx]; rfl
 | app f x=>show _=qR (atP f 10++[ps " "]++atP x 11); rw [zd,zd,QB,QB]; rw [qY,zx]; rfl
 | neg e=>show _=qR ([ps "-"]++atP e 9); rw [zd,QB]; rw [qY,zx]; rfl
 | not e=>show _=qR ([ps "not "]++atP e 3); rw [zd,QB]; rw [qY,zx]; rfl
 | has x e=>
  show _=qR (atP e 5++[ps " has ",.l x])
  rw [zd,QB]; rw [qY,zx]
  show Vastoa.Kid.at_ (e.kind,Vastoa.shown e) 5++[32]++Vastoa.wHas++[32]++x=_
  simp [qR,z0,ps,bts,Vastoa.wHas]; rfl
 | fn x e=>
  rw [qY,zx]
  show Vastoa.wFn++[32]++x++[58,32]++Vastoa.shown e=qR [ps "fn ",.l x,ps ": ",.t e]
  simp [qR,z0,ps,bts,Vastoa.wFn]; rfl
 | fields l e=>show _=qR (fnP (l++[e]) []); rw [qhi _ [] [] rfl (by simp)]; rw [qY]; rfl
 | opens l e=>show _=qR (fnP (l++[e]) [[ps ".."]]); rw [qhi _ _ [[46,46]] rfl (by simp)]; rw [qY]; rfl
 | param0 x=>rw [qY]; show x=qR [.l x]; simp [qR,z0]
 | param1 x d=>
  rw [qY,zx]
  show x++[32,63,32]++Vastoa.shown d=qR [.l x,ps " ? ",.t d]
  simp [qR,z0,ps,bts]; rfl
 | letIn ls l e h=>
  rw [qdo,zd,zd,qdl]
  rw [qY]
  show Vastoa.wLet++[32]++Vastoa.shownBinds ls (Vastoa.shownKids (l++[e]))++[32]++Vastoa.wIn++[32]++(((Vastoa.shownKids (l++[e])).getLast?.map fun p=>p.2).getD [])=_
  rw [show ((Vastoa.shownKids (l++[e])).getLast?.map fun p=>p.2).getD []=Vastoa.shown e by rw [zx,List.getLast?_map,Z7]; rfl]
  simp [qR,z0,ps,bts,Vastoa.wLet,Vastoa.wIn]; rfl
 | cond a b c=>
  rw [qY,zx]
  show Vastoa.wIf++[32]++Vastoa.shown a++[32]++Vastoa.wThen++[32]++Vastoa.shown b++[32]++Vastoa.wElse++[32]++Vastoa.shown c=qR [ps "if ",.t a,ps " then ",.t b,ps " else ",.t c]
  simp [qR,z0,ps,bts,Vastoa.wIf,Vastoa.wThen,Vastoa.wElse]; rfl
 | must a b=>
  rw [qY,zx]
  show Vastoa.wMust++[32]++Vastoa.shown a++[59,32]++Vastoa.shown b=qR [ps "must ",.t a,ps "; ",.t b]
  simp [qR,z0,ps,bts,Vastoa.wMust]; rfl
 | op o a b=>
  show _=qR (atP a o.leftRank++[ps " ",.s (kindS (.op o)),ps " "]++atP b o.rightRank)
  rw [zd,zd,QB,QB]; rw [qY,zx]
  have e:qR [ps " ",.s (kindS (.op o)),ps " "]=[32]++o.sign++[32]:=by cases o <;> decide +kernel
  rw [e]
  show Vastoa.Kid.at_ (a.kind,Vastoa.shown a) o.leftRank++[32]++o.sign++[32]++Vastoa.Kid.at_ (b.kind,Vastoa.shown b) o.rightRank=_
  simp
end RT
end
section
namespace L2
open PySem PySem.Spec PyProof.Rows
theorem PE.weak {X:Cx} {e:Expr} {t t':TE} (h:PE X e t) (w:∀ σ H Q,t' σ H Q->t σ H Q):PE X e t':=fun pins s σ H Q I q=>h pins s σ H Q I (w σ H Q q)
theorem PA.weak {X:Cx} {es:List Expr} {t t':TA} (h:PA X es t) (w:∀ σ H Q,t' σ H Q->t σ H Q):PA X es t':=fun pos pins s σ H Q I q=>h pos pins s σ H Q I (w σ H Q q)
section
variable {X:Cx} {k:Nat} {pos apos cpos p:Pos} {fn o e g:Expr} {es:List Expr} {tf td ty tx:TE} {t:TA}
def qjK (P:Program) (w:World) (K:PySem.W.Frag) (mg:Str->Option Value) (base:Heap) (k:Nat) (tf:TE) (t:TA):TE:=fun σ H Q=>tf σ H fun x H1=>∃ f fd ps sp,x=.ref f/\qy P w K mg base CX0 k f fd ps sp/\PySem.W.keepIn K (.ref f)=true/\Binds K fd ps []/\t σ H1 fun vs H2=>sp vs H2 Q E0
theorem qkY (hf:PE X fn tf) (hr:qO k X.A) (ha:PA X (e::es) t) (hc:eval (.Call fn (e::es) [] pos) X.env=(do callWith pos (<- eval fn X.env) [] (backTo pos (starEach (e::es) X.env)) (backToKw pos (keywordEach [] X.env))):=by rfl)
  (he:starEach (e::es) X.env=(false,eval e X.env)::starEach es X.env:=by rfl) (hpl:(backTo pos (starEach es X.env)).any (·.1)=false:=by rfl):PE X (.Call fn (e::es) [] pos) (qjK X.prog X.w X.K X.mg X.base k tf t):=by
 intro pins s σ H Q I h
 refine Call_ (thn (hf pins s σ H _ I h) fun u s1 ⟨x,H1,I1,rx,f,fd,ps,sp,ex,F,hk,hb,q⟩=>?_) hc
 subst ex
 obtain rfl:u=Value.ref f:=rx
 refine PySem.W.callWith_K (h₀:=X.base) I1.ok.mod.kin hk (thn (ha pos pins s1 σ H1 _ I1 q) fun us s2 ⟨vs,H2,I2,r,q2⟩=>⟨I2.kIn,?_⟩) he hpl
 exact qbn F hr hb .nil qM I2 r (by rw [List.append_nil]; exact q2)
theorem qnh {pins:List (Addr × Obj)} {σ : St} {H:Hp} {s:Shared} {A:Around} {E:Value->Shared->Prop} {a:Addr} {kvs:List (Key × V)} {k:Key} {z:V} {u r:Value} {Q:Value->Shared->Prop} (I:Inv X pins σ H s) (d:QG X.prog X.w X.K a kvs) (ry:RelV (kV k) u) (rz:RelV z r) (h:∀ w' s',Inv X pins σ H s'->RelV ((zw kvs k).getD z) w'->Q w' s') :
  wpAny (model X.prog X.w) A (call (.builtin "dict.get") [.ref a,u,r]) Q E s:=by
 obtain ⟨hd,vs,rel,dd⟩:=d
 have dd:=dd _ I.kIn
 refine call_meetsIn PySem.F.slot_dict_get dd.typeIs PySem.F.entry_dict_get (PySem.F.args_dict_get_3 _ _ _) (meets_dict_get_default (zU X.prog X.w) a (qaF ry) hd r) ⟨_,dd.mapOf,h _ _ (I.tok _) ?_⟩
 exact (rel.val k).getD rz
def qni (P:Program) (w:World) (K:PySem.W.Frag) (td ty tx:TE):TE:=fun σ H Q=>td σ H fun x H1=>∃ a kvs,x=.ref a/\QG P w K a kvs/\ty σ H1 fun y H2=>∃ k,y=kV k/\tx σ H2 fun z H3=>Q ((zw kvs k).getD z) H3
theorem qkZ (ho:PE X o td) (he:PE X e ty) (hf:PE X g tx) (m:M2 X o "get" apos e g cpos):PE X (.Call (.Attribute o "get" apos) [e,g] [] cpos) (qni X.prog X.w X.K td ty tx):=by
 intro pins s σ H Q I h
 refine wpAny_Call_method m.base m.few m.line PySem.F.plainAttrs_dict PySem.F.slot_dict_get PySem.F.type_dict_get (thn (ho pins s σ H _ I h) fun u s1 ⟨x,H1,I1,rx,a,kvs,ex,d,q1⟩=>?_)
 subst ex
 obtain rfl:u=Value.ref a:=rx
 obtain ⟨t1,t2⟩:=qcF I1 d
 refine ⟨t1,t2,?_⟩
 rw [m.trees]
 refine Calls.callWith_builtin rfl (Calls.evalArgs_plain (Calls.spliced_cons (thn (he pins s1 σ H1 _ I1 q1) fun iv s2 ⟨y,H2,I2,ry,k,ey,q2⟩=>
  Calls.spliced_cons (thn (hf pins s2 σ H2 _ I2 q2) fun fv s3 ⟨z,H3,I3,rz,q3⟩=>Calls.spliced_nil ?_))))
 subst ey
 exact qnh I3 d ry rz fun w' s4 I4 rw'=>⟨_,H3,I4,rw',q3⟩
def qnJ (K:PySem.W.Frag) (c:Value) (te:TE):TE:=fun σ H Q=>te σ H fun x H1=>∃ t b,ZI K H1 x t/\PySem.W.kitOne K t c=some b/\Q (.bl b) H1
theorem qhj {c:Value} {cn:Str} {p2:Pos} {te:TE} (he:PE X e te) (hm:X.mg "isinstance" = none)
  (hc:∀ (pins:List (Addr × Obj)) (s:Shared) (σ : St) (H:Hp) (Q:Value->Shared->Prop),Inv X pins σ H s->Q c s->wpAny (model X.prog X.w) X.A (eval (.Name cn p2) X.env) Q X.xe s) (hg:Gl X "isinstance":=by rfl)
  (hs:starEach [e,.Name cn p2] X.env=[(false,eval e X.env),(false,eval (.Name cn p2) X.env)]:=by rfl):PE X (.Call (.Name "isinstance" p) [e,.Name cn p2] [] pos) (qnJ X.K c te):=by
 intro pins s σ H Q I h
 refine Call_ (Jp I hg hm (by decide +kernel:bootBuiltins "isinstance" = some (.builtin "isinstance")) ?_)
 rw [hs]
 refine Calls.callWith_builtin rfl (Calls.evalArgs_plain (Calls.spliced_cons (thn (he pins s σ H _ I h) fun u s1 ⟨x,H1,I1,rx,t,b,ty,ek,q⟩=>
  Calls.spliced_cons (hc pins s1 σ H1 _ I1 (Calls.spliced_nil ?_)))))
 exact qiH I1 rx ty ek fun tk=>⟨.bl b,H1,I1.tok _,rfl,q⟩
end
end L2
end
section
namespace RT
open PySem PySem.Spec PyProof.Rows L2
theorem qjL {M:Addr->Prop} {H H':Hp} (s:qE H H'):Pass M H M H':=fun b o e n=>⟨s b o e,n⟩
theorem qp.s {a:Ad} {M:Addr->Prop} {H H':Hp} (s:qE H H') {l:List VT} {ks:List Addr} (h:qp a M H l ks):qp a M H' l ks:=qp.pass (qjL s) _ _ h
theorem qI.s {a:Ad} {M:Addr->Prop} {H H':Hp} (s:qE H H') {T:VT} {t:Addr} (h:qI a M H T t):qI a M H' T t:=qI.pass (qjL s) _ _ h
theorem same_none {H H':Hp} (s:qE H H') {p:Addr} (h:H' p=none):H p=none:=by
 cases e:H p with
 | none=>rfl
 | some o=>rw [s _ _ e] at h; cases h
def qbR (a:Ad) (M:Addr->Prop) (H:Hp):Pt->V->Prop
 | .s x,v=>v=.str x
 | .t T,v=>∃ u,v=.ref u/\qI a M H T u
 | .l b,v=>∃ u,v=.ref u/\H u=some (.lst (nt b))/\¬ M u
theorem qbR.s {a:Ad} {M:Addr->Prop} {H H':Hp} (s:qE H H'):∀ {x:Pt} {v:V},qbR a M H x v->qbR a M H' x v
 | .s _,_,h=>h
 | .t _,_,⟨u,e,h⟩=>⟨u,e,h.s s⟩
 | .l _,_,⟨u,e,h,n⟩=>⟨u,e,s _ _ h,n⟩
def Parts (a:Ad) (M:Addr->Prop) (H:Hp) (L:List Pt) (vs:List V):Prop:=Paired (fun v x=>qbR a M H x v) vs L
theorem Parts.s {a:Ad} {M:Addr->Prop} {H H':Hp} (s:qE H H') {L:List Pt} {vs:List V} (h:Parts a M H L vs):Parts a M H' L vs:=qX (fun _ _ q=>q.s s) h
theorem Parts.app {a:Ad} {M:Addr->Prop} {H:Hp}:∀ {L L':List Pt} {vs ws:List V},Parts a M H L vs->Parts a M H L' ws->Parts a M H (L++L') (vs++ws)
 | _,_,_,_,.nil,h=>h
 | _,_,_,_,.cons q r,h=>.cons q (Parts.app r h)
def qat (a:Ad) (M:Addr->Prop) (H:Hp) (v:V) (g:List Pt):Prop:=∃ p ws,v=.ref p/\H p=some (.lst ws)/\Parts a M H g ws
theorem qat.s {a:Ad} {M:Addr->Prop} {H H':Hp} (s:qE H H') {v:V} {g:List Pt}:qat a M H v g->qat a M H' v g:=fun ⟨p,ws,e,h,q⟩=>⟨p,ws,e,s _ _ h,q.s s⟩
def Z8 (a:Ad) (M:Addr->Prop) (H:Hp) (gs:List (List Pt)) (gv:List V):Prop:=Paired (qat a M H) gv gs
theorem Z8.s {a:Ad} {M:Addr->Prop} {H H':Hp} (s:qE H H') {gs:List (List Pt)} {gv:List V} (h:Z8 a M H gs gv):Z8 a M H' gs gv:=qX (fun _ _ q=>q.s s) h
abbrev NP:=L2.St->Hp->Prop
def qf8 (N:NP):Prop:=∀ σ H H',qE H H'->N σ H->N σ H'
def jo (a:Ad) (M:Addr->Prop) (T:VT):NP:=fun σ H=>∃ t,σ[0]? = some (some (.ref t))/\qI a M H T t
theorem jD {a:Ad} {M:Addr->Prop} {T:VT}:qf8 (jo a M T):=fun _ _ _ s ⟨t,e,h⟩=>⟨t,e,h.s s⟩
def tMk (a:Ad) (M:Addr->Prop) (N:NP) (L:List Pt):TE:=fun σ H Q=>N σ H/\∀ H' p vs,qE H H'->H p=none->H' p=some (.lst vs)->Parts a M H' L vs->Q (.ref p) H'
def tIt (a:Ad) (M:Addr->Prop) (N:NP) (x:Pt):TE:=fun σ H Q=>N σ H/\∀ v,qbR a M H x v->Q v H
def qic (a:Ad) (M:Addr->Prop) (N:NP) (xs:List Pt):TA:=fun σ H Q=>N σ H/\∀ vs,Parts a M H xs vs->Q vs H
def tGr (a:Ad) (M:Addr->Prop) (N:NP) (gs:List (List Pt)):TE:=fun σ H Q=>N σ H/\∀ H' p gv,qE H H'->H p=none->H' p=some (.lst gv)->Z8 a M H' gs gv->Q (.ref p) H'
def Bd:Nat:=16000000
theorem Zx:Bd<sizeLine:=by decide
def atV (U:VT) (r:Nat) (u:Addr):List V:=if U.kind.rank<r then [.str "(",.ref u,.str ")"] else [.ref u]
theorem qa4 {a:Ad} {M:Addr->Prop} {H:Hp} {U:VT} {r:Nat} {u:Addr} (h:qI a M H U u):Parts a M H (atP U r) (atV U r u):=by
 unfold atP atV
 split
 ·exact .cons rfl (.cons ⟨u,rfl,h⟩ (.cons rfl .nil))
 ·exact .cons ⟨u,rfl,h⟩ .nil
def qbS (a:Ad):Sp:=fun vs H Q E=>∃ (M:Addr->Prop) (u:Addr) (U:VT) (r:Nat),vs=[.ref u,.int r]/\qI a M H U u/\∀ H' p,qE H H'->H p=none->H' p=some (.lst (atV U r u))->Q (.ref p) H'
def qcc (a:Ad):Sp:=fun vs H Q E=>∃ (M:Addr->Prop) (g:Addr) (gs:List (List Pt)) (gv:List V) (x:Str),vs=[.ref g,.str x]/\H g=some (.lst gv)/\Z8 a M H gs gv/\(btw (.s x) gs).length<=Bd /\
 ∀ H' p ws,qE H H'->H p=none->H' p=some (.lst ws)->Parts a M H' (btw (.s x) gs) ws->Q (.ref p) H'
def spL (a:Ad) (Sh:VT->Prop) (Lf:VT->List Pt):Sp:=fun vs H Q E=>∃ (M:Addr->Prop) (t:Addr) (T:VT),vs=[.ref t]/\qI a M H T t/\Sh T/\(Lf T).length<=Bd/\∀ H' p ws,qE H H'->H p=none->H' p=some (.lst ws)->Parts a M H' (Lf T) ws->Q (.ref p) H'
section
variable {X:Cx} {a:Ad} {M:Addr->Prop} {N:NP} {e e1 e2:Expr} {es:List Expr} {x:Pt} {xs L L1 L2:List Pt} {gs:List (List Pt)} {pos p p2:Pos} {k:Nat} {U:VT}
theorem le_app {A C:List Pt} (h:(A++C).length<=Bd):A.length<=Bd:=by rw [List.length_append] at h; omega
theorem qau {A C:List Pt} (h:(A++C).length<=Bd):C.length<=Bd:=by rw [List.length_append] at h; omega
theorem zj:PA X [] (qic a M N []):=qh.weak fun σ H Q h=>h.2 [] .nil
theorem qA (he:PE X e (tIt a M N x)) (hr:PA X es (qic a M N xs)) (hs:starEach (e::es) X.env=(false,eval e X.env)::starEach es X.env:=by rfl):PA X (e::es) (qic a M N (x::xs)) :=
 (qa he hr hs).weak fun σ H Q h=>⟨h.1,fun v hv=>⟨h.1,fun vs hvs=>h.2 _ (.cons hv hvs)⟩⟩
theorem zt {x:Str} {j}:PE X (.Constant (.str x) j pos) (tIt a M N (.s x)):=qJ.weak fun σ H Q h=>h.2 _ rfl
theorem zA (h:PA X es (qic a M N L)) (hl:L.length<=1000:=by exact Nat.le_of_ble_eq_true rfl):PE X (.List es pos) (tMk a M N L) :=
 (qW h).weak fun σ H Q h=>⟨h.1,fun vs hvs=>⟨by rw [Paired.length hvs]; exact Nat.le_of_lt (QK hl),fun p hp=>h.2 _ p vs (qr hp) hp qc (hvs.s (qr hp))⟩⟩
theorem jE (sN:qf8 N) (h1:PE X e1 (tMk a M N L1)) (h2:PE X e2 (tMk a M N L2)) (hl:(L1++L2).length<=Bd):PE X (.BinOp e1 .Add e2 pos) (tMk a M N (L1++L2)) :=
 (QQ qiN h1 h2).weak fun σ H Q h=>⟨h.1,fun H1 p1 v1 s1 f1 q1 r1=>⟨sN _ _ _ s1 h.1,fun H2 p2 v2 s2 f2 q2 r2=>⟨p1,p2,v1,v2,rfl,rfl,s2 _ _ q1,q2,by
   rw [Paired.length r1,Paired.length r2,<- List.length_append]; exact Nat.le_of_lt (Nat.lt_of_le_of_lt hl Zx),fun p hp=>
  h.2 _ p _ (s1.trans (s2.trans (qr hp))) (same_none (s1.trans s2) hp) qc (Parts.app (r1.s (s2.trans (qr hp))) (r2.s (qr hp)))⟩⟩⟩
theorem qa5 (G:FnAt X.prog X.w X.K X.mg X.base CX0 k "at" ["kid","rank"] (qbS a)) (hr:qO k X.A) {te:TE} {r:Nat} (hk:PE X e (tIt a M N (.t U))) (h2:PE X e2 te) (w:∀ σ H Q,N σ H->Q (.int (r:Nat)) H->te σ H Q)
  (hg:Gl X "at":=by rfl) (he:starEach [e,e2] X.env=(false,eval e X.env)::starEach [e2] X.env:=by rfl) (he2:starEach [e2] X.env=(false,eval e2 X.env)::starEach [] X.env:=by rfl) (hpl:(backTo pos (starEach [e2] X.env)).any (·.1)=false:=by rfl) :
  PE X (.Call (.Name "at" p) [e,e2] [] pos) (tMk a M N (atP U r)) :=
 (za G hr qM (qa hk (qa h2 qh he2) he) hg (by decide) he hpl).weak fun σ H Q h=>⟨h.1,fun v ⟨u,ev,hu⟩=>w _ _ _ h.1 ⟨M,u,U,r,by rw [ev]; rfl,hu,fun H' p s f q=>h.2 H' p _ s f q (qa4 (hu.s s))⟩⟩
theorem qjM (G:FnAt X.prog X.w X.K X.mg X.base CX0 k "put_between" ["groups","mark"] (qcc a)) (hr:qO k X.A) {x:Str} {j} (hk:PE X e (tGr a M N gs)) (hl:(btw (.s x) gs).length<=Bd)
  (hg:Gl X "put_between":=by rfl) (he:starEach [e,.Constant (.str x) j p2] X.env=(false,eval e X.env)::starEach [.Constant (.str x) j p2] X.env:=by rfl) (he2:starEach [.Constant (.str x) j p2] X.env=(false,eval (.Constant (.str x) j p2) X.env)::starEach [] X.env:=by rfl) (hpl:(backTo pos (starEach [.Constant (.str x) j p2] X.env)).any (·.1)=false:=by rfl) :
  PE X (.Call (.Name "put_between" p) [e,.Constant (.str x) j p2] [] pos) (tMk a M N (btw (.s x) gs)) :=
 (za G hr qM (qa hk (qa qJ qh he2) he) hg (by decide) he hpl).weak fun σ H Q h=>⟨h.1,fun H1 g gv s1 f1 q1 r1=>⟨M,g,gs,gv,x,rfl,q1,r1,hl,fun H' p ws s f q r=>h.2 H' p ws (s1.trans s) (same_none s1 f) q r⟩⟩
theorem qmk (G:FnAt X.prog X.w X.K X.mg X.base CX0 k "put_between" ["groups","mark"] (qcc a)) (hr:qO k X.A) {te:TE} {x:Str} {j} (hk:PE X e te) (w:∀ σ H Q,N σ H->(∀ g gv,H g=some (.lst gv)->Z8 a M H gs gv->Q (.ref g) H)->te σ H Q) (hl:(btw (.s x) gs).length<=Bd)
  (hg:Gl X "put_between":=by rfl) (he:starEach [e,.Constant (.str x) j p2] X.env=(false,eval e X.env)::starEach [.Constant (.str x) j p2] X.env:=by rfl) (he2:starEach [.Constant (.str x) j p2] X.env=(false,eval (.Constant (.str x) j p2) X.env)::starEach [] X.env:=by rfl) (hpl:(backTo pos (starEach [.Constant (.str x) j p2] X.env)).any (·.1)=false:=by rfl) :
  PE X (.Call (.Name "put_between" p) [e,.Constant (.str x) j p2] [] pos) (tMk a M N (btw (.s x) gs)) :=
 (za G hr qM (qa hk (qa qJ qh he2) he) hg (by decide) he hpl).weak fun σ H Q h=>w _ _ _ h.1 fun g gv q1 r1=>⟨M,g,gs,gv,x,rfl,q1,r1,hl,fun H' p ws s f q r=>h.2 H' p ws s f q r⟩
theorem qf9 {fn:Str} {Sh:VT->Prop} {Lf:VT->List Pt} {T:VT} {ty:Pos} {n:Str} (G:FnAt X.prog X.w X.K X.mg X.base CX0 k fn ["node"] (spL a Sh Lf)) (hr:qO k X.A) (hS:Sh T) (hl:(Lf T).length<=Bd)
  (hv:PE X (.Name n ty) (zS 0)) (hg:Gl X fn:=by rfl) (hdb:(fn == ("__debug__" : Str))=false:=by decide) (he:starEach [.Name n ty] X.env=(false,eval (.Name n ty) X.env)::starEach [] X.env:=by rfl) :
  PE X (.Call (.Name fn p) [.Name n ty] [] pos) (tMk a M (jo a M T) (Lf T)) :=
 (za G hr qM (qa hv qh he) hg hdb he rfl).weak fun σ H Q ⟨⟨t,et,ht⟩,h⟩=>⟨.ref t,et,M,t,T,rfl,ht,hS,hl,h⟩
variable {kd:Vastoa.Kind} {ls:List (List Nat)} {l:List VT}
def qid (a:Ad) (M:Addr->Prop) (N:NP) (l:List VT):TE:=fun σ H Q=>N σ H/\∀ ka ks,H ka=some (.lst (ks.map V.ref))->qp a M H l ks->Q (.ref ka) H
def qlo (M:Addr->Prop) (N:NP) (ls:List (List Nat)):TE:=fun σ H Q=>N σ H/\∀ la lb,H la=some (.lst (lb.map V.ref))->qaq M H lb ls->Q (.ref la) H
theorem Qp (hN:∀ σ H,N σ H->jo a M (.node kd ls l) σ H) (c:Cls X.K a.Node) (n:qx X.K a.Node "kids") (h:PE X e (JV X.K (zS 0) "kids")):PE X e (qid a M N l) :=
 h.weak fun σ H Q ⟨hn,q⟩=>by
  obtain ⟨t,et,ht⟩:=hN _ _ hn
  unfold qI at ht
  obtain ⟨dx,la,ka,lb,ks,h1,h2,h3,h4,h5⟩:=ht
  exact ⟨_,et,t,_,dx,_,_,rfl,h1.1,c,n,QN _ _ _ _,q ka ks h4.1 h5⟩
theorem qcL (hN:∀ σ H,N σ H->jo a M (.node kd ls l) σ H) (c:Cls X.K a.Node) (n:qx X.K a.Node "labels") (h:PE X e (JV X.K (zS 0) "labels")):PE X e (qlo M N ls) :=
 h.weak fun σ H Q ⟨hn,q⟩=>by
  obtain ⟨t,et,ht⟩:=hN _ _ hn
  unfold qI at ht
  obtain ⟨dx,la,ka,lb,ks,h1,h2,h3,h4,h5⟩:=ht
  exact ⟨_,et,t,_,dx,_,_,rfl,h1.1,c,n,J6 _ _ _ _,q la lb h2.1 h3⟩
theorem qk0 (hN:∀ σ H,N σ H->jo a M (.node kd ls l) σ H) (c:Cls X.K a.Node) (n:qx X.K a.Node "kind") (h:PE X e (JV X.K (zS 0) "kind")):PE X e (tIt a M N (.s (kindS kd))) :=
 h.weak fun σ H Q ⟨hn,q⟩=>by
  obtain ⟨t,et,ht⟩:=hN _ _ hn
  unfold qI at ht
  obtain ⟨dx,la,ka,lb,ks,h1,h2,h3,h4,h5⟩:=ht
  exact ⟨_,et,t,_,dx,_,_,rfl,h1.1,c,n,j4 _ _ _ _,q _ rfl⟩
theorem Zm {H:Hp} {i:Nat} (hi:l[i]? = some U) {ks:List Addr} (h:qp a M H l ks):∃ u,ks[i]? = some u/\qI a M H U u:=by
 obtain ⟨u,e1,e2⟩:=zR (qT.mp h) hi
 exact ⟨u,e1,e2⟩
theorem qga {i:Nat} {ti:TE} (hk:PE X e (qid a M N l)) (h2:PE X e2 ti) (w:∀ σ H Q,Q (.int (i:Nat)) H->ti σ H Q) (hi:l[i]? = some U) (hs:qb0 e2):PE X (.Subscript e e2 pos) (tIt a M N (.t U)) :=
 (jz zH hk h2 hs).weak fun σ H Q ⟨hn,q⟩=>⟨hn,fun ka ks h1 h3=>w _ _ _ (by
  obtain ⟨u,e1,e2⟩:=Zm hi h3
  exact ⟨ka,_,_,_,rfl,rfl,SqL.of h1,jJ (j:=i) (v:=V.ref u) (by rw [List.getElem?_map,e1]; rfl),q _ ⟨u,rfl,e2⟩⟩)⟩
theorem qhk {ti:TE} (hk:PE X e (qid a M N l)) (h2:PE X e2 ti) (w:∀ σ H Q,Q (.int (-1)) H->ti σ H Q) (hi:l.getLast? = some U) (hs:qb0 e2):PE X (.Subscript e e2 pos) (tIt a M N (.t U)) :=
 (jz zH hk h2 hs).weak fun σ H Q ⟨hn,q⟩=>⟨hn,fun ka ks h1 h3=>w _ _ _ (by
  have hl:ks.length=l.length:=Paired.length (qT.mp h3)
  have hne:l≠[]:=fun y=>by rw [y] at hi; cases hi
  have hpos:0<l.length:=List.length_pos_iff.mpr hne
  rw [List.getLast?_eq_getElem?] at hi
  obtain ⟨u,e1,e2⟩:=Zm hi h3
  have e3:ks=ks.dropLast++[u]:=by
   have hn':ks≠[]:=fun y=>by rw [y] at hl; simp at hl; omega
   have:=List.dropLast_concat_getLast hn'
   rw [List.getLast_eq_getElem] at this
   have hq:ks[ks.length - 1]'(by omega)=u:=by
    rw [<- hl] at e1
    exact (List.getElem?_eq_some_iff.mp e1).2
   rw [hq] at this
   exact this.symm
  refine ⟨ka,_,_,_,rfl,rfl,SqL.of h1,?_,q (V.ref u) ⟨u,rfl,e2⟩⟩
  rw [e3,List.map_append]
  exact qaD _ _)⟩
theorem qnj {i:Nat} {ti:TE} {b:List Nat} (hk:PE X e (qlo M N ls)) (h2:PE X e2 ti) (w:∀ σ H Q,Q (.int (i:Nat)) H->ti σ H Q) (hi:ls[i]? = some b) (hs:qb0 e2):PE X (.Subscript e e2 pos) (tIt a M N (.l b)) :=
 (jz zH hk h2 hs).weak fun σ H Q ⟨hn,q⟩=>⟨hn,fun la lb h1 h3=>w _ _ _ (by
  obtain ⟨u,e1,e2⟩:=zR h3 hi
  exact ⟨la,_,_,_,rfl,rfl,SqL.of h1,jJ (j:=i) (v:=V.ref u) (by rw [List.getElem?_map,e1]; rfl),q _ ⟨u,rfl,e2⟩⟩)⟩
theorem Zi (i:Nat) {n:Str} {j} {p1 p3:Pos} (c:Cls X.K a.Node) (nk:qx X.K a.Node "kids") (hi:l[i]? = some U) (hv:PE X (.Name n p) (zS 0)) (hb:attributeBase (.Name n p) "kids" X.env (eval (.Name n p) X.env)=eval (.Name n p) X.env:=by rfl) :
  PE X (.Subscript (.Attribute (.Name n p) "kids" p1) (.Constant (.int (i:Nat)) j p3) pos) (tIt a M (jo a M (.node kd ls l)) (.t U)) :=
 qga (i:=i) (Qp (fun _ _ h=>h) c nk (qj hv hb)) qw (fun _ _ _ h=>h) hi (fun _ _=>rfl)
theorem qcd {b:List Nat} (i:Nat) {n:Str} {j} {p1 p3:Pos} (c:Cls X.K a.Node) (nk:qx X.K a.Node "labels") (hi:ls[i]? = some b) (hv:PE X (.Name n p) (zS 0)) (hb:attributeBase (.Name n p) "labels" X.env (eval (.Name n p) X.env)=eval (.Name n p) X.env:=by rfl) :
  PE X (.Subscript (.Attribute (.Name n p) "labels" p1) (.Constant (.int (i:Nat)) j p3) pos) (tIt a M (jo a M (.node kd ls l)) (.l b)) :=
 qnj (i:=i) (qcL (fun _ _ h=>h) c nk (qj hv hb)) qw (fun _ _ _ h=>h) hi (fun _ _=>rfl)
theorem qnk {n:Str} {j} {p1 p3 p4:Pos} (c:Cls X.K a.Node) (nk:qx X.K a.Node "kids") (hi:l.getLast? = some U) (hv:PE X (.Name n p) (zS 0)) (hb:attributeBase (.Name n p) "kids" X.env (eval (.Name n p) X.env)=eval (.Name n p) X.env:=by rfl) :
  PE X (.Subscript (.Attribute (.Name n p) "kids" p1) (.UnaryOp .USub (.Constant (.int 1) j p3) p4) pos) (tIt a M (jo a M (.node kd ls l)) (.t U)) :=
 qhk (Qp (fun _ _ h=>h) c nk (qj hv hb)) (qaB Js qw) (fun _ _ _ h=>⟨_,rfl,h⟩) hi (fun _ _=>rfl)
end
end RT
end
section
namespace L2
open PySem PySem.Spec PyProof.Rows
theorem qk1 {K:PySem.W.Frag} {a:Addr} {xs:List V} {g:TG} {tb:TS} {D:Ends} {σ : L2.St} {H:Hp} (Pv:Nat->L2.St->Hp->Prop) (h0:Pv 0 σ H) (hl:∀ i σ H,i<=xs.length->Pv i σ H->SqL K H a xs)
  (hs:∀ i x σ H T,xs[i]? = some x->Pv i σ H->H T=none->g (.ref T) σ (upd H T (.tup [.int (i:Nat),x])) fun σ2 H2=>tb { D with nx:=Pv (i+1),ct:=Pv (i+1),bk:=D.nx } σ2 H2) (hd:∀ σ H,Pv xs.length σ H->D.nx σ H) :
  ∃ W:Nat->Nat->L2.St->Hp->Prop,(∃ m,W 0 m σ H)/\∀ i m σ H,W i m σ H ->
   ((Ite K a).stop i H/\D.nx σ H) \/ ((Ite K a).go i H/\∃ N:L2.St->Hp->Prop,(∀ σ' H',N σ' H'->∃ m',m'<m/\W (i+1) m' σ' H')/\∀ x H',(Ite K a).yld i H x H'->g x σ H' fun σ2 H2=>tb { D with nx:=N,ct:=N,bk:=D.nx } σ2 H2):=by
 refine ⟨fun i m σ H=>m=xs.length - i/\i<=xs.length/\Pv i σ H,⟨xs.length,by simp,Nat.zero_le _,h0⟩,?_⟩
 rintro i m σ H ⟨rfl,hi,p⟩
 have q:=hl i σ H hi p
 by_cases hlt:i<xs.length
 ·refine .inr ⟨⟨xs,xs[i],q,by simp [hlt]⟩,Pv (i+1),fun σ' H' p'=>⟨xs.length - (i+1),by omega,rfl,hlt,p'⟩,fun x H' y=>?_⟩
  obtain ⟨T,z,rfl,hT,rfl,y⟩:=y
  exact hs i z σ _ T (y xs q) p hT
 ·have e:i=xs.length:=by omega
  subst e
  exact .inl ⟨⟨xs,q,Nat.le_refl _⟩,hd σ H p⟩
theorem qnl {K:PySem.W.Frag} {a b:Addr} {xs ys:List V} (hxy:xs.length<=ys.length) {g:TG} {tt:TT} {te:TE} {vs:List Nat} {σ : L2.St} {H1:Hp} {D:Addr} {Qd:Hp->Prop} (Pv:Nat->Hp->Prop) (h0:Pv 0 (upd H1 D (.lst []))) (hl:∀ i H,i<=xs.length->Pv i H->SqL K H a xs/\SqL K H b ys)
  (hs:∀ i x y H T,xs[i]? = some x->ys[i]? = some y->Pv i H->H T=none->g (.ref T) (wipe σ vs) (upd H T (.tup [x,y])) fun σ2 H2=>wipe σ2 vs=wipe σ vs/\tt σ2 H2 fun b H3=>
   if b=true then te σ2 H3 fun y H4=>∃ acc,H4 D=some (.lst acc)/\acc.length<sizeLine/\Pv (i+1) (upd H4 D (.lst (acc++[y]))) else Pv (i+1) H3) (hd:∀ H,Pv xs.length H->Qd H) :
  ∃ W:Nat->Nat->Hp->Prop,(∃ m,W 0 m (upd H1 D (.lst [])))/\∀ i m H,W i m H ->
   ((Itz K a b).stop i H/\Qd H) \/ ((Itz K a b).go i H/\∃ Nx:Hp->Prop,(∀ H',Nx H'->∃ m',m'<m/\W (i+1) m' H')/\∀ x H',(Itz K a b).yld i H x H'->g x (wipe σ vs) H' fun σ2 H2=>wipe σ2 vs=wipe σ vs/\tt σ2 H2 fun b H3=>
    if b=true then te σ2 H3 fun y H4=>∃ acc,H4 D=some (.lst acc)/\acc.length<sizeLine/\Nx (upd H4 D (.lst (acc++[y]))) else Nx H3):=by
 refine ⟨fun i m H=>m=xs.length - i/\i<=xs.length/\Pv i H,⟨xs.length,by simp,Nat.zero_le _,h0⟩,?_⟩
 rintro i m H ⟨rfl,hi,p⟩
 obtain ⟨q,q2⟩:=hl i H hi p
 by_cases hlt:i<xs.length
 ·have hly:i<ys.length:=by omega
  refine .inr ⟨⟨xs,ys,xs[i],ys[i],q,q2,by simp [hlt],by simp [hly]⟩,Pv (i+1),fun H' p'=>⟨xs.length - (i+1),by omega,rfl,hlt,p'⟩,fun x H' y=>?_⟩
  obtain ⟨T,z,z',rfl,hT,rfl,y,y'⟩:=y
  exact hs i z z' _ T (y xs q) (y' ys q2) p hT
 ·have e:i=xs.length:=by omega
  subst e
  exact .inl ⟨⟨xs,ys,q,q2,.inl (Nat.le_refl _)⟩,hd H p⟩
end L2
namespace RT
open PySem PySem.Spec PyProof.Rows L2
def ZY:List (Key × V):=([("fn",0),("fields",0),("fields..",0),("let",0),("if",0),("must",0),("or",1),("and",2),("not",3),("==",4),("!=",4),("<",4),("<=",4),("has",4),("//",5),("++",6),("+",7),("-",7),("*",8),("neg",9),("app",10),("get",11)]:List (String × Int)).map fun p=>(Sum.inr (Str.ofString p.1),V.int p.2)
def qdp:List Str:=["or","and","+","-","*"].map Str.ofString
def JI:List Str:=["//","++"].map Str.ofString
structure Ap where
 ranks:Addr
 left:Addr
 right:Addr
structure Tp (P:Program) (w:World) (K:PySem.W.Frag) (mg:Str->Option Value) (r:Ap):Prop where
 gR:GlV mg "RANKS" (.ref r.ranks)
 dR:QG P w K r.ranks ZY
 gH:GlV mg "HIGHEST_RANK" (.int 12)
 gL:GlV mg "GATHERED_FROM_LEFT" (.ref r.left)
 tL:qaP K r.left (qdp.map V.str)
 gG:GlV mg "GATHERED_FROM_RIGHT" (.ref r.right)
 tG:qaP K r.right (JI.map V.str)
 bE:mg "enumerate" = none
 bZ:mg "zip" = none
 bI:mg "isinstance" = none
 bS:mg "str" = none
theorem qk2 (k:Vastoa.Kind):(zw ZY (Sum.inr (kindS k))).getD (.int 12)=.int (k.rank:Nat):=by
 cases k with
 | op o=>cases o <;> kernel_rfl
 | _=>kernel_rfl
section
variable {P:Program} {w:World} {K:PySem.W.Frag} {mg:Str->Option Value} {base:Heap} {f:Addr} {fd:FuncData} {a:Ad} {r:Ap}
theorem qnK:qm ["kid","rank"] ["kid","rank"] (qe qdI):=⟨rfl,rfl,rfl,by decide +kernel,rfl,by decide +kernel,by decide +kernel⟩
theorem qnL (F:Fun K "at" "at" qdI f fd) (T:Tx P w K mg a) (R:Tp P w K mg r):qy P w K mg base CX0 1 f fd ["kid","rank"] (qbS a):=by
 refine F.ok qnK (fun vs H Q E h=>?_) (fun cdv A outer s H vs Q E hr h=>?_)
 ·obtain ⟨M,u,U,n,rfl,_⟩:=h; rfl
 ·obtain ⟨M,u,U,n,rfl,hU,k⟩:=h
  refine ⟨_,qi (qU (qL qhB (qkZ (qN R.gR) (qj (pv 0) rfl) (qN R.gH) ⟨rfl,rfl,rfl,rfl⟩) (pv 1) (qV _)) (qf (qF (qW (qa qJ (qa (pv 0) (qa qJ qh)))))) zm)
   (qf (qF (qW (qa (pv 0) qh)))),?_⟩
  cases U with
  | node kd ls l=>
  have hU':=hU
  unfold qI at hU'
  obtain ⟨dx,la,ka,lb,ks,⟨h1,_⟩,_⟩:=hU'
  refine ⟨r.ranks,_,rfl,R.dR,_,rfl,u,_,dx,_,_,rfl,h1,T.c_Node,T.n_Node_kind,j4 _ _ _ _,Sum.inr (kindS kd),rfl,_,rfl,_,_,qk2 kd,rfl,_,rfl,zZ (fun e=>?_) fun e=>?_⟩
  ·have e:kd.rank<n:=by have:=of_decide_eq_true e; omega
   refine ⟨_,rfl,(by show 3<=sizeLine; decide),fun p hp=>k _ p (qr hp) hp ?_⟩
   unfold atV
   rw [if_pos (show (Vastoa.Tree.node kd ls l).kind.rank<n from e)]
   exact qc
  ·have e:¬ kd.rank<n:=fun y=>e (decide_eq_true (by omega))
   refine ⟨_,rfl,(by show 1<=sizeLine; decide),fun p hp=>k _ p (qr hp) hp ?_⟩
   unfold atV
   rw [if_neg (show ¬ (Vastoa.Tree.node kd ls l).kind.rank<n from e)]
   exact qc
theorem qk3 {m:Pt} {gs:List (List Pt)} {i:Nat} {g:List Pt} (h:gs[i]? = some g):btw m (gs.take (i+1))=btw m (gs.take i)++((if 0<i then [m] else [])++g):=by
 induction gs generalizing i with
 | nil=>cases h
 | cons x gs ih=>
  cases i with
  | zero=>cases h; simp [btw]
  | succ i=>
   have h:gs[i]? = some g:=by simpa using h
   have:=ih h
   rw [List.take_succ_cons,List.take_succ_cons,if_pos (Nat.succ_pos i)]
   cases hg:gs with
   | nil=>rw [hg] at h; cases h
   | cons y gs'=>
    rw [hg] at this
    show x++(m::btw m (y::gs'.take i))=_
    rw [List.take_succ_cons] at this
    rw [this]
    cases i with
    | zero=>simp [btw]
    | succ i=>
     rw [List.take_succ_cons,if_pos (Nat.succ_pos i)]
     show _=(x++(m::btw m (y::gs'.take i)))++_
     simp
theorem qjN (m:Pt):∀ (gs:List (List Pt)) (i:Nat),(btw m (gs.take i)).length<=(btw m gs).length
 | [],i=>by simp
 | [x],0=>by simp [btw]
 | [x],i+1=>by simp
 | x::y::gs,0=>by simp [btw]
 | x::y::gs,1=>by simp [btw]
 | x::y::gs,i+2=>by
  have:=qjN m (y::gs) (i+1)
  rw [List.take_succ_cons] at this ⊢
  rw [List.take_succ_cons]
  show (x++(m::btw m (y::gs.take i))).length<=(x++(m::btw m (y::gs))).length
  rw [List.length_append,List.length_append,List.length_cons,List.length_cons]
  omega
theorem Q5:qm ["groups","mark","parts","k","group"] ["groups","mark"] (qe jR):=⟨rfl,rfl,rfl,by decide +kernel,rfl,by decide +kernel,by decide +kernel⟩
theorem qd2 (F:Fun K "put_between" "put_between" jR f fd) (R:Tp P w K mg r):qy P w K mg base CX0 1 f fd ["groups","mark"] (qcc a):=by
 refine F.ok Q5 (fun vs H Q E h=>?_) (fun cdv A outer s H vs Q E hr h=>?_)
 ·obtain ⟨M,g,gs,gv,x,rfl,_⟩:=h; rfl
 ·obtain ⟨M,g,gs,gv,x,rfl,hg,hgs,hlen,k⟩:=h
  refine ⟨_,qi (qZ (i:=2) Q5.nd rfl (Or.inl rfl) (qW qh))
   (qi (Jq PassesOwn.never rfl (qlP rfl R.bE (qa (pv 0) qh)) (qiB rfl (qaz (jy (i:=3) Q5.nd rfl (Or.inl rfl)) (qaz (jy (i:=4) Q5.nd rfl (Or.inl rfl)) qgV)))
    (qi (qU (qL JM (pv 3) qw (qV _)) (qf (qt (zF PySem.F.plainAttrs_list PySem.F.slot_list_append PySem.F.type_list_append zn (pv 2) (qa (pv 1) qh)))) zm)
    (qf (qt (zF PySem.F.plainAttrs_list PySem.F.slot_list_extend PySem.F.type_list_extend jw (pv 2) (qa (pv 4) qh))))))
   (qf (qF (pv 2)))),?_⟩
  have lg:gv.length=gs.length:=Paired.length hgs
  have big:=Zx
  refine ⟨Nat.zero_le _,fun q hq=>?_⟩
  refine ⟨_,rfl,g,gv,rfl,SqL.of (qr hq _ _ hg),qk1 (K:=K) (a:=g) (xs:=gv) (fun i σ H'=>∃ (v v':Option V) (ws:List V),σ = [some (.ref g),some (.str x),some (.ref q),v,v']/\qE H H'/\H' q=some (.lst ws)/\Parts a M H (btw (.s x) (gs.take i)) ws)
   ⟨none,none,[],rfl,qr hq,qc,.nil⟩ (fun i σ H' _ ⟨_,_,_,_,s1,_⟩=>SqL.of (s1 _ _ hg)) ?_ ?_⟩
  ·rintro i y σ H1 D hi ⟨v,v',ws,rfl,s1,h1,hp⟩ hD
   obtain ⟨gr,hgr,p,us,ey,hpu,hus⟩:∃ gr,gs[i]? = some gr/\qat a M H y gr:=by
    have hi':i<gs.length:=by have:=(List.getElem?_eq_some_iff.mp hi).1; omega
    obtain ⟨x',e1,e2⟩:=zR hgs (List.getElem?_eq_getElem hi')
    rw [hi] at e1; cases e1
    exact ⟨_,List.getElem?_eq_getElem hi',e2⟩
   subst ey
   have lt:=qk3 (m:=.s x) hgr
   have le:=qjN (.s x) gs (i+1)
   have lp:=Paired.length hp
   have lu:=Paired.length hus
   rw [lt,List.length_append,List.length_append] at le
   have sD:=qr (o:=.tup [.int (i:Nat),.ref p]) hD
   have hDt:upd H1 D (.tup [.int (i:Nat),.ref p]) D=some (.tup [.int (i:Nat),.ref p]):=qc
   have h1':=sD _ _ h1
   have s1':=s1.trans sD
   generalize upd H1 D (.tup [.int (i:Nat),.ref p])=H2 at sD hDt h1' s1' ⊢
   have pq:p≠q:=qg hpu hq
   refine ⟨D,_,rfl,SqT.of hDt,rfl,_,_,rfl,_,_,rfl,rfl,?_⟩
   refine ⟨_,rfl,_,_,rfl,rfl,_,rfl,zZ (fun e=>?_) fun e=>?_⟩
   ·have e:0<i:=by have:=of_decide_eq_true e; omega
    rw [if_pos e] at lt le
    refine ⟨_,rfl,.inl ⟨rfl,_,SqL.of h1'⟩,_,rfl,q,ws,_,rfl,rfl,h1',?_,?_⟩
    ·simp only [List.length_cons,List.length_nil] at le; omega
    refine ⟨_,rfl,.inl ⟨rfl,_,SqL.of qc⟩,_,rfl,q,p,_,_,rfl,rfl,qc,(qd pq).trans (s1' _ _ hpu),?_,?_⟩
    ·simp only [List.length_append,List.length_cons,List.length_nil] at le ⊢; omega
    refine ⟨_,_,_,rfl,fun b o e=>?_,qc,?_⟩
    ·rw [qd (qg e hq),qd (qg e hq)]; exact s1' b o e
    ·rw [lt,List.append_assoc]; exact Parts.app hp (Parts.app (.cons rfl .nil) hus)
   ·have e:¬ 0<i:=fun y=>e (decide_eq_true (by omega))
    rw [if_neg e] at lt le
    refine ⟨_,rfl,.inl ⟨rfl,_,SqL.of h1'⟩,_,rfl,q,p,_,_,rfl,rfl,h1',s1' _ _ hpu,?_,?_⟩
    ·simp only [List.length_nil] at le; omega
    refine ⟨_,_,_,rfl,fun b o e=>?_,qc,?_⟩
    ·rw [qd (qg e hq)]; exact s1' b o e
    ·rw [lt]; exact Parts.app hp hus
  ·rintro σ H1 ⟨v,v',ws,rfl,s1,h1,hp⟩
   rw [lg,List.take_length] at hp
   exact ⟨_,rfl,k H1 q ws s1 hq h1 (hp.s s1)⟩
end
end RT
end
section
namespace RT
open PySem PySem.Spec PyProof.Rows L2
theorem qnm:zw ZY (Sum.inr (Str.ofString "app"))=some (.int (10:Nat)):=by kernel_rfl
theorem qnn:zw ZY (Sum.inr (Str.ofString "get"))=some (.int (11:Nat)):=by kernel_rfl
theorem qno:zw ZY (Sum.inr (Str.ofString "neg"))=some (.int (9:Nat)):=by kernel_rfl
theorem qnp:zw ZY (Sum.inr (Str.ofString "not"))=some (.int (3:Nat)):=by kernel_rfl
theorem qnq:zw ZY (Sum.inr (Str.ofString "has"))=some (.int (4:Nat)):=by kernel_rfl
section
variable {P:Program} {w:World} {K:PySem.W.Frag} {mg:Str->Option Value} {base:Heap} {f:Addr} {fd:FuncData} {a:Ad} {r:Ap}
theorem qgb:qm ["node"] ["node"] (qe Qt):=⟨rfl,rfl,rfl,by decide +kernel,rfl,by decide +kernel,by decide +kernel⟩
theorem qgc (F:Fun K "lay_label" "lay_label" Qt f fd) (T:Tx P w K mg a):qy P w K mg base CX0 2 f fd ["node"] (spL a (fun U=>(∃ x,U=.node .num [x] []) \/ ∃ x,U=.node .name [x] []) qG):=by
 refine F.ok qgb (fun vs H Q E h=>?_) (fun cdv A outer s H vs Q E hr h=>?_)
 ·obtain ⟨M,t,U,rfl,_⟩:=h; rfl
 ·obtain ⟨M,t,_,rfl,hU,⟨x,rfl⟩ | ⟨x,rfl⟩,hl,k⟩:=h
  ·exact ⟨_,qf (qF (zA (qA (qcd 0 T.c_Node T.n_Node_labels rfl (pv 0)) zj))),⟨t,rfl,hU⟩,k⟩
  ·exact ⟨_,qf (qF (zA (qA (qcd 0 T.c_Node T.n_Node_labels rfl (pv 0)) zj))),⟨t,rfl,hU⟩,k⟩
theorem qie:qm ["node"] ["node"] (qe Zp):=⟨rfl,rfl,rfl,by decide +kernel,rfl,by decide +kernel,by decide +kernel⟩
theorem qif (F:Fun K "lay_yes" "lay_yes" Zp f fd):qy P w K mg base CX0 2 f fd ["node"] (spL a (· = .node .yes [] []) qG):=by
 refine F.ok qie (fun vs H Q E h=>?_) (fun cdv A outer s H vs Q E hr h=>?_)
 ·obtain ⟨M,t,U,rfl,_⟩:=h; rfl
 ·obtain ⟨M,t,_,rfl,hU,rfl,hl,k⟩:=h
  exact ⟨_,qf (qF (zA (a:=a) (M:=M) (N:=fun _ _=>True) (qA zt zj))),trivial,k⟩
theorem qjO:qm ["node"] ["node"] (qe ZM):=⟨rfl,rfl,rfl,by decide +kernel,rfl,by decide +kernel,by decide +kernel⟩
theorem qjP (F:Fun K "lay_no" "lay_no" ZM f fd):qy P w K mg base CX0 2 f fd ["node"] (spL a (· = .node .no [] []) qG):=by
 refine F.ok qjO (fun vs H Q E h=>?_) (fun cdv A outer s H vs Q E hr h=>?_)
 ·obtain ⟨M,t,U,rfl,_⟩:=h; rfl
 ·obtain ⟨M,t,_,rfl,hU,rfl,hl,k⟩:=h
  exact ⟨_,qf (qF (zA (a:=a) (M:=M) (N:=fun _ _=>True) (qA zt zj))),trivial,k⟩
theorem qgM:qm ["node"] ["node"] (qe QX):=⟨rfl,rfl,rfl,by decide +kernel,rfl,by decide +kernel,by decide +kernel⟩
theorem qgN (F:Fun K "lay_none" "lay_none" QX f fd):qy P w K mg base CX0 2 f fd ["node"] (spL a (· = .node .none [] []) qG):=by
 refine F.ok qgM (fun vs H Q E h=>?_) (fun cdv A outer s H vs Q E hr h=>?_)
 ·obtain ⟨M,t,U,rfl,_⟩:=h; rfl
 ·obtain ⟨M,t,_,rfl,hU,rfl,hl,k⟩:=h
  exact ⟨_,qf (qF (zA (a:=a) (M:=M) (N:=fun _ _=>True) (qA zt zj))),trivial,k⟩
theorem qjQ:qm ["node"] ["node"] (qe ZN):=⟨rfl,rfl,rfl,by decide +kernel,rfl,by decide +kernel,by decide +kernel⟩
theorem qjR (F:Fun K "lay_fn" "lay_fn" ZN f fd) (T:Tx P w K mg a):qy P w K mg base CX0 2 f fd ["node"] (spL a (fun U=>∃ x e,U=.node .fn [x] [e]) qG):=by
 refine F.ok qjQ (fun vs H Q E h=>?_) (fun cdv A outer s H vs Q E hr h=>?_)
 ·obtain ⟨M,t,U,rfl,_⟩:=h; rfl
 ·obtain ⟨M,t,_,rfl,hU,⟨x,e,rfl⟩,hl,k⟩:=h
  exact ⟨_,qf (qF (zA (qA zt (qA (qcd 0 T.c_Node T.n_Node_labels rfl (pv 0)) (qA zt (qA (Zi 0 T.c_Node T.n_Node_kids rfl (pv 0)) zj)))))),⟨t,rfl,hU⟩,k⟩
theorem qjS:qm ["node"] ["node"] (qe ZO):=⟨rfl,rfl,rfl,by decide +kernel,rfl,by decide +kernel,by decide +kernel⟩
theorem qjT (F:Fun K "lay_if" "lay_if" ZO f fd) (T:Tx P w K mg a):qy P w K mg base CX0 2 f fd ["node"] (spL a (fun U=>∃ x y z,U=.node .cond [] [x,y,z]) qG):=by
 refine F.ok qjS (fun vs H Q E h=>?_) (fun cdv A outer s H vs Q E hr h=>?_)
 ·obtain ⟨M,t,U,rfl,_⟩:=h; rfl
 ·obtain ⟨M,t,_,rfl,hU,⟨x,y,z,rfl⟩,hl,k⟩:=h
  exact ⟨_,qf (qF (zA (qA zt (qA (Zi 0 T.c_Node T.n_Node_kids rfl (pv 0)) (qA zt (qA (Zi 1 T.c_Node T.n_Node_kids rfl (pv 0)) (qA zt (qA (Zi 2 T.c_Node T.n_Node_kids rfl (pv 0)) zj)))))))),⟨t,rfl,hU⟩,k⟩
theorem qgO:qm ["node"] ["node"] (qe Q0):=⟨rfl,rfl,rfl,by decide +kernel,rfl,by decide +kernel,by decide +kernel⟩
theorem qgP (F:Fun K "lay_must" "lay_must" Q0 f fd) (T:Tx P w K mg a):qy P w K mg base CX0 2 f fd ["node"] (spL a (fun U=>∃ x y,U=.node .must [] [x,y]) qG):=by
 refine F.ok qgO (fun vs H Q E h=>?_) (fun cdv A outer s H vs Q E hr h=>?_)
 ·obtain ⟨M,t,U,rfl,_⟩:=h; rfl
 ·obtain ⟨M,t,_,rfl,hU,⟨x,y,rfl⟩,hl,k⟩:=h
  exact ⟨_,qf (qF (zA (qA zt (qA (Zi 0 T.c_Node T.n_Node_kids rfl (pv 0)) (qA zt (qA (Zi 1 T.c_Node T.n_Node_kids rfl (pv 0)) zj)))))),⟨t,rfl,hU⟩,k⟩
theorem qig:qm ["node"] ["node"] (qe Zs):=⟨rfl,rfl,rfl,by decide +kernel,rfl,by decide +kernel,by decide +kernel⟩
theorem qih (F:Fun K "lay_neg" "lay_neg" Zs f fd) (T:Tx P w K mg a) (R:Tp P w K mg r) (G:FnAt P w K mg base CX0 1 "at" ["kid","rank"] (qbS a)):qy P w K mg base CX0 2 f fd ["node"] (spL a (fun U=>∃ x,U=.node .neg [] [x]) qG):=by
 refine F.ok qig (fun vs H Q E h=>?_) (fun cdv A outer s H vs Q E hr h=>?_)
 ·obtain ⟨M,t,U,rfl,_⟩:=h; rfl
 ·obtain ⟨M,t,_,rfl,hU,⟨x,rfl⟩,hl,k⟩:=h
  exact ⟨_,qf (qF (jE jD (zA (qA zt zj)) (qa5 G hr (Zi 0 T.c_Node T.n_Node_kids rfl (pv 0)) (Zo (qN R.gR) qJ (fun _ _=>rfl)) (fun _ _ _ _ h=>⟨_,_,Sum.inr _,_,rfl,R.dR,rfl,qno,h⟩)) hl)),⟨t,rfl,hU⟩,k⟩
theorem qii:qm ["node"] ["node"] (qe Zt):=⟨rfl,rfl,rfl,by decide +kernel,rfl,by decide +kernel,by decide +kernel⟩
theorem qij (F:Fun K "lay_not" "lay_not" Zt f fd) (T:Tx P w K mg a) (R:Tp P w K mg r) (G:FnAt P w K mg base CX0 1 "at" ["kid","rank"] (qbS a)):qy P w K mg base CX0 2 f fd ["node"] (spL a (fun U=>∃ x,U=.node .not [] [x]) qG):=by
 refine F.ok qii (fun vs H Q E h=>?_) (fun cdv A outer s H vs Q E hr h=>?_)
 ·obtain ⟨M,t,U,rfl,_⟩:=h; rfl
 ·obtain ⟨M,t,_,rfl,hU,⟨x,rfl⟩,hl,k⟩:=h
  exact ⟨_,qf (qF (jE jD (zA (qA zt zj)) (qa5 G hr (Zi 0 T.c_Node T.n_Node_kids rfl (pv 0)) (Zo (qN R.gR) qJ (fun _ _=>rfl)) (fun _ _ _ _ h=>⟨_,_,Sum.inr _,_,rfl,R.dR,rfl,qnp,h⟩)) hl)),⟨t,rfl,hU⟩,k⟩
theorem qik:qm ["node"] ["node"] (qe Zr):=⟨rfl,rfl,rfl,by decide +kernel,rfl,by decide +kernel,by decide +kernel⟩
theorem qil (F:Fun K "lay_app" "lay_app" Zr f fd) (T:Tx P w K mg a) (R:Tp P w K mg r) (G:FnAt P w K mg base CX0 1 "at" ["kid","rank"] (qbS a)):qy P w K mg base CX0 2 f fd ["node"] (spL a (fun U=>∃ x y,U=.node .app [] [x,y]) qG):=by
 refine F.ok qik (fun vs H Q E h=>?_) (fun cdv A outer s H vs Q E hr h=>?_)
 ·obtain ⟨M,t,U,rfl,_⟩:=h; rfl
 ·obtain ⟨M,t,_,rfl,hU,⟨x,y,rfl⟩,hl,k⟩:=h
  exact ⟨_,qf (qF (jE jD (jE jD (qa5 G hr (Zi 0 T.c_Node T.n_Node_kids rfl (pv 0)) (Zo (qN R.gR) qJ (fun _ _=>rfl)) (fun _ _ _ _ h=>⟨_,_,Sum.inr _,_,rfl,R.dR,rfl,qnm,h⟩)) (zA (qA zt zj)) (le_app (C:=atP y 11) hl))
   (qa5 G hr (Zi 1 T.c_Node T.n_Node_kids rfl (pv 0)) (Zo (qN R.gR) qJ (fun _ _=>rfl)) (fun _ _ _ _ h=>⟨_,_,Sum.inr _,_,rfl,R.dR,rfl,qnn,h⟩)) hl)),⟨t,rfl,hU⟩,k⟩
theorem qim:qm ["node"] ["node"] (qe Zu):=⟨rfl,rfl,rfl,by decide +kernel,rfl,by decide +kernel,by decide +kernel⟩
theorem qin (F:Fun K "lay_has" "lay_has" Zu f fd) (T:Tx P w K mg a) (R:Tp P w K mg r) (G:FnAt P w K mg base CX0 1 "at" ["kid","rank"] (qbS a)):qy P w K mg base CX0 2 f fd ["node"] (spL a (fun U=>∃ x y,U=.node .has [x] [y]) qG):=by
 refine F.ok qim (fun vs H Q E h=>?_) (fun cdv A outer s H vs Q E hr h=>?_)
 ·obtain ⟨M,t,U,rfl,_⟩:=h; rfl
 ·obtain ⟨M,t,_,rfl,hU,⟨x,y,rfl⟩,hl,k⟩:=h
  exact ⟨_,qf (qF (jE jD (qa5 G hr (r:=5) (Zi 0 T.c_Node T.n_Node_kids rfl (pv 0)) (QQ Jr (Zo (qN R.gR) qJ (fun _ _=>rfl)) qw) (fun _ _ _ _ h=>⟨_,_,Sum.inr _,_,rfl,R.dR,rfl,qnq,_,_,rfl,rfl,h⟩)) (zA (qA zt (qA (qcd 0 T.c_Node T.n_Node_labels rfl (pv 0)) zj))) hl)),⟨t,rfl,hU⟩,k⟩
end
end RT
end
section
namespace RT
open PySem PySem.Spec PyProof.Rows L2
def QC (a:Ad) (M:Addr->Prop) (H H':Hp) (D:Addr) (gs:List (List Pt)) (gv:List V):Prop:=Paired (fun v g=>∃ p ws,v=V.ref p/\p≠D/\H' p=some (.lst ws)/\Parts a M H g ws) gv gs
theorem QC.done {a:Ad} {M:Addr->Prop} {H H':Hp} {D:Addr} {gs:List (List Pt)} {gv:List V} (s:qE H H') (h:QC a M H H' D gs gv):Z8 a M H' gs gv:=qX (fun _ _ ⟨p,ws,e,_,h1,h2⟩=>⟨p,ws,e,h1,h2.s s⟩) h
theorem QC.snoc {a:Ad} {M:Addr->Prop} {H H' H2:Hp} {D:Addr} {gs:List (List Pt)} {gv:List V} {g:List Pt} {p:Addr} {ws:List V} (h:QC a M H H' D gs gv) (k:∀ b o,H' b=some o->b≠D->H2 b=some o) (hp:H2 p=some (.lst ws)) (pD:p≠D) (hw:Parts a M H g ws):QC a M H H2 D (gs++[g]) (gv++[.ref p]):=by
 have h':QC a M H H2 D gs gv:=qX (fun _ _ ⟨p,ws,e,n,h1,h2⟩=>⟨p,ws,e,n,k _ _ h1 n,h2⟩) h
 clear h
 induction h' with
 | nil=>exact .cons ⟨p,ws,rfl,pD,hp,hw⟩ .nil
 | cons q r ih=>exact .cons q ih
theorem take_snoc {α : Type} {l:List α} {i:Nat} {x:α} (h:l[i]? = some x):l.take (i+1)=l.take i++[x]:=by rw [List.take_succ,h]; rfl
def qe4 (a:Ad) (M:Addr->Prop) (T:VT):NP:=fun σ H=>∃ t v v',σ = [some (.ref t),v,v']/\qI a M H T t
def qe5 (a:Ad) (M:Addr->Prop) (T:VT):NP:=fun σ H=>∃ t v,σ = [some (.ref t),v]/\qI a M H T t
theorem qlp {a:Ad} {M:Addr->Prop} {T:VT}:∀ σ H,qe4 a M T σ H->jo a M T σ H:=fun _ _ ⟨t,_,_,e,h⟩=>⟨t,by rw [e]; rfl,h⟩
theorem qnM {a:Ad} {M:Addr->Prop} {T:VT}:∀ σ H,qe5 a M T σ H->jo a M T σ H:=fun _ _ ⟨t,_,e,h⟩=>⟨t,by rw [e]; rfl,h⟩
theorem qlq {a:Ad} {M:Addr->Prop} {T:VT}:qf8 (qe5 a M T):=fun _ _ _ s ⟨t,v,e,h⟩=>⟨t,v,e,h.s s⟩
def bindL:VT->List Pt
 | .node _ ls l=>j7 ls l
def qk4:VT->List Pt
 | .node _ ls l=>Q8 ls l
def ShB (U:VT):Prop:=∃ k ls l,U=.node k ls l/\ls.length<=l.length
theorem qcM (m:Pt):∀ gs:List (List Pt),(∀ g∈gs,0<g.length)->gs.length<=(btw m gs).length
 | [],_=>Nat.zero_le _
 | [g],h=>by have:=h g (by simp); show 1<=g.length; omega
 | g::h::r,hh=>by
  have:=qcM m (h::r) fun x hx=>hh x (List.mem_cons_of_mem _ hx)
  have e:(btw m (g::h::r)).length=g.length+((btw m (h::r)).length+1):=by
   show (g++(m::btw m (h::r))).length=_
   rw [List.length_append,List.length_cons]
  rw [e]
  simp only [List.length_cons] at this ⊢
  omega
section
variable {P:Program} {w:World} {K:PySem.W.Frag} {mg:Str->Option Value} {base:Heap} {f:Addr} {fd:FuncData} {a:Ad} {r:Ap}
theorem ZH:qm ["node","label","kid"] ["node"] (qe Qv):=⟨rfl,rfl,rfl,by decide +kernel,rfl,by decide +kernel,by decide +kernel⟩
theorem qgd (F:Fun K "lay_binds" "lay_binds" Qv f fd) (T:Tx P w K mg a) (R:Tp P w K mg r) (G:FnAt P w K mg base CX0 1 "put_between" ["groups","mark"] (qcc a)):qy P w K mg base CX0 2 f fd ["node"] (spL a ShB bindL):=by
 refine F.ok ZH (fun vs H Q E h=>?_) (fun cdv A outer s H vs Q E hr h=>?_)
 ·obtain ⟨M,t,U,rfl,_⟩:=h; rfl
 ·obtain ⟨M,t,_,rfl,hU,⟨kd,ls,l,rfl,hll⟩,hl,k⟩:=h
  have hl:(btw (ps " ") (z5 ls l)).length<=Bd:=hl
  have hgl:(z5 ls l).length<=Bd:=Nat.le_trans (qcM _ _ fun g hg=>by
   unfold z5 at hg
   obtain ⟨p,_,rfl⟩:=List.mem_map.mp hg
   exact Nat.succ_pos _) hl
  refine ⟨_,qf (qF (qjM (a:=a) (N:=qe4 a M (.node kd ls l)) (gs:=z5 ls l) G hr ?_ hl)),⟨t,none,none,rfl,hU⟩,k⟩
  refine PE.weak (qe0 (own:=[("label",1),("kid",2)]) (g:=qmy K 2 (qhx (Zy 1) (qhx (Zy 2) qmx))) (te:=qdx (jF (zS 1) (jF (tC (.str " = ")) (jF (zS 2) (jF (tC (.str ";")) QE))))) rfl ZH.nd
    (qmQ rfl R.bZ (qa (qcL (N:=qe4 a M (.node kd ls l)) qlp T.c_Node T.n_Node_labels (qj (pv 0) rfl)) (qa (Qp (N:=qe4 a M (.node kd ls l)) qlp T.c_Node T.n_Node_kids (qj (pv 0) rfl)) qh)))
    (Jx rfl) (fun _ _ _ _ _=>qiB rfl (qaz (jy (i:=1) ZH.nd rfl (Or.inl rfl)) (qaz (jy (i:=2) ZH.nd rfl (Or.inl rfl)) qgV))) (fun _ _ _ _ _=>qag)
    (fun _ _ _ _ _=>qW (qa (pv 1) (qa qJ (qa (pv 2) (qa qJ qh)))))) ?_
  rintro σ H Q ⟨hN,q⟩
  obtain ⟨t',v,v',rfl,_⟩:=id hN
  refine ⟨hN,fun la lb h1 h3=>⟨hN,fun ka ks h4 h5=>⟨la,ka,_,_,rfl,SqL.of h1,SqL.of h4,fun D hD=>?_⟩⟩⟩
  have l1:lb.length=ls.length:=Paired.length h3
  have l2:ks.length=l.length:=Paired.length (qT.mp h5)
  refine qnl (K:=K) (a:=la) (b:=ka) (xs:=lb.map V.ref) (ys:=ks.map V.ref) (by rw [List.length_map,List.length_map]; omega) (fun i H'=>qE H H'/\∃ gv,H' D=some (.lst gv)/\QC a M H H' D ((z5 ls l).take i) gv)
   ⟨qr hD,[],qc,.nil⟩ (fun i H' _ ⟨s1,_⟩=>⟨SqL.of (s1 _ _ h1),SqL.of (s1 _ _ h4)⟩) ?_ ?_
  ·rintro i x y H1 Tu hx hy ⟨s1,gv,g1,g2⟩ hTu
   obtain ⟨xa,hxa,rfl⟩:∃ z,lb[i]? = some z/\V.ref z=x:=by rw [List.getElem?_map] at hx; exact Option.map_eq_some_iff.mp hx
   obtain ⟨ya,hya,rfl⟩:∃ z,ks[i]? = some z/\V.ref z=y:=by rw [List.getElem?_map] at hy; exact Option.map_eq_some_iff.mp hy
   have hi1:i<ls.length:=by have:=(List.getElem?_eq_some_iff.mp hxa).1; omega
   have hi2:i<l.length:=by omega
   obtain ⟨x',e1,e2⟩:=zR h3 (List.getElem?_eq_getElem hi1)
   rw [hxa] at e1; cases e1
   obtain ⟨y',e3,e4⟩:=Zm (List.getElem?_eq_getElem hi2) h5
   rw [hya] at e3; cases e3
   have hb:(z5 ls l)[i]? = some [.l ls[i],ps " = ",.t l[i],ps ";"]:=by
    unfold z5
    rw [List.getElem?_map,List.getElem?_zip_eq_some (z:=(ls[i],l[i]))|>.mpr ⟨List.getElem?_eq_getElem hi1,List.getElem?_eq_getElem hi2⟩]
    rfl
   have lgv:gv.length=((z5 ls l).take i).length:=Paired.length g2
   refine ⟨Tu,_,rfl,SqT.of qc,rfl,_,_,rfl,_,_,rfl,rfl,rfl,?_⟩
   have sT:=qr (o:=.tup [V.ref xa,V.ref ya]) hTu
   refine ⟨_,rfl,_,rfl,(by show 4<=sizeLine; decide),fun p hp=>?_⟩
   have sp:=sT.trans (qr (o:=.lst [.ref xa,.str " = ",.ref ya,.str ";"]) hp)
   have pD:p≠D:=fun e=>by rw [e,sT _ _ g1] at hp; cases hp
   refine ⟨gv,sp _ _ g1,?_,fun b o e=>?_,_,qc,?_⟩
   ·rw [lgv,List.length_take]; have:=Zx; omega
   ·rw [qd (qg e hD)]; exact sp _ _ (s1 _ _ e)
   ·rw [take_snoc hb]
    exact g2.snoc (fun b o e n=>by rw [qd n]; exact sp _ _ e) (by rw [qd pD]; exact qc) pD (.cons ⟨xa,rfl,e2⟩ (.cons rfl (.cons ⟨ya,rfl,e4⟩ (.cons rfl .nil))))
  ·rintro H1 ⟨s1,gv,g1,g2⟩
   refine q H1 D gv s1 hD g1 ?_
   rw [List.take_of_length_le (by rw [List.length_map,l1]; unfold z5; simp; omega)] at g2
   exact g2.done s1
theorem qaa:qm ["node","kid"] ["node"] (qe QZ):=⟨rfl,rfl,rfl,by decide +kernel,rfl,by decide +kernel,by decide +kernel⟩
theorem qhl {M:Addr->Prop} {j:Nat} {l:List VT} {ks:List Addr} {ka:Addr} {σ : L2.St} {H:Hp} {D:Addr} {Qd:Hp->Prop} (hw:∀ v,wipe ((wipe σ [j]).set j (some v)) [j]=wipe σ [j]) (hv:∀ v,((wipe σ [j]).set j (some v))[j]? = some (some v)) (h4:H ka=some (.lst (ks.map V.ref))) (h5:qp a M H l ks) (hl:l.length<=Bd)
  (hD:H D=none) (q:∀ H' gv,qE H H'->H' D=some (.lst gv)->QC a M H H' D (ones l) gv->Qd H') :
  ∃ W:Nat->Nat->Hp->Prop,(∃ m,W 0 m (upd H D (.lst [])))/\∀ i m H,W i m H ->
   ((Itl K ka).stop i H/\Qd H) \/ ((Itl K ka).go i H/\∃ Nx:Hp->Prop,(∀ H',Nx H'->∃ m',m'<m/\W (i+1) m' H')/\∀ x H',(Itl K ka).yld i H x H'->Zy j x (wipe σ [j]) H' fun σ2 H2=>wipe σ2 [j]=wipe σ [j]/\qkj σ2 H2 fun b H3=>
    if b=true then qdx (jF (zS j) QE) σ2 H3 fun y H4=>∃ acc,H4 D=some (.lst acc)/\acc.length<sizeLine/\Nx (upd H4 D (.lst (acc++[y]))) else Nx H3):=by
 have l2:ks.length=l.length:=Paired.length (qT.mp h5)
 refine qg2 (K:=K) (a:=ka) (xs:=ks.map V.ref) (fun i H'=>qE H H'/\∃ gv,H' D=some (.lst gv)/\QC a M H H' D ((ones l).take i) gv)
   ⟨qr hD,[],qc,.nil⟩ (fun i H' _ ⟨s1,_⟩=>SqL.of (s1 _ _ h4)) ?_ ?_
 ·rintro i x H1 hx ⟨s1,gv,g1,g2⟩
  obtain ⟨xa,hxa,rfl⟩:∃ z,ks[i]? = some z/\V.ref z=x:=by rw [List.getElem?_map] at hx; exact Option.map_eq_some_iff.mp hx
  have hi2:i<l.length:=by have:=(List.getElem?_eq_some_iff.mp hxa).1; omega
  obtain ⟨y',e3,e4⟩:=Zm (List.getElem?_eq_getElem hi2) h5
  rw [hxa] at e3; cases e3
  have hb:(ones l)[i]? = some [.t l[i]]:=by unfold ones; rw [List.getElem?_map,List.getElem?_eq_getElem hi2]; rfl
  have lgv:gv.length=((ones l).take i).length:=Paired.length g2
  refine ⟨hw _,⟨_,hv _,(by show 1<=sizeLine; decide),fun p hp=>?_⟩⟩
  have sp:=qr (o:=.lst [.ref xa]) hp
  have pD:p≠D:=fun e=>by rw [e,g1] at hp; cases hp
  refine ⟨gv,sp _ _ g1,?_,fun b o e=>?_,_,qc,?_⟩
  ·rw [lgv,List.length_take]; unfold ones; rw [List.length_map]; have:=Zx; omega
  ·rw [qd (qg e hD)]; exact sp _ _ (s1 _ _ e)
  ·rw [take_snoc hb]
   exact g2.snoc (fun b o e n=>by rw [qd n]; exact sp _ _ e) (by rw [qd pD]; exact qc) pD (.cons ⟨xa,rfl,e4⟩ .nil)
 ·rintro H1 ⟨s1,gv,g1,g2⟩
  refine q H1 gv s1 g1 ?_
  rw [List.take_of_length_le (by rw [List.length_map,l2]; unfold ones; simp)] at g2
  exact g2
end
end RT
end
section
namespace RT
open PySem PySem.Spec PyProof.Rows L2
theorem qhm {l:List VT} {m:Pt} {d:List (List Pt)} (h:(btw m (ones l++d)).length<=Bd) (hd:∀ g∈d,0<g.length):l.length<=Bd:=by
 have:=qcM m (ones l++d) (fun g hg=>by
  rcases List.mem_append.mp hg with hg | hg
  ·unfold ones at hg
   obtain ⟨p,_,rfl⟩:=List.mem_map.mp hg
   exact Nat.succ_pos _
  ·exact hd g hg)
 have e:(ones l).length=l.length:=by simp [ones]
 rw [List.length_append,e] at this
 omega
section
variable {P:Program} {w:World} {K:PySem.W.Frag} {mg:Str->Option Value} {base:Heap} {f:Addr} {fd:FuncData} {a:Ad} {r:Ap}
theorem qgQ (F:Fun K "lay_list" "lay_list" QZ f fd) (T:Tx P w K mg a) (G:FnAt P w K mg base CX0 1 "put_between" ["groups","mark"] (qcc a)):qy P w K mg base CX0 2 f fd ["node"] (spL a (fun U=>∃ l,U=.node .list [] l) qG):=by
 refine F.ok qaa (fun vs H Q E h=>?_) (fun cdv A outer s H vs Q E hr h=>?_)
 ·obtain ⟨M,t,U,rfl,_⟩:=h; rfl
 ·obtain ⟨M,t,_,rfl,hU,⟨l,rfl⟩,hl,k⟩:=h
  have hl:([ps "["]++btw (ps ", ") (ones l)++[ps "]"]).length<=Bd:=hl
  have h2:=qau (le_app hl)
  have hll:l.length<=Bd:=qhm (m:=ps ", ") (d:=[]) (by rw [List.append_nil]; exact h2) (fun g hg=>by cases hg)
  refine ⟨_,qf (qF (jE qlq (jE qlq (zA (qA zt zj)) (qjM (a:=a) (N:=qe5 a M (.node .list [] l)) (gs:=ones l) G hr ?_ h2) (le_app hl)) (zA (qA zt zj)) hl)),⟨t,none,rfl,hU⟩,k⟩
  refine PE.weak (qe0 (own:=[("kid",1)]) (te:=qdx (jF (zS 1) QE)) rfl qaa.nd (Jj (Qp (N:=qe5 a M (.node .list [] l)) qnM T.c_Node T.n_Node_kids (qj (pv 0) rfl)))
    (Jx rfl) (fun _ _ _ _ _=>jy (i:=1) qaa.nd rfl (Or.inl rfl)) (fun _ _ _ _ _=>qag) (fun _ _ _ _ _=>qW (qa (pv 1) qh))) ?_
  rintro σ H Q ⟨hN,q⟩
  obtain ⟨t',v,rfl,_⟩:=id hN
  exact ⟨hN,fun ka ks h4 h5=>⟨ka,rfl,⟨_,SqL.of h4⟩,fun D hD=>qhl (fun _=>rfl) (fun _=>rfl) h4 h5 hll hD (fun H' gv s e g=>q H' D gv s hD e (g.done s))⟩⟩
theorem qeX:qm ["node"] ["node"] (qe Qa):=⟨rfl,rfl,rfl,by decide +kernel,rfl,by decide +kernel,by decide +kernel⟩
theorem qeY (F:Fun K "lay_record" "lay_record" Qa f fd) (T:Tx P w K mg a) (G:FnAt P w K mg base CX0 2 "lay_binds" ["node"] (spL a ShB bindL)):qy P w K mg base CX0 3 f fd ["node"] (spL a ShB qk4):=by
 refine F.ok qeX (fun vs H Q E h=>?_) (fun cdv A outer s H vs Q E hr h=>?_)
 ·obtain ⟨M,t,U,rfl,_⟩:=h; rfl
 ·obtain ⟨M,t,_,rfl,hU,⟨kd,ls,l,rfl,hll⟩,hl,k⟩:=h
  have hb:([ps "{ "]++j7 ls l++[ps " }"]).length<=Bd:=by
   have hl:(Q8 ls l).length<=Bd:=hl
   unfold Q8 at hl
   cases ls with
   | nil=>show 2<=Bd; decide
   | cons x ls=>exact hl
  refine ⟨_,qi (qU (qbl (Qk (qcL (N:=jo a M (.node kd ls l)) (fun _ _ h=>h) T.c_Node T.n_Node_labels (qj (pv 0) rfl)) (by intro _; rfl))) (qf (qF (zA (a:=a) (M:=M) (N:=jo a M (.node kd ls l)) (qA zt zj)))) zm)
   (qf (qF (jE jD (jE jD (zA (qA zt zj)) (qf9 (M:=M) (T:=.node kd ls l) G hr ⟨kd,ls,l,rfl,hll⟩ (qau (le_app hb)) (pv 0)) (le_app hb)) (zA (qA zt zj)) hb))),?_⟩
  refine ⟨⟨t,rfl,hU⟩,fun la lb h1 h3=>⟨_,.inl ⟨_,SqL.of h1,rfl⟩,?_⟩⟩
  have ll:lb.length=ls.length:=Paired.length h3
  cases ls with
  | nil=>
   have:lb=[]:=List.length_eq_zero_iff.mp ll
   subst this
   exact zL ⟨⟨t,rfl,hU⟩,k⟩
  | cons x ls=>
   cases lb with
   | nil=>cases ll
   | cons y lb=>exact zp ⟨⟨t,rfl,hU⟩,k⟩
theorem qge:qm ["node"] ["node"] (qe Qw):=⟨rfl,rfl,rfl,by decide +kernel,rfl,by decide +kernel,by decide +kernel⟩
theorem qgf (F:Fun K "lay_recur" "lay_recur" Qw f fd) (G:FnAt P w K mg base CX0 3 "lay_record" ["node"] (spL a ShB qk4)):qy P w K mg base CX0 4 f fd ["node"] (spL a (fun U=>∃ ls l,U=.node .recur ls l/\ls.length=l.length) qG):=by
 refine F.ok qge (fun vs H Q E h=>?_) (fun cdv A outer s H vs Q E hr h=>?_)
 ·obtain ⟨M,t,U,rfl,_⟩:=h; rfl
 ·obtain ⟨M,t,_,rfl,hU,⟨ls,l,rfl,hll⟩,hl,k⟩:=h
  have hl:([ps "rec "]++Q8 ls l).length<=Bd:=hl
  exact ⟨_,qf (qF (jE jD (zA (qA zt zj)) (qf9 (M:=M) (T:=.node .recur ls l) G hr ⟨_,ls,l,rfl,Nat.le_of_eq hll⟩ (qau hl) (pv 0)) hl)),⟨t,rfl,hU⟩,k⟩
theorem qio:qm ["node"] ["node"] (qe Zv):=⟨rfl,rfl,rfl,by decide +kernel,rfl,by decide +kernel,by decide +kernel⟩
theorem qip (F:Fun K "lay_let" "lay_let" Zv f fd) (T:Tx P w K mg a) (G:FnAt P w K mg base CX0 2 "lay_binds" ["node"] (spL a ShB bindL)):qy P w K mg base CX0 3 f fd ["node"] (spL a (fun U=>∃ ls l e,U=.node .letIn ls (l++[e])/\ls.length=l.length) qG):=by
 refine F.ok qio (fun vs H Q E h=>?_) (fun cdv A outer s H vs Q E hr h=>?_)
 ·obtain ⟨M,t,U,rfl,_⟩:=h; rfl
 ·obtain ⟨M,t,_,rfl,hU,⟨ls,l,e,rfl,hll⟩,hl,k⟩:=h
  rw [qdo] at hl k
  exact ⟨_,qf (qF (jE jD (jE jD (zA (qA zt zj)) (qf9 (M:=M) (T:=.node .letIn ls (l++[e])) G hr ⟨_,ls,_,rfl,by rw [List.length_append,hll]; omega⟩ (qau (le_app hl)) (pv 0)) (le_app hl))
   (zA (qA zt (qA (qnk T.c_Node T.n_Node_kids (Z7 l e) (pv 0)) zj))) hl)),⟨t,rfl,hU⟩,k⟩
theorem qgg:qm ["node"] ["node"] (qe Qx):=⟨rfl,rfl,rfl,by decide +kernel,rfl,by decide +kernel,by decide +kernel⟩
theorem qgh (F:Fun K "lay_param" "lay_param" Qx f fd) (T:Tx P w K mg a):qy P w K mg base CX0 2 f fd ["node"] (spL a (fun U=>(∃ x,U=.node .param [x] []) \/ ∃ x d,U=.node .param [x] [d]) qG):=by
 refine F.ok qgg (fun vs H Q E h=>?_) (fun cdv A outer s H vs Q E hr h=>?_)
 ·obtain ⟨M,t,U,rfl,_⟩:=h; rfl
 ·obtain ⟨M,t,_,rfl,hU,⟨x,rfl⟩ | ⟨x,d,rfl⟩,hl,k⟩:=h
  ·refine ⟨_,qi (qU (qbl (Qk (Qp (N:=jo a M (.node .param [x] [])) (fun _ _ h=>h) T.c_Node T.n_Node_kids (qj (pv 0) rfl)) (by intro _; rfl))) (qf (qF (zA (M:=M) (N:=jo a M (.node .param [x] [])) (qA (qcd 0 T.c_Node T.n_Node_labels rfl (pv 0)) zj)))) zm)
    (qf (qF (qW (qa (jz zH (qj (pv 0) rfl) qw (fun _ _=>rfl)) (qa qJ (qa (jz zH (qj (pv 0) rfl) qw (fun _ _=>rfl)) qh)))))),?_⟩
   refine ⟨⟨t,rfl,hU⟩,fun ka ks h4 h5=>⟨_,.inl ⟨_,SqL.of h4,rfl⟩,?_⟩⟩
   unfold qp at h5
   subst h5
   exact zL ⟨⟨t,rfl,hU⟩,k⟩
  ·refine ⟨_,qi (qU (qbl (Qk (Qp (N:=jo a M (.node .param [x] [d])) (fun _ _ h=>h) T.c_Node T.n_Node_kids (qj (pv 0) rfl)) (by intro _; rfl))) (qf (qF (qW (qa (jz zH (qj (pv 0) rfl) qw (fun _ _=>rfl)) qh)))) zm)
    (qf (qF (zA (M:=M) (N:=jo a M (.node .param [x] [d])) (qA (qcd 0 T.c_Node T.n_Node_labels rfl (pv 0)) (qA zt (qA (Zi 0 T.c_Node T.n_Node_kids rfl (pv 0)) zj)))))),?_⟩
   refine ⟨⟨t,rfl,hU⟩,fun ka ks h4 h5=>⟨_,.inl ⟨_,SqL.of h4,rfl⟩,?_⟩⟩
   unfold qp at h5
   obtain ⟨u,ks',rfl,_,_⟩:=h5
   exact zp ⟨⟨t,rfl,hU⟩,k⟩
end
end RT
end
section
namespace RT
open PySem PySem.Spec PyProof.Rows L2
theorem qbT {α β : Type} {f:α -> List β} {l:List α} {i:Nat} {x:α} (h:l[i]? = some x):(l.take (i+1)).flatMap f=(l.take i).flatMap f++f x:=by
 rw [take_snoc h,List.flatMap_append]; simp
theorem qhn {α β : Type} (f:α -> List β) (l:List α) (i:Nat):((l.take i).flatMap f).length<=(l.flatMap f).length:=by
 have:l.flatMap f=(l.take i).flatMap f++(l.drop i).flatMap f:=by rw [<- List.flatMap_append,List.take_append_drop]
 rw [this,List.length_append]; omega
theorem qcr (k:Vastoa.Kind):(V.str (kindS k)=V.str (Str.ofString "piece")) ↔ k=.piece:=by
 constructor
 ·intro h
  have h:kindS k=Str.ofString "piece":=by injection h
  revert h
  cases k with
  | op o=>cases o <;> decide +kernel
  | _=>decide +kernel
 ·rintro rfl; rfl
section
variable {P:Program} {w:World} {K:PySem.W.Frag} {mg:Str->Option Value} {base:Heap} {f:Addr} {fd:FuncData} {a:Ad} {r:Ap}
theorem qab:qm ["node","parts","kid"] ["node"] (qe QY):=⟨rfl,rfl,rfl,by decide +kernel,rfl,by decide +kernel,by decide +kernel⟩
theorem qgR (F:Fun K "lay_text" "lay_text" QY f fd) (T:Tx P w K mg a):qy P w K mg base CX0 2 f fd ["node"] (spL a (fun U=>∃ l,U=.node .text [] l) qG):=by
 refine F.ok qab (fun vs H Q E h=>?_) (fun cdv A outer s H vs Q E hr h=>?_)
 ·obtain ⟨M,t,U,rfl,_⟩:=h; rfl
 ·obtain ⟨M,t,_,rfl,hU,⟨l,rfl⟩,hl,k⟩:=h
  have hl:([ps "\""]++l.flatMap jx++[ps "\""]).length<=Bd:=hl
  have big:=Zx
  simp only [List.length_append,List.length_cons,List.length_nil] at hl
  refine ⟨_,qi (qZ (i:=1) qab.nd rfl (Or.inl rfl) (qW (qa qJ qh)))
   (qi (Jq PassesOwn.never rfl (Jj (qj (pv 0) rfl)) (jy (i:=2) qab.nd rfl (Or.inl rfl))
    (qf (qU (qL z6 (qj (pv 2) rfl) qJ (qV _)) (qf (qt (zF PySem.F.plainAttrs_list PySem.F.slot_list_append PySem.F.type_list_append zn (pv 1) (qa (pv 2) qh))))
     (qf (qt (zF PySem.F.plainAttrs_list PySem.F.slot_list_extend PySem.F.type_list_extend jw (pv 1) (qa (qW (qa qJ (qa (pv 2) (qa qJ qh)))) qh)))))))
   (qf (qF (QQ qiN (pv 1) (qW (qa qJ qh)))))),?_⟩
  have hU':=hU
  unfold qI at hU'
  obtain ⟨dx,la,ka,lb,ks,⟨h1,_⟩,_,_,⟨h4,_⟩,h5⟩:=hU'
  have lk:ks.length=l.length:=Paired.length (qT.mp h5)
  refine ⟨(by show 1<=sizeLine; decide),fun q hq=>?_⟩
  have sq:=qr (o:=.lst [V.str "\""]) hq
  refine ⟨_,rfl,t,_,dx,_,_,rfl,sq _ _ h1,T.c_Node,T.n_Node_kids,QN _ _ _ _,ka,rfl,⟨_,SqL.of (sq _ _ h4)⟩,qcu (K:=K) (a:=ka) (xs:=ks.map V.ref) (fun i σ H'=>∃ (v:Option V) (ws:List V),σ = [some (.ref t),some (.ref q),v]/\qE H H'/\H' q=some (.lst ws)/\Parts a M H ([ps "\""]++(l.take i).flatMap jx) ws)
   ⟨none,_,rfl,sq,qc,.cons rfl .nil⟩ (fun i σ H' _ ⟨_,_,_,s1,_⟩=>SqL.of (s1 _ _ h4)) ?_ ?_⟩
  ·rintro i y σ H1 hi ⟨v,ws,rfl,s1,e1,hp⟩
   obtain ⟨xa,hxa,rfl⟩:∃ z,ks[i]? = some z/\V.ref z=y:=by rw [List.getElem?_map] at hi; exact Option.map_eq_some_iff.mp hi
   have hi2:i<l.length:=by have:=(List.getElem?_eq_some_iff.mp hxa).1; omega
   have hli:l[i]? = some l[i]:=List.getElem?_eq_getElem hi2
   obtain ⟨y',e3,e4⟩:=Zm hli h5
   rw [hxa] at e3; cases e3
   have lt:=qbT (f:=jx) hli
   have le:=qhn jx l (i+1)
   rw [lt,List.length_append] at le
   have lws:=Paired.length hp
   rw [List.length_append,List.length_cons,List.length_nil] at lws
   generalize l[i]=U at hli e4 lt le
   cases U with
   | node kd ls' l'=>
   have e4':=e4
   unfold qI at e4'
   obtain ⟨dx',la',ka',lb',ks',⟨g1,_⟩,_⟩:=e4'
   refine ⟨_,rfl,xa,_,dx',_,_,rfl,s1 _ _ g1,T.c_Node,T.n_Node_kind,j4 _ _ _ _,rfl,_,rfl,zZ (fun e=>?_) fun e=>?_⟩
   ·have e:=(qcr kd).mp (of_decide_eq_true e)
    subst e
    have ep:jx (.node .piece ls' l')=[.t (.node .piece ls' l')]:=by unfold jx; exact if_pos rfl
    rw [ep] at lt le
    refine ⟨_,rfl,.inl ⟨rfl,_,SqL.of e1⟩,_,rfl,q,ws,_,rfl,rfl,e1,?_,?_⟩
    ·simp only [List.length_cons,List.length_nil] at le; omega
    refine ⟨_,_,rfl,fun b o eb=>by rw [qd (qg eb hq)]; exact s1 b o eb,qc,?_⟩
    rw [lt,<- List.append_assoc]
    exact Parts.app hp (.cons ⟨xa,rfl,e4⟩ .nil)
   ·have e:¬ kd=.piece:=fun y=>e (decide_eq_true ((qcr kd).mpr y))
    have ep:jx (.node kd ls' l')=[ps "${",.t (.node kd ls' l'),ps "}"]:=by unfold jx; rw [if_neg (show ¬ (Vastoa.Tree.node kd ls' l').kind=.piece from e)]
    rw [ep] at lt le
    refine ⟨_,rfl,.inl ⟨rfl,_,SqL.of e1⟩,_,rfl,(by show 3<=sizeLine; decide),fun p hp2=>?_⟩
    have pq:q≠p:=qg e1 hp2
    refine ⟨q,p,_,_,rfl,rfl,(qd pq).trans e1,qc,?_,?_⟩
    ·simp only [List.length_cons,List.length_nil] at le ⊢; omega
    refine ⟨_,_,rfl,fun b o eb=>by rw [qd (qg eb hq)]; exact qr hp2 _ _ (s1 b o eb),qc,?_⟩
    rw [lt,<- List.append_assoc]
    exact Parts.app hp (.cons rfl (.cons ⟨xa,rfl,e4⟩ (.cons rfl .nil)))
  ·rintro σ H1 ⟨v,ws,rfl,s1,e1,hp⟩
   rw [List.length_map,lk,List.take_length] at hp
   have lws:=Paired.length hp
   rw [List.length_append,List.length_cons,List.length_nil] at lws
   refine ⟨_,rfl,(by show 1<=sizeLine; decide),fun p hp2=>?_⟩
   have sp:=qr (o:=.lst [V.str "\""]) hp2
   refine ⟨q,p,_,_,rfl,rfl,sp _ _ e1,qc,?_,fun z hz=>?_⟩
   ·simp only [List.length_cons,List.length_nil]; omega
   have sz:=s1.trans (sp.trans (qr (o:=.lst (ws++[V.str "\""])) hz))
   exact k _ z _ sz (same_none (s1.trans sp) hz) qc (Parts.app (hp.s sz) (.cons rfl .nil))
theorem qa6:qm ["node","parts","label"] ["node"] (qe Zq):=⟨rfl,rfl,rfl,by decide +kernel,rfl,by decide +kernel,by decide +kernel⟩
theorem qiq (F:Fun K "lay_get" "lay_get" Zq f fd) (T:Tx P w K mg a) (R:Tp P w K mg r) (G:FnAt P w K mg base CX0 1 "at" ["kid","rank"] (qbS a)):qy P w K mg base CX0 2 f fd ["node"] (spL a (fun U=>(∃ ls x,U=.node .get ls [x]) \/ ∃ ls x y,U=.node .get ls [x,y]) qG):=by
 refine F.ok qa6 (fun vs H Q E h=>?_) (fun cdv A outer s H vs Q E hr h=>?_)
 ·obtain ⟨M,t,U,rfl,_⟩:=h; rfl
 ·obtain ⟨M,t,U,rfl,hU,hS,hl,k⟩:=h
  refine ⟨_,qi (qZ (i:=1) qa6.nd rfl (Or.inl rfl) (za G hr qM (qa (jz zH (qj (pv 0) rfl) qw (fun _ _=>rfl)) (qa (qN R.gH) qh))))
   (qi (Jq PassesOwn.never rfl (Jj (qj (pv 0) rfl)) (jy (i:=2) qa6.nd rfl (Or.inl rfl))
    (qf (qt (zF PySem.F.plainAttrs_list PySem.F.slot_list_extend PySem.F.type_list_extend jw (pv 1) (qa (qW (qa qJ (qa (pv 2) qh))) qh)))))
   (qi (qU (qL JM (z7 zy (by rfl) T.b_len PySem.boot_len (qa (qj (pv 0) rfl) qh)) qw (qV _))
    (qi (qt (zF PySem.F.plainAttrs_list PySem.F.slot_list_append PySem.F.type_list_append zn (pv 1) (qa qJ qh)))
    (qf (qt (zF PySem.F.plainAttrs_list PySem.F.slot_list_extend PySem.F.type_list_extend jw (pv 1) (qa (za G hr qM (qa (jz zH (qj (pv 0) rfl) qw (fun _ _=>rfl)) (qa (qN R.gH) qh))) qh))))) zm)
   (qf (qF (pv 1))))),?_⟩
  obtain ⟨ls,x,l',rfl,hS'⟩:∃ ls x l',U=.node .get ls (x::l')/\(l'=[] \/ ∃ y,l'=[y]):=by
   rcases hS with ⟨ls,x,rfl⟩ | ⟨ls,x,y,rfl⟩
   ·exact ⟨ls,x,[],rfl,.inl rfl⟩
   ·exact ⟨ls,x,[y],rfl,.inr ⟨y,rfl⟩⟩
  have hU':=hU
  unfold qI at hU'
  obtain ⟨dx,la,ka,lb,ks,⟨h1,_⟩,⟨h2,_⟩,h3,⟨h4,_⟩,h5⟩:=hU'
  have big:=Zx
  obtain ⟨u,eu,hu⟩:=Zm (i:=0) (U:=x) rfl h5
  have lk:ks.length=(x::l').length:=Paired.length (qT.mp h5)
  have ll:lb.length=ls.length:=Paired.length h3
  have hlen:(atP x 12++jm ls).length+(if l'=[] then 0 else 10)<=Bd+10:=by
   rcases hS' with rfl | ⟨y,rfl⟩
   ·have hl:(atP x 12++jm ls).length<=Bd:=hl
    rw [if_pos rfl]; omega
   ·have hl:(atP x 12++jm ls++[ps " ? "]++atP y 12).length<=Bd:=hl
    have:=le_app (le_app hl)
    split <;> omega
  have hlen':(atP x 12++jm ls).length<=Bd:=by
   rcases hS' with rfl | ⟨y,rfl⟩
   ·exact hl
   ·exact le_app (le_app (show (atP x 12++jm ls++[ps " ? "]++atP y 12).length<=Bd from hl))
  refine ⟨_,rfl,t,_,dx,_,_,rfl,h1,T.c_Node,T.n_Node_kids,QN _ _ _ _,ka,_,_,_,rfl,rfl,SqL.of h4,jJ (j:=0) (v:=V.ref u) (by rw [List.getElem?_map,eu]; rfl),M,u,x,12,rfl,hu,fun H1 q sq hq eq1=>?_⟩
  refine ⟨_,rfl,t,_,dx,_,_,rfl,sq _ _ h1,T.c_Node,T.n_Node_labels,J6 _ _ _ _,la,rfl,⟨_,SqL.of (sq _ _ h2)⟩,qcu (K:=K) (a:=la) (xs:=lb.map V.ref) (fun i σ H'=>∃ (v:Option V) (ws:List V),σ = [some (.ref t),some (.ref q),v]/\qE H H'/\H' q=some (.lst ws)/\Parts a M H (atP x 12++jm (ls.take i)) ws)
   ⟨none,_,rfl,sq,eq1,by rw [List.take_zero]; show Parts a M H (atP x 12++[]) _; rw [List.append_nil]; exact qa4 hu⟩ (fun i σ H' _ ⟨_,_,_,s1,_⟩=>SqL.of (s1 _ _ h2)) ?_ ?_⟩
  ·rintro i y σ H2 hi ⟨v,ws,rfl,s1,e1,hp⟩
   obtain ⟨xa,hxa,rfl⟩:∃ z,lb[i]? = some z/\V.ref z=y:=by rw [List.getElem?_map] at hi; exact Option.map_eq_some_iff.mp hi
   have hi2:i<ls.length:=by have:=(List.getElem?_eq_some_iff.mp hxa).1; omega
   have hli:ls[i]? = some ls[i]:=List.getElem?_eq_getElem hi2
   obtain ⟨y',e3,e4⟩:=zR h3 hli
   rw [hxa] at e3; cases e3
   have lt:jm (ls.take (i+1))=jm (ls.take i)++[ps ".",.l ls[i]]:=qbT hli
   have le:(jm (ls.take (i+1))).length<=(jm ls).length:=qhn _ ls (i+1)
   rw [lt,List.length_append] at le
   have lws:=Paired.length hp
   rw [List.length_append] at lws hlen'
   refine ⟨_,rfl,.inl ⟨rfl,_,SqL.of e1⟩,_,rfl,(by show 2<=sizeLine; decide),fun p hp2=>?_⟩
   have pq:q≠p:=qg e1 hp2
   refine ⟨q,p,_,_,rfl,rfl,(qd pq).trans e1,qc,?_,?_⟩
   ·simp only [List.length_cons,List.length_nil] at le ⊢; omega
   refine ⟨_,_,rfl,fun b o eb=>by rw [qd (qg eb hq)]; exact qr hp2 _ _ (s1 b o eb),qc,?_⟩
   rw [lt,<- List.append_assoc]
   exact Parts.app hp (.cons rfl (.cons ⟨xa,rfl,e4⟩ .nil))
  ·rintro σ H2 ⟨v,ws,rfl,s1,e1,hp⟩
   rw [List.length_map,ll,List.take_length] at hp
   have lws:=Paired.length hp
   refine ⟨_,rfl,t,_,dx,_,_,rfl,s1 _ _ h1,T.c_Node,T.n_Node_kids,QN _ _ _ _,ka,_,rfl,.inl (SqL.of (s1 _ _ h4)),_,_,rfl,rfl,_,rfl,?_⟩
   rw [show (((ks.map V.ref).length:Nat):Int)=((x::l').length:Nat) by rw [List.length_map,lk]]
   rcases hS' with rfl | ⟨y,rfl⟩
   ·exact zp ⟨_,rfl,k H2 q ws s1 hq e1 (hp.s s1)⟩
   ·have hl:(atP x 12++jm ls++[ps " ? "]++atP y 12).length<=Bd:=hl
    rw [List.length_append,List.length_append,<- lws] at hl
    obtain ⟨u',eu',hu'⟩:=Zm (i:=1) (U:=y) rfl h5
    refine zL ⟨_,rfl,.inl ⟨rfl,_,SqL.of e1⟩,q,ws,_,rfl,rfl,e1,?_,?_⟩
    ·simp only [List.length_cons,List.length_nil] at hl; omega
    have s2:qE H (upd H2 q (.lst (ws++[V.str " ? "]))):=fun b o eb=>by rw [qd (qg eb hq)]; exact s1 b o eb
    have e2:upd H2 q (.lst (ws++[V.str " ? "])) q=some (.lst (ws++[V.str " ? "])):=qc
    generalize upd H2 q (.lst (ws++[V.str " ? "]))=H3 at s2 e2 ⊢
    refine ⟨_,rfl,.inl ⟨rfl,_,SqL.of e2⟩,_,rfl,t,_,dx,_,_,rfl,s2 _ _ h1,T.c_Node,T.n_Node_kids,QN _ _ _ _,ka,_,_,_,rfl,rfl,SqL.of (s2 _ _ h4),jJ (j:=1) (v:=V.ref u') (by rw [List.getElem?_map,eu']; rfl),M,u',y,12,rfl,hu'.s s2,fun H4 p s4 hp4 e4=>?_⟩
    refine ⟨q,p,_,_,rfl,rfl,s4 _ _ e2,e4,?_,?_⟩
    ·have:(atV y 12 u').length=(atP y 12).length:=Paired.length (qa4 hu')
     simp only [List.length_append,List.length_cons,List.length_nil] at hl ⊢; omega
    have s5:qE H (upd H4 q (.lst (ws++[V.str " ? "]++atV y 12 u'))):=fun b o eb=>by rw [qd (qg eb hq)]; exact s4 _ _ (s2 b o eb)
    refine ⟨_,rfl,k _ q _ s5 hq qc ?_⟩
    exact Parts.s s5 (Parts.app (Parts.app hp (.cons rfl .nil)) (qa4 hu'))
end
end RT
end
section
namespace RT
open PySem PySem.Spec PyProof.Rows L2
def qho (a:Ad):Sp:=fun vs H Q E=>∃ (M:Addr->Prop) (t:Addr) (x:List Nat),vs=[.ref t]/\qI a M H (.node .piece [x] []) t/\x.length<=8000000/\(∀ b,M b->H b≠none)/\∀ H' p ws,qE H H'->H p=none->H' p=some (.lst ws)->Parts a M H' (qG (.node .piece [x] [])) ws->Q (.ref p) H'
theorem qof (c:Nat):inV (.int (c:Int)) [V.int 34,V.int 92,V.int 36]=decide (c=34 \/ c=92 \/ c=36):=by
 simp only [inV,List.any_cons,List.any_nil,eqV,zE,Bool.or_false]
 rw [Bool.eq_iff_iff]
 simp
 omega
theorem qdq (k:Vastoa.Kind):(V.str (kindS k)=V.str (Str.ofString "fields..")) ↔ k=.openFields:=by
 constructor
 ·intro h
  have h:kindS k=Str.ofString "fields..":=by injection h
  revert h
  cases k with
  | op o=>cases o <;> decide +kernel
  | _=>decide +kernel
 ·rintro rfl; rfl
theorem qjU {xs:List V} (x:V):Jv (xs++[x]) none (some (-1))=xs:=by
 unfold Jv
 have e1:HT.sIx (xs++[x]).length 0 none=0:=rfl
 have e2:HT.sIx (xs++[x]).length (xs++[x]).length (some (-1))=xs.length:=by
  unfold HT.sIx
  simp
  omega
 rw [e1,e2,List.drop_zero,Nat.sub_zero]
 simp
theorem qdr {a:Ad} {M:Addr->Prop} {H:Hp} {e:VT}:∀ {l:List VT} {ks:List Addr},qp a M H (l++[e]) ks->∃ k1 u,ks=k1++[u]/\qp a M H l k1/\qI a M H e u
 | [],ks,h=>by
  rw [List.nil_append] at h
  unfold qp at h
  obtain ⟨u,r,rfl,h1,h2⟩:=h
  unfold qp at h2
  subst h2
  exact ⟨[],u,rfl,by unfold qp; rfl,h1⟩
 | t::l,ks,h=>by
  rw [List.cons_append] at h
  unfold qp at h
  obtain ⟨u,r,rfl,h1,h2⟩:=h
  obtain ⟨k1,v,rfl,h3,h4⟩:=qdr h2
  exact ⟨u::k1,v,rfl,by unfold qp; exact ⟨u,k1,rfl,h1,h3⟩,h4⟩
def qlr (a:Ad) (M:Addr->Prop) (T:VT) (gs:List (List Pt)):NP:=fun σ H=>jo a M T σ H/\∃ q gv,σ[1]? = some (some (.ref q))/\H q=some (.lst gv)/\Z8 a M H gs gv
theorem qls {a:Ad} {M:Addr->Prop} {T:VT} {gs:List (List Pt)}:qf8 (qlr a M T gs):=fun _ _ _ s ⟨h,q,gv,e,h1,h2⟩=>⟨jD _ _ _ s h,q,gv,e,s _ _ h1,h2.s s⟩
section
variable {P:Program} {w:World} {K:PySem.W.Frag} {mg:Str->Option Value} {base:Heap} {f:Addr} {fd:FuncData} {a:Ad} {r:Ap}
theorem JJ:qm ["node","printed","byte"] ["node"] (qe Qu):=⟨rfl,rfl,rfl,by decide +kernel,rfl,by decide +kernel,by decide +kernel⟩
theorem qgi (F:Fun K "lay_piece" "lay_piece" Qu f fd) (T:Tx P w K mg a) (G:FnAt P w K mg base CX0 1 "bytes_of" ["written"] qal):qy P w K mg base CX0 2 f fd ["node"] (qho a):=by
 refine F.ok JJ (fun vs H Q E h=>?_) (fun cdv A outer s H vs Q E hr h=>?_)
 ·obtain ⟨M,t,U,rfl,_⟩:=h; rfl
 ·obtain ⟨M,t,x,rfl,hU,hx,hM,k⟩:=h
  have big:16000100<sizeLine:=by decide
  refine ⟨_,qi (qZ (i:=1) JJ.nd rfl (Or.inl rfl) (qW qh))
   (qi (Jq PassesOwn.never rfl (Jj (jz zH (qj (pv 0) rfl) qw (fun _ _=>rfl))) (jy (i:=2) JJ.nd rfl (Or.inl rfl))
    (qf (qU (qjg (pv 2) (qa (qN T.g_QUOTE) (qa (qN T.g_BACKSLASH) (qa (qN T.g_DOLLAR) qh))))
     (qi (qt (zF PySem.F.plainAttrs_list PySem.F.slot_list_append PySem.F.type_list_append zn (pv 1) (qa (qN T.g_BACKSLASH) qh))) (qf (qt (zF PySem.F.plainAttrs_list PySem.F.slot_list_append PySem.F.type_list_append zn (pv 1) (qa (pv 2) qh)))))
     (qf (qU (qL z6 (pv 2) (qN T.g_LINE_FEED) (qV _)) (qf (qt (zF PySem.F.plainAttrs_list PySem.F.slot_list_extend PySem.F.type_list_extend jw (pv 1) (qa (za G hr qM (qa qJ qh)) qh))))
     (qf (qU (qL z6 (pv 2) (qN T.g_TAB) (qV _)) (qf (qt (zF PySem.F.plainAttrs_list PySem.F.slot_list_extend PySem.F.type_list_extend jw (pv 1) (qa (za G hr qM (qa qJ qh)) qh))))
     (qf (qt (zF PySem.F.plainAttrs_list PySem.F.slot_list_append PySem.F.type_list_append zn (pv 1) (qa (pv 2) qh)))))))))))
   (qf (qF (qW (qa (pv 1) qh))))),?_⟩
  have hU':=hU
  unfold qI at hU'
  obtain ⟨dx,la,ka,lb,ks,⟨h1,_⟩,⟨h2,_⟩,h3,_⟩:=hU'
  obtain ⟨xa,exa,hxa,_⟩:=zR (j:=0) h3 rfl
  refine ⟨Nat.zero_le _,fun q hq=>?_⟩
  have sq:=qr (o:=.lst []) hq
  have xq:xa≠q:=qg hxa hq
  have fin:∀ (i c:Nat) (H' H2:Hp) (v:Option V),x[i]? = some c->qE H H'->(∀ b o,H b=some o->H2 b=some o)->H2 q=some (.lst (nt ((x.take i).flatMap Vastoa.escaped++Vastoa.escaped c)))->∃ v',[some (V.ref t),some (V.ref q),v]=[some (V.ref t),some (V.ref q),v']/\qE H H2/\H2 q=some (.lst (nt ((x.take (i+1)).flatMap Vastoa.escaped))) :=
   fun i c H' H2 v hc s1 s2 e=>⟨v,rfl,s2,by rw [qbT hc]; exact e⟩
  refine ⟨_,rfl,t,_,dx,_,_,rfl,sq _ _ h1,T.c_Node,T.n_Node_labels,J6 _ _ _ _,la,_,_,_,rfl,rfl,SqL.of (sq _ _ h2),jJ (j:=0) (v:=V.ref xa) (by rw [List.getElem?_map,exa]; rfl),xa,rfl,⟨_,SqL.of (sq _ _ hxa)⟩,
   qcu (K:=K) (a:=xa) (xs:=nt x) (fun i σ H'=>∃ v:Option V,σ = [some (.ref t),some (.ref q),v]/\qE H H'/\H' q=some (.lst (nt ((x.take i).flatMap Vastoa.escaped))))
   ⟨none,rfl,sq,qc⟩ (fun i σ H' _ ⟨_,_,s1,_⟩=>SqL.of (s1 _ _ hxa)) ?_ ?_⟩
  ·rintro i y σ H1 hi ⟨v,rfl,s1,e1⟩
   obtain ⟨c,hc,rfl⟩:∃ c:Nat,x[i]? = some c/\V.int (c:Int)=y:=by unfold nt at hi; rw [List.getElem?_map] at hi; exact Option.map_eq_some_iff.mp hi
   have hlen:((x.take i).flatMap Vastoa.escaped).length+4<=sizeLine:=by
    have:=qd1 (x.take i)
    rw [List.length_take] at this
    omega
   refine ⟨_,rfl,rfl,fun H2 s2=>⟨_,rfl,?_⟩⟩
   have s12:=s1.trans s2
   have e2:=s2 _ _ e1
   show if inV (.int (c:Int)) [V.int 34,V.int 92,V.int 36]=true then _ else _
   rw [qof]
   refine zZ (fun hb=>?_) fun hb=>?_
   ·have hb:=of_decide_eq_true hb
    refine ⟨_,rfl,.inl ⟨rfl,_,SqL.of e2⟩,q,_,_,rfl,rfl,e2,by rw [zz]; omega,?_⟩
    refine ⟨_,rfl,.inl ⟨rfl,_,SqL.of qc⟩,_,rfl,q,_,_,rfl,rfl,qc,by rw [List.length_append,zz]; simp only [List.length_cons,List.length_nil]; omega,?_⟩
    refine fin i c H1 _ _ hc s1 (fun b o eb=>by rw [qd (qg eb hq),qd (qg eb hq)]; exact s12 b o eb) ?_
    rw [qc]
    unfold Vastoa.escaped
    rw [if_pos hb]
    unfold nt
    simp
   have hb:¬ (c=34 \/ c=92 \/ c=36):=fun y=>hb (decide_eq_true y)
   refine ⟨_,rfl,rfl,_,rfl,?_⟩
   rw [jp,zE]
   refine zZ (fun h10=>?_) fun h10=>?_
   ·have h10:c=10:=by have:=of_decide_eq_true h10; omega
    subst h10
    refine ⟨_,rfl,.inl ⟨rfl,_,SqL.of e2⟩,_,rfl,(by decide +kernel),fun p hp=>?_⟩
    have pq:q≠p:=qg e2 hp
    refine ⟨q,p,_,_,rfl,rfl,(qd pq).trans e2,qc,by rw [zz,zz]; show _+2<=_; omega,?_⟩
    refine fin i 10 H1 _ _ hc s1 (fun b o eb=>by rw [qd (qg eb hq)]; exact qr hp _ _ (s12 b o eb)) ?_
    rw [qc]
    unfold nt
    rw [List.map_append]
    rfl
   have h10:¬ c=10:=fun y=>h10 (decide_eq_true (by omega))
   refine ⟨_,rfl,rfl,_,rfl,?_⟩
   rw [jp,zE]
   refine zZ (fun h9=>?_) fun h9=>?_
   ·have h9:c=9:=by have:=of_decide_eq_true h9; omega
    subst h9
    refine ⟨_,rfl,.inl ⟨rfl,_,SqL.of e2⟩,_,rfl,(by decide +kernel),fun p hp=>?_⟩
    have pq:q≠p:=qg e2 hp
    refine ⟨q,p,_,_,rfl,rfl,(qd pq).trans e2,qc,by rw [zz,zz]; show _+2<=_; omega,?_⟩
    refine fin i 9 H1 _ _ hc s1 (fun b o eb=>by rw [qd (qg eb hq)]; exact qr hp _ _ (s12 b o eb)) ?_
    rw [qc]
    unfold nt
    rw [List.map_append]
    rfl
   have h9:¬ c=9:=fun y=>h9 (decide_eq_true (by omega))
   refine ⟨_,rfl,.inl ⟨rfl,_,SqL.of e2⟩,_,rfl,q,_,_,rfl,rfl,e2,by rw [zz]; omega,?_⟩
   refine fin i c H1 _ _ hc s1 (fun b o eb=>by rw [qd (qg eb hq)]; exact s12 b o eb) ?_
   rw [qc]
   unfold Vastoa.escaped
   rw [if_neg hb,if_neg h10,if_neg h9]
   unfold nt
   simp
  ·rintro σ H1 ⟨v,rfl,s1,e1⟩
   rw [zz,List.take_length] at e1
   refine ⟨_,rfl,(by show 1<=sizeLine; decide),fun p hp=>?_⟩
   have sp:=qr (o:=.lst [V.ref q]) hp
   exact k _ p _ (s1.trans sp) (same_none s1 hp) qc (.cons ⟨q,rfl,sp _ _ e1,fun y=>hM q y hq⟩ .nil)
theorem Jc:qm ["node","groups","kid"] ["node"] (qe Qb):=⟨rfl,rfl,rfl,by decide +kernel,rfl,by decide +kernel,by decide +kernel⟩
theorem qeZ (F:Fun K "lay_fields" "lay_fields" Qb f fd) (T:Tx P w K mg a) (G:FnAt P w K mg base CX0 1 "put_between" ["groups","mark"] (qcc a)):qy P w K mg base CX0 2 f fd ["node"] (spL a (fun U=>∃ k l e,(k=.fields \/ k=.openFields)/\U=.node k [] (l++[e])) qG):=by
 refine F.ok Jc (fun vs H Q E h=>?_) (fun cdv A outer s H vs Q E hr h=>?_)
 ·obtain ⟨M,t,U,rfl,_⟩:=h; rfl
 ·obtain ⟨M,t,_,rfl,hU,⟨kd,l,e,hkd,rfl⟩,hl,k⟩:=h
  have hlay:qG (.node kd [] (l++[e]))=[ps "fn {"]++btw (ps ", ") (ones l++if kd=.openFields then [[ps ".."]] else [])++[ps "}: ",.t e]:=by
   rcases hkd with rfl | rfl
   ·rw [if_neg (by decide)]; exact qas l e []
   ·rw [if_pos rfl]; exact qas l e [[ps ".."]]
  rw [hlay] at hl k
  have h2:=qau (le_app hl)
  have hll:l.length<=Bd:=qhm h2 (fun g hg=>by
   split at hg
   ·rw [List.mem_singleton.mp hg]; exact Nat.succ_pos _
   ·cases hg)
  obtain ⟨gs,hgs⟩:∃ gs,gs=ones l++if kd=.openFields then [[ps ".."]] else []:=⟨_,rfl⟩
  rw [<- hgs] at hl k h2
  have hU':=hU
  unfold qI at hU'
  obtain ⟨dx,la,ka,lb,kks,⟨h1,_⟩,_,_,⟨h4,_⟩,h5⟩:=hU'
  obtain ⟨ks,u,rfl,h5,h6⟩:=qdr h5
  refine ⟨_,qi (qkk (i:=1) (own:=[("kid",2)]) (te:=qdx (jF (zS 2) QE)) rfl Jc.nd rfl rfl (qlM rfl rfl rfl (by decide +kernel)) (Jj (Ju qb1 (qj (pv 0) rfl) qgZ (QR (qaB Js qw))))
    (Jx rfl) (fun _ _ _ _ _=>jy (i:=2) Jc.nd rfl (Or.inl rfl)) (fun _ _ _ _ _=>qag) (fun _ _ _ _ _=>qW (qa (pv 2) qh)))
   (qi (qU (qL z6 (qj (pv 0) rfl) qJ (qV _)) (qf (qt (zF PySem.F.plainAttrs_list PySem.F.slot_list_append PySem.F.type_list_append zn (pv 1) (qa (qW (qa qJ qh)) qh)))) zm)
   (qf (qF (jE qls (jE qls (zA (qA zt zj)) (qmk (N:=qlr a M (.node kd [] (l++[e])) gs) G hr (pv 1) (fun σ H Q hN h=>by
     obtain ⟨_,q,gv,e1,e2,e3⟩:=hN
     exact ⟨_,e1,h q gv e2 e3⟩) h2) (le_app hl))
    (zA (qA zt (qA (qhk (Qp (fun _ _ h=>h.1) T.c_Node T.n_Node_kids (qj (pv 0) rfl)) (qaB Js qw) (fun _ _ _ h=>⟨_,rfl,h⟩) (Z7 l e) (fun _ _=>rfl)) zj))) hl)))),?_⟩
  refine ⟨_,rfl,t,_,dx,_,_,rfl,h1,T.c_Node,T.n_Node_kids,QN _ _ _ _,_,rfl,_,rfl,ka,_,rfl,SqL.of h4,fun p hp=>?_⟩
  rw [show Jv ((ks++[u]).map V.ref) none (some (-1))=ks.map V.ref by rw [List.map_append]; exact qjU _]
  have sp:=qr (o:=.lst (ks.map V.ref)) hp
  have ep:upd H p (.lst (ks.map V.ref)) p=some (.lst (ks.map V.ref)):=qc
  generalize upd H p (.lst (ks.map V.ref))=H1 at sp ep ⊢
  refine ⟨p,rfl,⟨_,SqL.of ep⟩,fun q hq=>qhl (K:=K) (j:=2) (σ:=[some (V.ref t),none,none]) (fun _=>rfl) (fun _=>rfl) ep (h5.s sp) hll hq (fun H2 gv s2 e2 g2=>?_)⟩
  have s02:=sp.trans s2
  have qn:H q=none:=same_none sp hq
  refine ⟨_,rfl,t,_,dx,_,_,rfl,s02 _ _ h1,T.c_Node,T.n_Node_kind,j4 _ _ _ _,rfl,_,rfl,zZ (fun hk=>?_) fun hk=>?_⟩
  ·have hk:=(qdq kd).mp (of_decide_eq_true hk)
   rw [if_pos hk] at hgs
   subst hgs
   have lgv:gv.length=(ones l).length:=Paired.length g2
   have lo:(ones l).length=l.length:=by simp [ones]
   have big:=Zx
   refine ⟨_,rfl,.inl ⟨rfl,_,SqL.of e2⟩,(by show 1<=sizeLine; decide),fun z hz=>?_⟩
   have qz:q≠z:=qg e2 hz
   have s3:=qr (o:=.lst [V.str ".."]) hz
   refine ⟨q,gv,_,rfl,rfl,s3 _ _ e2,by omega,?_⟩
   have s4:qE H1 (upd (upd H2 z (.lst [V.str ".."])) q (.lst (gv++[.ref z]))):=fun b o eb=>by rw [qd (qg eb hq)]; exact s3 _ _ (s2 b o eb)
   have g4:QC a M H1 (upd (upd H2 z (.lst [V.str ".."])) q (.lst (gv++[.ref z]))) q (ones l++[[ps ".."]]) (gv++[.ref z]):=g2.snoc (fun b o eb n=>by rw [qd n]; exact s3 _ _ eb) (by rw [qd (Ne.symm qz)]; exact qc) (Ne.symm qz) (.cons rfl .nil)
   have s05:=sp.trans s4
   exact ⟨⟨⟨t,rfl,hU.s s05⟩,q,_,rfl,qc,g4.done s4⟩,fun H' z' ws s3 hz=>k H' z' ws (s05.trans s3) (same_none s05 hz)⟩
  ·have hk:¬ kd=.openFields:=fun y=>hk (decide_eq_true ((qdq kd).mpr y))
   rw [if_neg hk,List.append_nil] at hgs
   subst hgs
   exact ⟨⟨⟨t,rfl,hU.s s02⟩,q,gv,rfl,e2,g2.done s2⟩,fun H' z ws s3 hz=>k H' z ws (s02.trans s3) (same_none s02 hz)⟩
theorem QI:qm ["node","rank","left","right"] ["node"] (qe jL):=⟨rfl,rfl,rfl,by decide +kernel,rfl,by decide +kernel,by decide +kernel⟩
theorem qnN (o:Vastoa.Op):zw ZY (Sum.inr (kindS (.op o)))=some (.int (o.rank:Nat)):=by cases o <;> kernel_rfl
theorem qml (o:Vastoa.Op):(if inV (.str (kindS (.op o))) (qdp.map V.str)=true then o.rank else o.rank+1)=o.leftRank:=by cases o <;> decide +kernel
theorem qk5 (o:Vastoa.Op):(if inV (.str (kindS (.op o))) (JI.map V.str)=true then o.rank else o.rank+1)=o.rightRank:=by cases o <;> decide +kernel
def qir (a:Ad) (M:Addr->Prop) (T:VT) (x y:Nat):NP:=fun σ H=>jo a M T σ H /\ σ[2]? = some (some (.int x)) /\ σ[3]? = some (some (.int y))
theorem qlt {a:Ad} {M:Addr->Prop} {T:VT} {x y:Nat}:qf8 (qir a M T x y):=fun _ _ _ s ⟨h,e⟩=>⟨jD _ _ _ s h,e⟩
theorem qds (F:Fun K "lay_operands" "lay_operands" jL f fd) (T:Tx P w K mg a) (R:Tp P w K mg r) (G:FnAt P w K mg base CX0 1 "at" ["kid","rank"] (qbS a)):qy P w K mg base CX0 2 f fd ["node"] (spL a (fun U=>∃ o x y,U=.node (.op o) [] [x,y]) qG):=by
 refine F.ok QI (fun vs H Q E h=>?_) (fun cdv A outer s H vs Q E hr h=>?_)
 ·obtain ⟨M,t,U,rfl,_⟩:=h; rfl
 ·obtain ⟨M,t,_,rfl,hU,⟨o,x,y,rfl⟩,hl,k⟩:=h
  have hl:(atP x o.leftRank++[ps " ",.s (kindS (.op o)),ps " "]++atP y o.rightRank).length<=Bd:=hl
  refine ⟨_,qi (qZ (i:=1) QI.nd rfl (Or.inl rfl) (Zo (qN R.gR) (qj (pv 0) rfl) (fun _ _=>rfl)))
   (qi (qZ (i:=2) QI.nd rfl (Or.inl rfl) (qay (qL Z1 (qj (pv 0) rfl) (qN R.gL) (by with_unfolding_all rfl)) (pv 1) (QQ Jr (pv 1) qw)))
   (qi (qZ (i:=3) QI.nd rfl (Or.inl rfl) (qay (qL Z1 (qj (pv 0) rfl) (qN R.gG) (by with_unfolding_all rfl)) (pv 1) (QQ Jr (pv 1) qw)))
   (qf (qF (jE qlt (jE qlt (qa5 (N:=qir a M (.node (.op o) [] [x,y]) o.leftRank o.rightRank) G hr (qga (i:=0) (Qp (fun _ _ h=>h.1) T.c_Node T.n_Node_kids (qj (pv 0) rfl)) qw (fun _ _ _ h=>h) rfl (fun _ _=>rfl)) (pv 2) (fun _ _ _ hN h=>⟨_,hN.2.1,h⟩))
     (zA (qA zt (qA (qk0 (fun _ _ h=>h.1) T.c_Node T.n_Node_kind (qj (pv 0) rfl)) (qA zt zj)))) (le_app hl))
    (qa5 G hr (qga (i:=1) (Qp (fun _ _ h=>h.1) T.c_Node T.n_Node_kids (qj (pv 0) rfl)) qw (fun _ _ _ h=>h) rfl (fun _ _=>rfl)) (pv 3) (fun _ _ _ hN h=>⟨_,hN.2.2,h⟩)) hl))))),?_⟩
  have hU':=hU
  unfold qI at hU'
  obtain ⟨dx,la,ka,lb,kks,⟨h1,_⟩,_⟩:=hU'
  refine ⟨_,rfl,t,_,dx,_,_,rfl,h1,T.c_Node,T.n_Node_kind,j4 _ _ _ _,r.ranks,_,Sum.inr (kindS (.op o)),_,rfl,R.dR,rfl,qnN o,?_⟩
  refine ⟨_,rfl,t,_,dx,_,_,rfl,h1,T.c_Node,T.n_Node_kind,j4 _ _ _ _,r.left,_,rfl,.inr (R.tL.sq _),rfl,Z6 _,_,rfl,?_⟩
  have go:∀ (n m:Nat),n=o.leftRank->m=o.rightRank->tMk a M (qir a M (.node (.op o) [] [x,y]) o.leftRank o.rightRank) (atP x o.leftRank++[ps " ",.s (kindS (.op o)),ps " "]++atP y o.rightRank) [some (.ref t),some (.int (o.rank:Nat)),some (.int n),some (.int m)] H fun v H'=>Q v H':=by
   rintro n m rfl rfl
   exact ⟨⟨⟨t,rfl,hU⟩,rfl,rfl⟩,k⟩
  have l2:=qml o
  have r2:=qk5 o
  refine zZ (fun hb=>?_) fun hb=>?_
  ·rw [if_pos (show inV (.str (kindS (.op o))) (qdp.map V.str)=true from hb)] at l2
   refine ⟨_,rfl,_,rfl,t,_,dx,_,_,rfl,h1,T.c_Node,T.n_Node_kind,j4 _ _ _ _,r.right,_,rfl,.inr (R.tG.sq _),rfl,Z6 _,_,rfl,?_⟩
   refine zZ (fun hc=>?_) fun hc=>?_
   ·rw [if_pos (show inV (.str (kindS (.op o))) (JI.map V.str)=true from hc)] at r2
    exact ⟨_,rfl,go _ _ l2 r2⟩
   ·rw [if_neg (show ¬ inV (.str (kindS (.op o))) (JI.map V.str)=true from hc)] at r2
    exact ⟨_,rfl,_,_,rfl,rfl,go _ _ l2 r2⟩
  ·rw [if_neg (show ¬ inV (.str (kindS (.op o))) (qdp.map V.str)=true from hb)] at l2
   refine ⟨_,rfl,_,_,rfl,rfl,_,rfl,t,_,dx,_,_,rfl,h1,T.c_Node,T.n_Node_kind,j4 _ _ _ _,r.right,_,rfl,.inr (R.tG.sq _),rfl,Z6 _,_,rfl,?_⟩
   refine zZ (fun hc=>?_) fun hc=>?_
   ·rw [if_pos (show inV (.str (kindS (.op o))) (JI.map V.str)=true from hc)] at r2
    exact ⟨_,rfl,go _ _ l2 r2⟩
   ·rw [if_neg (show ¬ inV (.str (kindS (.op o))) (JI.map V.str)=true from hc)] at r2
    exact ⟨_,rfl,_,_,rfl,rfl,go _ _ l2 r2⟩
end
end RT
end
section
namespace RT
open PySem PySem.Spec PyProof.Rows L2
structure Al where
 (piece label yes no none text list record recur get app neg not has fn fields param lt cond must ops:Addr)
def qog (l:Al):List (String × Addr):=[("piece",l.piece),("num",l.label),("yes",l.yes),("no",l.no),("none",l.none),("name",l.label),("text",l.text),("list",l.list),("record",l.record),("recur",l.recur),("get",l.get),("app",l.app),("neg",l.neg),("not",l.not),("has",l.has),("fn",l.fn),("fields",l.fields),("fields..",l.fields),("param",l.param),("let",l.lt),("if",l.cond),("must",l.must),("or",l.ops),("and",l.ops),("==",l.ops),("!=",l.ops),("<",l.ops),("<=",l.ops),("//",l.ops),("++",l.ops),("+",l.ops),("-",l.ops),("*",l.ops)]
def qd3 (l:Al):List (Key × V):=(qog l).map fun p=>(Sum.inr (Str.ofString p.1),V.ref p.2)
theorem qk6 (l:Al):(qd3 l).map (·.1)=(qd3 ⟨0,0,0,0,0,0,0,0,0,0,0,0,0,0,0,0,0,0,0,0,0⟩).map (·.1):=rfl
def qnr (l:Al):Vastoa.Kind->Addr
 | .piece=>l.piece | .num=>l.label | .yes=>l.yes | .no=>l.no | .none=>l.none | .name=>l.label | .text=>l.text | .list=>l.list | .record=>l.record | .recur=>l.recur
 | .get=>l.get | .app=>l.app | .neg=>l.neg | .not=>l.not | .has=>l.has | .fn=>l.fn | .fields=>l.fields | .openFields=>l.fields | .param=>l.param | .letIn=>l.lt | .cond=>l.cond | .must=>l.must | .op _=>l.ops
theorem qmm (l:Al) (k:Vastoa.Kind):zw (qd3 l) (Sum.inr (kindS k))=some (.ref (qnr l k)):=by
 cases k with
 | op o=>cases o <;> kernel_rfl
 | _=>kernel_rfl
def jn (P:Program) (w:World) (K:PySem.W.Frag) (mg:Str->Option Value) (base:Heap) (f:Addr) (sp:Sp):Prop:=∃ fd,qy P w K mg base CX0 4 f fd ["node"] sp/\PySem.W.keepIn K (.ref f)=true/\Binds K fd ["node"] []
structure qns (P:Program) (w:World) (K:PySem.W.Frag) (mg:Str->Option Value) (base:Heap) (a:Ad) (l:Al):Prop where
 piece:jn P w K mg base l.piece (qho a)
 label:jn P w K mg base l.label (spL a (fun U=>(∃ x,U=.node .num [x] []) \/ ∃ x,U=.node .name [x] []) qG)
 yes:jn P w K mg base l.yes (spL a (· = .node .yes [] []) qG)
 no:jn P w K mg base l.no (spL a (· = .node .no [] []) qG)
 none:jn P w K mg base l.none (spL a (· = .node .none [] []) qG)
 text:jn P w K mg base l.text (spL a (fun U=>∃ l,U=.node .text [] l) qG)
 list:jn P w K mg base l.list (spL a (fun U=>∃ l,U=.node .list [] l) qG)
 record:jn P w K mg base l.record (spL a ShB qk4)
 recur:jn P w K mg base l.recur (spL a (fun U=>∃ ls l,U=.node .recur ls l/\ls.length=l.length) qG)
 get:jn P w K mg base l.get (spL a (fun U=>(∃ ls x,U=.node .get ls [x]) \/ ∃ ls x y,U=.node .get ls [x,y]) qG)
 app:jn P w K mg base l.app (spL a (fun U=>∃ x y,U=.node .app [] [x,y]) qG)
 neg:jn P w K mg base l.neg (spL a (fun U=>∃ x,U=.node .neg [] [x]) qG)
 not:jn P w K mg base l.not (spL a (fun U=>∃ x,U=.node .not [] [x]) qG)
 has:jn P w K mg base l.has (spL a (fun U=>∃ x y,U=.node .has [x] [y]) qG)
 fn:jn P w K mg base l.fn (spL a (fun U=>∃ x e,U=.node .fn [x] [e]) qG)
 fields:jn P w K mg base l.fields (spL a (fun U=>∃ k l e,(k=.fields \/ k=.openFields)/\U=.node k [] (l++[e])) qG)
 param:jn P w K mg base l.param (spL a (fun U=>(∃ x,U=.node .param [x] []) \/ ∃ x d,U=.node .param [x] [d]) qG)
 lt:jn P w K mg base l.lt (spL a (fun U=>∃ ls l e,U=.node .letIn ls (l++[e])/\ls.length=l.length) qG)
 cond:jn P w K mg base l.cond (spL a (fun U=>∃ x y z,U=.node .cond [] [x,y,z]) qG)
 must:jn P w K mg base l.must (spL a (fun U=>∃ x y,U=.node .must [] [x,y]) qG)
 ops:jn P w K mg base l.ops (spL a (fun U=>∃ o x y,U=.node (.op o) [] [x,y]) qG)
def qlu (a:Ad):Sp:=fun vs H Q E=>∃ (M:Addr->Prop) (t:Addr) (T:VT),vs=[.ref t]/\qI a M H T t/\Shp T/\wt T<=Bd/\(∀ b,M b->H b≠none)/\∀ H' p ws,qE H H'->H p=none->H' p=some (.lst ws)->Parts a M H' (qG T) ws->Q (.ref p) H'
section
variable {P:Program} {w:World} {K:PySem.W.Frag} {mg:Str->Option Value} {base:Heap} {f:Addr} {fd:FuncData} {a:Ad} {r:Ap} {l:Al}
theorem qis:qm ["node"] ["node"] (qe Zw):=⟨rfl,rfl,rfl,by decide +kernel,rfl,by decide +kernel,by decide +kernel⟩
theorem qit (F:Fun K "lay_out" "lay_out" Zw f fd) (T:Tx P w K mg a) {la:Addr} (gL:GlV mg "LAYOUTS" (.ref la)) (dL:QG P w K la (qd3 l)) (Y:qns P w K mg base a l):qy P w K mg base CX0 5 f fd ["node"] (qlu a):=by
 refine F.ok qis (fun vs H Q E h=>?_) (fun cdv A outer s H vs Q E hr h=>?_)
 ·obtain ⟨M,t,U,rfl,_⟩:=h; rfl
 ·obtain ⟨M,t,U,rfl,hU,hS,hw,hM,k⟩:=h
  refine ⟨_,qf (qF (qkY (k:=4) (Zo (qN gL) (qj (pv 0) rfl) (fun _ _=>rfl)) hr (qa (pv 0) qh))),?_⟩
  have hlen:(qG U).length<=Bd:=by have:=qf6 hS; have:=qdn (qG U); omega
  have go:∀ (kd:Vastoa.Kind) (sp:Sp),U.kind=kd->jn P w K mg base (qnr l kd) sp->sp [.ref t] H Q E0->qjK P w K mg base 4 (qlk P w K (tC (.ref la)) (JV K (zS 0) "kind")) (jF (zS 0) QE) [some (.ref t)] H Q:=by
   intro kd sp ek Lk hsp
   obtain ⟨fd',F',hk',hb'⟩:=Lk
   cases U with
   | node k0 ls0 l0=>
   cases ek
   unfold qI at hU
   obtain ⟨dx,la',ka,lb,kks,⟨h1,_⟩,_⟩:=hU
   exact ⟨_,rfl,t,_,dx,_,_,rfl,h1,T.c_Node,T.n_Node_kind,j4 _ _ _ _,la,_,Sum.inr _,_,rfl,dL,rfl,qmm l _,_,fd',_,sp,rfl,F',hk',hb',_,rfl,hsp⟩
  cases hS with
  | piece x=>exact go _ _ rfl Y.piece ⟨M,t,x,rfl,hU,by simp only [wt,List.map,List.sum_cons,List.sum_nil] at hw; unfold Bd at hw; omega,hM,k⟩
  | num x=>exact go _ _ rfl Y.label ⟨M,t,_,rfl,hU,.inl ⟨x,rfl⟩,hlen,k⟩
  | yes=>exact go _ _ rfl Y.yes ⟨M,t,_,rfl,hU,rfl,hlen,k⟩
  | no=>exact go _ _ rfl Y.no ⟨M,t,_,rfl,hU,rfl,hlen,k⟩
  | none=>exact go _ _ rfl Y.none ⟨M,t,_,rfl,hU,rfl,hlen,k⟩
  | name x=>exact go _ _ rfl Y.label ⟨M,t,_,rfl,hU,.inr ⟨x,rfl⟩,hlen,k⟩
  | text l=>exact go _ _ rfl Y.text ⟨M,t,_,rfl,hU,⟨l,rfl⟩,hlen,k⟩
  | list l=>exact go _ _ rfl Y.list ⟨M,t,_,rfl,hU,⟨l,rfl⟩,hlen,k⟩
  | record ls l h=>exact go _ _ rfl Y.record ⟨M,t,_,rfl,hU,⟨_,ls,l,rfl,Nat.le_of_eq h⟩,hlen,k⟩
  | recur ls l h=>exact go _ _ rfl Y.recur ⟨M,t,_,rfl,hU,⟨ls,l,rfl,h⟩,hlen,k⟩
  | get1 ls x=>exact go _ _ rfl Y.get ⟨M,t,_,rfl,hU,.inl ⟨ls,x,rfl⟩,hlen,k⟩
  | get2 ls x y=>exact go _ _ rfl Y.get ⟨M,t,_,rfl,hU,.inr ⟨ls,x,y,rfl⟩,hlen,k⟩
  | app x y=>exact go _ _ rfl Y.app ⟨M,t,_,rfl,hU,⟨x,y,rfl⟩,hlen,k⟩
  | neg x=>exact go _ _ rfl Y.neg ⟨M,t,_,rfl,hU,⟨x,rfl⟩,hlen,k⟩
  | not x=>exact go _ _ rfl Y.not ⟨M,t,_,rfl,hU,⟨x,rfl⟩,hlen,k⟩
  | has x y=>exact go _ _ rfl Y.has ⟨M,t,_,rfl,hU,⟨x,y,rfl⟩,hlen,k⟩
  | fn x y=>exact go _ _ rfl Y.fn ⟨M,t,_,rfl,hU,⟨x,y,rfl⟩,hlen,k⟩
  | fields l e=>exact go _ _ rfl Y.fields ⟨M,t,_,rfl,hU,⟨_,l,e,.inl rfl,rfl⟩,hlen,k⟩
  | opens l e=>exact go _ _ rfl Y.fields ⟨M,t,_,rfl,hU,⟨_,l,e,.inr rfl,rfl⟩,hlen,k⟩
  | param0 x=>exact go _ _ rfl Y.param ⟨M,t,_,rfl,hU,.inl ⟨x,rfl⟩,hlen,k⟩
  | param1 x d=>exact go _ _ rfl Y.param ⟨M,t,_,rfl,hU,.inr ⟨x,d,rfl⟩,hlen,k⟩
  | letIn ls l e h=>exact go _ _ rfl Y.lt ⟨M,t,_,rfl,hU,⟨ls,l,e,rfl,h⟩,hlen,k⟩
  | cond x y z=>exact go _ _ rfl Y.cond ⟨M,t,_,rfl,hU,⟨x,y,z,rfl⟩,hlen,k⟩
  | must x y=>exact go _ _ rfl Y.must ⟨M,t,_,rfl,hU,⟨x,y,rfl⟩,hlen,k⟩
  | op o x y=>exact go _ _ rfl Y.ops ⟨M,t,_,rfl,hU,⟨o,x,y,rfl⟩,hlen,k⟩
end
end RT
end
section
namespace RT
open PySem PySem.Spec PyProof.Rows L2
def OkP (K:List VT):Pt->Prop
 | .t U=>U∈K
 | .s x=>x.cps.size<=8
 | .l _=>True
def AllP (K:List VT) (L:List Pt):Prop:=∀ x∈L,OkP K x
theorem okA {K:List VT} {A B:List Pt} (h:AllP K A) (g:AllP K B):AllP K (A++B):=fun x hx=>(List.mem_append.mp hx).elim (h x) (g x)
theorem okC {K:List VT} {x:Pt} {L:List Pt} (h:OkP K x) (g:AllP K L):AllP K (x::L):=fun y hy=>(List.mem_cons.mp hy).elim (fun e=>e ▸ h) (g y)
theorem okN {K:List VT}:AllP K []:=fun x hx=>by cases hx
theorem okS {K:List VT} (x:String) (h:(Str.ofString x).cps.size<=8:=by decide +kernel):OkP K (ps x):=h
theorem qac {K:List VT} {U:VT} {n:Nat} (h:U∈K):AllP K (atP U n):=by
 unfold atP
 split
 ·exact okC (okS "(") (okC h (okC (okS ")") okN))
 ·exact okC h okN
theorem qdt {K:List VT} {m:Pt} (hm:OkP K m):∀ {gs:List (List Pt)},(∀ g∈gs,AllP K g)->AllP K (btw m gs)
 | [],_=>okN
 | [g],h=>h g (by simp)
 | g::k::r,h=>okA (A:=g) (B:=m::btw m (k::r)) (h g (by simp)) (okC hm (qdt hm fun x hx=>h x (List.mem_cons_of_mem _ hx)))
theorem qgj {K l:List VT} (h:∀ U∈l,U∈K):∀ g∈ones l,AllP K g:=fun g hg=>by
 unfold ones at hg
 obtain ⟨U,hU,rfl⟩:=List.mem_map.mp hg
 exact okC (h U hU) okN
theorem qhp {K:List VT} {ls:List (List Nat)} {l:List VT} (h:∀ U∈l,U∈K):AllP K (j7 ls l):=qdt (okS " ") fun g hg=>by
 unfold z5 at hg
 obtain ⟨⟨x,U⟩,hU,rfl⟩:=List.mem_map.mp hg
 exact okC trivial (okC (okS " = ") (okC (h U (List.of_mem_zip hU).2) (okC (okS ";") okN)))
theorem qlv {K:List VT} {ls:List (List Nat)} {l:List VT} (h:∀ U∈l,U∈K):AllP K (Q8 ls l):=by
 unfold Q8
 split
 ·exact okC (okS "{}") okN
 ·exact okA (okA (okC (okS "{ ") okN) (qhp h)) (okC (okS " }") okN)
theorem qjV {α : Type} {K:List VT} {f:α -> List Pt} {l:List α} (h:∀ U∈l,AllP K (f U)):AllP K (l.flatMap f):=fun x hx=>by
 obtain ⟨U,h1,h2⟩:=List.mem_flatMap.mp hx
 exact h U h1 x h2
theorem qjW {K:List VT} {ls:List (List Nat)}:AllP K (jm ls):=qjV fun x _=>okC (okS ".") (okC trivial okN)
theorem qk7 (o:Vastoa.Op):(kindS (.op o)).cps.size<=8:=by cases o <;> decide +kernel
theorem qjX {T:VT} (hS:Shp T):AllP T.kids (qG T):=by
 cases hS with
 | piece x=>exact okC trivial okN
 | num x=>exact okC trivial okN
 | yes=>exact okC (okS "true") okN
 | no=>exact okC (okS "false") okN
 | none=>exact okC (okS "none") okN
 | name x=>exact okC trivial okN
 | text l=>
  refine okA (okA (okC (okS "\"") okN) (qjV fun U hU=>?_)) (okC (okS "\"") okN)
  unfold jx
  split
  ·exact okC hU okN
  ·exact okC (okS "${") (okC hU (okC (okS "}") okN))
 | list l=>exact okA (okA (okC (okS "[") okN) (qdt (okS ", ") (qgj fun _ h=>h))) (okC (okS "]") okN)
 | record ls l _=>exact qlv fun _ h=>h
 | recur ls l _=>exact okA (okC (okS "rec ") okN) (qlv fun _ h=>h)
 | get1 ls x=>exact okA (qac List.mem_cons_self) qjW
 | get2 ls x y=>exact okA (okA (okA (qac List.mem_cons_self) qjW) (okC (okS " ? ") okN)) (qac (List.mem_cons_of_mem _ List.mem_cons_self))
 | app x y=>exact okA (okA (qac List.mem_cons_self) (okC (okS " ") okN)) (qac (List.mem_cons_of_mem _ List.mem_cons_self))
 | neg x=>exact okA (okC (okS "-") okN) (qac List.mem_cons_self)
 | not x=>exact okA (okC (okS "not ") okN) (qac List.mem_cons_self)
 | has x y=>exact okA (qac List.mem_cons_self) (okC (okS " has ") (okC trivial okN))
 | fn x y=>exact okC (okS "fn ") (okC trivial (okC (okS ": ") (okC List.mem_cons_self okN)))
 | fields l e=>
  show AllP (l++[e]) (fnP (l++[e]) [])
  rw [qas,List.append_nil]
  exact okA (okA (okC (okS "fn {") okN) (qdt (okS ", ") (qgj fun _ h=>List.mem_append_left _ h))) (okC (okS "}: ") (okC (List.mem_append_right _ List.mem_cons_self) okN))
 | opens l e=>
  show AllP (l++[e]) (fnP (l++[e]) [[ps ".."]])
  rw [qas]
  refine okA (okA (okC (okS "fn {") okN) (qdt (okS ", ") fun g hg=>?_)) (okC (okS "}: ") (okC (List.mem_append_right _ List.mem_cons_self) okN))
  rcases List.mem_append.mp hg with hg | hg
  ·exact qgj (fun _ h=>List.mem_append_left _ h) g hg
  ·rw [List.mem_singleton.mp hg]; exact okC (okS "..") okN
 | param0 x=>exact okC trivial okN
 | param1 x d=>exact okC trivial (okC (okS " ? ") (okC List.mem_cons_self okN))
 | letIn ls l e _=>
  rw [qdo]
  exact okA (okA (okC (okS "let ") okN) (qhp fun _ h=>h)) (okC (okS " in ") (okC (show e∈l++[e] from List.mem_append_right _ List.mem_cons_self) okN))
 | cond x y z=>exact okC (okS "if ") (okC (by simp [Vastoa.Tree.kids,OkP]) (okC (okS " then ") (okC (by simp [Vastoa.Tree.kids,OkP]) (okC (okS " else ") (okC (by simp [Vastoa.Tree.kids,OkP]) okN)))))
 | must x y=>exact okC (okS "must ") (okC (by simp [Vastoa.Tree.kids,OkP]) (okC (okS "; ") (okC (by simp [Vastoa.Tree.kids,OkP]) okN)))
 | op o x y=>exact okA (okA (qac List.mem_cons_self) (okC (okS " ") (okC (qk7 o) (okC (okS " ") okN)))) (qac (List.mem_cons_of_mem _ List.mem_cons_self))
theorem qgk:∀ {l:List VT} {U:VT},RM.qH l=true->U∈l->RM.good U=true
 | t::r,U,h,hm=>by
  unfold RM.qH at h
  rw [Bool.and_eq_true] at h
  rcases List.mem_cons.mp hm with rfl | hm
  ·exact h.1
  ·exact qgk h.2 hm
theorem qjY {T U:VT} (h:RM.good T=true) (hm:U∈T.kids):RM.good U=true:=by
 cases T with
 | node k ls l=>
  unfold RM.good at h
  rw [Bool.and_eq_true] at h
  exact qgk h.1 hm
end RT
end
section
namespace RT
open PySem PySem.Spec PyProof.Rows L2
theorem Parts.keep {a:Ad} {M:Addr->Prop} {H H':Hp} (k:∀ b o,H b=some o->¬ M b->H' b=some o) {L:List Pt} {vs:List V} (h:Parts a M H L vs):Parts a M H' L vs:=by
 refine qX (fun v x q=>?_) h
 cases x with
 | s x=>exact q
 | t T=>obtain ⟨u,e,q⟩:=q; exact ⟨u,e,qI.pass (fun b o e n=>⟨k b o e n,n⟩) _ _ q⟩
 | l b=>obtain ⟨u,e,q,n⟩:=q; exact ⟨u,e,k _ _ q n,n⟩
structure Ti (K:PySem.W.Frag) (N:Addr):Prop where
 ha:PySem.W.findIn K (.ref N) "__class__" = some (some (.builtin "object.__class__"))
 hn:PySem.W.specialIn K (.builtin "object.__class__") "__get__" = some (some (.builtin "getset_descriptor.__get__"))
 ht:PySem.W.takesIn K (.builtin "object.__class__")=some true
 hm:PySem.W.mroIn K N (.type "object")=some true
 k1:PySem.W.kitOne K (.ref N) (.ref N)=some true
 k2:PySem.W.kitOne K (.type "str") (.ref N)=some false
 k3:PySem.W.kitOne K (.type "list") (.ref N)=some false
 k4:PySem.W.kitOne K (.type "str") (.type "str")=some true
 k5:PySem.W.kitOne K (.type "list") (.type "str")=some false
theorem qjZ:bootBuiltins "str" = some (.type "str"):=by decide +kernel
def gdP:Pt->Prop
 | .t U=>RM.good U=true
 | .s x=>x.cps.size<=1000
 | .l _=>True
theorem qj0 {T:VT} (h:RM.good T=true):∀ x∈qG T,gdP x:=fun x hx=>by
 have:=qjX (qdm h) x hx
 cases x with
 | s x=>exact Nat.le_trans this (by decide)
 | t U=>exact qjY h this
 | l b=>trivial
def qhq (a:Ad):Sp:=fun vs H Q E=>∃ (t:Addr) (T:VT),vs=[.ref t]/\qI a M0 H T t/\RM.good T=true/\wt T<=Bd/\∀ H' p,qE H H'->H p=none->H' p=some (.lst (nt (Vastoa.shown T)))->Q (.ref p) H'
section
variable {P:Program} {w:World} {K:PySem.W.Frag} {mg:Str->Option Value} {base:Heap} {f:Addr} {fd:FuncData} {a:Ad} {r:Ap}
theorem Q6:qm ["tree","printed","waiting","part"] ["tree"] (qe jS):=⟨rfl,rfl,rfl,by decide +kernel,rfl,by decide +kernel,by decide +kernel⟩
theorem qd4 (F:Fun K "print_whole" "print_whole" jS f fd) (T:Tx P w K mg a) (R:Tp P w K mg r) (gN:mg "Node" = some (.ref a.Node)) (ti:Ti K a.Node)
  (Go:FnAt P w K mg base CX0 5 "lay_out" ["node"] (qlu a)) (Gb:FnAt P w K mg base CX0 1 "bytes_of" ["written"] qal):qy P w K mg base CX0 6 f fd ["tree"] (qhq a):=by
 refine F.ok Q6 (fun vs H Q E h=>?_) (fun cdv A outer s H vs Q E hr h=>?_)
 ·obtain ⟨t,U,rfl,_⟩:=h; rfl
 ·obtain ⟨t,U,rfl,hU,hg,hw,k⟩:=h
  have hr1:qO 1 _:=hr.mono (by decide)
  refine ⟨_,qi (qZ (i:=1) Q6.nd rfl (Or.inl rfl) (qW qh))
   (qi (qZ (i:=2) Q6.nd rfl (Or.inl rfl) (qW (qa (pv 0) qh)))
   (qi (Qj PassesOwn.never (Qk (pv 2) (by intro _; rfl))
    (qi (qZ (i:=3) Q6.nd rfl (Or.inl rfl) (qae PySem.F.plainAttrs_list PySem.F.slot_list_pop PySem.F.type_list_pop qaf (pv 2)))
    (qf (qU (QJ (qhj (c:=.ref a.Node) (pv 3) R.bI (fun _ _ _ _ _ I q=>Zn I rfl gN q)))
     (qf (qt (zF PySem.F.plainAttrs_list PySem.F.slot_list_extend PySem.F.type_list_extend jw (pv 2) (qa (qc9 (za Go hr qM (qa (pv 3) qh))) qh))))
     (qf (qU (QJ (qhj (c:=.type "str") (pv 3) R.bI (fun _ _ _ _ _ I q=>Jp I rfl R.bS qjZ q)))
      (qf (qt (zF PySem.F.plainAttrs_list PySem.F.slot_list_extend PySem.F.type_list_extend jw (pv 1) (qa (za Gb hr1 qM (qa (pv 3) qh)) qh))))
      (qf (qt (zF PySem.F.plainAttrs_list PySem.F.slot_list_extend PySem.F.type_list_extend jw (pv 1) (qa (pv 3) qh))))))))))
   (qf (qF (pv 1))))),?_⟩
  have big:=Zx
  refine ⟨Nat.zero_le _,fun pl hpl=>?_⟩
  refine ⟨_,rfl,(by show 1<=sizeLine; decide),fun wl hwl=>?_⟩
  have wn:wl≠pl:=fun e=>by rw [e,qc] at hwl; cases hwl
  rw [qd wn] at hwl
  obtain ⟨M,hMd⟩:∃ M:Addr->Prop,M=fun b=>b=pl \/ b=wl:=⟨_,rfl⟩
  have hMf:∀ {b o},H b=some o->¬ M b:=fun {b o} e y=>by
   rw [hMd] at y
   rcases y with y | y
   ·rw [y,hpl] at e; cases e
   ·rw [y,hwl] at e; cases e
  have hMk:∀ {H1:Hp} {b:Addr} {o u:HO},M b->(∀ c x,H1 c=some x->¬ M c->upd H1 b o c=some x):=fun {H1 b o u} hb c x e n=>by
   have:c≠b:=fun y=>n (by rw [y]; exact hb)
   rw [qd this]; exact e
  have mp:M pl:=by rw [hMd]; exact .inl rfl
  have mw:M wl:=by rw [hMd]; exact .inr rfl
  refine ⟨fun m σ H'=>∃ (v:Option V) (D:List Nat) (W:List Pt) (ws:List V),σ = [some (.ref t),some (.ref pl),some (.ref wl),v]/\qE H H'/\H' pl=some (.lst (nt D))/\H' wl=some (.lst ws.reverse)/\Parts a M H' W ws/\(∀ x∈W,gdP x)/\Vastoa.shown U=D++qR W/\D.length+wP W<=wt U/\wP W=m,
   ⟨_,none,[],[.t U],[.ref t],rfl,fun b o e=>?_,?_,qc,?_,?_,?_,?_,rfl⟩,?_⟩
  ·rw [qd (qg e hwl),qd (qg e hpl)]; exact e
  ·rw [qd (Ne.symm wn),qc]; rfl
  ·exact .cons ⟨t,rfl,qI.pass (fun b o e _=>⟨by rw [qd (qg e hwl),qd (qg e hpl)]; exact e,hMf e⟩) _ _ hU⟩ .nil
  ·intro x hx
   rw [List.mem_singleton.mp hx]; exact hg
  ·simp [qR,z0]
  ·show 0+(wt U+0)<=wt U; omega
  rintro m σ H1 ⟨v,D,W,ws,rfl,s1,e1,e2,hP,hG,hsh,hwt,rfl⟩
  have lw:ws.length=W.length:=Paired.length hP
  refine ⟨_,rfl,_,.inl ⟨_,SqL.of e2,rfl⟩,?_⟩
  cases W with
  | nil=>
   have:ws=[]:=List.length_eq_zero_iff.mp lw
   subst this
   refine zp ⟨_,rfl,?_⟩
   refine k H1 pl s1 hpl ?_
   rw [hsh,e1]; simp [qR]
  | cons x W=>
   cases hP with
   | @cons v' _ ws' _ hx hP=>
   rw [show (!(v'::ws').reverse.isEmpty)=true by simp]
   refine zL ⟨_,fun σ' H' q=>q,?_⟩
   refine ⟨_,rfl,.inl ⟨rfl,_,SqL.of e2⟩,wl,_,v',rfl,rfl,e2,by simp,?_⟩
   rw [show ((v'::ws').reverse).dropLast=ws'.reverse by simp]
   have k2:∀ b o,H1 b=some o->¬ M b->upd H1 wl (.lst ws'.reverse) b=some o:=hMk (u:=.lst []) mw
   have s2:qE H (upd H1 wl (.lst ws'.reverse)):=fun b o e=>k2 b o (s1 b o e) (hMf e)
   have w2:upd H1 wl (.lst ws'.reverse) wl=some (.lst ws'.reverse):=qc
   have p2:upd H1 wl (.lst ws'.reverse) pl=some (.lst (nt D)):=by rw [qd (Ne.symm wn)]; exact e1
   generalize upd H1 wl (.lst ws'.reverse)=H2 at k2 s2 w2 p2 ⊢
   have hP:Parts a M H1 W ws':=hP
   have hP2:=hP.keep k2
   have hGx:=hG x List.mem_cons_self
   have hGW:∀ y∈W,gdP y:=fun y hy=>hG y (List.mem_cons_of_mem _ hy)
   rw [Jo] at hwt
   have hpw:=qjI x
   have lenW:=qdn W
   have lws:ws'.length=W.length:=Paired.length hP
   cases x with
   | t S=>
    obtain ⟨u,rfl,hu⟩:=hx
    have hu2:qI a M H2 S u:=qI.pass (fun b o e n=>⟨k2 b o e n,n⟩) _ _ hu
    obtain ⟨dx,y1,y2,y3,hin⟩:=hu2.depth
    have hS:=qdm hGx
    have hlw:=qf6 hS
    have hll:=qdn (qG S)
    have hwS:wp (.t S)=wt S:=rfl
    refine ⟨_,rfl,_,true,.ins hin T.c_Node ti.ha ti.hn ti.ht ti.hm,ti.k1,_,rfl,zL ?_⟩
    have hMd2:∀ b,M b->H2 b≠none:=fun b hb=>by
     rw [hMd] at hb
     rcases hb with rfl | rfl
     ·rw [p2]; simp
     ·rw [w2]; simp
    refine ⟨_,rfl,.inl ⟨rfl,_,SqL.of w2⟩,_,rfl,M,u,S,rfl,hu2,hS,by omega,hMd2,fun H3 p zs s3 hp e3 q3=>?_⟩
    refine ⟨p,_,rfl,SqL.of e3,fun q hq=>?_⟩
    have s4:=s3.trans (qr (o:=.lst zs.reverse) hq)
    have lz:zs.length=(qG S).length:=Paired.length q3
    refine ⟨wl,q,_,_,rfl,rfl,s4 _ _ w2,qc,?_,?_⟩
    ·rw [List.length_reverse,List.length_reverse]; omega
    have k5:∀ b o,upd H3 q (.lst zs.reverse) b=some o->¬ M b->upd (upd H3 q (.lst zs.reverse)) wl (.lst (ws'.reverse++zs.reverse)) b=some o:=hMk (u:=.lst []) mw
    refine ⟨_,?_,_,D,qG S++W,zs++ws',rfl,fun b o e=>k5 b o (s4 _ _ (s2 b o e)) (hMf e),?_,?_,?_,?_,?_,?_,rfl⟩
    ·rw [zl,Jo]; omega
    ·rw [qd (Ne.symm wn)]; exact s4 _ _ p2
    ·rw [qc,List.reverse_append]
    ·exact Parts.app ((q3.s (qr hq)).keep k5) ((hP2.s s4).keep k5)
    ·intro y hy
     rcases List.mem_append.mp hy with hy | hy
     ·exact qj0 hGx y hy
     ·exact hGW y hy
    ·rw [hsh,zd]
     show D++(Vastoa.shown S++qR W)=_
     rw [qf7 hS]
    ·rw [zl]; omega
   | s x=>
    have hx:v'=.str x:=hx
    subst hx
    have hwS:wp (.s x)=1+x.cps.size:=rfl
    have hxl:x.cps.toList.length=x.cps.size:=Array.length_toList
    refine ⟨_,rfl,_,false,.str x,ti.k2,_,rfl,zp ?_⟩
    refine ⟨_,rfl,_,true,.str x,ti.k4,_,rfl,zL ?_⟩
    refine ⟨_,rfl,.inl ⟨rfl,_,SqL.of p2⟩,_,rfl,x,rfl,hGx,fun p hp=>?_⟩
    have s3:=qr (o:=.lst (nt x.cps.toList)) hp
    refine ⟨pl,p,_,_,rfl,rfl,s3 _ _ p2,qc,?_,?_⟩
    ·rw [zz,zz]; omega
    have k5:∀ b o,upd H2 p (.lst (nt x.cps.toList)) b=some o->¬ M b->upd (upd H2 p (.lst (nt x.cps.toList))) pl (.lst (nt D++nt x.cps.toList)) b=some o:=hMk (u:=.lst []) mp
    refine ⟨_,?_,_,D++bts x,W,ws',rfl,fun b o e=>k5 b o (s3 _ _ (s2 b o e)) (hMf e),?_,?_,(hP2.s s3).keep k5,hGW,?_,?_,rfl⟩
    ·rw [Jo]; omega
    ·rw [qc]; unfold nt bts; rw [List.map_append]
    ·rw [qd wn]; exact s3 _ _ w2
    ·rw [hsh]; show D++(bts x++qR W)=_; rw [List.append_assoc]
    ·unfold bts; rw [List.length_append]; omega
   | l b=>
    obtain ⟨u,rfl,hu,hn⟩:=hx
    have hu2:=k2 _ _ hu hn
    have hwS:wp (.l b)=1+b.length:=rfl
    refine ⟨_,rfl,_,false,.lst hu2,ti.k3,_,rfl,zp ?_⟩
    refine ⟨_,rfl,_,false,.lst hu2,ti.k5,_,rfl,zp ?_⟩
    refine ⟨_,rfl,.inl ⟨rfl,_,SqL.of p2⟩,_,rfl,pl,u,_,_,rfl,rfl,p2,hu2,?_,?_⟩
    ·rw [zz,zz]; omega
    have k5:∀ c o,H2 c=some o->¬ M c->upd H2 pl (.lst (nt D++nt b)) c=some o:=hMk (u:=.lst []) mp
    refine ⟨_,?_,_,D++b,W,ws',rfl,fun c o e=>k5 c o (s2 c o e) (hMf e),?_,?_,hP2.keep k5,hGW,?_,?_,rfl⟩
    ·rw [Jo]; omega
    ·rw [qc]; unfold nt; rw [List.map_append]
    ·rw [qd wn]; exact w2
    ·rw [hsh]; show D++(b++qR W)=_; rw [List.append_assoc]
    ·rw [List.length_append]; omega
end
end RT
end
section
namespace RT
open PySem PySem.Spec PyProof.Rows L2
mutual
theorem qlw:∀ T:VT,wt T+24<=36 * RM.tw T+2 * RM.lw T+12
 | .node k ls l=>by
  have:=qhr l
  unfold wt RM.tw RM.lw
  omega
theorem qhr:∀ l:List VT,zr l+12 * l.length<=36 * RM.j8 l+2 * RM.QL l
 | []=>by unfold zr; simp
 | t::r=>by have:=qlw t; have:=qhr r; unfold zr RM.j8 RM.QL; rw [List.length_cons]; omega
end
end RT
end
section
namespace RT
open PySem PySem.Spec PyProof.Rows L2
mutual
def pre:VT->List VT
 | .node k ls l=>.node k ls l::preOf l
def preOf:List VT->List VT
 | []=>[]
 | t::r=>pre t++preOf r
end
theorem JK:∀ a b:List VT,preOf (a++b)=preOf a++preOf b
 | [],b=>by simp [preOf]
 | t::r,b=>by simp only [List.cons_append,preOf,JK r b,List.append_assoc]
mutual
theorem qj1:∀ T:VT,(pre T).length<=RM.tw T
 | .node k ls l=>by have:=qgl l; unfold pre RM.tw; rw [List.length_cons]; omega
theorem qgl:∀ l:List VT,(preOf l).length<=RM.j8 l
 | []=>by unfold preOf; exact Nat.zero_le _
 | t::r=>by have:=qj1 t; have:=qgl r; unfold preOf RM.j8; rw [List.length_append]; omega
end
theorem qbU {a:Ad} {M:Addr->Prop} {H:Hp}:∀ {l1 l2:List VT} {k1 k2:List Addr},qp a M H l1 k1->qp a M H l2 k2->qp a M H (l1++l2) (k1++k2)
 | [],l2,k1,k2,h1,h2=>by unfold qp at h1; subst h1; exact h2
 | t::l1,l2,k1,k2,h1,h2=>by
  unfold qp at h1
  obtain ⟨k,r,rfl,h,h1⟩:=h1
  show qp a M H (t::(l1++l2)) (k::(r++k2))
  unfold qp
  exact ⟨k,_,rfl,h,qbU h1 h2⟩
def qhs (a:Ad):Sp:=fun vs H Q E=>∃ (t:Addr) (T:VT) (M:Addr->Prop),vs=[.ref t]/\qI a M H T t/\RM.tw T<=200000/\∀ H' p ks,qE H H'->H p=none->H' p=some (.lst (ks.map V.ref))->qp a M H (pre T) ks->Q (.ref p) H'
section
variable {P:Program} {w:World} {K:PySem.W.Frag} {mg:Str->Option Value} {base:Heap} {f:Addr} {fd:FuncData} {a:Ad}
theorem ZZ:qm ["tree","nodes","waiting","node"] ["tree"] (qe QV):=⟨rfl,rfl,rfl,by decide +kernel,rfl,by decide +kernel,by decide +kernel⟩
theorem qgS (F:Fun K "nodes_of" "nodes_of" QV f fd) (T:Tx P w K mg a):qy P w K mg base CX0 1 f fd ["tree"] (qhs a):=by
 refine F.ok ZZ (fun vs H Q E h=>?_) (fun cdv A outer s H vs Q E hr h=>?_)
 ·obtain ⟨t,U,M,rfl,_⟩:=h; rfl
 ·obtain ⟨t,U,M,rfl,hU,hw,k⟩:=h
  refine ⟨_,qi (qZ (i:=1) ZZ.nd rfl (Or.inl rfl) (qW qh))
   (qi (qZ (i:=2) ZZ.nd rfl (Or.inl rfl) (qW (qa (pv 0) qh)))
   (qi (Qj PassesOwn.never (Qk (pv 2) (by intro _; rfl))
    (qi (qZ (i:=3) ZZ.nd rfl (Or.inl rfl) (qae PySem.F.plainAttrs_list PySem.F.slot_list_pop PySem.F.type_list_pop qaf (pv 2)))
    (qi (qt (zF PySem.F.plainAttrs_list PySem.F.slot_list_append PySem.F.type_list_append zn (pv 1) (qa (pv 3) qh)))
    (qf (qt (zF PySem.F.plainAttrs_list PySem.F.slot_list_extend PySem.F.type_list_extend jw (pv 2) (qa (qc9 (qj (pv 3) rfl)) qh)))))))
   (qf (qF (pv 1))))),?_⟩
  refine ⟨Nat.zero_le _,fun nl hnl=>?_⟩
  refine ⟨_,rfl,(by show 1<=sizeLine; decide),fun wl hwl=>?_⟩
  have wn:wl≠nl:=fun e=>by rw [e,qc] at hwl; cases hwl
  rw [qd wn] at hwl
  have hp:=qj1 U
  refine ⟨fun m σ H'=>∃ (v:Option V) (D W:List VT) (da wa:List Addr),σ = [some (.ref t),some (.ref nl),some (.ref wl),v]/\qE H H'/\H' nl=some (.lst (da.map V.ref))/\H' wl=some (.lst (wa.reverse.map V.ref))/\qp a M H D da/\qp a M H W wa/\pre U=D++preOf W/\(preOf W).length=m,
   ⟨_,none,[],[U],[],[t],rfl,fun b o e=>?_,?_,qc,?_,?_,?_,rfl⟩,?_⟩
  ·rw [qd (qg e hwl),qd (qg e hnl)]; exact e
  ·rw [qd (Ne.symm wn),qc]; rfl
  ·unfold qp; rfl
  ·unfold qp; exact ⟨t,[],rfl,hU,by unfold qp; rfl⟩
  ·simp [preOf]
  rintro m σ H1 ⟨v,D,W,da,wa,rfl,s1,hn1,hw1,tD,tW,eU,rfl⟩
  have hlen:D.length+(preOf W).length<=200000:=by rw [eU,List.length_append] at hp; omega
  have lD:da.length=D.length:=Paired.length (qT.mp tD)
  have lW:wa.length=W.length:=Paired.length (qT.mp tW)
  refine ⟨_,rfl,_,.inl ⟨_,SqL.of hw1,rfl⟩,?_⟩
  cases W with
  | nil=>
   have:wa=[]:=by cases wa with | nil=>rfl | cons _ _=>cases lW
   subst this
   refine zp ⟨_,rfl,?_⟩
   rw [preOf,List.append_nil] at eU
   rw [eU] at k
   exact k H1 nl da s1 hnl hn1 tD
  | cons X W=>
   unfold qp at tW
   obtain ⟨x,wb,rfl,tX,tW⟩:=tW
   rw [show (!((x::wb).reverse.map V.ref).isEmpty)=true by simp]
   refine zL ⟨_,fun σ' H' q=>q,?_⟩
   refine ⟨_,rfl,.inl ⟨rfl,_,SqL.of hw1⟩,wl,_,V.ref x,rfl,rfl,hw1,by simp,?_⟩
   rw [show ((x::wb).reverse.map V.ref).dropLast=wb.reverse.map V.ref by simp]
   refine ⟨_,rfl,.inl ⟨rfl,_,SqL.of ((qd (Ne.symm wn)).trans hn1)⟩,_,rfl,nl,_,_,rfl,rfl,(qd (Ne.symm wn)).trans hn1,?_,?_⟩
   ·rw [List.length_map]; exact jv (by omega)
   cases X with
   | node kd ls l=>
   have tX':=tX
   unfold qI at tX
   obtain ⟨dx,la,ka,lb,ks,⟨h1,_⟩,_,_,⟨h4,_⟩,h5⟩:=tX
   have u1:∀ {b o},H b=some o->upd (upd H1 wl (.lst (wb.reverse.map V.ref))) nl (.lst (da.map V.ref++[V.ref x])) b=some o:=fun {b o} e=>by
    rw [qd (qg e hnl),qd (qg e hwl)]; exact s1 b o e
   have w2:upd (upd H1 wl (.lst (wb.reverse.map V.ref))) nl (.lst (da.map V.ref++[V.ref x])) wl=some (.lst (wb.reverse.map V.ref)):=by rw [qd wn,qc]
   have n2:upd (upd H1 wl (.lst (wb.reverse.map V.ref))) nl (.lst (da.map V.ref++[V.ref x])) nl=some (.lst (da.map V.ref++[V.ref x])):=qc
   generalize upd (upd H1 wl (.lst (wb.reverse.map V.ref))) nl (.lst (da.map V.ref++[V.ref x]))=H2 at u1 w2 n2 ⊢
   refine ⟨_,rfl,.inl ⟨rfl,_,SqL.of w2⟩,_,rfl,x,_,dx,_,_,rfl,u1 h1,T.c_Node,T.n_Node_kids,QN _ _ _ _,ka,_,rfl,SqL.of (u1 h4),fun q hq=>?_⟩
   have s3:=qr (o:=.lst (ks.map V.ref).reverse) hq
   have lk:ks.length=l.length:=Paired.length (qT.mp h5)
   have hlen2:(preOf (Vastoa.Tree.node kd ls l::W)).length=1+(preOf (l++W)).length:=by rw [JK]; simp only [preOf,pre,List.length_append,List.length_cons]; omega
   have lp:∀ y:List VT,y.length<=(preOf y).length:=by
    intro y
    induction y with
    | nil=>exact Nat.zero_le _
    | cons T' y ih=>cases T' with | node k' ls' l'=>simp only [preOf,pre,List.length_cons,List.length_append]; omega
   have hlw:=lp (l++W)
   rw [List.length_append] at hlw
   refine ⟨wl,q,_,_,rfl,rfl,s3 _ _ w2,qc,?_,?_⟩
   ·rw [List.length_map,List.length_reverse,List.length_reverse,List.length_map]
    have:(1000000:Nat)<sizeLine:=by decide
    simp only [List.length_cons] at lW
    omega
   ·refine ⟨_,?_,_,D++[.node kd ls l],l++W,da++[x],ks++wb,rfl,fun b o e=>?_,?_,?_,qbU tD ?_,qbU h5 tW,?_,rfl⟩
    ·omega
    ·rw [qd (qg e hwl)]; exact s3 _ _ (u1 e)
    ·rw [qd (Ne.symm wn)]; rw [s3 _ _ n2,List.map_append]; rfl
    ·rw [qc]; simp
    ·unfold qp; exact ⟨x,[],rfl,tX',by unfold qp; rfl⟩
    ·rw [eU,JK]; simp [preOf,pre]
end
mutual
theorem qeK:∀ T:VT,(pre T).length=Vastoa.nodes T
 | .node k ls l=>by have:=qcs l; unfold pre Vastoa.nodes; rw [List.length_cons]; omega
theorem qcs:∀ l:List VT,(preOf l).length=Vastoa.nodesOf l
 | []=>by unfold preOf Vastoa.nodesOf; rfl
 | t::r=>by have:=qeK t; have:=qcs r; unfold preOf Vastoa.nodesOf; rw [List.length_append]; omega
end
def sizesOf (txt:List Nat):List V:=match Vastoa.read txt with
 | .ok T=>[.int 0,.int (Vastoa.nodes T:Nat),.int (Vastoa.depth T:Nat),.int ((Vastoa.shown T).length:Nat)]
 | .error x=>[.int (-(x.kind:Int))]
def qd5 (K:PySem.W.Frag):Sp:=fun vs H Q E=>∃ (ta:Addr) (txt:List Nat),vs=[.ref ta]/\SqL K H ta (nt txt)/\∀ (H':Hp) (p:Addr),H' p=some (.lst (sizesOf txt))->Q (.ref p) H'
section
variable {P:Program} {w:World} {K:PySem.W.Frag} {mg:Str->Option Value} {base:Heap} {f:Addr} {fd:FuncData} {a:Ad}
theorem qcN:qm ["text","whole","refusal"] ["text"] (qe Q2):=⟨rfl,rfl,rfl,by decide +kernel,rfl,by decide +kernel,by decide +kernel⟩
theorem qk8 (F:Fun K "sizes" "sizes" Q2 f fd) (T:Tx P w K mg a) (gR:mg "Refusal" = some (.ref a.Refusal)) (Gr:FnAt P w K mg base (CXR P w) 8 "read" ["text"] (qf1 a K)) (Gn:FnAt P w K mg base CX0 1 "nodes_of" ["tree"] (qhs a)) (Gp:FnAt P w K mg base CX0 6 "print_whole" ["tree"] (qhq a)):qy P w K mg base CX0 9 f fd ["text"] (qd5 K):=by
 refine F.ok qcN (fun vs H Q E h=>?_) (fun cdv A outer s H vs Q E hr h=>?_)
 ·obtain ⟨ta,txt,rfl,_⟩:=h; rfl
 ·obtain ⟨ta,txt,rfl,ht,k⟩:=h
  have hr1:qO 1 _:=hr.mono (by decide)
  have hr6:qO 6 _:=hr.mono (by decide)
  refine ⟨_,qi (qmU (tb:=fun E1=>qhy (qaC (qf1 a K) [] E1 (jF (zS 0) QE)) (Zy 1)) (ts:=qfa (qdx (jF (tUn (rU fun i=>.int (-i)) (qlh K (zS 2) "number")) QE))) (i:=2) rfl rfl rfl qcN.nd rfl rfl rfl gR T.x_Refusal
   (fun xe pn E1 hp=>qf (qZ (i:=1) qcN.nd rfl (Or.inl rfl) (za Gr hr hp (qa (pv 0) qh)))) (fun e=>qf (qF (qW (qa (qaB Js (qlS (pv 2) rfl)) qh)))))
   (qf (qF (qW (qa qw (qa (z7 zy (by rfl) T.b_len PySem.boot_len (qa (za Gn hr1 qM (qa (pv 1) qh)) qh)) (qa (qj (pv 1) rfl) (qa (z7 zy (by rfl) T.b_len PySem.boot_len (qa (za Gp hr6 qM (qa (pv 1) qh)) qh)) qh))))))),?_⟩
  refine ⟨_,rfl,ta,txt,rfl,ht,fun U eU gU hw hl H' t s' hT=>?_,fun x ex C dx H' s' xa=>?_⟩
  ·have hwt:=qlw U
   refine ⟨_,rfl,t,U,M0,rfl,hT,hw,fun H1 p ks s1 hp e1 q1=>?_⟩
   have lk:ks.length=(pre U).length:=Paired.length (qT.mp q1)
   have hT1:=hT.s s1
   obtain ⟨dx,y1,y2,y3,hd⟩:=hT1.depth
   refine ⟨p,_,rfl,.inl (SqL.of e1),_,rfl,t,_,dx,_,_,rfl,hd,T.c_Node,T.n_Node_depth,qaS _ _ _ _,_,rfl,t,U,rfl,hT1,gU,by unfold Bd; omega,fun H2 q s2 hq e2=>?_⟩
   refine ⟨q,_,rfl,.inl (SqL.of e2),(by show 4<=sizeLine; decide),fun z hz=>?_⟩
   refine k _ z ?_
   rw [qc]
   unfold sizesOf
   rw [eU,List.length_map,lk,qeK,zz]
  ·refine ⟨C,dx,rfl,rfl,xa.cls,xa.sub,fun e xs he=>?_⟩
   have hd:(upd H' e (XOb e C xs (some dx))) dx=some (XDi dx (rfF (x.kind:Int) (x.place:Int))):=by rw [qd (qg xa.di he)]; exact xa.di
   refine ⟨_,rfl,e,C,xs,dx,_,_,rfl,qc,hd,xa.cls,xa.nn,rfl,_,rfl,(by show 1<=sizeLine; decide),fun p hp=>?_⟩
   refine k _ p ?_
   rw [qc]
   unfold sizesOf
   rw [ex]
end
theorem qj2 (l:List Int) (h:NeutralIO.bytes l=true):sizesOf (VastoaNeutral.text l)=(PyVastoa.sizes l).map V.int:=by
 have ans:∀ t:List Nat,(VastoaNeutral.encode (Vastoa.answer (.sizes t))).map V.int=sizesOf t:=fun t=>by
  show (VastoaNeutral.encode (match Vastoa.read t with
   | .error f=>Vastoa.faulty 0 f
   | .ok t=>{ value:=0,numbers:=[Vastoa.nodes t,Vastoa.depth t,(Vastoa.shown t).length] })).map V.int=_
  unfold sizesOf
  cases Vastoa.read t with
  | ok T=>rfl
  | error x=>
   show [V.int (-(x.kind:Int) - 0)]=_
   rw [Int.sub_zero]
 rw [<- ans]
 have e:VastoaNeutral.callOf [[6],l]=some (.sizes (VastoaNeutral.text l)):=by show (if NeutralIO.bytes l=true then _ else _)=_; rw [if_pos h]
 unfold PyVastoa.sizes VastoaNeutral.step
 rw [e]
 rfl
end RT
end
section
namespace RT
open PySem PySem.Spec PyProof.Rows L2
theorem qiu:(QT.map fun r=>(Sum.inr r.1:Key)).Nodup:=by decide +kernel
theorem qnt {P:Program} {w:World} {K:PySem.W.Frag} {h:Heap} {mg:Str->Option Value} {fa:Addr}
  {c1r:Addr} {c08:Addr} {c0U:Addr} {c03:Addr} {c14:Addr} {c1h:Addr} {c1n:Addr} {c1G:Addr} {c1C:Addr} {c0D:Addr} {c0Q:Addr} {c1w:Addr} {f1i:Addr} {f1o:Addr} {f1H:Addr} {f1D:Addr} {f0E:Addr} {f0R:Addr} {f1x:Addr} {f0W:Addr} {f2s:Addr} {f2n:Addr} {f1M:Addr} {f1L:Addr} {f2q:Addr} {f23:Addr} {f2i:Addr} {f28:Addr} {f29:Addr} {f2e:Addr} {f2h:Addr} {f25:Addr} {f1X:Addr} {f2f:Addr} {f2g:Addr} {f20:Addr} {f1W:Addr} {f27:Addr} {f2a:Addr} {f21:Addr} {f1Z:Addr} {f1Y:Addr} {f2d:Addr} {f24:Addr} {f22:Addr} {f26:Addr} {f2b:Addr} {f2c:Addr} {f2p:Addr} {f1t:Addr} {f1T:Addr} {f1R:Addr} {f1S:Addr} {f1V:Addr} {f0l:Addr} {f0a:Addr} {f09:Addr} {f0e:Addr} {f0o:Addr} {f0c:Addr} {f0d:Addr} {f0g:Addr} {f0h:Addr} {f0b:Addr} {f0f:Addr} {f0m:Addr} {f0j:Addr} {f1O:Addr} {f05:Addr} {f1Q:Addr} {f1N:Addr} {f2m:Addr} {f1b:Addr} {f1e:Addr} {f1d:Addr} {f15:Addr} {f1a:Addr} {f19:Addr} {f2r:Addr} {f2u:Addr} {o1i d1i p1i v1i e1i t1i:Value} {x1i y1i:Option Addr} {z1i:Array (Option Value)} {o1o d1o p1o v1o e1o t1o:Value} {x1o y1o:Option Addr} {z1o:Array (Option Value)} {o1H d1H p1H v1H e1H t1H:Value} {x1H y1H:Option Addr} {z1H:Array (Option Value)} {o1D d1D p1D v1D e1D t1D:Value} {x1D y1D:Option Addr} {z1D:Array (Option Value)} {o0E d0E p0E v0E e0E t0E:Value} {x0E y0E:Option Addr} {z0E:Array (Option Value)} {o0R d0R p0R v0R e0R t0R:Value} {x0R y0R:Option Addr} {z0R:Array (Option Value)} {o1x d1x p1x v1x e1x t1x:Value} {x1x y1x:Option Addr} {z1x:Array (Option Value)} {o0W d0W p0W v0W e0W t0W:Value} {x0W y0W:Option Addr} {z0W:Array (Option Value)} {o2s d2s p2s v2s e2s t2s:Value} {x2s y2s:Option Addr} {z2s:Array (Option Value)} {o2n d2n p2n v2n e2n t2n:Value} {x2n y2n:Option Addr} {z2n:Array (Option Value)} {o1M d1M p1M v1M e1M t1M:Value} {x1M y1M:Option Addr} {z1M:Array (Option Value)} {o1L d1L p1L v1L e1L t1L:Value} {x1L y1L:Option Addr} {z1L:Array (Option Value)} {o2q d2q p2q v2q e2q t2q:Value} {x2q y2q:Option Addr} {z2q:Array (Option Value)} {o23 d23 p23 v23 e23 t23:Value} {x23 y23:Option Addr} {z23:Array (Option Value)} {o2i d2i p2i v2i e2i t2i:Value} {x2i y2i:Option Addr} {z2i:Array (Option Value)} {o28 d28 p28 v28 e28 t28:Value} {x28 y28:Option Addr} {z28:Array (Option Value)} {o29 d29 p29 v29 e29 t29:Value} {x29 y29:Option Addr} {z29:Array (Option Value)} {o2e d2e p2e v2e e2e t2e:Value} {x2e y2e:Option Addr} {z2e:Array (Option Value)} {o2h d2h p2h v2h e2h t2h:Value} {x2h y2h:Option Addr} {z2h:Array (Option Value)} {o25 d25 p25 v25 e25 t25:Value} {x25 y25:Option Addr} {z25:Array (Option Value)} {o1X d1X p1X v1X e1X t1X:Value} {x1X y1X:Option Addr} {z1X:Array (Option Value)} {o2f d2f p2f v2f e2f t2f:Value} {x2f y2f:Option Addr} {z2f:Array (Option Value)} {o2g d2g p2g v2g e2g t2g:Value} {x2g y2g:Option Addr} {z2g:Array (Option Value)} {o20 d20 p20 v20 e20 t20:Value} {x20 y20:Option Addr} {z20:Array (Option Value)} {o1W d1W p1W v1W e1W t1W:Value} {x1W y1W:Option Addr} {z1W:Array (Option Value)} {o27 d27 p27 v27 e27 t27:Value} {x27 y27:Option Addr} {z27:Array (Option Value)} {o2a d2a p2a v2a e2a t2a:Value} {x2a y2a:Option Addr} {z2a:Array (Option Value)} {o21 d21 p21 v21 e21 t21:Value} {x21 y21:Option Addr} {z21:Array (Option Value)} {o1Z d1Z p1Z v1Z e1Z t1Z:Value} {x1Z y1Z:Option Addr} {z1Z:Array (Option Value)} {o1Y d1Y p1Y v1Y e1Y t1Y:Value} {x1Y y1Y:Option Addr} {z1Y:Array (Option Value)} {o2d d2d p2d v2d e2d t2d:Value} {x2d y2d:Option Addr} {z2d:Array (Option Value)} {o24 d24 p24 v24 e24 t24:Value} {x24 y24:Option Addr} {z24:Array (Option Value)} {o22 d22 p22 v22 e22 t22:Value} {x22 y22:Option Addr} {z22:Array (Option Value)} {o26 d26 p26 v26 e26 t26:Value} {x26 y26:Option Addr} {z26:Array (Option Value)} {o2b d2b p2b v2b e2b t2b:Value} {x2b y2b:Option Addr} {z2b:Array (Option Value)} {o2c d2c p2c v2c e2c t2c:Value} {x2c y2c:Option Addr} {z2c:Array (Option Value)} {o2p d2p p2p v2p e2p t2p:Value} {x2p y2p:Option Addr} {z2p:Array (Option Value)} {o1t d1t p1t v1t e1t t1t:Value} {x1t y1t:Option Addr} {z1t:Array (Option Value)} {o1T d1T p1T v1T e1T t1T:Value} {x1T y1T:Option Addr} {z1T:Array (Option Value)} {o1R d1R p1R v1R e1R t1R:Value} {x1R y1R:Option Addr} {z1R:Array (Option Value)} {o1S d1S p1S v1S e1S t1S:Value} {x1S y1S:Option Addr} {z1S:Array (Option Value)} {o1V d1V p1V v1V e1V t1V:Value} {x1V y1V:Option Addr} {z1V:Array (Option Value)} {o0l d0l p0l v0l e0l t0l:Value} {x0l y0l:Option Addr} {z0l:Array (Option Value)} {o0a d0a p0a v0a e0a t0a:Value} {x0a y0a:Option Addr} {z0a:Array (Option Value)} {o09 d09 p09 v09 e09 t09:Value} {x09 y09:Option Addr} {z09:Array (Option Value)} {o0e d0e p0e v0e e0e t0e:Value} {x0e y0e:Option Addr} {z0e:Array (Option Value)} {o0o d0o p0o v0o e0o t0o:Value} {x0o y0o:Option Addr} {z0o:Array (Option Value)} {o0c d0c p0c v0c e0c t0c:Value} {x0c y0c:Option Addr} {z0c:Array (Option Value)} {o0d d0d p0d v0d e0d t0d:Value} {x0d y0d:Option Addr} {z0d:Array (Option Value)} {o0g d0g p0g v0g e0g t0g:Value} {x0g y0g:Option Addr} {z0g:Array (Option Value)} {o0h d0h p0h v0h e0h t0h:Value} {x0h y0h:Option Addr} {z0h:Array (Option Value)} {o0b d0b p0b v0b e0b t0b:Value} {x0b y0b:Option Addr} {z0b:Array (Option Value)} {o0f d0f p0f v0f e0f t0f:Value} {x0f y0f:Option Addr} {z0f:Array (Option Value)} {o0m d0m p0m v0m e0m t0m:Value} {x0m y0m:Option Addr} {z0m:Array (Option Value)} {o0j d0j p0j v0j e0j t0j:Value} {x0j y0j:Option Addr} {z0j:Array (Option Value)} {o1O d1O p1O v1O e1O t1O:Value} {x1O y1O:Option Addr} {z1O:Array (Option Value)} {o05 d05 p05 v05 e05 t05:Value} {x05 y05:Option Addr} {z05:Array (Option Value)} {o1Q d1Q p1Q v1Q e1Q t1Q:Value} {x1Q y1Q:Option Addr} {z1Q:Array (Option Value)} {o1N d1N p1N v1N e1N t1N:Value} {x1N y1N:Option Addr} {z1N:Array (Option Value)} {o2m d2m p2m v2m e2m t2m:Value} {x2m y2m:Option Addr} {z2m:Array (Option Value)} {o1b d1b p1b v1b e1b t1b:Value} {x1b y1b:Option Addr} {z1b:Array (Option Value)} {o1e d1e p1e v1e e1e t1e:Value} {x1e y1e:Option Addr} {z1e:Array (Option Value)} {o1d d1d p1d v1d e1d t1d:Value} {x1d y1d:Option Addr} {z1d:Array (Option Value)} {o15 d15 p15 v15 e15 t15:Value} {x15 y15:Option Addr} {z15:Array (Option Value)} {o1a d1a p1a v1a e1a t1a:Value} {x1a y1a:Option Addr} {z1a:Array (Option Value)} {o19 d19 p19 v19 e19 t19:Value} {x19 y19:Option Addr} {z19:Array (Option Value)} {o2r d2r p2r v2r e2r t2r:Value} {x2r y2r:Option Addr} {z2r:Array (Option Value)} {o2u d2u p2u v2u e2u t2u:Value} {x2u y2u:Option Addr} {z2u:Array (Option Value)} {j1m:Tok} {j0C:Tok} {j12:Tok} {j02:Tok} {j10:Tok} {j0x:Tok} {j0s:Tok} {j0H:Tok} {j1K:Tok} {j01:Tok} {j1A:Tok} {j0B:Tok} {j13:Tok} {j0L:Tok} {j0J:Tok} {j0O:Tok} {j0N:Tok} {j0K:Tok} {j0I:Tok} {t1B:Addr} {t1l:Addr} {t00:Addr} {t0t:Addr} {e0t:Array DictEntry} {m0t:Nat} {t0w:Addr} {e0w:Array DictEntry} {m0w:Nat} {j0y:Tok} {t0u:Addr} {t0v:Addr} {t11:Addr} {e11:Array DictEntry} {m11:Nat} {t0A:Addr} {e0A:Array DictEntry} {m0A:Nat}
  (X:K.In h) (G:h.Ns mainGlobals mg) (hfa:mg "sizes" = some (.ref fa))
  (a1r:PySem.W.nsIn K mainGlobals "Token" = some (some (.ref c1r)))
  (a08:PySem.W.nsIn K mainGlobals "Cutter" = some (some (.ref c08)))
  (a0U:PySem.W.nsIn K mainGlobals "Node" = some (some (.ref c0U)))
  (a03:PySem.W.nsIn K mainGlobals "Begun" = some (some (.ref c03)))
  (a14:PySem.W.nsIn K mainGlobals "Reader" = some (some (.ref c14)))
  (a1h:PySem.W.nsIn K mainGlobals "Refusal" = some (some (.ref c1h)))
  (a1n:PySem.W.nsIn K mainGlobals "TextTooLong" = some (some (.ref c1n)))
  (a1G:PySem.W.nsIn K mainGlobals "WrongToken" = some (some (.ref c1G)))
  (a1C:PySem.W.nsIn K mainGlobals "WrongSyntax" = some (some (.ref c1C)))
  (a0D:PySem.W.nsIn K mainGlobals "LevelTooDeep" = some (some (.ref c0D)))
  (a0Q:PySem.W.nsIn K mainGlobals "NameTwice" = some (some (.ref c0Q)))
  (a1w:PySem.W.nsIn K mainGlobals "TreeTooDeep" = some (some (.ref c1w)))
  (a1i:PySem.W.findIn K (.ref c1h) "__init__" = some (some (.ref f1i)))
  (a1o:PySem.W.findIn K (.ref c1n) "__init__" = some (some (.ref f1o)))
  (a1H:PySem.W.findIn K (.ref c1G) "__init__" = some (some (.ref f1H)))
  (a1D:PySem.W.findIn K (.ref c1C) "__init__" = some (some (.ref f1D)))
  (a0E:PySem.W.findIn K (.ref c0D) "__init__" = some (some (.ref f0E)))
  (a0R:PySem.W.findIn K (.ref c0Q) "__init__" = some (some (.ref f0R)))
  (a1x:PySem.W.findIn K (.ref c1w) "__init__" = some (some (.ref f1x)))
  (a0W:PySem.W.findIn K (.ref c0U) "__init__" = some (some (.ref f0W)))
  (a2s:PySem.W.nsIn K mainGlobals "refuse_deep" = some (some (.ref f2s)))
  (a2n:PySem.W.nsIn K mainGlobals "nodes_of" = some (some (.ref f2n)))
  (a1M:PySem.W.nsIn K mainGlobals "bytes_of" = some (some (.ref f1M)))
  (a1L:PySem.W.nsIn K mainGlobals "at" = some (some (.ref f1L)))
  (a2q:PySem.W.nsIn K mainGlobals "put_between" = some (some (.ref f2q)))
  (a23:PySem.W.nsIn K mainGlobals "lay_label" = some (some (.ref f23)))
  (a2i:PySem.W.nsIn K mainGlobals "lay_yes" = some (some (.ref f2i)))
  (a28:PySem.W.nsIn K mainGlobals "lay_no" = some (some (.ref f28)))
  (a29:PySem.W.nsIn K mainGlobals "lay_none" = some (some (.ref f29)))
  (a2e:PySem.W.nsIn K mainGlobals "lay_piece" = some (some (.ref f2e)))
  (a2h:PySem.W.nsIn K mainGlobals "lay_text" = some (some (.ref f2h)))
  (a25:PySem.W.nsIn K mainGlobals "lay_list" = some (some (.ref f25)))
  (a1X:PySem.W.nsIn K mainGlobals "lay_binds" = some (some (.ref f1X)))
  (a2f:PySem.W.nsIn K mainGlobals "lay_record" = some (some (.ref f2f)))
  (a2g:PySem.W.nsIn K mainGlobals "lay_recur" = some (some (.ref f2g)))
  (a20:PySem.W.nsIn K mainGlobals "lay_get" = some (some (.ref f20)))
  (a1W:PySem.W.nsIn K mainGlobals "lay_app" = some (some (.ref f1W)))
  (a27:PySem.W.nsIn K mainGlobals "lay_neg" = some (some (.ref f27)))
  (a2a:PySem.W.nsIn K mainGlobals "lay_not" = some (some (.ref f2a)))
  (a21:PySem.W.nsIn K mainGlobals "lay_has" = some (some (.ref f21)))
  (a1Z:PySem.W.nsIn K mainGlobals "lay_fn" = some (some (.ref f1Z)))
  (a1Y:PySem.W.nsIn K mainGlobals "lay_fields" = some (some (.ref f1Y)))
  (a2d:PySem.W.nsIn K mainGlobals "lay_param" = some (some (.ref f2d)))
  (a24:PySem.W.nsIn K mainGlobals "lay_let" = some (some (.ref f24)))
  (a22:PySem.W.nsIn K mainGlobals "lay_if" = some (some (.ref f22)))
  (a26:PySem.W.nsIn K mainGlobals "lay_must" = some (some (.ref f26)))
  (a2b:PySem.W.nsIn K mainGlobals "lay_operands" = some (some (.ref f2b)))
  (a2c:PySem.W.nsIn K mainGlobals "lay_out" = some (some (.ref f2c)))
  (a2p:PySem.W.nsIn K mainGlobals "print_whole" = some (some (.ref f2p)))
  (a1t:PySem.W.findIn K (.ref c1r) "__init__" = some (some (.ref f1t)))
  (a1T:PySem.W.nsIn K mainGlobals "is_letter" = some (some (.ref f1T)))
  (a1R:PySem.W.nsIn K mainGlobals "is_digit" = some (some (.ref f1R)))
  (a1S:PySem.W.nsIn K mainGlobals "is_in_name" = some (some (.ref f1S)))
  (a1V:PySem.W.nsIn K mainGlobals "kind_of_name" = some (some (.ref f1V)))
  (a0l:PySem.W.findIn K (.ref c08) "__init__" = some (some (.ref f0l)))
  (a0a:PySem.W.findIn K (.ref c08) "byte_at" = some (some (.ref f0a)))
  (a09:PySem.W.findIn K (.ref c08) "add_token" = some (some (.ref f09)))
  (a0e:PySem.W.findIn K (.ref c08) "cut_outside" = some (some (.ref f0e)))
  (a0o:PySem.W.findIn K (.ref c08) "pass_comment" = some (some (.ref f0o)))
  (a0c:PySem.W.findIn K (.ref c08) "cut_name" = some (some (.ref f0c)))
  (a0d:PySem.W.findIn K (.ref c08) "cut_number" = some (some (.ref f0d)))
  (a0g:PySem.W.findIn K (.ref c08) "cut_right_brace" = some (some (.ref f0g)))
  (a0h:PySem.W.findIn K (.ref c08) "cut_sign" = some (some (.ref f0h)))
  (a0b:PySem.W.findIn K (.ref c08) "cut_literal" = some (some (.ref f0b)))
  (a0f:PySem.W.findIn K (.ref c08) "cut_piece" = some (some (.ref f0f)))
  (a0m:PySem.W.findIn K (.ref c08) "is_piece_over" = some (some (.ref f0m)))
  (a0j:PySem.W.findIn K (.ref c08) "gather_byte" = some (some (.ref f0j)))
  (a1O:PySem.W.nsIn K mainGlobals "cut" = some (some (.ref f1O)))
  (a05:PySem.W.findIn K (.ref c03) "__init__" = some (some (.ref f05)))
  (a1Q:PySem.W.nsIn K mainGlobals "fits" = some (some (.ref f1Q)))
  (a1N:PySem.W.nsIn K mainGlobals "choose" = some (some (.ref f1N)))
  (a2m:PySem.W.nsIn K mainGlobals "meet_name" = some (some (.ref f2m)))
  (a1b:PySem.W.findIn K (.ref c14) "__init__" = some (some (.ref f1b)))
  (a1e:PySem.W.findIn K (.ref c14) "step" = some (some (.ref f1e)))
  (a1d:PySem.W.findIn K (.ref c14) "read_token" = some (some (.ref f1d)))
  (a15:PySem.W.findIn K (.ref c14) "act" = some (some (.ref f15)))
  (a1a:PySem.W.findIn K (.ref c14) "enter_level" = some (some (.ref f1a)))
  (a19:PySem.W.findIn K (.ref c14) "end_node" = some (some (.ref f19)))
  (a2r:PySem.W.nsIn K mainGlobals "read" = some (some (.ref f2r)))
  (a2u:PySem.W.nsIn K mainGlobals "sizes" = some (some (.ref f2u)))
  (l1i:K.lookup f1i=some ⟨o1i,x1i,.func (PySem.W.fnOf "__init__" "Refusal.__init__" (ql jK) (qk jK) (qe jK) .none v1i d1i p1i y1i e1i t1i),z1i⟩)
  (b1i:PySem.W.codeIn K e1i "Refusal.__init__" = true)
  (k1i:PySem.W.keepIn K (.ref f1i)=true)
  (i1i:PySem.W.isFn K (.ref f1i)=true)
  (l1o:K.lookup f1o=some ⟨o1o,x1o,.func (PySem.W.fnOf "__init__" "TextTooLong.__init__" (ql z9) (qk z9) (qe z9) .none v1o d1o p1o y1o e1o t1o),z1o⟩)
  (b1o:PySem.W.codeIn K e1o "TextTooLong.__init__" = true)
  (k1o:PySem.W.keepIn K (.ref f1o)=true)
  (i1o:PySem.W.isFn K (.ref f1o)=true)
  (l1H:K.lookup f1H=some ⟨o1H,x1H,.func (PySem.W.fnOf "__init__" "WrongToken.__init__" (ql jg) (qk jg) (qe jg) .none v1H d1H p1H y1H e1H t1H),z1H⟩)
  (b1H:PySem.W.codeIn K e1H "WrongToken.__init__" = true)
  (k1H:PySem.W.keepIn K (.ref f1H)=true)
  (i1H:PySem.W.isFn K (.ref f1H)=true)
  (l1D:K.lookup f1D=some ⟨o1D,x1D,.func (PySem.W.fnOf "__init__" "WrongSyntax.__init__" (ql ja) (qk ja) (qe ja) .none v1D d1D p1D y1D e1D t1D),z1D⟩)
  (b1D:PySem.W.codeIn K e1D "WrongSyntax.__init__" = true)
  (k1D:PySem.W.keepIn K (.ref f1D)=true)
  (i1D:PySem.W.isFn K (.ref f1D)=true)
  (l0E:K.lookup f0E=some ⟨o0E,x0E,.func (PySem.W.fnOf "__init__" "LevelTooDeep.__init__" (ql zW) (qk zW) (qe zW) .none v0E d0E p0E y0E e0E t0E),z0E⟩)
  (b0E:PySem.W.codeIn K e0E "LevelTooDeep.__init__" = true)
  (k0E:PySem.W.keepIn K (.ref f0E)=true)
  (i0E:PySem.W.isFn K (.ref f0E)=true)
  (l0R:K.lookup f0R=some ⟨o0R,x0R,.func (PySem.W.fnOf "__init__" "NameTwice.__init__" (ql jq) (qk jq) (qe jq) .none v0R d0R p0R y0R e0R t0R),z0R⟩)
  (b0R:PySem.W.codeIn K e0R "NameTwice.__init__" = true)
  (k0R:PySem.W.keepIn K (.ref f0R)=true)
  (i0R:PySem.W.isFn K (.ref f0R)=true)
  (l1x:K.lookup f1x=some ⟨o1x,x1x,.func (PySem.W.fnOf "__init__" "TreeTooDeep.__init__" (ql jb) (qk jb) (qe jb) .none v1x d1x p1x y1x e1x t1x),z1x⟩)
  (b1x:PySem.W.codeIn K e1x "TreeTooDeep.__init__" = true)
  (k1x:PySem.W.keepIn K (.ref f1x)=true)
  (i1x:PySem.W.isFn K (.ref f1x)=true)
  (l0W:K.lookup f0W=some ⟨o0W,x0W,.func (PySem.W.fnOf "__init__" "Node.__init__" (ql Qs) (qk Qs) (qe Qs) .none v0W d0W p0W y0W e0W t0W),z0W⟩)
  (b0W:PySem.W.codeIn K e0W "Node.__init__" = true)
  (k0W:PySem.W.keepIn K (.ref f0W)=true)
  (i0W:PySem.W.isFn K (.ref f0W)=true)
  (l2s:K.lookup f2s=some ⟨o2s,x2s,.func (PySem.W.fnOf "refuse_deep" "refuse_deep" (ql jQ) (qk jQ) (qe jQ) .none v2s d2s p2s y2s e2s t2s),z2s⟩)
  (b2s:PySem.W.codeIn K e2s "refuse_deep" = true)
  (k2s:PySem.W.keepIn K (.ref f2s)=true)
  (l2n:K.lookup f2n=some ⟨o2n,x2n,.func (PySem.W.fnOf "nodes_of" "nodes_of" (ql QV) (qk QV) (qe QV) .none v2n d2n p2n y2n e2n t2n),z2n⟩)
  (b2n:PySem.W.codeIn K e2n "nodes_of" = true)
  (k2n:PySem.W.keepIn K (.ref f2n)=true)
  (l1M:K.lookup f1M=some ⟨o1M,x1M,.func (PySem.W.fnOf "bytes_of" "bytes_of" (ql QW) (qk QW) (qe QW) .none v1M d1M p1M y1M e1M t1M),z1M⟩)
  (b1M:PySem.W.codeIn K e1M "bytes_of" = true)
  (k1M:PySem.W.keepIn K (.ref f1M)=true)
  (l1L:K.lookup f1L=some ⟨o1L,x1L,.func (PySem.W.fnOf "at" "at" (ql qdI) (qk qdI) (qe qdI) .none v1L d1L p1L y1L e1L t1L),z1L⟩)
  (b1L:PySem.W.codeIn K e1L "at" = true)
  (k1L:PySem.W.keepIn K (.ref f1L)=true)
  (l2q:K.lookup f2q=some ⟨o2q,x2q,.func (PySem.W.fnOf "put_between" "put_between" (ql jR) (qk jR) (qe jR) .none v2q d2q p2q y2q e2q t2q),z2q⟩)
  (b2q:PySem.W.codeIn K e2q "put_between" = true)
  (k2q:PySem.W.keepIn K (.ref f2q)=true)
  (l23:K.lookup f23=some ⟨o23,x23,.func (PySem.W.fnOf "lay_label" "lay_label" (ql Qt) (qk Qt) (qe Qt) .none v23 d23 p23 y23 e23 t23),z23⟩)
  (b23:PySem.W.codeIn K e23 "lay_label" = true)
  (k23:PySem.W.keepIn K (.ref f23)=true)
  (l2i:K.lookup f2i=some ⟨o2i,x2i,.func (PySem.W.fnOf "lay_yes" "lay_yes" (ql Zp) (qk Zp) (qe Zp) .none v2i d2i p2i y2i e2i t2i),z2i⟩)
  (b2i:PySem.W.codeIn K e2i "lay_yes" = true)
  (k2i:PySem.W.keepIn K (.ref f2i)=true)
  (l28:K.lookup f28=some ⟨o28,x28,.func (PySem.W.fnOf "lay_no" "lay_no" (ql ZM) (qk ZM) (qe ZM) .none v28 d28 p28 y28 e28 t28),z28⟩)
  (b28:PySem.W.codeIn K e28 "lay_no" = true)
  (k28:PySem.W.keepIn K (.ref f28)=true)
  (l29:K.lookup f29=some ⟨o29,x29,.func (PySem.W.fnOf "lay_none" "lay_none" (ql QX) (qk QX) (qe QX) .none v29 d29 p29 y29 e29 t29),z29⟩)
  (b29:PySem.W.codeIn K e29 "lay_none" = true)
  (k29:PySem.W.keepIn K (.ref f29)=true)
  (l2e:K.lookup f2e=some ⟨o2e,x2e,.func (PySem.W.fnOf "lay_piece" "lay_piece" (ql Qu) (qk Qu) (qe Qu) .none v2e d2e p2e y2e e2e t2e),z2e⟩)
  (b2e:PySem.W.codeIn K e2e "lay_piece" = true)
  (k2e:PySem.W.keepIn K (.ref f2e)=true)
  (l2h:K.lookup f2h=some ⟨o2h,x2h,.func (PySem.W.fnOf "lay_text" "lay_text" (ql QY) (qk QY) (qe QY) .none v2h d2h p2h y2h e2h t2h),z2h⟩)
  (b2h:PySem.W.codeIn K e2h "lay_text" = true)
  (k2h:PySem.W.keepIn K (.ref f2h)=true)
  (l25:K.lookup f25=some ⟨o25,x25,.func (PySem.W.fnOf "lay_list" "lay_list" (ql QZ) (qk QZ) (qe QZ) .none v25 d25 p25 y25 e25 t25),z25⟩)
  (b25:PySem.W.codeIn K e25 "lay_list" = true)
  (k25:PySem.W.keepIn K (.ref f25)=true)
  (l1X:K.lookup f1X=some ⟨o1X,x1X,.func (PySem.W.fnOf "lay_binds" "lay_binds" (ql Qv) (qk Qv) (qe Qv) .none v1X d1X p1X y1X e1X t1X),z1X⟩)
  (b1X:PySem.W.codeIn K e1X "lay_binds" = true)
  (k1X:PySem.W.keepIn K (.ref f1X)=true)
  (l2f:K.lookup f2f=some ⟨o2f,x2f,.func (PySem.W.fnOf "lay_record" "lay_record" (ql Qa) (qk Qa) (qe Qa) .none v2f d2f p2f y2f e2f t2f),z2f⟩)
  (b2f:PySem.W.codeIn K e2f "lay_record" = true)
  (k2f:PySem.W.keepIn K (.ref f2f)=true)
  (l2g:K.lookup f2g=some ⟨o2g,x2g,.func (PySem.W.fnOf "lay_recur" "lay_recur" (ql Qw) (qk Qw) (qe Qw) .none v2g d2g p2g y2g e2g t2g),z2g⟩)
  (b2g:PySem.W.codeIn K e2g "lay_recur" = true)
  (k2g:PySem.W.keepIn K (.ref f2g)=true)
  (l20:K.lookup f20=some ⟨o20,x20,.func (PySem.W.fnOf "lay_get" "lay_get" (ql Zq) (qk Zq) (qe Zq) .none v20 d20 p20 y20 e20 t20),z20⟩)
  (b20:PySem.W.codeIn K e20 "lay_get" = true)
  (k20:PySem.W.keepIn K (.ref f20)=true)
  (l1W:K.lookup f1W=some ⟨o1W,x1W,.func (PySem.W.fnOf "lay_app" "lay_app" (ql Zr) (qk Zr) (qe Zr) .none v1W d1W p1W y1W e1W t1W),z1W⟩)
  (b1W:PySem.W.codeIn K e1W "lay_app" = true)
  (k1W:PySem.W.keepIn K (.ref f1W)=true)
  (l27:K.lookup f27=some ⟨o27,x27,.func (PySem.W.fnOf "lay_neg" "lay_neg" (ql Zs) (qk Zs) (qe Zs) .none v27 d27 p27 y27 e27 t27),z27⟩)
  (b27:PySem.W.codeIn K e27 "lay_neg" = true)
  (k27:PySem.W.keepIn K (.ref f27)=true)
  (l2a:K.lookup f2a=some ⟨o2a,x2a,.func (PySem.W.fnOf "lay_not" "lay_not" (ql Zt) (qk Zt) (qe Zt) .none v2a d2a p2a y2a e2a t2a),z2a⟩)
  (b2a:PySem.W.codeIn K e2a "lay_not" = true)
  (k2a:PySem.W.keepIn K (.ref f2a)=true)
  (l21:K.lookup f21=some ⟨o21,x21,.func (PySem.W.fnOf "lay_has" "lay_has" (ql Zu) (qk Zu) (qe Zu) .none v21 d21 p21 y21 e21 t21),z21⟩)
  (b21:PySem.W.codeIn K e21 "lay_has" = true)
  (k21:PySem.W.keepIn K (.ref f21)=true)
  (l1Z:K.lookup f1Z=some ⟨o1Z,x1Z,.func (PySem.W.fnOf "lay_fn" "lay_fn" (ql ZN) (qk ZN) (qe ZN) .none v1Z d1Z p1Z y1Z e1Z t1Z),z1Z⟩)
  (b1Z:PySem.W.codeIn K e1Z "lay_fn" = true)
  (k1Z:PySem.W.keepIn K (.ref f1Z)=true)
  (l1Y:K.lookup f1Y=some ⟨o1Y,x1Y,.func (PySem.W.fnOf "lay_fields" "lay_fields" (ql Qb) (qk Qb) (qe Qb) .none v1Y d1Y p1Y y1Y e1Y t1Y),z1Y⟩)
  (b1Y:PySem.W.codeIn K e1Y "lay_fields" = true)
  (k1Y:PySem.W.keepIn K (.ref f1Y)=true)
  (l2d:K.lookup f2d=some ⟨o2d,x2d,.func (PySem.W.fnOf "lay_param" "lay_param" (ql Qx) (qk Qx) (qe Qx) .none v2d d2d p2d y2d e2d t2d),z2d⟩)
  (b2d:PySem.W.codeIn K e2d "lay_param" = true)
  (k2d:PySem.W.keepIn K (.ref f2d)=true)
  (l24:K.lookup f24=some ⟨o24,x24,.func (PySem.W.fnOf "lay_let" "lay_let" (ql Zv) (qk Zv) (qe Zv) .none v24 d24 p24 y24 e24 t24),z24⟩)
  (b24:PySem.W.codeIn K e24 "lay_let" = true)
  (k24:PySem.W.keepIn K (.ref f24)=true)
  (l22:K.lookup f22=some ⟨o22,x22,.func (PySem.W.fnOf "lay_if" "lay_if" (ql ZO) (qk ZO) (qe ZO) .none v22 d22 p22 y22 e22 t22),z22⟩)
  (b22:PySem.W.codeIn K e22 "lay_if" = true)
  (k22:PySem.W.keepIn K (.ref f22)=true)
  (l26:K.lookup f26=some ⟨o26,x26,.func (PySem.W.fnOf "lay_must" "lay_must" (ql Q0) (qk Q0) (qe Q0) .none v26 d26 p26 y26 e26 t26),z26⟩)
  (b26:PySem.W.codeIn K e26 "lay_must" = true)
  (k26:PySem.W.keepIn K (.ref f26)=true)
  (l2b:K.lookup f2b=some ⟨o2b,x2b,.func (PySem.W.fnOf "lay_operands" "lay_operands" (ql jL) (qk jL) (qe jL) .none v2b d2b p2b y2b e2b t2b),z2b⟩)
  (b2b:PySem.W.codeIn K e2b "lay_operands" = true)
  (k2b:PySem.W.keepIn K (.ref f2b)=true)
  (l2c:K.lookup f2c=some ⟨o2c,x2c,.func (PySem.W.fnOf "lay_out" "lay_out" (ql Zw) (qk Zw) (qe Zw) .none v2c d2c p2c y2c e2c t2c),z2c⟩)
  (b2c:PySem.W.codeIn K e2c "lay_out" = true)
  (k2c:PySem.W.keepIn K (.ref f2c)=true)
  (l2p:K.lookup f2p=some ⟨o2p,x2p,.func (PySem.W.fnOf "print_whole" "print_whole" (ql jS) (qk jS) (qe jS) .none v2p d2p p2p y2p e2p t2p),z2p⟩)
  (b2p:PySem.W.codeIn K e2p "print_whole" = true)
  (k2p:PySem.W.keepIn K (.ref f2p)=true)
  (l1t:K.lookup f1t=some ⟨o1t,x1t,.func (PySem.W.fnOf "__init__" "Token.__init__" (ql Qc) (qk Qc) (qe Qc) .none v1t d1t p1t y1t e1t t1t),z1t⟩)
  (b1t:PySem.W.codeIn K e1t "Token.__init__" = true)
  (k1t:PySem.W.keepIn K (.ref f1t)=true)
  (i1t:PySem.W.isFn K (.ref f1t)=true)
  (l1T:K.lookup f1T=some ⟨o1T,x1T,.func (PySem.W.fnOf "is_letter" "is_letter" (ql Qy) (qk Qy) (qe Qy) .none v1T d1T p1T y1T e1T t1T),z1T⟩)
  (b1T:PySem.W.codeIn K e1T "is_letter" = true)
  (k1T:PySem.W.keepIn K (.ref f1T)=true)
  (l1R:K.lookup f1R=some ⟨o1R,x1R,.func (PySem.W.fnOf "is_digit" "is_digit" (ql Q1) (qk Q1) (qe Q1) .none v1R d1R p1R y1R e1R t1R),z1R⟩)
  (b1R:PySem.W.codeIn K e1R "is_digit" = true)
  (k1R:PySem.W.keepIn K (.ref f1R)=true)
  (l1S:K.lookup f1S=some ⟨o1S,x1S,.func (PySem.W.fnOf "is_in_name" "is_in_name" (ql Qe) (qk Qe) (qe Qe) .none v1S d1S p1S y1S e1S t1S),z1S⟩)
  (b1S:PySem.W.codeIn K e1S "is_in_name" = true)
  (k1S:PySem.W.keepIn K (.ref f1S)=true)
  (l1V:K.lookup f1V=some ⟨o1V,x1V,.func (PySem.W.fnOf "kind_of_name" "kind_of_name" (ql jM) (qk jM) (qe jM) .none v1V d1V p1V y1V e1V t1V),z1V⟩)
  (b1V:PySem.W.codeIn K e1V "kind_of_name" = true)
  (k1V:PySem.W.keepIn K (.ref f1V)=true)
  (l0l:K.lookup f0l=some ⟨o0l,x0l,.func (PySem.W.fnOf "__init__" "Cutter.__init__" (ql jT) (qk jT) (qe jT) .none v0l d0l p0l y0l e0l t0l),z0l⟩)
  (b0l:PySem.W.codeIn K e0l "Cutter.__init__" = true)
  (k0l:PySem.W.keepIn K (.ref f0l)=true)
  (i0l:PySem.W.isFn K (.ref f0l)=true)
  (l0a:K.lookup f0a=some ⟨o0a,x0a,.func (PySem.W.fnOf "byte_at" "Cutter.byte_at" (ql jr) (qk jr) (qe jr) .none v0a d0a p0a y0a e0a t0a),z0a⟩)
  (b0a:PySem.W.codeIn K e0a "Cutter.byte_at" = true)
  (k0a:PySem.W.keepIn K (.ref f0a)=true)
  (i0a:PySem.W.isFn K (.ref f0a)=true)
  (l09:K.lookup f09=some ⟨o09,x09,.func (PySem.W.fnOf "add_token" "Cutter.add_token" (ql jc) (qk jc) (qe jc) .none v09 d09 p09 y09 e09 t09),z09⟩)
  (b09:PySem.W.codeIn K e09 "Cutter.add_token" = true)
  (k09:PySem.W.keepIn K (.ref f09)=true)
  (i09:PySem.W.isFn K (.ref f09)=true)
  (l0e:K.lookup f0e=some ⟨o0e,x0e,.func (PySem.W.fnOf "cut_outside" "Cutter.cut_outside" (ql zN) (qk zN) (qe zN) .none v0e d0e p0e y0e e0e t0e),z0e⟩)
  (b0e:PySem.W.codeIn K e0e "Cutter.cut_outside" = true)
  (k0e:PySem.W.keepIn K (.ref f0e)=true)
  (i0e:PySem.W.isFn K (.ref f0e)=true)
  (l0o:K.lookup f0o=some ⟨o0o,x0o,.func (PySem.W.fnOf "pass_comment" "Cutter.pass_comment" (ql zI) (qk zI) (qe zI) .none v0o d0o p0o y0o e0o t0o),z0o⟩)
  (b0o:PySem.W.codeIn K e0o "Cutter.pass_comment" = true)
  (k0o:PySem.W.keepIn K (.ref f0o)=true)
  (i0o:PySem.W.isFn K (.ref f0o)=true)
  (l0c:K.lookup f0c=some ⟨o0c,x0c,.func (PySem.W.fnOf "cut_name" "Cutter.cut_name" (ql jh) (qk jh) (qe jh) .none v0c d0c p0c y0c e0c t0c),z0c⟩)
  (b0c:PySem.W.codeIn K e0c "Cutter.cut_name" = true)
  (k0c:PySem.W.keepIn K (.ref f0c)=true)
  (i0c:PySem.W.isFn K (.ref f0c)=true)
  (l0d:K.lookup f0d=some ⟨o0d,x0d,.func (PySem.W.fnOf "cut_number" "Cutter.cut_number" (ql zX) (qk zX) (qe zX) .none v0d d0d p0d y0d e0d t0d),z0d⟩)
  (b0d:PySem.W.codeIn K e0d "Cutter.cut_number" = true)
  (k0d:PySem.W.keepIn K (.ref f0d)=true)
  (i0d:PySem.W.isFn K (.ref f0d)=true)
  (l0g:K.lookup f0g=some ⟨o0g,x0g,.func (PySem.W.fnOf "cut_right_brace" "Cutter.cut_right_brace" (ql zq) (qk zq) (qe zq) .none v0g d0g p0g y0g e0g t0g),z0g⟩)
  (b0g:PySem.W.codeIn K e0g "Cutter.cut_right_brace" = true)
  (k0g:PySem.W.keepIn K (.ref f0g)=true)
  (i0g:PySem.W.isFn K (.ref f0g)=true)
  (l0h:K.lookup f0h=some ⟨o0h,x0h,.func (PySem.W.fnOf "cut_sign" "Cutter.cut_sign" (ql ji) (qk ji) (qe ji) .none v0h d0h p0h y0h e0h t0h),z0h⟩)
  (b0h:PySem.W.codeIn K e0h "Cutter.cut_sign" = true)
  (k0h:PySem.W.keepIn K (.ref f0h)=true)
  (i0h:PySem.W.isFn K (.ref f0h)=true)
  (l0b:K.lookup f0b=some ⟨o0b,x0b,.func (PySem.W.fnOf "cut_literal" "Cutter.cut_literal" (ql zO) (qk zO) (qe zO) .none v0b d0b p0b y0b e0b t0b),z0b⟩)
  (b0b:PySem.W.codeIn K e0b "Cutter.cut_literal" = true)
  (k0b:PySem.W.keepIn K (.ref f0b)=true)
  (i0b:PySem.W.isFn K (.ref f0b)=true)
  (l0f:K.lookup f0f=some ⟨o0f,x0f,.func (PySem.W.fnOf "cut_piece" "Cutter.cut_piece" (ql jd) (qk jd) (qe jd) .none v0f d0f p0f y0f e0f t0f),z0f⟩)
  (b0f:PySem.W.codeIn K e0f "Cutter.cut_piece" = true)
  (k0f:PySem.W.keepIn K (.ref f0f)=true)
  (i0f:PySem.W.isFn K (.ref f0f)=true)
  (l0m:K.lookup f0m=some ⟨o0m,x0m,.func (PySem.W.fnOf "is_piece_over" "Cutter.is_piece_over" (ql zC) (qk zC) (qe zC) .none v0m d0m p0m y0m e0m t0m),z0m⟩)
  (b0m:PySem.W.codeIn K e0m "Cutter.is_piece_over" = true)
  (k0m:PySem.W.keepIn K (.ref f0m)=true)
  (i0m:PySem.W.isFn K (.ref f0m)=true)
  (l0j:K.lookup f0j=some ⟨o0j,x0j,.func (PySem.W.fnOf "gather_byte" "Cutter.gather_byte" (ql zP) (qk zP) (qe zP) .none v0j d0j p0j y0j e0j t0j),z0j⟩)
  (b0j:PySem.W.codeIn K e0j "Cutter.gather_byte" = true)
  (k0j:PySem.W.keepIn K (.ref f0j)=true)
  (i0j:PySem.W.isFn K (.ref f0j)=true)
  (l1O:K.lookup f1O=some ⟨o1O,x1O,.func (PySem.W.fnOf "cut" "cut" (ql qb7) (qk qb7) (qe qb7) .none v1O d1O p1O y1O e1O t1O),z1O⟩)
  (b1O:PySem.W.codeIn K e1O "cut" = true)
  (k1O:PySem.W.keepIn K (.ref f1O)=true)
  (l05:K.lookup f05=some ⟨o05,x05,.func (PySem.W.fnOf "__init__" "Begun.__init__" (ql Qg) (qk Qg) (qe Qg) .none v05 d05 p05 y05 e05 t05),z05⟩)
  (b05:PySem.W.codeIn K e05 "Begun.__init__" = true)
  (k05:PySem.W.keepIn K (.ref f05)=true)
  (i05:PySem.W.isFn K (.ref f05)=true)
  (l1Q:K.lookup f1Q=some ⟨o1Q,x1Q,.func (PySem.W.fnOf "fits" "fits" (ql qai) (qk qai) (qe qai) .none v1Q d1Q p1Q y1Q e1Q t1Q),z1Q⟩)
  (b1Q:PySem.W.codeIn K e1Q "fits" = true)
  (k1Q:PySem.W.keepIn K (.ref f1Q)=true)
  (l1N:K.lookup f1N=some ⟨o1N,x1N,.func (PySem.W.fnOf "choose" "choose" (ql ZP) (qk ZP) (qe ZP) .none v1N d1N p1N y1N e1N t1N),z1N⟩)
  (b1N:PySem.W.codeIn K e1N "choose" = true)
  (k1N:PySem.W.keepIn K (.ref f1N)=true)
  (l2m:K.lookup f2m=some ⟨o2m,x2m,.func (PySem.W.fnOf "meet_name" "meet_name" (ql Qz) (qk Qz) (qe Qz) .none v2m d2m p2m y2m e2m t2m),z2m⟩)
  (b2m:PySem.W.codeIn K e2m "meet_name" = true)
  (k2m:PySem.W.keepIn K (.ref f2m)=true)
  (l1b:K.lookup f1b=some ⟨o1b,x1b,.func (PySem.W.fnOf "__init__" "Reader.__init__" (ql jU) (qk jU) (qe jU) .none v1b d1b p1b y1b e1b t1b),z1b⟩)
  (b1b:PySem.W.codeIn K e1b "Reader.__init__" = true)
  (k1b:PySem.W.keepIn K (.ref f1b)=true)
  (i1b:PySem.W.isFn K (.ref f1b)=true)
  (l1e:K.lookup f1e=some ⟨o1e,x1e,.func (PySem.W.fnOf "step" "Reader.step" (ql jV) (qk jV) (qe jV) .none v1e d1e p1e y1e e1e t1e),z1e⟩)
  (b1e:PySem.W.codeIn K e1e "Reader.step" = true)
  (k1e:PySem.W.keepIn K (.ref f1e)=true)
  (i1e:PySem.W.isFn K (.ref f1e)=true)
  (l1d:K.lookup f1d=some ⟨o1d,x1d,.func (PySem.W.fnOf "read_token" "Reader.read_token" (ql zY) (qk zY) (qe zY) .none v1d d1d p1d y1d e1d t1d),z1d⟩)
  (b1d:PySem.W.codeIn K e1d "Reader.read_token" = true)
  (k1d:PySem.W.keepIn K (.ref f1d)=true)
  (i1d:PySem.W.isFn K (.ref f1d)=true)
  (l15:K.lookup f15=some ⟨o15,x15,.func (PySem.W.fnOf "act" "Reader.act" (ql Qh) (qk Qh) (qe Qh) .none v15 d15 p15 y15 e15 t15),z15⟩)
  (b15:PySem.W.codeIn K e15 "Reader.act" = true)
  (k15:PySem.W.keepIn K (.ref f15)=true)
  (i15:PySem.W.isFn K (.ref f15)=true)
  (l1a:K.lookup f1a=some ⟨o1a,x1a,.func (PySem.W.fnOf "enter_level" "Reader.enter_level" (ql zQ) (qk zQ) (qe zQ) .none v1a d1a p1a y1a e1a t1a),z1a⟩)
  (b1a:PySem.W.codeIn K e1a "Reader.enter_level" = true)
  (k1a:PySem.W.keepIn K (.ref f1a)=true)
  (i1a:PySem.W.isFn K (.ref f1a)=true)
  (l19:K.lookup f19=some ⟨o19,x19,.func (PySem.W.fnOf "end_node" "Reader.end_node" (ql jj) (qk jj) (qe jj) .none v19 d19 p19 y19 e19 t19),z19⟩)
  (b19:PySem.W.codeIn K e19 "Reader.end_node" = true)
  (k19:PySem.W.keepIn K (.ref f19)=true)
  (i19:PySem.W.isFn K (.ref f19)=true)
  (l2r:K.lookup f2r=some ⟨o2r,x2r,.func (PySem.W.fnOf "read" "read" (ql qaj) (qk qaj) (qe qaj) .none v2r d2r p2r y2r e2r t2r),z2r⟩)
  (b2r:PySem.W.codeIn K e2r "read" = true)
  (k2r:PySem.W.keepIn K (.ref f2r)=true)
  (l2u:K.lookup f2u=some ⟨o2u,x2u,.func (PySem.W.fnOf "sizes" "sizes" (ql Q2) (qk Q2) (qe Q2) .none v2u d2u p2u y2u e2u t2u),z2u⟩)
  (b2u:PySem.W.codeIn K e2u "sizes" = true)
  (k2u:PySem.W.keepIn K (.ref f2u)=true)
  (pg1r:PySem.W.plainGet K c1r Str.empty=true)
  (hd1r:PySem.W.hasDictIn K c1r=true)
  (po1r:PySem.W.plainOver K c1r=true)
  (sa1r:PySem.W.findIn K (.ref c1r) "__setattr__" = some (some (.builtin "object.__setattr__")))
  (mk1r:PySem.W.makesIn K c1r=true)
  (kc1r:PySem.W.keepIn K (.ref c1r)=true)
  (n1u:PySem.W.findIn K (.ref c1r) "kind" = some none)
  (n1v:PySem.W.findIn K (.ref c1r) "place" = some none)
  (n1s:PySem.W.findIn K (.ref c1r) "held" = some none)
  (pg08:PySem.W.plainGet K c08 Str.empty=true)
  (hd08:PySem.W.hasDictIn K c08=true)
  (po08:PySem.W.plainOver K c08=true)
  (sa08:PySem.W.findIn K (.ref c08) "__setattr__" = some (some (.builtin "object.__setattr__")))
  (mk08:PySem.W.makesIn K c08=true)
  (kc08:PySem.W.keepIn K (.ref c08)=true)
  (n0q:PySem.W.findIn K (.ref c08) "text" = some none)
  (n0p:PySem.W.findIn K (.ref c08) "place" = some none)
  (n0r:PySem.W.findIn K (.ref c08) "tokens" = some none)
  (n0n:PySem.W.findIn K (.ref c08) "opened" = some none)
  (n0k:PySem.W.findIn K (.ref c08) "in_literal" = some none)
  (n0i:PySem.W.findIn K (.ref c08) "ended" = some none)
  (pg0U:PySem.W.plainGet K c0U Str.empty=true)
  (hd0U:PySem.W.hasDictIn K c0U=true)
  (po0U:PySem.W.plainOver K c0U=true)
  (sa0U:PySem.W.findIn K (.ref c0U) "__setattr__" = some (some (.builtin "object.__setattr__")))
  (mk0U:PySem.W.makesIn K c0U=true)
  (kc0U:PySem.W.keepIn K (.ref c0U)=true)
  (n0Y:PySem.W.findIn K (.ref c0U) "kind" = some none)
  (n0Z:PySem.W.findIn K (.ref c0U) "labels" = some none)
  (n0X:PySem.W.findIn K (.ref c0U) "kids" = some none)
  (n0V:PySem.W.findIn K (.ref c0U) "depth" = some none)
  (pg03:PySem.W.plainGet K c03 Str.empty=true)
  (hd03:PySem.W.hasDictIn K c03=true)
  (po03:PySem.W.plainOver K c03=true)
  (sa03:PySem.W.findIn K (.ref c03) "__setattr__" = some (some (.builtin "object.__setattr__")))
  (mk03:PySem.W.makesIn K c03=true)
  (kc03:PySem.W.keepIn K (.ref c03)=true)
  (n04:PySem.W.findIn K (.ref c03) "first" = some none)
  (n06:PySem.W.findIn K (.ref c03) "labels" = some none)
  (n07:PySem.W.findIn K (.ref c03) "names" = some none)
  (pg14:PySem.W.plainGet K c14 Str.empty=true)
  (hd14:PySem.W.hasDictIn K c14=true)
  (po14:PySem.W.plainOver K c14=true)
  (sa14:PySem.W.findIn K (.ref c14) "__setattr__" = some (some (.builtin "object.__setattr__")))
  (mk14:PySem.W.makesIn K c14=true)
  (kc14:PySem.W.keepIn K (.ref c14)=true)
  (n1f:PySem.W.findIn K (.ref c14) "tokens" = some none)
  (n16:PySem.W.findIn K (.ref c14) "at" = some none)
  (n1c:PySem.W.findIn K (.ref c14) "level" = some none)
  (n1g:PySem.W.findIn K (.ref c14) "waiting" = some none)
  (n18:PySem.W.findIn K (.ref c14) "built" = some none)
  (n17:PySem.W.findIn K (.ref c14) "begun" = some none)
  (x1h:Jf K c1h=true)
  (sa1h:PySem.W.findIn K (.ref c1h) "__setattr__" = some (some (.builtin "object.__setattr__")))
  (ga1h:PySem.W.findIn K (.ref c1h) "__getattribute__" = some (some (.builtin "BaseException.__getattribute__")))
  (gh1h:PySem.W.findIn K (.ref c1h) "__getattr__" = some none)
  (u1h:Ji K c1h c1h=true)
  (kc1h:PySem.W.keepIn K (.ref c1h)=true)
  (n1j:PySem.W.findIn K (.ref c1h) "number" = some none)
  (n1k:PySem.W.findIn K (.ref c1h) "place" = some none)
  (x1n:Jf K c1n=true)
  (sa1n:PySem.W.findIn K (.ref c1n) "__setattr__" = some (some (.builtin "object.__setattr__")))
  (ga1n:PySem.W.findIn K (.ref c1n) "__getattribute__" = some (some (.builtin "BaseException.__getattribute__")))
  (gh1n:PySem.W.findIn K (.ref c1n) "__getattr__" = some none)
  (u1n:Ji K c1n c1h=true)
  (kc1n:PySem.W.keepIn K (.ref c1n)=true)
  (n1p:PySem.W.findIn K (.ref c1n) "number" = some none)
  (n1q:PySem.W.findIn K (.ref c1n) "place" = some none)
  (x1G:Jf K c1G=true)
  (sa1G:PySem.W.findIn K (.ref c1G) "__setattr__" = some (some (.builtin "object.__setattr__")))
  (ga1G:PySem.W.findIn K (.ref c1G) "__getattribute__" = some (some (.builtin "BaseException.__getattribute__")))
  (gh1G:PySem.W.findIn K (.ref c1G) "__getattr__" = some none)
  (u1G:Ji K c1G c1h=true)
  (kc1G:PySem.W.keepIn K (.ref c1G)=true)
  (n1I:PySem.W.findIn K (.ref c1G) "number" = some none)
  (n1J:PySem.W.findIn K (.ref c1G) "place" = some none)
  (x1C:Jf K c1C=true)
  (sa1C:PySem.W.findIn K (.ref c1C) "__setattr__" = some (some (.builtin "object.__setattr__")))
  (ga1C:PySem.W.findIn K (.ref c1C) "__getattribute__" = some (some (.builtin "BaseException.__getattribute__")))
  (gh1C:PySem.W.findIn K (.ref c1C) "__getattr__" = some none)
  (u1C:Ji K c1C c1h=true)
  (kc1C:PySem.W.keepIn K (.ref c1C)=true)
  (n1E:PySem.W.findIn K (.ref c1C) "number" = some none)
  (n1F:PySem.W.findIn K (.ref c1C) "place" = some none)
  (x0D:Jf K c0D=true)
  (sa0D:PySem.W.findIn K (.ref c0D) "__setattr__" = some (some (.builtin "object.__setattr__")))
  (ga0D:PySem.W.findIn K (.ref c0D) "__getattribute__" = some (some (.builtin "BaseException.__getattribute__")))
  (gh0D:PySem.W.findIn K (.ref c0D) "__getattr__" = some none)
  (u0D:Ji K c0D c1h=true)
  (kc0D:PySem.W.keepIn K (.ref c0D)=true)
  (n0F:PySem.W.findIn K (.ref c0D) "number" = some none)
  (n0G:PySem.W.findIn K (.ref c0D) "place" = some none)
  (x0Q:Jf K c0Q=true)
  (sa0Q:PySem.W.findIn K (.ref c0Q) "__setattr__" = some (some (.builtin "object.__setattr__")))
  (ga0Q:PySem.W.findIn K (.ref c0Q) "__getattribute__" = some (some (.builtin "BaseException.__getattribute__")))
  (gh0Q:PySem.W.findIn K (.ref c0Q) "__getattr__" = some none)
  (u0Q:Ji K c0Q c1h=true)
  (kc0Q:PySem.W.keepIn K (.ref c0Q)=true)
  (n0S:PySem.W.findIn K (.ref c0Q) "number" = some none)
  (n0T:PySem.W.findIn K (.ref c0Q) "place" = some none)
  (x1w:Jf K c1w=true)
  (sa1w:PySem.W.findIn K (.ref c1w) "__setattr__" = some (some (.builtin "object.__setattr__")))
  (ga1w:PySem.W.findIn K (.ref c1w) "__getattribute__" = some (some (.builtin "BaseException.__getattribute__")))
  (gh1w:PySem.W.findIn K (.ref c1w) "__getattr__" = some none)
  (u1w:Ji K c1w c1h=true)
  (kc1w:PySem.W.keepIn K (.ref c1w)=true)
  (n1y:PySem.W.findIn K (.ref c1w) "number" = some none)
  (n1z:PySem.W.findIn K (.ref c1w) "place" = some none)
  (cg:PySem.W.specialIn K (.ref c1h) "__getattribute__" = some (some (.builtin "type.__getattribute__")))
  (cr:PySem.W.readsIn K c1h (.type "type")=true)
  (cf:PySem.W.findCls K (.ref c1h) (.type "type") "__init__" = some (.val (.ref f1i)))
  (g1m:PySem.W.nsIn K mainGlobals "TAB" = some (some (.int (9) j1m)))
  (g0C:PySem.W.nsIn K mainGlobals "LINE_FEED" = some (some (.int (10) j0C)))
  (g12:PySem.W.nsIn K mainGlobals "RETURN" = some (some (.int (13) j12)))
  (g02:PySem.W.nsIn K mainGlobals "BLANK" = some (some (.int (32) j02)))
  (g10:PySem.W.nsIn K mainGlobals "QUOTE" = some (some (.int (34) j10)))
  (g0x:PySem.W.nsIn K mainGlobals "HASH" = some (some (.int (35) j0x)))
  (g0s:PySem.W.nsIn K mainGlobals "DOLLAR" = some (some (.int (36) j0s)))
  (g0H:PySem.W.nsIn K mainGlobals "MINUS" = some (some (.int (45) j0H)))
  (g1K:PySem.W.nsIn K mainGlobals "ZERO" = some (some (.int (48) j1K)))
  (g01:PySem.W.nsIn K mainGlobals "BACKSLASH" = some (some (.int (92) j01)))
  (g1A:PySem.W.nsIn K mainGlobals "UNDERSCORE" = some (some (.int (95) j1A)))
  (g0B:PySem.W.nsIn K mainGlobals "LEFT_BRACE" = some (some (.int (123) j0B)))
  (g13:PySem.W.nsIn K mainGlobals "RIGHT_BRACE" = some (some (.int (125) j13)))
  (g0L:PySem.W.nsIn K mainGlobals "MOST_NAME_BYTES" = some (some (.int (32) j0L)))
  (g0J:PySem.W.nsIn K mainGlobals "MOST_DIGITS" = some (some (.int (30) j0J)))
  (g0O:PySem.W.nsIn K mainGlobals "NOTHING" = some (some (.int (-1) j0O)))
  (g0N:PySem.W.nsIn K mainGlobals "MOST_TEXT_BYTES" = some (some (.int (2048) j0N)))
  (g0K:PySem.W.nsIn K mainGlobals "MOST_LEVELS" = some (some (.int (40) j0K)))
  (g0I:PySem.W.nsIn K mainGlobals "MOST_DEPTH" = some (some (.int (40) j0I)))
  (g2j:PySem.W.nsIn K mainGlobals "len" = some none)
  (g2o:PySem.W.nsIn K mainGlobals "ord" = some none)
  (g2l:PySem.W.nsIn K mainGlobals "max" = some none)
  (g2w:PySem.W.nsIn K mainGlobals "tuple" = some none)
  (g1B:PySem.W.nsIn K mainGlobals "WORDS" = some (some (.ref t1B)))
  (h1B:JT K t1B JC=true)
  (g1l:PySem.W.nsIn K mainGlobals "SIGNS" = some (some (.ref t1l)))
  (h1l:JT K t1l Za=true)
  (g00:PySem.W.nsIn K mainGlobals "ATOM_BEGINNINGS" = some (some (.ref t00)))
  (h00:JT K t00 qda=true)
  (g0t:PySem.W.nsIn K mainGlobals "ESCAPES" = some (some (.ref t0t)))
  (h0t:K.lookup t0t=some ⟨.type "dict",none,.dict e0t m0t,#[]⟩)
  (s0t:(t0t == sysModules)=false)
  (g0w:PySem.W.nsIn K mainGlobals "GRAMMAR" = some (some (.ref t0w)))
  (h0w:K.lookup t0w=some ⟨.type "dict",none,.dict e0w m0w,#[]⟩)
  (s0w:(t0w == sysModules)=false)
  (p0t:Paired (qb9 w) J4 e0t.toList)
  (p0w:Paired (qb9 w) (QT.map fun r=>(Sum.inr r.1,V.ref (J9 e0w r.1))) e0w.toList)
  (q0w:(QT.all fun r=>JT K (J9 e0w r.1) r.2)=true)
  (g0y:PySem.W.nsIn K mainGlobals "HIGHEST_RANK" = some (some (.int (12) j0y)))
  (g0u:PySem.W.nsIn K mainGlobals "GATHERED_FROM_LEFT" = some (some (.ref t0u)))
  (h0u:JT K t0u qdp=true)
  (g0v:PySem.W.nsIn K mainGlobals "GATHERED_FROM_RIGHT" = some (some (.ref t0v)))
  (h0v:JT K t0v JI=true)
  (g1P:PySem.W.nsIn K mainGlobals "enumerate" = some none)
  (g2x:PySem.W.nsIn K mainGlobals "zip" = some none)
  (g1U:PySem.W.nsIn K mainGlobals "isinstance" = some none)
  (g2v:PySem.W.nsIn K mainGlobals "str" = some none)
  (g11:PySem.W.nsIn K mainGlobals "RANKS" = some (some (.ref t11)))
  (h11:K.lookup t11=some ⟨.type "dict",none,.dict e11 m11,#[]⟩)
  (s11:(t11 == sysModules)=false)
  (g0A:PySem.W.nsIn K mainGlobals "LAYOUTS" = some (some (.ref t0A)))
  (h0A:K.lookup t0A=some ⟨.type "dict",none,.dict e0A m0A,#[]⟩)
  (s0A:(t0A == sysModules)=false)
  (p11:Paired (qb9 w) ZY e11.toList)
  (p0A:Paired (qb9 w) (qd3 ⟨f2e,f23,f2i,f28,f29,f2h,f25,f2f,f2g,f20,f1W,f27,f2a,f21,f1Z,f1Y,f2d,f24,f22,f26,f2b⟩) e0A.toList)
  (i1:PySem.W.findIn K (.ref c0U) "__class__" = some (some (.builtin "object.__class__")))
  (i2:PySem.W.specialIn K (.builtin "object.__class__") "__get__" = some (some (.builtin "getset_descriptor.__get__")))
  (i3:PySem.W.takesIn K (.builtin "object.__class__")=some true)
  (i4:PySem.W.mroIn K c0U (.type "object")=some true)
  (i5:PySem.W.kitOne K (.ref c0U) (.ref c0U)=some true)
  (i6:PySem.W.kitOne K (.type "str") (.ref c0U)=some false)
  (i7:PySem.W.kitOne K (.type "list") (.ref c0U)=some false)
  (i8:PySem.W.kitOne K (.type "str") (.type "str")=some true)
  (i9:PySem.W.kitOne K (.type "list") (.type "str")=some false)
  : ∃ fd:FuncData,(∀ (s:Shared) (us:List Value),us.length=(["text"]:List Str).length->BindsTo s fd ⟨us,[]⟩ ((["text"]:List Str).zip us))/\∀ base:Heap,K.In base->base.Ns mainGlobals mg->qy P w K mg base CX0 9 fa fd ["text"] (qd5 K):=by
 have e:=hfa.symm.trans (PySem.W.mg_of X G a2u)
 cases e
 have nE:(J4.map (·.1)).Nodup:=by decide +kernel
 have nG:((QT.map fun r=>((Sum.inr r.1:Key),V.ref (J9 e0w r.1))).map (·.1)).Nodup:=by rw [List.map_map]; exact qiu
 have T:Tx P w K mg ⟨c1r,c08,c0U,c03,c14,c1h,c1n,c1G,c1C,c0D,c0Q,c1w,t1B,t1l,t00,t0t,t0w,J9 e0w⟩:=⟨⟨pg1r,hd1r,po1r,sa1r⟩,n1u,n1v,n1s,⟨pg08,hd08,po08,sa08⟩,n0q,n0p,n0r,n0n,n0k,n0i,⟨pg0U,hd0U,po0U,sa0U⟩,n0Y,n0Z,n0X,n0V,⟨pg03,hd03,po03,sa03⟩,n04,n06,n07,⟨pg14,hd14,po14,sa14⟩,n1f,n16,n1c,n1g,n18,n17,⟨x1h,sa1h,ga1h,gh1h⟩,n1j,n1k,JH u1h,⟨x1n,sa1n,ga1n,gh1n⟩,n1p,n1q,JH u1n,⟨x1G,sa1G,ga1G,gh1G⟩,n1I,n1J,JH u1G,⟨x1C,sa1C,ga1C,gh1C⟩,n1E,n1F,JH u1C,⟨x0D,sa0D,ga0D,gh0D⟩,n0F,n0G,JH u0D,⟨x0Q,sa0Q,ga0Q,gh0Q⟩,n0S,n0T,JH u0Q,⟨x1w,sa1w,ga1w,gh1w⟩,n1y,n1z,JH u1w,zJ X G g1m,zJ X G g0C,zJ X G g12,zJ X G g02,zJ X G g10,zJ X G g0x,zJ X G g0s,zJ X G g0H,zJ X G g1K,zJ X G g01,zJ X G g1A,zJ X G g0B,zJ X G g13,zJ X G g0L,zJ X G g0J,zJ X G g0O,zJ X G g0N,zJ X G g0K,zJ X G g0I,Q4 X G g1B,Jn h1B,Q4 X G g1l,Jn h1l,Q4 X G g00,Jn h00,Q4 X G g0t,qa1 h0t s0t p0t nE,Q4 X G g0w,qa1 h0w s0w p0w nG,fun r hr=>Jn (List.all_eq_true.mp q0w r hr),PySem.W.mg_none_of X G g2j,PySem.W.mg_none_of X G g2o,PySem.W.mg_none_of X G g2l,PySem.W.mg_none_of X G g2w⟩
 have F1i:=qu (st:=jK) l1i b1i k1i
 have B1i:=F1i.binds (ps:=["self","number","place"]) fun _ _ _ _ _ _ us hl=>match us,hl with | [_,_,_],_=>rfl
 have F1o:=qu (st:=z9) l1o b1o k1o
 have B1o:=F1o.binds (ps:=["self"]) fun _ _ _ _ _ _ us hl=>match us,hl with | [_],_=>rfl
 have F1H:=qu (st:=jg) l1H b1H k1H
 have B1H:=F1H.binds (ps:=["self","place"]) fun _ _ _ _ _ _ us hl=>match us,hl with | [_,_],_=>rfl
 have F1D:=qu (st:=ja) l1D b1D k1D
 have B1D:=F1D.binds (ps:=["self","place"]) fun _ _ _ _ _ _ us hl=>match us,hl with | [_,_],_=>rfl
 have F0E:=qu (st:=zW) l0E b0E k0E
 have B0E:=F0E.binds (ps:=["self","place"]) fun _ _ _ _ _ _ us hl=>match us,hl with | [_,_],_=>rfl
 have F0R:=qu (st:=jq) l0R b0R k0R
 have B0R:=F0R.binds (ps:=["self","place"]) fun _ _ _ _ _ _ us hl=>match us,hl with | [_,_],_=>rfl
 have F1x:=qu (st:=jb) l1x b1x k1x
 have B1x:=F1x.binds (ps:=["self"]) fun _ _ _ _ _ _ us hl=>match us,hl with | [_],_=>rfl
 have F0W:=qu (st:=Qs) l0W b0W k0W
 have B0W:=F0W.binds (ps:=["self","kind","labels","kids"]) fun _ _ _ _ _ _ us hl=>match us,hl with | [_,_,_,_],_=>rfl
 have F2s:=qu (st:=jQ) l2s b2s k2s
 have B2s:=F2s.binds (ps:=["tree"]) fun _ _ _ _ _ _ us hl=>match us,hl with | [_],_=>rfl
 have F2n:=qu (st:=QV) l2n b2n k2n
 have B2n:=F2n.binds (ps:=["tree"]) fun _ _ _ _ _ _ us hl=>match us,hl with | [_],_=>rfl
 have F1M:=qu (st:=QW) l1M b1M k1M
 have B1M:=F1M.binds (ps:=["written"]) fun _ _ _ _ _ _ us hl=>match us,hl with | [_],_=>rfl
 have F1L:=qu (st:=qdI) l1L b1L k1L
 have B1L:=F1L.binds (ps:=["kid","rank"]) fun _ _ _ _ _ _ us hl=>match us,hl with | [_,_],_=>rfl
 have F2q:=qu (st:=jR) l2q b2q k2q
 have B2q:=F2q.binds (ps:=["groups","mark"]) fun _ _ _ _ _ _ us hl=>match us,hl with | [_,_],_=>rfl
 have F23:=qu (st:=Qt) l23 b23 k23
 have B23:=F23.binds (ps:=["node"]) fun _ _ _ _ _ _ us hl=>match us,hl with | [_],_=>rfl
 have F2i:=qu (st:=Zp) l2i b2i k2i
 have B2i:=F2i.binds (ps:=["node"]) fun _ _ _ _ _ _ us hl=>match us,hl with | [_],_=>rfl
 have F28:=qu (st:=ZM) l28 b28 k28
 have B28:=F28.binds (ps:=["node"]) fun _ _ _ _ _ _ us hl=>match us,hl with | [_],_=>rfl
 have F29:=qu (st:=QX) l29 b29 k29
 have B29:=F29.binds (ps:=["node"]) fun _ _ _ _ _ _ us hl=>match us,hl with | [_],_=>rfl
 have F2e:=qu (st:=Qu) l2e b2e k2e
 have B2e:=F2e.binds (ps:=["node"]) fun _ _ _ _ _ _ us hl=>match us,hl with | [_],_=>rfl
 have F2h:=qu (st:=QY) l2h b2h k2h
 have B2h:=F2h.binds (ps:=["node"]) fun _ _ _ _ _ _ us hl=>match us,hl with | [_],_=>rfl
 have F25:=qu (st:=QZ) l25 b25 k25
 have B25:=F25.binds (ps:=["node"]) fun _ _ _ _ _ _ us hl=>match us,hl with | [_],_=>rfl
 have F1X:=qu (st:=Qv) l1X b1X k1X
 have B1X:=F1X.binds (ps:=["node"]) fun _ _ _ _ _ _ us hl=>match us,hl with | [_],_=>rfl
 have F2f:=qu (st:=Qa) l2f b2f k2f
 have B2f:=F2f.binds (ps:=["node"]) fun _ _ _ _ _ _ us hl=>match us,hl with | [_],_=>rfl
 have F2g:=qu (st:=Qw) l2g b2g k2g
 have B2g:=F2g.binds (ps:=["node"]) fun _ _ _ _ _ _ us hl=>match us,hl with | [_],_=>rfl
 have F20:=qu (st:=Zq) l20 b20 k20
 have B20:=F20.binds (ps:=["node"]) fun _ _ _ _ _ _ us hl=>match us,hl with | [_],_=>rfl
 have F1W:=qu (st:=Zr) l1W b1W k1W
 have B1W:=F1W.binds (ps:=["node"]) fun _ _ _ _ _ _ us hl=>match us,hl with | [_],_=>rfl
 have F27:=qu (st:=Zs) l27 b27 k27
 have B27:=F27.binds (ps:=["node"]) fun _ _ _ _ _ _ us hl=>match us,hl with | [_],_=>rfl
 have F2a:=qu (st:=Zt) l2a b2a k2a
 have B2a:=F2a.binds (ps:=["node"]) fun _ _ _ _ _ _ us hl=>match us,hl with | [_],_=>rfl
 have F21:=qu (st:=Zu) l21 b21 k21
 have B21:=F21.binds (ps:=["node"]) fun _ _ _ _ _ _ us hl=>match us,hl with | [_],_=>rfl
 have F1Z:=qu (st:=ZN) l1Z b1Z k1Z
 have B1Z:=F1Z.binds (ps:=["node"]) fun _ _ _ _ _ _ us hl=>match us,hl with | [_],_=>rfl
 have F1Y:=qu (st:=Qb) l1Y b1Y k1Y
 have B1Y:=F1Y.binds (ps:=["node"]) fun _ _ _ _ _ _ us hl=>match us,hl with | [_],_=>rfl
 have F2d:=qu (st:=Qx) l2d b2d k2d
 have B2d:=F2d.binds (ps:=["node"]) fun _ _ _ _ _ _ us hl=>match us,hl with | [_],_=>rfl
 have F24:=qu (st:=Zv) l24 b24 k24
 have B24:=F24.binds (ps:=["node"]) fun _ _ _ _ _ _ us hl=>match us,hl with | [_],_=>rfl
 have F22:=qu (st:=ZO) l22 b22 k22
 have B22:=F22.binds (ps:=["node"]) fun _ _ _ _ _ _ us hl=>match us,hl with | [_],_=>rfl
 have F26:=qu (st:=Q0) l26 b26 k26
 have B26:=F26.binds (ps:=["node"]) fun _ _ _ _ _ _ us hl=>match us,hl with | [_],_=>rfl
 have F2b:=qu (st:=jL) l2b b2b k2b
 have B2b:=F2b.binds (ps:=["node"]) fun _ _ _ _ _ _ us hl=>match us,hl with | [_],_=>rfl
 have F2c:=qu (st:=Zw) l2c b2c k2c
 have B2c:=F2c.binds (ps:=["node"]) fun _ _ _ _ _ _ us hl=>match us,hl with | [_],_=>rfl
 have F2p:=qu (st:=jS) l2p b2p k2p
 have B2p:=F2p.binds (ps:=["tree"]) fun _ _ _ _ _ _ us hl=>match us,hl with | [_],_=>rfl
 have F1t:=qu (st:=Qc) l1t b1t k1t
 have B1t:=F1t.binds (ps:=["self","kind","place","held"]) fun _ _ _ _ _ _ us hl=>match us,hl with | [_,_,_,_],_=>rfl
 have F1T:=qu (st:=Qy) l1T b1T k1T
 have B1T:=F1T.binds (ps:=["byte"]) fun _ _ _ _ _ _ us hl=>match us,hl with | [_],_=>rfl
 have F1R:=qu (st:=Q1) l1R b1R k1R
 have B1R:=F1R.binds (ps:=["byte"]) fun _ _ _ _ _ _ us hl=>match us,hl with | [_],_=>rfl
 have F1S:=qu (st:=Qe) l1S b1S k1S
 have B1S:=F1S.binds (ps:=["byte"]) fun _ _ _ _ _ _ us hl=>match us,hl with | [_],_=>rfl
 have F1V:=qu (st:=jM) l1V b1V k1V
 have B1V:=F1V.binds (ps:=["held"]) fun _ _ _ _ _ _ us hl=>match us,hl with | [_],_=>rfl
 have F0l:=qu (st:=jT) l0l b0l k0l
 have B0l:=F0l.binds (ps:=["self","text"]) fun _ _ _ _ _ _ us hl=>match us,hl with | [_,_],_=>rfl
 have F0a:=qu (st:=jr) l0a b0a k0a
 have B0a:=F0a.binds (ps:=["self","place"]) fun _ _ _ _ _ _ us hl=>match us,hl with | [_,_],_=>rfl
 have F09:=qu (st:=jc) l09 b09 k09
 have B09:=F09.binds (ps:=["self","kind","length","held"]) fun _ _ _ _ _ _ us hl=>match us,hl with | [_,_,_,_],_=>rfl
 have F0e:=qu (st:=zN) l0e b0e k0e
 have B0e:=F0e.binds (ps:=["self"]) fun _ _ _ _ _ _ us hl=>match us,hl with | [_],_=>rfl
 have F0o:=qu (st:=zI) l0o b0o k0o
 have B0o:=F0o.binds (ps:=["self"]) fun _ _ _ _ _ _ us hl=>match us,hl with | [_],_=>rfl
 have F0c:=qu (st:=jh) l0c b0c k0c
 have B0c:=F0c.binds (ps:=["self"]) fun _ _ _ _ _ _ us hl=>match us,hl with | [_],_=>rfl
 have F0d:=qu (st:=zX) l0d b0d k0d
 have B0d:=F0d.binds (ps:=["self"]) fun _ _ _ _ _ _ us hl=>match us,hl with | [_],_=>rfl
 have F0g:=qu (st:=zq) l0g b0g k0g
 have B0g:=F0g.binds (ps:=["self"]) fun _ _ _ _ _ _ us hl=>match us,hl with | [_],_=>rfl
 have F0h:=qu (st:=ji) l0h b0h k0h
 have B0h:=F0h.binds (ps:=["self"]) fun _ _ _ _ _ _ us hl=>match us,hl with | [_],_=>rfl
 have F0b:=qu (st:=zO) l0b b0b k0b
 have B0b:=F0b.binds (ps:=["self"]) fun _ _ _ _ _ _ us hl=>match us,hl with | [_],_=>rfl
 have F0f:=qu (st:=jd) l0f b0f k0f
 have B0f:=F0f.binds (ps:=["self"]) fun _ _ _ _ _ _ us hl=>match us,hl with | [_],_=>rfl
 have F0m:=qu (st:=zC) l0m b0m k0m
 have B0m:=F0m.binds (ps:=["self"]) fun _ _ _ _ _ _ us hl=>match us,hl with | [_],_=>rfl
 have F0j:=qu (st:=zP) l0j b0j k0j
 have B0j:=F0j.binds (ps:=["self"]) fun _ _ _ _ _ _ us hl=>match us,hl with | [_],_=>rfl
 have F1O:=qu (st:=qb7) l1O b1O k1O
 have B1O:=F1O.binds (ps:=["text"]) fun _ _ _ _ _ _ us hl=>match us,hl with | [_],_=>rfl
 have F05:=qu (st:=Qg) l05 b05 k05
 have B05:=F05.binds (ps:=["self","first"]) fun _ _ _ _ _ _ us hl=>match us,hl with | [_,_],_=>rfl
 have F1Q:=qu (st:=qai) l1Q b1Q k1Q
 have B1Q:=F1Q.binds (ps:=["first","kind"]) fun _ _ _ _ _ _ us hl=>match us,hl with | [_,_],_=>rfl
 have F1N:=qu (st:=ZP) l1N b1N k1N
 have B1N:=F1N.binds (ps:=["part","kind"]) fun _ _ _ _ _ _ us hl=>match us,hl with | [_,_],_=>rfl
 have F2m:=qu (st:=Qz) l2m b2m k2m
 have B2m:=F2m.binds (ps:=["names","token"]) fun _ _ _ _ _ _ us hl=>match us,hl with | [_,_],_=>rfl
 have F1b:=qu (st:=jU) l1b b1b k1b
 have B1b:=F1b.binds (ps:=["self","tokens"]) fun _ _ _ _ _ _ us hl=>match us,hl with | [_,_],_=>rfl
 have F1e:=qu (st:=jV) l1e b1e k1e
 have B1e:=F1e.binds (ps:=["self"]) fun _ _ _ _ _ _ us hl=>match us,hl with | [_],_=>rfl
 have F1d:=qu (st:=zY) l1d b1d k1d
 have B1d:=F1d.binds (ps:=["self","kind"]) fun _ _ _ _ _ _ us hl=>match us,hl with | [_,_],_=>rfl
 have F15:=qu (st:=Qh) l15 b15 k15
 have B15:=F15.binds (ps:=["self","action"]) fun _ _ _ _ _ _ us hl=>match us,hl with | [_,_],_=>rfl
 have F1a:=qu (st:=zQ) l1a b1a k1a
 have B1a:=F1a.binds (ps:=["self"]) fun _ _ _ _ _ _ us hl=>match us,hl with | [_],_=>rfl
 have F19:=qu (st:=jj) l19 b19 k19
 have B19:=F19.binds (ps:=["self","kind"]) fun _ _ _ _ _ _ us hl=>match us,hl with | [_,_],_=>rfl
 have F2r:=qu (st:=qaj) l2r b2r k2r
 have B2r:=F2r.binds (ps:=["text"]) fun _ _ _ _ _ _ us hl=>match us,hl with | [_],_=>rfl
 have F2u:=qu (st:=Q2) l2u b2u k2u
 have B2u:=F2u.binds (ps:=["text"]) fun _ _ _ _ _ _ us hl=>match us,hl with | [_],_=>rfl
 refine ⟨PySem.W.fnOf "sizes" "sizes" (ql Q2) (qk Q2) (qe Q2) .none v2u d2u p2u y2u e2u t2u,fun s us hu=>match us,hu with | [_],_=>.of_eq rfl,fun base _ _=>?_⟩
 have O1i:=qde (P:=P) (w:=w) (mg:=mg) (base:=base) F1i
 have GR:ClsAt P w K mg base 1 c1h "Refusal" "__init__" ["self","number","place"] (JO K):=⟨f1i,_,PySem.W.mg_of X G a1h,⟨cg,cr,cf,k1i⟩,O1i,B1i⟩
 have O1o:=qbg (P:=P) (w:=w) (mg:=mg) (base:=base) F1o T GR
 have O1H:=qbE (P:=P) (w:=w) (mg:=mg) (base:=base) F1H T GR
 have O1D:=qbi (P:=P) (w:=w) (mg:=mg) (base:=base) F1D T GR
 have O0E:=qaV (P:=P) (w:=w) (mg:=mg) (base:=base) F0E T GR
 have O0R:=qcg (P:=P) (w:=w) (mg:=mg) (base:=base) F0R T GR
 have O1x:=qbk (P:=P) (w:=w) (mg:=mg) (base:=base) F1x T GR
 have O1T:=qfL (P:=P) (w:=w) (mg:=mg) (base:=base) F1T
 have O1R:=qgD (P:=P) (w:=w) (mg:=mg) (base:=base) F1R
 have O1S:=qeQ (P:=P) (w:=w) (mg:=mg) (base:=base) F1S T ⟨f1T,_,PySem.W.mg_of X G a1T,O1T,k1T,B1T⟩ ⟨f1R,_,PySem.W.mg_of X G a1R,O1R,k1R,B1R⟩
 have O1M:=qgE (P:=P) (w:=w) (mg:=mg) (base:=base) F1M T
 have O1V:=qdf (P:=P) (w:=w) (mg:=mg) (base:=base) F1V T ⟨f1M,_,PySem.W.mg_of X G a1M,O1M,k1M,B1M⟩
 have O1t:=qeS (P:=P) (w:=w) (mg:=mg) (base:=base) F1t T
 have O0l:=qdO (P:=P) (w:=w) (mg:=mg) (base:=base) F0l T
 have O0a:=qh1 (P:=P) (w:=w) (mg:=mg) (base:=base) F0a T
 have O09:=qfN (P:=P) (w:=w) (mg:=mg) (base:=base) F09 T ⟨f1t,_,PySem.W.mg_of X G a1r,⟨mk1r,a1t,i1t,kc1r⟩,O1t,B1t⟩
 have O0o:=qdh (P:=P) (w:=w) (mg:=mg) (base:=base) F0o T ⟨f0a,_,⟨a0a,i0a,k0a⟩,O0a,B0a⟩
 have O0c:=qgF (P:=P) (w:=w) (mg:=mg) (base:=base) F0c T ⟨f0a,_,⟨a0a,i0a,k0a⟩,O0a,B0a⟩ ⟨f1S,_,PySem.W.mg_of X G a1S,O1S,k1S,B1S⟩ ⟨f1V,_,PySem.W.mg_of X G a1V,O1V,k1V,B1V⟩ ⟨f09,_,⟨a09,i09,k09⟩,O09,B09⟩ ⟨f1H,_,PySem.W.mg_of X G a1G,⟨T.x_WrongToken,a1H,i1H,kc1G⟩,O1H,B1H⟩
 have O0d:=qeT (P:=P) (w:=w) (mg:=mg) (base:=base) F0d T ⟨f0a,_,⟨a0a,i0a,k0a⟩,O0a,B0a⟩ ⟨f1R,_,PySem.W.mg_of X G a1R,O1R,k1R,B1R⟩ ⟨f09,_,⟨a09,i09,k09⟩,O09,B09⟩ ⟨f1H,_,PySem.W.mg_of X G a1G,⟨T.x_WrongToken,a1H,i1H,kc1G⟩,O1H,B1H⟩
 have O0g:=qbI (P:=P) (w:=w) (mg:=mg) (base:=base) F0g T ⟨f09,_,⟨a09,i09,k09⟩,O09,B09⟩
 have O0h:=qgI (P:=P) (w:=w) (mg:=mg) (base:=base) F0h T ⟨f1M,_,PySem.W.mg_of X G a1M,O1M,k1M,B1M⟩ ⟨f09,_,⟨a09,i09,k09⟩,O09,B09⟩ ⟨f1H,_,PySem.W.mg_of X G a1G,⟨T.x_WrongToken,a1H,i1H,kc1G⟩,O1H,B1H⟩
 have O0m:=qcK (P:=P) (w:=w) (mg:=mg) (base:=base) F0m T ⟨f0a,_,⟨a0a,i0a,k0a⟩,O0a,B0a⟩
 have O0j:=qdK (P:=P) (w:=w) (mg:=mg) (base:=base) F0j T ⟨f0a,_,⟨a0a,i0a,k0a⟩,O0a,B0a⟩ ⟨f1H,_,PySem.W.mg_of X G a1G,⟨T.x_WrongToken,a1H,i1H,kc1G⟩,O1H,B1H⟩
 have O0f:=qfS (P:=P) (w:=w) (mg:=mg) (base:=base) F0f T ⟨f0m,_,⟨a0m,i0m,k0m⟩,O0m,B0m⟩ ⟨f0j,_,⟨a0j,i0j,k0j⟩,O0j,B0j⟩ ⟨f1t,_,PySem.W.mg_of X G a1r,⟨mk1r,a1t,i1t,kc1r⟩,O1t,B1t⟩
 have O0b:=qdL (P:=P) (w:=w) (mg:=mg) (base:=base) F0b T ⟨f0a,_,⟨a0a,i0a,k0a⟩,O0a,B0a⟩ ⟨f0f,_,⟨a0f,i0f,k0f⟩,O0f,B0f⟩ ⟨f09,_,⟨a09,i09,k09⟩,O09,B09⟩ ⟨f1H,_,PySem.W.mg_of X G a1G,⟨T.x_WrongToken,a1H,i1H,kc1G⟩,O1H,B1H⟩
 have O0e:=qdM (P:=P) (w:=w) (mg:=mg) (base:=base) F0e T ⟨f0a,_,⟨a0a,i0a,k0a⟩,O0a,B0a⟩ ⟨f09,_,⟨a09,i09,k09⟩,O09,B09⟩ ⟨f1T,_,PySem.W.mg_of X G a1T,O1T,k1T,B1T⟩ ⟨f1R,_,PySem.W.mg_of X G a1R,O1R,k1R,B1R⟩ ⟨f0o,_,⟨a0o,i0o,k0o⟩,O0o,B0o⟩ ⟨f0c,_,⟨a0c,i0c,k0c⟩,O0c,B0c⟩ ⟨f0d,_,⟨a0d,i0d,k0d⟩,O0d,B0d⟩ ⟨f0g,_,⟨a0g,i0g,k0g⟩,O0g,B0g⟩ ⟨f0h,_,⟨a0h,i0h,k0h⟩,O0h,B0h⟩
 have O1O:=qm8 (P:=P) (w:=w) (mg:=mg) (base:=base) F1O T ⟨f0l,_,PySem.W.mg_of X G a08,⟨mk08,a0l,i0l,kc08⟩,O0l,B0l⟩ ⟨f0b,_,⟨a0b,i0b,k0b⟩,O0b,B0b⟩ ⟨f0e,_,⟨a0e,i0e,k0e⟩,O0e,B0e⟩
 have O1Q:=qme (P:=P) (w:=w) (mg:=mg) (base:=base) F1Q T
 have O1N:=qjx (P:=P) (w:=w) (mg:=mg) (base:=base) F1N T ⟨f1Q,_,PySem.W.mg_of X G a1Q,O1Q,k1Q,B1Q⟩
 have O2m:=qfZ (P:=P) (w:=w) (mg:=mg) (base:=base) F2m T ⟨f0R,_,PySem.W.mg_of X G a0Q,⟨T.x_NameTwice,a0R,i0R,kc0Q⟩,O0R,B0R⟩
 have O0W:=qfY (P:=P) (w:=w) (mg:=mg) (base:=base) F0W T
 have O05:=qeV (P:=P) (w:=w) (mg:=mg) (base:=base) F05 T
 have O1b:=qdW (P:=P) (w:=w) (mg:=mg) (base:=base) F1b T
 have O1d:=qeW (P:=P) (w:=w) (mg:=mg) (base:=base) F1d T ⟨f1D,_,PySem.W.mg_of X G a1C,⟨T.x_WrongSyntax,a1D,i1D,kc1C⟩,O1D,B1D⟩
 have O1a:=qdT (P:=P) (w:=w) (mg:=mg) (base:=base) F1a T ⟨f0E,_,PySem.W.mg_of X G a0D,⟨T.x_LevelTooDeep,a0E,i0E,kc0D⟩,O0E,B0E⟩
 have O19:=qgK (P:=P) (w:=w) (mg:=mg) (base:=base) F19 T ⟨f0W,_,PySem.W.mg_of X G a0U,⟨mk0U,a0W,i0W,kc0U⟩,O0W,B0W⟩
 have O15:=qnc (P:=P) (w:=w) (mg:=mg) (base:=base) F15 T ⟨f05,_,PySem.W.mg_of X G a03,⟨mk03,a05,i05,kc03⟩,O05,B05⟩ ⟨f2m,_,PySem.W.mg_of X G a2m,O2m,k2m,B2m⟩ ⟨f1a,_,⟨a1a,i1a,k1a⟩,O1a,B1a⟩ ⟨f19,_,⟨a19,i19,k19⟩,O19,B19⟩
 have O1e:=qmg (P:=P) (w:=w) (mg:=mg) (base:=base) F1e T ⟨f1N,_,PySem.W.mg_of X G a1N,O1N,k1N,B1N⟩ ⟨f15,_,⟨a15,i15,k15⟩,O15,B15⟩ ⟨f1d,_,⟨a1d,i1d,k1d⟩,O1d,B1d⟩
 have O2s:=qdY (P:=P) (w:=w) (mg:=mg) (base:=base) F2s T ⟨f1x,_,PySem.W.mg_of X G a1w,⟨T.x_TreeTooDeep,a1x,i1x,kc1w⟩,O1x,B1x⟩
 have O2r:=qmi (P:=P) (w:=w) (mg:=mg) (base:=base) F2r T ⟨f1o,_,PySem.W.mg_of X G a1n,⟨T.x_TextTooLong,a1o,i1o,kc1n⟩,O1o,B1o⟩ ⟨f1O,_,PySem.W.mg_of X G a1O,O1O,k1O,B1O⟩ ⟨f1b,_,PySem.W.mg_of X G a14,⟨mk14,a1b,i1b,kc14⟩,O1b,B1b⟩ ⟨f1e,_,⟨a1e,i1e,k1e⟩,O1e,B1e⟩ ⟨f2s,_,PySem.W.mg_of X G a2s,O2s,k2s,B2s⟩
 have nR:(ZY.map (·.1)).Nodup:=by decide +kernel
 have nL:((qd3 ⟨f2e,f23,f2i,f28,f29,f2h,f25,f2f,f2g,f20,f1W,f27,f2a,f21,f1Z,f1Y,f2d,f24,f22,f26,f2b⟩).map (·.1)).Nodup:=by rw [qk6]; decide +kernel
 have R:Tp P w K mg ⟨t11,t0u,t0v⟩:=⟨Q4 X G g11,qa1 h11 s11 p11 nR,zJ X G g0y,Q4 X G g0u,Jn h0u,Q4 X G g0v,Jn h0v,PySem.W.mg_none_of X G g1P,PySem.W.mg_none_of X G g2x,PySem.W.mg_none_of X G g1U,PySem.W.mg_none_of X G g2v⟩
 have O1L:=qnL (P:=P) (w:=w) (mg:=mg) (base:=base) F1L T R
 have O2q:=qd2 (P:=P) (w:=w) (mg:=mg) (base:=base) (a:=⟨c1r,c08,c0U,c03,c14,c1h,c1n,c1G,c1C,c0D,c0Q,c1w,t1B,t1l,t00,t0t,t0w,J9 e0w⟩) F2q R
 have O23:=qgc (P:=P) (w:=w) (mg:=mg) (base:=base) F23 T
 have O2i:=qif (P:=P) (w:=w) (mg:=mg) (base:=base) (a:=⟨c1r,c08,c0U,c03,c14,c1h,c1n,c1G,c1C,c0D,c0Q,c1w,t1B,t1l,t00,t0t,t0w,J9 e0w⟩) F2i
 have O28:=qjP (P:=P) (w:=w) (mg:=mg) (base:=base) (a:=⟨c1r,c08,c0U,c03,c14,c1h,c1n,c1G,c1C,c0D,c0Q,c1w,t1B,t1l,t00,t0t,t0w,J9 e0w⟩) F28
 have O29:=qgN (P:=P) (w:=w) (mg:=mg) (base:=base) (a:=⟨c1r,c08,c0U,c03,c14,c1h,c1n,c1G,c1C,c0D,c0Q,c1w,t1B,t1l,t00,t0t,t0w,J9 e0w⟩) F29
 have O2e:=qgi (P:=P) (w:=w) (mg:=mg) (base:=base) F2e T ⟨f1M,_,PySem.W.mg_of X G a1M,O1M,k1M,B1M⟩
 have O2h:=qgR (P:=P) (w:=w) (mg:=mg) (base:=base) F2h T
 have O25:=qgQ (P:=P) (w:=w) (mg:=mg) (base:=base) F25 T ⟨f2q,_,PySem.W.mg_of X G a2q,O2q,k2q,B2q⟩
 have O1X:=qgd (P:=P) (w:=w) (mg:=mg) (base:=base) F1X T R ⟨f2q,_,PySem.W.mg_of X G a2q,O2q,k2q,B2q⟩
 have O2f:=qeY (P:=P) (w:=w) (mg:=mg) (base:=base) F2f T ⟨f1X,_,PySem.W.mg_of X G a1X,O1X,k1X,B1X⟩
 have O2g:=qgf (P:=P) (w:=w) (mg:=mg) (base:=base) (a:=⟨c1r,c08,c0U,c03,c14,c1h,c1n,c1G,c1C,c0D,c0Q,c1w,t1B,t1l,t00,t0t,t0w,J9 e0w⟩) F2g ⟨f2f,_,PySem.W.mg_of X G a2f,O2f,k2f,B2f⟩
 have O20:=qiq (P:=P) (w:=w) (mg:=mg) (base:=base) F20 T R ⟨f1L,_,PySem.W.mg_of X G a1L,O1L,k1L,B1L⟩
 have O1W:=qil (P:=P) (w:=w) (mg:=mg) (base:=base) F1W T R ⟨f1L,_,PySem.W.mg_of X G a1L,O1L,k1L,B1L⟩
 have O27:=qih (P:=P) (w:=w) (mg:=mg) (base:=base) F27 T R ⟨f1L,_,PySem.W.mg_of X G a1L,O1L,k1L,B1L⟩
 have O2a:=qij (P:=P) (w:=w) (mg:=mg) (base:=base) F2a T R ⟨f1L,_,PySem.W.mg_of X G a1L,O1L,k1L,B1L⟩
 have O21:=qin (P:=P) (w:=w) (mg:=mg) (base:=base) F21 T R ⟨f1L,_,PySem.W.mg_of X G a1L,O1L,k1L,B1L⟩
 have O1Z:=qjR (P:=P) (w:=w) (mg:=mg) (base:=base) F1Z T
 have O1Y:=qeZ (P:=P) (w:=w) (mg:=mg) (base:=base) F1Y T ⟨f2q,_,PySem.W.mg_of X G a2q,O2q,k2q,B2q⟩
 have O2d:=qgh (P:=P) (w:=w) (mg:=mg) (base:=base) F2d T
 have O24:=qip (P:=P) (w:=w) (mg:=mg) (base:=base) F24 T ⟨f1X,_,PySem.W.mg_of X G a1X,O1X,k1X,B1X⟩
 have O22:=qjT (P:=P) (w:=w) (mg:=mg) (base:=base) F22 T
 have O26:=qgP (P:=P) (w:=w) (mg:=mg) (base:=base) F26 T
 have O2b:=qds (P:=P) (w:=w) (mg:=mg) (base:=base) F2b T R ⟨f1L,_,PySem.W.mg_of X G a1L,O1L,k1L,B1L⟩
 have Y:qns P w K mg base ⟨c1r,c08,c0U,c03,c14,c1h,c1n,c1G,c1C,c0D,c0Q,c1w,t1B,t1l,t00,t0t,t0w,J9 e0w⟩ ⟨f2e,f23,f2i,f28,f29,f2h,f25,f2f,f2g,f20,f1W,f27,f2a,f21,f1Z,f1Y,f2d,f24,f22,f26,f2b⟩:=⟨⟨_,O2e.mono (by decide),k2e,B2e⟩,⟨_,O23.mono (by decide),k23,B23⟩,⟨_,O2i.mono (by decide),k2i,B2i⟩,⟨_,O28.mono (by decide),k28,B28⟩,⟨_,O29.mono (by decide),k29,B29⟩,⟨_,O2h.mono (by decide),k2h,B2h⟩,⟨_,O25.mono (by decide),k25,B25⟩,⟨_,O2f.mono (by decide),k2f,B2f⟩,⟨_,O2g.mono (by decide),k2g,B2g⟩,⟨_,O20.mono (by decide),k20,B20⟩,⟨_,O1W.mono (by decide),k1W,B1W⟩,⟨_,O27.mono (by decide),k27,B27⟩,⟨_,O2a.mono (by decide),k2a,B2a⟩,⟨_,O21.mono (by decide),k21,B21⟩,⟨_,O1Z.mono (by decide),k1Z,B1Z⟩,⟨_,O1Y.mono (by decide),k1Y,B1Y⟩,⟨_,O2d.mono (by decide),k2d,B2d⟩,⟨_,O24.mono (by decide),k24,B24⟩,⟨_,O22.mono (by decide),k22,B22⟩,⟨_,O26.mono (by decide),k26,B26⟩,⟨_,O2b.mono (by decide),k2b,B2b⟩⟩
 have O2c:=qit (P:=P) (w:=w) (mg:=mg) (base:=base) F2c T (Q4 X G g0A) (qa1 h0A s0A p0A nL) Y
 have O2p:=qd4 (P:=P) (w:=w) (mg:=mg) (base:=base) F2p T R (PySem.W.mg_of X G a0U) ⟨i1,i2,i3,i4,i5,i6,i7,i8,i9⟩ ⟨f2c,_,PySem.W.mg_of X G a2c,O2c,k2c,B2c⟩ ⟨f1M,_,PySem.W.mg_of X G a1M,O1M,k1M,B1M⟩
 have O2n:=qgS (P:=P) (w:=w) (mg:=mg) (base:=base) F2n T
 exact qk8 (P:=P) (w:=w) (mg:=mg) (base:=base) F2u T (PySem.W.mg_of X G a1h) ⟨f2r,_,PySem.W.mg_of X G a2r,O2r,k2r,B2r⟩ ⟨f2n,_,PySem.W.mg_of X G a2n,O2n,k2n,B2n⟩ ⟨f2p,_,PySem.W.mg_of X G a2p,O2p,k2p,B2p⟩
end RT
end
def PySem.W.Fast.tw15004237321242934122:=()
def PySem.W.Fast.tw12880825825957829580:=()
def PySem.W.Fast.tw650137679406473281:=()
def PySem.W.Fast.tw7536884414586021527:=()
def PySem.W.Fast.tw17183822991643752847:=()
def PySem.W.Fast.tw1839898745638574175:=()
def PySem.W.Fast.tw2431740758957316078:=()
def PySem.W.Fast.tw8499566305867507765:=()
def PySem.W.Fast.tw17342763813101449274:=()
def PySem.W.Fast.tw5744152192859875992:=()
def PySem.W.Fast.tw1389240120163312401:=()
def PySem.W.Fast.tw3647464141689569225:=()
def PySem.W.Fast.tw7562193156257590465:=()
def PySem.W.Fast.tw10946769509266606708:=()
def PySem.W.Fast.tw17235595295352313017:=()
def PySem.W.Fast.tw16747447775830722698:=()
def PySem.W.Fast.tw13570057424266382841:=()
def PySem.W.Fast.tw9122886899700682635:=()
def PySem.W.Fast.tw8617546530935905655:=()
def PySem.W.Fast.tw12973887146675230582:=()
def PySem.W.Fast.tw8379348586961920346:=()
def PySem.W.Fast.tw17658979878720493365:=()
def PySem.W.Fast.tw4912162572242180080:=()
def PySem.W.Fast.tw7832423252815616139:=()
def PySem.W.Fast.tw14254607052133935559:=()
def PySem.W.Fast.tw16839083173232914442:=()
def PySem.W.Fast.tw5684387623906208864:=()
def PySem.W.Fast.tw9083948278548219313:=()
def PySem.W.Fast.tw9323756008110453432:=()
def PySem.W.Fast.tw11934911885189879200:=()
def PySem.W.Fast.tw4031909732453850860:=()
def PySem.W.Fast.tw7263426840115251823:=()
def PySem.W.Fast.tw5338520665133045847:=()
def PySem.W.Fast.tw7502172586029749363:=()
def PySem.W.Fast.tw15106258112717327850:=()
def PySem.W.Fast.tw16439824908697757591:=()
def PySem.W.Fast.tw5539510307748311948:=()
def PySem.W.Fast.tw13306534132907160329:=()
def PySem.W.Fast.tw3534520031311517938:=()
def PySem.W.Fast.tw11932212519495473953:=()
def PySem.W.Fast.tw15437121311411403739:=()
def PySem.W.Fast.tw11201275151637816407:=()
def PySem.W.Fast.tw17835139956772058230:=()
def PySem.W.Fast.tw14697439734728817878:=()
def PySem.W.Fast.tw10231309970010522869:=()
def PySem.W.Fast.tw14779957664376297905:=()
def PySem.W.Fast.tw4823601828536692230:=()
def PySem.W.Fast.tw11822515421853144741:=()
def PySem.W.Fast.tw7372216387789887363:=()
def PySem.W.Fast.tw3893988195490147192:=()
def PySem.W.Fast.tw3121128251826828158:=()
def PySem.W.Fast.tw11411682165446024002:=()
def PySem.W.Fast.tw16072487876753913904:=()
def PySem.W.Fast.tw8348783290855427841:=()
def PySem.W.Fast.tw3936807188489974326:=()
def PySem.W.Fast.tw3478529442533751333:=()
def PySem.W.Fast.tw5787851985222471901:=()
def PySem.W.Fast.tw3004358329582094080:=()
def PySem.W.Fast.tw2017266620675180523:=()
def PySem.W.Fast.tw2546176789871306565:=()
def PySem.W.Fast.tw4180577968472659326:=()
def PySem.W.Fast.tw11829470765475079758:=()
def PySem.W.Fast.tw14725245266108163826:=()
def PySem.W.Fast.tw10583948431992115551:=()
def PySem.W.Fast.tw14947085605757738977:=()
def PySem.W.Fast.tw2890184066608748558:=()
def PySem.W.Fast.tw16871165421137862498:=()
def PySem.W.Fast.tw15196662409909210313:=()
def PySem.W.Fast.tw17610690107557867669:=()
def PySem.W.Fast.tw4617649503503086633:=()
def PySem.W.Fast.tw5964954956460943690:=()
def PySem.W.Fast.tw15146778174255765193:=()
def PySem.W.Fast.tw16471231299046645343:=()
def PySem.W.Fast.tw901981562936362247:=()
def PySem.W.Fast.tw14106049116425950993:=()
def PySem.W.Fast.tw6198082351079766252:=()
def PySem.W.Fast.tw2815672127109778141:=()
def PySem.W.Fast.tw455038861497752916:=()
def PySem.W.Fast.tw8976065623842292643:=()
def PySem.W.Fast.tw2222026656409091868:=()
def PySem.W.Fast.tw7468962236677746702:=()
def PySem.W.Fast.tw13830046043796227320:=()
def PySem.W.Fast.tw14747115033910509113:=()
def PySem.W.Fast.tw11473007408471729187:=()
def PySem.W.Fast.tw8661726987501858389:=()
def PySem.W.Fast.tw4211275522483748015:=()
def PySem.W.Fast.tw14047568265471346873:=()
def PySem.W.Fast.tw289620979419038996:=()
def PySem.W.Fast.tw15602290281735889109:=()
def PySem.W.Fast.tw11027646849324896060:=()
def PySem.W.Fast.tw18172997054894020738:=()
def PySem.W.Fast.tw4612713096507152276:=()
def PySem.W.Fast.tw17289236183456835956:=()
def PySem.W.Fast.tw18060202479171035536:=()
def PySem.W.Fast.tw15049148256885528437:=()
def PySem.W.Fast.tw7051205281543888766:=()
def PySem.W.Fast.tw17973121307966160806:=()
def PySem.W.Fast.tw651564671514830539:=()
def PySem.W.Fast.tw7268592423615690423:=()
def PySem.W.Fast.tw13016014949204557082:=()
def PySem.W.Fast.tw15948645161616907903:=()
def PySem.W.Fast.tw17531643434481107089:=()
def PySem.W.Fast.tw7538261996785500805:=()
def PySem.W.Fast.tw16104307693422495014:=()
def PySem.W.Fast.tw6569307643635499992:=()
def PySem.W.Fast.tw10319853415099875655:=()
def PySem.W.Fast.tw15156981323341763224:=()
def PySem.W.Fast.tw3486879289208376471:=()
def PySem.W.Fast.tw8685931361171438282:=()
def PySem.W.Fast.tw8046673887563589557:=()
def PySem.W.Fast.tw2990543372409130377:=()
def PySem.W.Fast.tw9735797243239156246:=()
def PySem.W.Fast.tw14402074270990373428:=()
def PySem.W.Fast.tw7125302738586906505:=()
def PySem.W.Fast.tw4926640262823426791:=()
def PySem.W.Fast.tw17226220115437130549:=()
def PySem.W.Fast.tw11716281511847875619:=()
def PySem.W.Fast.tw12423973829008342149:=()
def PySem.W.Fast.tw3831118864490884379:=()
def PySem.W.Fast.tw12706674439892403448:=()
def PySem.W.Fast.tw466875174576764192:=()
def PySem.W.Fast.tw2566279391578026036:=()
def PySem.W.Fast.tw13427963099692500296:=()
def PySem.W.Fast.tw1626865137034735254:=()
def PySem.W.Fast.tw1410155597698023061:=()
def PySem.W.Fast.tw16364776415231652583:=()
def PySem.W.Fast.tw14725351638213678113:=()
def PySem.W.Fast.tw10650727759570315820:=()
def PySem.W.Fast.tw6982501634830642444:=()
def PySem.W.Fast.tw12085866016110136848:=()
def PySem.W.Fast.tw12298104488198875535:=()
def PySem.W.Fast.tw8090002991823408758:=()
def PySem.W.Fast.tw7457066554248268157:=()
def PySem.W.Fast.tw8434772585356256310:=()
def PySem.W.Fast.tw10594225273600801474:=()
def PySem.W.Fast.tw10049888644771628770:=()
def PySem.W.Fast.tw4081793489376557994:=()
def PySem.W.Fast.tw54264788077283623:=()
def PySem.W.Fast.tw7389343797971125135:=()
def PySem.W.Fast.tw12595308344788385073:=()
def PySem.W.Fast.tw6145499472652485878:=()
def PySem.W.Fast.tw15507228225116296126:=()
def PySem.W.Fast.tw619081591438391152:=()
def PySem.W.Fast.tw7484000297970859945:=()
def PySem.W.Fast.tw11820920543158929158:=()
def PySem.W.Fast.tw17599672845767543753:=()
def PySem.W.Fast.tw6588034706545484579:=()
def PySem.W.Fast.tw2075594387402019729:=()
def PySem.W.Fast.tw9371917690969475535:=()
def PySem.W.Fast.tw14056368415844777346:=()
def PySem.W.Fast.tw4418418705359413397:=()
def PySem.W.Fast.tw1417665403180772527:=()
def PySem.W.Fast.tw6845196148398787228:=()
def PySem.W.Fast.tw3697595184968814914:=()
def PySem.W.Fast.tw7940580091010780032:=()
def PySem.W.Fast.tw12163015373421234319:=()
def PySem.W.Fast.tw15407978562166546224:=()
def PySem.W.Fast.tw11008376935796122865:=()
def PySem.W.Fast.tw7757480647638669564:=()
def PySem.W.Fast.tw1235480745419962309:=()
def PySem.W.Fast.tw15836142684390392269:=()
def PySem.W.Fast.tw14754368446970762681:=()
def PySem.W.Fast.tw5398834129764788944:=()
def PySem.W.Fast.tw15855861084680913606:=()
def PySem.W.Fast.tw15295126316104410823:=()
def PySem.W.Fast.tw1369365165834349258:=()
def PySem.W.Fast.tw11664193673714596981:=()
def PySem.W.Fast.tw11637084359607446036:=()
def PySem.W.Fast.tw8660744363629152153:=()
def PySem.W.Fast.tw11316090895970670849:=()
def PySem.W.Fast.tw2722860141524090700:=()
def PySem.W.Fast.tw14503375627463857918:=()
def PySem.W.Fast.tw12587481429424365712:=()
def PySem.W.Fast.tw6830418894065845448:=()
def PySem.W.Fast.tw9399789920571193226:=()
def PySem.W.Fast.tw2939234808719204699:=()
def PySem.W.Fast.tw13432171416908331211:=()
def PySem.W.Fast.tw16023456093975570312:=()
def PySem.W.Fast.tw465679460630190201:=()
def PySem.W.Fast.tw13023864526456093315:=()
def PySem.W.Fast.tw4952400941493909788:=()
def PySem.W.Fast.tw17104161689025629443:=()
def PySem.W.Fast.tw7436731039646613705:=()
def PySem.W.Fast.tw1349724018753376179:=()
def PySem.W.Fast.tw7659775481514964944:=()
def PySem.W.Fast.tw3975071595366178516:=()
def PySem.W.Fast.tw10707662634760318273:=()
def PySem.W.Fast.tw14063861005692211134:=()
def PySem.W.Fast.tw8077248474733015375:=()
def PySem.W.Fast.tw8500535856311998414:=()
def PySem.W.Fast.tw3123725366783319509:=()
def PySem.W.Fast.tw8728754450476918024:=()
def PySem.W.Fast.tw5934606875367658421:=()
def PySem.W.Fast.tw4983730554300100637:=()
def PySem.W.Fast.tw14714348951722771339:=()
def PySem.W.Fast.tw4982518455137533186:=()
def PySem.W.Fast.tw3477616909522829490:=()
def PySem.W.Fast.tw16901373775435072168:=()
def PySem.W.Fast.tw10744080466030948921:=()
def PySem.W.Fast.tw3649390385536798438:=()
def PySem.W.Fast.tw2798719644901891415:=()
def PySem.W.Fast.tw4595560896980417792:=()
def PySem.W.Fast.tw1898993560132162129:=()
def PySem.W.Fast.tw14616451225722583411:=()
def PySem.W.Fast.tw17061660442785145524:=()
def PySem.W.Fast.tw7107890434244430679:=()
def PySem.W.Fast.tw7734007075470732466:=()
def PySem.W.Fast.tw11220208448923280945:=()
def PySem.W.Fast.tw12974997432892223867:=()
def PySem.W.Fast.tw4450610671367098709:=()
def PySem.W.Fast.tw6068289305810721684:=()
def PySem.W.Fast.tw11330971731342676643:=()
def PySem.W.Fast.tw884784046478715926:=()
def PySem.W.Fast.tw16628395116075340253:=()
def PySem.W.Fast.tw7235742771043724929:=()
def PySem.W.Fast.tw3944336683325997900:=()
def PySem.W.Fast.tw3593974305448023434:=()
def PySem.W.Fast.tw9246429986262177217:=()
def PySem.W.Fast.tw13121008943296029514:=()
def PySem.W.Fast.tw444302682898133567:=()
def PySem.W.Fast.tw784046381878471411:=()
def PySem.W.Fast.tw8986814913488916449:=()
def PySem.W.Fast.tw16735569192747448153:=()
def PySem.W.Fast.tw5016941003503341262:=()
def PySem.W.Fast.tw359772644966004157:=()
def PySem.W.Fast.tw16125934572638245955:=()
def PySem.W.Fast.tw1143189106590043349:=()
def PySem.W.Fast.tw18163471204034300512:=()
def PySem.W.Fast.tw5297847762149937108:=()
def PySem.W.Fast.tw6474354019112190568:=()
def PySem.W.Fast.tw9942144030502215373:=()
def PySem.W.Fast.tw5005884975053265107:=()
def PySem.W.Fast.tw16386777137447274012:=()
def PySem.W.Fast.tw10139531774553458330:=()
def PySem.W.Fast.tw6025730856990568452:=()
def PySem.W.Fast.tw13707064160823322135:=()
def PySem.W.Fast.tw8716598880657662167:=()
def PySem.W.Fast.tw16997172570813649700:=()
def PySem.W.Fast.tw4108719567093975120:=()
def PySem.W.Fast.tw17586867842847918680:=()
def PySem.W.Fast.tw10899673401161581214:=()
def PySem.W.Fast.tw7480663681471061500:=()
def PySem.W.Fast.tw12144832960142356872:=()
def PySem.W.Fast.tw222161736905207355:=()
def PySem.W.Fast.tw7121961770037121559:=()
def PySem.W.Fast.tw7288102389376531093:=()
open PySem PySem.W PyProof.Rows
set_option maxRecDepth 100000 in
set_option maxHeartbeats 0 in
theorem PySem.Challenge.cw_recipetexts_s07_sizes_holds : PySem.Challenge.rw_recipetexts_s07_sizes.Holds := by
 w_on; k_headS; (case hw=>exact ⟨[.list []],by decide +kernel,by decide +kernel⟩)
 k_fillS
 refine L2.qhM (r:=PySem.Challenge.rw_recipetexts_s07_sizes) (k:=9) (CX:=L2.CX0) (ps:=["text"]) (sp:=RT.qd5) (by decide +kernel) rfl rfl ⟨rfl,by decide,by decide⟩ (fun w h Y=>PySem.W.kIn_of Y) ?F ?S (fun _ _ _ _ z=>z)
 case F=>
  intro w mg fa h Y KX G hmg
  refine' RT.qnt KX G hmg ?a1r ?a08 ?a0U ?a03 ?a14 ?a1h ?a1n ?a1G ?a1C ?a0D ?a0Q ?a1w ?a1i ?a1o ?a1H ?a1D ?a0E ?a0R ?a1x ?a0W ?a2s ?a2n ?a1M ?a1L ?a2q ?a23 ?a2i ?a28 ?a29 ?a2e ?a2h ?a25 ?a1X ?a2f ?a2g ?a20 ?a1W ?a27 ?a2a ?a21 ?a1Z ?a1Y ?a2d ?a24 ?a22 ?a26 ?a2b ?a2c ?a2p ?a1t ?a1T ?a1R ?a1S ?a1V ?a0l ?a0a ?a09 ?a0e ?a0o ?a0c ?a0d ?a0g ?a0h ?a0b ?a0f ?a0m ?a0j ?a1O ?a05 ?a1Q ?a1N ?a2m ?a1b ?a1e ?a1d ?a15 ?a1a ?a19 ?a2r ?a2u ?l1i ?b1i ?k1i ?i1i ?l1o ?b1o ?k1o ?i1o ?l1H ?b1H ?k1H ?i1H ?l1D ?b1D ?k1D ?i1D ?l0E ?b0E ?k0E ?i0E ?l0R ?b0R ?k0R ?i0R ?l1x ?b1x ?k1x ?i1x ?l0W ?b0W ?k0W ?i0W ?l2s ?b2s ?k2s ?l2n ?b2n ?k2n ?l1M ?b1M ?k1M ?l1L ?b1L ?k1L ?l2q ?b2q ?k2q ?l23 ?b23 ?k23 ?l2i ?b2i ?k2i ?l28 ?b28 ?k28 ?l29 ?b29 ?k29 ?l2e ?b2e ?k2e ?l2h ?b2h ?k2h ?l25 ?b25 ?k25 ?l1X ?b1X ?k1X ?l2f ?b2f ?k2f ?l2g ?b2g ?k2g ?l20 ?b20 ?k20 ?l1W ?b1W ?k1W ?l27 ?b27 ?k27 ?l2a ?b2a ?k2a ?l21 ?b21 ?k21 ?l1Z ?b1Z ?k1Z ?l1Y ?b1Y ?k1Y ?l2d ?b2d ?k2d ?l24 ?b24 ?k24 ?l22 ?b22 ?k22 ?l26 ?b26 ?k26 ?l2b ?b2b ?k2b ?l2c ?b2c ?k2c ?l2p ?b2p ?k2p ?l1t ?b1t ?k1t ?i1t ?l1T ?b1T ?k1T ?l1R ?b1R ?k1R ?l1S ?b1S ?k1S ?l1V ?b1V ?k1V ?l0l ?b0l ?k0l ?i0l ?l0a ?b0a ?k0a ?i0a ?l09 ?b09 ?k09 ?i09 ?l0e ?b0e ?k0e ?i0e ?l0o ?b0o ?k0o ?i0o ?l0c ?b0c ?k0c ?i0c ?l0d ?b0d ?k0d ?i0d ?l0g ?b0g ?k0g ?i0g ?l0h ?b0h ?k0h ?i0h ?l0b ?b0b ?k0b ?i0b ?l0f ?b0f ?k0f ?i0f ?l0m ?b0m ?k0m ?i0m ?l0j ?b0j ?k0j ?i0j ?l1O ?b1O ?k1O ?l05 ?b05 ?k05 ?i05 ?l1Q ?b1Q ?k1Q ?l1N ?b1N ?k1N ?l2m ?b2m ?k2m ?l1b ?b1b ?k1b ?i1b ?l1e ?b1e ?k1e ?i1e ?l1d ?b1d ?k1d ?i1d ?l15 ?b15 ?k15 ?i15 ?l1a ?b1a ?k1a ?i1a ?l19 ?b19 ?k19 ?i19 ?l2r ?b2r ?k2r ?l2u ?b2u ?k2u ?pg1r ?hd1r ?po1r ?sa1r ?mk1r ?kc1r ?n1u ?n1v ?n1s ?pg08 ?hd08 ?po08 ?sa08 ?mk08 ?kc08 ?n0q ?n0p ?n0r ?n0n ?n0k ?n0i ?pg0U ?hd0U ?po0U ?sa0U ?mk0U ?kc0U ?n0Y ?n0Z ?n0X ?n0V ?pg03 ?hd03 ?po03 ?sa03 ?mk03 ?kc03 ?n04 ?n06 ?n07 ?pg14 ?hd14 ?po14 ?sa14 ?mk14 ?kc14 ?n1f ?n16 ?n1c ?n1g ?n18 ?n17 ?x1h ?sa1h ?ga1h ?gh1h ?u1h ?kc1h ?n1j ?n1k ?x1n ?sa1n ?ga1n ?gh1n ?u1n ?kc1n ?n1p ?n1q ?x1G ?sa1G ?ga1G ?gh1G ?u1G ?kc1G ?n1I ?n1J ?x1C ?sa1C ?ga1C ?gh1C ?u1C ?kc1C ?n1E ?n1F ?x0D ?sa0D ?ga0D ?gh0D ?u0D ?kc0D ?n0F ?n0G ?x0Q ?sa0Q ?ga0Q ?gh0Q ?u0Q ?kc0Q ?n0S ?n0T ?x1w ?sa1w ?ga1w ?gh1w ?u1w ?kc1w ?n1y ?n1z ?cg ?cr ?cf ?g1m ?g0C ?g12 ?g02 ?g10 ?g0x ?g0s ?g0H ?g1K ?g01 ?g1A ?g0B ?g13 ?g0L ?g0J ?g0O ?g0N ?g0K ?g0I ?g2j ?g2o ?g2l ?g2w ?g1B ?h1B ?g1l ?h1l ?g00 ?h00 ?g0t ?h0t ?s0t ?g0w ?h0w ?s0w ?p0t ?p0w ?q0w ?g0y ?g0u ?h0u ?g0v ?h0v ?g1P ?g2x ?g1U ?g2v ?g11 ?h11 ?s11 ?g0A ?h0A ?s0A ?p11 ?p0A ?i1 ?i2 ?i3 ?i4 ?i5 ?i6 ?i7 ?i8 ?i9
  (case a1r=>k_is)
  (case a08=>k_is)
  (case a0U=>k_is)
  (case a03=>k_is)
  (case a14=>k_is)
  (case a1h=>k_is)
  (case a1n=>k_is)
  (case a1G=>k_is)
  (case a1C=>k_is)
  (case a0D=>k_is)
  (case a0Q=>k_is)
  (case a1w=>k_is)
  (case a1i=>k_is)
  (case a1o=>k_is)
  (case a1H=>k_is)
  (case a1D=>k_is)
  (case a0E=>k_is)
  (case a0R=>k_is)
  (case a1x=>k_is)
  (case a0W=>k_is)
  (case a2s=>k_is)
  (case a2n=>k_is)
  (case a1M=>k_is)
  (case a1L=>k_is)
  (case a2q=>k_is)
  (case a23=>k_is)
  (case a2i=>k_is)
  (case a28=>k_is)
  (case a29=>k_is)
  (case a2e=>k_is)
  (case a2h=>k_is)
  (case a25=>k_is)
  (case a1X=>k_is)
  (case a2f=>k_is)
  (case a2g=>k_is)
  (case a20=>k_is)
  (case a1W=>k_is)
  (case a27=>k_is)
  (case a2a=>k_is)
  (case a21=>k_is)
  (case a1Z=>k_is)
  (case a1Y=>k_is)
  (case a2d=>k_is)
  (case a24=>k_is)
  (case a22=>k_is)
  (case a26=>k_is)
  (case a2b=>k_is)
  (case a2c=>k_is)
  (case a2p=>k_is)
  (case a1t=>k_is)
  (case a1T=>k_is)
  (case a1R=>k_is)
  (case a1S=>k_is)
  (case a1V=>k_is)
  (case a0l=>k_is)
  (case a0a=>k_is)
  (case a09=>k_is)
  (case a0e=>k_is)
  (case a0o=>k_is)
  (case a0c=>k_is)
  (case a0d=>k_is)
  (case a0g=>k_is)
  (case a0h=>k_is)
  (case a0b=>k_is)
  (case a0f=>k_is)
  (case a0m=>k_is)
  (case a0j=>k_is)
  (case a1O=>k_is)
  (case a05=>k_is)
  (case a1Q=>k_is)
  (case a1N=>k_is)
  (case a2m=>k_is)
  (case a1b=>k_is)
  (case a1e=>k_is)
  (case a1d=>k_is)
  (case a15=>k_is)
  (case a1a=>k_is)
  (case a19=>k_is)
  (case a2r=>k_is)
  (case a2u=>k_is)
  (case l1i=>k_is)
  (case b1i=>k_is)
  (case k1i=>k_is)
  (case i1i=>k_is)
  (case l1o=>k_is)
  (case b1o=>k_is)
  (case k1o=>k_is)
  (case i1o=>k_is)
  (case l1H=>k_is)
  (case b1H=>k_is)
  (case k1H=>k_is)
  (case i1H=>k_is)
  (case l1D=>k_is)
  (case b1D=>k_is)
  (case k1D=>k_is)
  (case i1D=>k_is)
  (case l0E=>k_is)
  (case b0E=>k_is)
  (case k0E=>k_is)
  (case i0E=>k_is)
  (case l0R=>k_is)
  (case b0R=>k_is)
  (case k0R=>k_is)
  (case i0R=>k_is)
  (case l1x=>k_is)
  (case b1x=>k_is)
  (case k1x=>k_is)
  (case i1x=>k_is)
  (case l0W=>k_is)
  (case b0W=>k_is)
  (case k0W=>k_is)
  (case i0W=>k_is)
  (case l2s=>k_is)
  (case b2s=>k_is)
  (case k2s=>k_is)
  (case l2n=>k_is)
  (case b2n=>k_is)
  (case k2n=>k_is)
  (case l1M=>k_is)
  (case b1M=>k_is)
  (case k1M=>k_is)
  (case l1L=>k_is)
  (case b1L=>k_is)
  (case k1L=>k_is)
  (case l2q=>k_is)
  (case b2q=>k_is)
  (case k2q=>k_is)
  (case l23=>k_is)
  (case b23=>k_is)
  (case k23=>k_is)
  (case l2i=>k_is)
  (case b2i=>k_is)
  (case k2i=>k_is)
  (case l28=>k_is)
  (case b28=>k_is)
  (case k28=>k_is)
  (case l29=>k_is)
  (case b29=>k_is)
  (case k29=>k_is)
  (case l2e=>k_is)
  (case b2e=>k_is)
  (case k2e=>k_is)
  (case l2h=>k_is)
  (case b2h=>k_is)
  (case k2h=>k_is)
  (case l25=>k_is)
  (case b25=>k_is)
  (case k25=>k_is)
  (case l1X=>k_is)
  (case b1X=>k_is)
  (case k1X=>k_is)
  (case l2f=>k_is)
  (case b2f=>k_is)
  (case k2f=>k_is)
  (case l2g=>k_is)
  (case b2g=>k_is)
  (case k2g=>k_is)
  (case l20=>k_is)
  (case b20=>k_is)
  (case k20=>k_is)
  (case l1W=>k_is)
  (case b1W=>k_is)
  (case k1W=>k_is)
  (case l27=>k_is)
  (case b27=>k_is)
  (case k27=>k_is)
  (case l2a=>k_is)
  (case b2a=>k_is)
  (case k2a=>k_is)
  (case l21=>k_is)
  (case b21=>k_is)
  (case k21=>k_is)
  (case l1Z=>k_is)
  (case b1Z=>k_is)
  (case k1Z=>k_is)
  (case l1Y=>k_is)
  (case b1Y=>k_is)
  (case k1Y=>k_is)
  (case l2d=>k_is)
  (case b2d=>k_is)
  (case k2d=>k_is)
  (case l24=>k_is)
  (case b24=>k_is)
  (case k24=>k_is)
  (case l22=>k_is)
  (case b22=>k_is)
  (case k22=>k_is)
  (case l26=>k_is)
  (case b26=>k_is)
  (case k26=>k_is)
  (case l2b=>k_is)
  (case b2b=>k_is)
  (case k2b=>k_is)
  (case l2c=>k_is)
  (case b2c=>k_is)
  (case k2c=>k_is)
  (case l2p=>k_is)
  (case b2p=>k_is)
  (case k2p=>k_is)
  (case l1t=>k_is)
  (case b1t=>k_is)
  (case k1t=>k_is)
  (case i1t=>k_is)
  (case l1T=>k_is)
  (case b1T=>k_is)
  (case k1T=>k_is)
  (case l1R=>k_is)
  (case b1R=>k_is)
  (case k1R=>k_is)
  (case l1S=>k_is)
  (case b1S=>k_is)
  (case k1S=>k_is)
  (case l1V=>k_is)
  (case b1V=>k_is)
  (case k1V=>k_is)
  (case l0l=>k_is)
  (case b0l=>k_is)
  (case k0l=>k_is)
  (case i0l=>k_is)
  (case l0a=>k_is)
  (case b0a=>k_is)
  (case k0a=>k_is)
  (case i0a=>k_is)
  (case l09=>k_is)
  (case b09=>k_is)
  (case k09=>k_is)
  (case i09=>k_is)
  (case l0e=>k_is)
  (case b0e=>k_is)
  (case k0e=>k_is)
  (case i0e=>k_is)
  (case l0o=>k_is)
  (case b0o=>k_is)
  (case k0o=>k_is)
  (case i0o=>k_is)
  (case l0c=>k_is)
  (case b0c=>k_is)
  (case k0c=>k_is)
  (case i0c=>k_is)
  (case l0d=>k_is)
  (case b0d=>k_is)
  (case k0d=>k_is)
  (case i0d=>k_is)
  (case l0g=>k_is)
  (case b0g=>k_is)
  (case k0g=>k_is)
  (case i0g=>k_is)
  (case l0h=>k_is)
  (case b0h=>k_is)
  (case k0h=>k_is)
  (case i0h=>k_is)
  (case l0b=>k_is)
  (case b0b=>k_is)
  (case k0b=>k_is)
  (case i0b=>k_is)
  (case l0f=>k_is)
  (case b0f=>k_is)
  (case k0f=>k_is)
  (case i0f=>k_is)
  (case l0m=>k_is)
  (case b0m=>k_is)
  (case k0m=>k_is)
  (case i0m=>k_is)
  (case l0j=>k_is)
  (case b0j=>k_is)
  (case k0j=>k_is)
  (case i0j=>k_is)
  (case l1O=>k_is)
  (case b1O=>k_is)
  (case k1O=>k_is)
  (case l05=>k_is)
  (case b05=>k_is)
  (case k05=>k_is)
  (case i05=>k_is)
  (case l1Q=>k_is)
  (case b1Q=>k_is)
  (case k1Q=>k_is)
  (case l1N=>k_is)
  (case b1N=>k_is)
  (case k1N=>k_is)
  (case l2m=>k_is)
  (case b2m=>k_is)
  (case k2m=>k_is)
  (case l1b=>k_is)
  (case b1b=>k_is)
  (case k1b=>k_is)
  (case i1b=>k_is)
  (case l1e=>k_is)
  (case b1e=>k_is)
  (case k1e=>k_is)
  (case i1e=>k_is)
  (case l1d=>k_is)
  (case b1d=>k_is)
  (case k1d=>k_is)
  (case i1d=>k_is)
  (case l15=>k_is)
  (case b15=>k_is)
  (case k15=>k_is)
  (case i15=>k_is)
  (case l1a=>k_is)
  (case b1a=>k_is)
  (case k1a=>k_is)
  (case i1a=>k_is)
  (case l19=>k_is)
  (case b19=>k_is)
  (case k19=>k_is)
  (case i19=>k_is)
  (case l2r=>k_is)
  (case b2r=>k_is)
  (case k2r=>k_is)
  (case l2u=>k_is)
  (case b2u=>k_is)
  (case k2u=>k_is)
  (case pg1r=>k_is)
  (case hd1r=>k_is)
  (case po1r=>k_is)
  (case sa1r=>k_is)
  (case mk1r=>k_is)
  (case kc1r=>k_is)
  (case n1u=>k_is)
  (case n1v=>k_is)
  (case n1s=>k_is)
  (case pg08=>k_is)
  (case hd08=>k_is)
  (case po08=>k_is)
  (case sa08=>k_is)
  (case mk08=>k_is)
  (case kc08=>k_is)
  (case n0q=>k_is)
  (case n0p=>k_is)
  (case n0r=>k_is)
  (case n0n=>k_is)
  (case n0k=>k_is)
  (case n0i=>k_is)
  (case pg0U=>k_is)
  (case hd0U=>k_is)
  (case po0U=>k_is)
  (case sa0U=>k_is)
  (case mk0U=>k_is)
  (case kc0U=>k_is)
  (case n0Y=>k_is)
  (case n0Z=>k_is)
  (case n0X=>k_is)
  (case n0V=>k_is)
  (case pg03=>k_is)
  (case hd03=>k_is)
  (case po03=>k_is)
  (case sa03=>k_is)
  (case mk03=>k_is)
  (case kc03=>k_is)
  (case n04=>k_is)
  (case n06=>k_is)
  (case n07=>k_is)
  (case pg14=>k_is)
  (case hd14=>k_is)
  (case po14=>k_is)
  (case sa14=>k_is)
  (case mk14=>k_is)
  (case kc14=>k_is)
  (case n1f=>k_is)
  (case n16=>k_is)
  (case n1c=>k_is)
  (case n1g=>k_is)
  (case n18=>k_is)
  (case n17=>k_is)
  (case x1h=>kernel_rfl)
  (case sa1h=>k_is)
  (case ga1h=>k_is)
  (case gh1h=>k_is)
  (case u1h=>kernel_rfl)
  (case kc1h=>k_is)
  (case n1j=>k_is)
  (case n1k=>k_is)
  (case x1n=>kernel_rfl)
  (case sa1n=>k_is)
  (case ga1n=>k_is)
  (case gh1n=>k_is)
  (case u1n=>kernel_rfl)
  (case kc1n=>k_is)
  (case n1p=>k_is)
  (case n1q=>k_is)
  (case x1G=>kernel_rfl)
  (case sa1G=>k_is)
  (case ga1G=>k_is)
  (case gh1G=>k_is)
  (case u1G=>kernel_rfl)
  (case kc1G=>k_is)
  (case n1I=>k_is)
  (case n1J=>k_is)
  (case x1C=>kernel_rfl)
  (case sa1C=>k_is)
  (case ga1C=>k_is)
  (case gh1C=>k_is)
  (case u1C=>kernel_rfl)
  (case kc1C=>k_is)
  (case n1E=>k_is)
  (case n1F=>k_is)
  (case x0D=>kernel_rfl)
  (case sa0D=>k_is)
  (case ga0D=>k_is)
  (case gh0D=>k_is)
  (case u0D=>kernel_rfl)
  (case kc0D=>k_is)
  (case n0F=>k_is)
  (case n0G=>k_is)
  (case x0Q=>kernel_rfl)
  (case sa0Q=>k_is)
  (case ga0Q=>k_is)
  (case gh0Q=>k_is)
  (case u0Q=>kernel_rfl)
  (case kc0Q=>k_is)
  (case n0S=>k_is)
  (case n0T=>k_is)
  (case x1w=>kernel_rfl)
  (case sa1w=>k_is)
  (case ga1w=>k_is)
  (case gh1w=>k_is)
  (case u1w=>kernel_rfl)
  (case kc1w=>k_is)
  (case n1y=>k_is)
  (case n1z=>k_is)
  (case cg=>k_is)
  (case cr=>k_is)
  (case cf=>k_is)
  (case g1m=>k_is)
  (case g0C=>k_is)
  (case g12=>k_is)
  (case g02=>k_is)
  (case g10=>k_is)
  (case g0x=>k_is)
  (case g0s=>k_is)
  (case g0H=>k_is)
  (case g1K=>k_is)
  (case g01=>k_is)
  (case g1A=>k_is)
  (case g0B=>k_is)
  (case g13=>k_is)
  (case g0L=>k_is)
  (case g0J=>k_is)
  (case g0O=>k_is)
  (case g0N=>k_is)
  (case g0K=>k_is)
  (case g0I=>k_is)
  (case g2j=>k_is)
  (case g2o=>k_is)
  (case g2l=>k_is)
  (case g2w=>k_is)
  (case g1B=>k_is)
  (case h1B=>kernel_rfl)
  (case g1l=>k_is)
  (case h1l=>kernel_rfl)
  (case g00=>k_is)
  (case h00=>kernel_rfl)
  (case g0t=>k_is)
  (case h0t=>k_is)
  (case s0t=>rfl)
  (case g0w=>k_is)
  (case h0w=>k_is)
  (case s0w=>rfl)
  (case p0t=>repeat' (first | exact .nil | refine .cons ⟨(by kernel_rfl),(by kernel_rfl),⟨_,rfl⟩⟩ ?_))
  (case p0w=>repeat' (first | exact .nil | refine .cons ⟨(by kernel_rfl),(by kernel_rfl),(show DictEntry.val _=Value.ref _ by kernel_rfl)⟩ ?_))
  (case q0w=>kernel_rfl)
  (case g0y=>k_is)
  (case g0u=>k_is)
  (case h0u=>kernel_rfl)
  (case g0v=>k_is)
  (case h0v=>kernel_rfl)
  (case g1P=>k_is)
  (case g2x=>k_is)
  (case g1U=>k_is)
  (case g2v=>k_is)
  (case g11=>k_is)
  (case h11=>k_is)
  (case s11=>rfl)
  (case g0A=>k_is)
  (case h0A=>k_is)
  (case s0A=>rfl)
  (case p11=>repeat' (first | exact .nil | refine .cons ⟨(by kernel_rfl),(by kernel_rfl),⟨_,rfl⟩⟩ ?_))
  (case p0A=>repeat' (first | exact .nil | refine .cons ⟨(by kernel_rfl),(by kernel_rfl),(show DictEntry.val _=Value.ref _ by kernel_rfl)⟩ ?_))
  (case i1=>k_is)
  (case i2=>k_is)
  (case i3=>kernel_rfl)
  (case i4=>kernel_rfl)
  (case i5=>kernel_rfl)
  (case i6=>kernel_rfl)
  (case i7=>kernel_rfl)
  (case i8=>kernel_rfl)
  (case i9=>kernel_rfl)
 case S=>
  intro K H xs a hO hwi hask hx
  cases hx with
  | cons h1 h2=>
   cases h2
   cases h1 with
   | lst hs ha=>
    have e:=L2.qg5 a.1 _ ha
    subst e
    have q:((Codec.inLen 0 4096 a.1&&a.1.all (Codec.inInt 0 255))&&true)=true:=hwi
    rw [Bool.and_eq_true,Bool.and_eq_true] at q
    have hb:NeutralIO.bytes a.1=true:=List.all_eq_true.mpr fun x hx=>by
     have:=List.all_eq_true.mp q.1.2 x hx
     exact this
    refine ⟨_,VastoaNeutral.text a.1,rfl,?_,fun H' p hp=>.lst (L2.SqL.of hp) ?_⟩
    ·rw [RT.qmj a.1 hb]; exact hs
    ·rw [RT.qj2 a.1 hb]; exact L2.qg4 _
