import PyProof.Rows.All
import Wide.All
import OpenK.AllK
import Wide.FinOn
import PyProof.StationsW
import OpenK.KGet
import PyProof.ExcInit
import PyProof.ExcBaseAll.Exception
import OpenK.KMake
import PyProof.InstStoreFacts
import PyProof.ExcArgs
import PyProof.EqAt
import PyProof.EqKinds
import PyProof.TupleCall
import KE.BitLaws
import Open.SpecLaws
import KE.OsHead
import KE.SpHead
import KE.OsShapes
import PyProof.WalkInts
import KE.KMinKey
import KE.OsGo
import PySem.Challenge.RW_recipetexts_s06_put
noncomputable section
set_option Elab.async false
set_option linter.all false
set_option maxRecDepth 100000
set_option maxHeartbeats 4000000
open PySem.W renaming Frag→γ,findIn→δ,keepIn→ζ,nsIn→θ,codeIn→ι,fnOf→μ,mg_of→υ,isFn→Ybj,mg_none_of→YbJ,kitOne→YbV,kia_one→YbW,emptyDict→Yb1,callWith_K→Yb3,plainGet→Yb4,hasDictIn→Yb6,hideAll_none→Yce,plainOver→Ycf,instObj→Ych,makesIn→Ycr,methodCall_KW→Ycy,specialIn→YcC,clsIn→YcN,cellsFrom_some→YcU,looks_findIn→Yc2,length_le_weightAllW→Yc4,hideAll_get→Yc5,plainGet_of→Yc6,of_hideAll→Ydd,lookIn→Yde,set_plain→Ydo,methodObj→Ydp,mroIn→Ydt,hideAll→YdA,takerIn→YdB,takesIn→YdC,findObj_own→YdJ,callWith_K0→YdK,Looks→YdL,check_slot→YdQ,codeRec_of→YdR,method_cls→YdT,kitx_list→YdV,kitx_dict→YdW,ktu_apart→YdY,cls_value→YdZ
open PySem renaming wpAny_bind→ε,mainGlobals→η,sizeLine→Λ,wpAny_pure→Φ
open List renaming length_append→ν,length_cons→ξ,mem_cons_self→π,mem_cons_of_mem→ρ,length_map→τ,mem_cons→Γ,getElem?_eq_some_iff→Δ,getElem?_eq_getElem→Θ,length_nil→Ψ,getElem?_map→Ω,size_toArray→ύ,nodup_cons→Ybn,map_cons→Ybp,contains_iff_mem→Ybq,append_nil→Ybs,mem_append_right→Ybt,map_append→Ybv,contains_cons→Ybw,append_assoc→Yby,length_take→Ybz,mem_append_left→YbC,mem_of_getElem?→YbD,length_drop→YbF,mem_append→YbK,replicate→YbL,sum_nil→YbO,cons_append→YbP,sum_cons→YbQ,filterMap_cons→YbR,length_reverse→YbS,take_of_length_le→YbZ,getElem?_append_left→Yb0,any_cons→Yb5,mem_map→Yb7,map→Yb8,take_succ_cons→Yb9,drop_eq_getElem_cons→Ycb,lookup_cons→Ycd,flatMap_cons→Ycg,find?_cons→Yci,take_length→Ycm,length_singleton→Yco,length→Ycs,getElem?_replicate→Yct,getElem?_set_self→Ycv,dropLast_concat_getLast→Ycw,length_replicate→Ycz,take_append_drop→YcA,lookup→YcD,getElem?_append_right→YcE,drop_drop→YcF,getElem?_of_mem→YcG,all_eq_true→YcH,not_mem_nil→YcI,map_map→YcJ,getElem?_zip_eq_some→YcL,map_congr_left→YcM,of_mem_zip→YcO,getElem?_drop→YcQ,length_eq_zero_iff→YcR,map_nil→YcV,getElem?_eq_none→YcY,mem_flatMap→YcZ,getElem?_set_ne→Yc1,length_set→Yc3,takeWhile_cons→Yc7,flatMap_append→Yc9,any_nil→Yda,getElem?_concat_length→Ydb,range→Ydc,forIn_nil→Ydf,drop_zero→Ydg,filterMap→Ydh,take_succ→Ydi,map_inj_right→Ydj,zip_cons_cons→Ydk,mem_singleton→Ydl,mem_of_find?_eq_some→Ydm,reverse_cons→Ydr,getElem?_take_of_lt→Ydu,drop_length→Ydx,forIn_cons→YdD,singleton_append→YdF,all_cons→YdN,map_take→YdO,map_drop→YdP
open PySem.F renaming plainAttrs_list→χ,slot_list_append→ώ,type_list_append→ϊ,slot_list_extend→YbA,type_list_extend→YbB,plain_extend_loop→Ycc,slot_list_pop→Ycp,type_list_pop→Ycq,slot_dict_get→YcB,excBase_Exception→YcK,entry_extend_loop→Ydn,plainAttrs_dict→Ydw,entry_dict_get→Ydy,type_dict_get→YdG
open PySem.Heap renaming get?_push_of_some→ψ,lt_size→Ξ,get?_push_size→Ybk,get?_update_other→Ybo,get?_update_self→YbG,size_push→YbM,SameBut→Ycu,get?_none_of_le→Yc0
open Nat renaming le_refl→ω,zero_le→ό,lt_of_lt_of_le→Ybl,ne_of_lt→Ybr,le_trans→Ybx,lt_succ_self→YbE,lt_irrefl→YbN,not_lt_zero→YbX,le_add_right→YbY,le_of_lt→Yb2,min_eq_left→Ycj,lt_of_le_of_lt→Ycn,ne_of_gt→YcS,le_of_eq→YcT,le_of_succ_le→YcW,succ_pos→YcX,lt_succ_of_lt→Yds,sub_zero→Ydz,le_antisymm→YdE,lt_trans→YdX,lt_or_ge→Yd0
open Bool renaming false_ne_true→ϋ,and_eq_true→Ybm,noConfusion→YbH,false_eq_true→YbI,eq_iff_iff→Yca,or_true→Ycl,or_false→Ycx,or_eq_true→YcP,and_eq_true_iff→YdI,false_or→YdM
open Option renaming map_eq_some_iff→Ybu,isSome_some→YdS
open PyProof.Rows renaming callWith_type1→YbT
open Array renaming getElem?_eq_some_iff→YbU,length_toList→Yck,mem_toList_iff→YdH,toList→YdU
open Int renaming toNat_of_nonneg→Yc8,toNat_natCast→Ydq
open PySem.Str renaming empty→Ydv
section
namespace LX
open PySem PySem.Spec PyProof.Rows
def Tr(cz:Prop)(h B:Heap)(e C dx:Addr)(fl:Value):Prop :=∃(oe:Obj)(vs:Array Value)(T:Addr)(oT:Obj)(ts:Array Value),(h.get? e=some oe/\oe.cls=.ref C/\oe.dict=some dx/\oe.data=.fields vs/\vs[1]?=some (.ref T)/\(cz->vs[2]?=some .none))/\(B.get? T=none/\T≠e)/\h.get? T=some oT/\oT.data=.fields ts/\ts[3]?=some fl
structure Note(cz:Prop)(B:Heap)(l:List Env)(e C dx:Addr)(fl:Value)(h h':Heap):Prop where
 st:B.StaysIn h'
 ff:h'.FunFrames B l
 tr:Tr cz h' B e C dx fl
 up:h.UpToSlots h'
structure Fly(cz:Prop)(B:Heap)(l:List Env)(e C dx:Addr)(fl:Value)(h:Heap):Prop where
 st:B.StaysIn h
 nw:B.get? e=none
 ff:h.FunFrames B l
 tr:Tr cz h B e C dx fl
section
variable{M:Model}{A:Around}{E:Value->Shared->Prop}{s:Shared}{B:Heap}{env:Env}{outer:List Env}{L e C dx:Addr}{Q:Unit->Shared->Prop}{cz:Prop}
theorem qh9{oe:Obj}{vs:Array Value}{head:Value}{had:Bool}
  (hfr:A.frames=some (env::outer)) (hl:s.heap.FunFrames B (env::outer)) (hf:env.frame=some L)
  (he:s.heap.get? e=some oe) (hc:oe.cls=.ref C) (hdx:oe.dict=some dx) (hd:oe.data=.fields vs) (hsz:1<vs.size) (hz:cz->vs[2]?=some .none) (hst:B.StaysIn s.heap) (hnw:B.get? e=none)
  (h:∀h',Note cz B (env::outer) e C dx (rawInt L) s.heap h'->Q () {s with heap:=h'}):
  wpAny M A (do let a <- frameOf env;let pl <- entryPlaceOf L had;let b <- EntryCells.newEntry head a .none (rawInt L) .none pl;setField (.ref e) 1 b) Q E s:=by
 have nofr:e∉(env::outer).filterMap (·.frame):=by intro hm;obtain⟨_,o,ho,hnf⟩:=hl.mem hm;obtain rfl:oe=o:=Option.some.inj (he.symm.trans ho);exact hnf vs hd
 refine ε (wpAny_frameOf_fun hfr hl hf fun h1 hs1=>?_);refine ε (wpAny_entryPlaceOf fun pl hpl=>?_);unfold EntryCells.newEntry newFields;refine ε (wpAny_newObj_type ?_ (hpl.sizeOk5 _ _ _ _ _));have e1:h1.get? e=some oe:=(hs1.2.1 e nofr).trans he
 have st1:B.StaysIn h1:=fun b o q=>(hs1.2.1 b fun hm=>by
  have z:=(hl.mem hm).1;rw[q]at z
  cases z).trans (hst b o q)
 generalize hN:({cls:=.type "traceback",dict:=none,data:=.fields ([head,.ref L,.none,rawInt L,.none]++(if pl.isEmpty then YbL 6 Value.none else pl)).toArray}:Obj)=nT;have dT:nT.data=.fields ([head,.ref L,.none,rawInt L,.none]++(if pl.isEmpty then YbL 6 Value.none else pl)).toArray:=by rw[<- hN]
 have fT:nT.isFreed=false:=by rw[<- hN];rfl
 have e2:=ψ (h:=h1) nT e1;refine wpAny_setField e2 hd hsz (h _ ?_);have Te:h1.objs.size≠e:=YcS (Ξ e1);have d3:=Obj.data_mapFields hd (·.setIfInBounds 1 (Value.ref h1.objs.size));have e3:=YbG (Obj.mapFields (·.setIfInBounds 1 (Value.ref h1.objs.size))) e2 (Obj.isFreed_of_fields d3);have T3:=(Ybo (h1.push nT) (Obj.mapFields (·.setIfInBounds 1 (Value.ref h1.objs.size))) (Ne.symm Te)).trans (Ybk h1 fT);have kp:∀b o,b≠e->h1.get? b=some o->((h1.push nT).update e (Obj.mapFields (·.setIfInBounds 1 (Value.ref h1.objs.size)))).get? b=some o:=by intro b o be q;rw[Ybo _ _ (Ne.symm be)];exact ψ _ q
 have rec_ne:∀b o,s.heap.get? b=some o->(∀ws,o.data≠.fields ws)->b≠e:=by intro b o q hnf z;subst z;obtain rfl:oe=o:=Option.some.inj (he.symm.trans q);exact hnf vs hd
 refine⟨fun b o q=>kp b o (fun z=>by subst z;rw[hnw]at q;cases q) (st1 b o q),hl.of_keeps fun b o q hnf=>?_,?_,fun b o q hnf=>?_⟩
 ·obtain⟨sl,hs⟩:=hs1.2.2 b o q;exact⟨_,kp b _ (rec_ne b o q hnf) hs,rfl⟩
 ·refine⟨_,_,h1.objs.size,nT,_,⟨e3,?_,?_,d3,by simp[hsz],fun z=>by rw[Array.getElem?_setIfInBounds_ne (by decide)];exact hz z⟩,⟨st1.fresh,Te⟩,T3,dT,?_⟩
  ·rw[Obj.cls_mapFields];exact hc
  ·have:∀(f:Array Value->Array Value)(o:Obj),(Obj.mapFields f o).dict=o.dict:=fun f o=>by
    obtain⟨c,d,dt,sl⟩:=o;cases dt<;>rfl
   rw[this];exact hdx
  ·first
    |(simp;done)
    |(rcases hpl with rfl|⟨_,_,_,_,_,_,_,rfl⟩<;>simp)
 ·obtain⟨sl,hs⟩:=hs1.2.2 b o q;exact⟨sl,kp b _ (rec_ne b o q hnf) hs⟩
theorem qdx{oe:Obj}{vs:Array Value}
  (hfr:A.frames=some (env::outer)) (hl:s.heap.FunFrames B (env::outer)) (hf:env.frame=some L)
  (he:s.heap.get? e=some oe) (hc:oe.cls=.ref C) (hdx:oe.dict=some dx) (hd:oe.data=.fields vs) (h1:vs[1]?=some .none) (hz:cz->vs[2]?=some .none) (hst:B.StaysIn s.heap) (hnw:B.get? e=none)
  (h:∀h',Note cz B (env::outer) e C dx (rawInt L) s.heap h'->Q () {s with heap:=h'}):wpAny M A (noteFrame (.ref e) env) Q E s:=by
 unfold noteFrame;simp only[hf];refine ε (wpAny_field he hd h1 ?_);rw[if_neg (by decide)];exact qh9 hfr hl hf he hc hdx hd (YbU.mp h1).1 hz hst hnw h
theorem qe1(hfr:A.frames=some (env::outer))(hf:env.frame=some L)(F:Fly cz B (env::outer) e C dx .none s.heap)
  (h:∀h',Note cz B (env::outer) e C dx (rawInt L) s.heap h'->Q () {s with heap:=h'}):wpAny M A (noteFrame (.ref e) env) Q E s:=by
 obtain⟨hst,hnw,hl,oe,vs,T,oT,ts,⟨he,hc,hdx,hd,h1,hz⟩,⟨hnT,hTe⟩,hT,hdT,h3⟩:=F;unfold noteFrame;simp only[hf];refine ε (wpAny_field he hd h1 ?_);have t1:(Value.ref T != Value.none)=true:=by simp
 rw[if_pos t1];refine ε (wpAny_field hT hdT h3 ?_);have t2:¬((Value.none==rawInt L)=true):=by simp[rawInt]
 rw[if_neg t2];refine ε (wpAny_setField hT hdT (YbU.mp h3).1 ?_);have oth:∀b,b≠T->(s.heap.update T (Obj.mapFields (·.setIfInBounds 3 Value.none))).get? b=s.heap.get? b:=fun b z=>Ybo _ _ (Ne.symm z);have rec_ne:∀b o,s.heap.get? b=some o->(∀ws,o.data≠.fields ws)->b≠T:=by intro b o q hnf z;subst z;obtain rfl:oT=o:=Option.some.inj (hT.symm.trans q);exact hnf ts hdT
 refine qh9 hfr (hl.of_keeps fun b o q hnf=>⟨o,(oth b (rec_ne b o q hnf)).trans q,rfl⟩) hf ((oth e (Ne.symm hTe)).trans he) hc hdx hd (YbU.mp h1).1 hz
  (fun b o q=>(oth b fun z=>by subst z;rw[hnT]at q;cases q).trans (hst b o q)) hnw fun h' N=>h h' ⟨N.st,N.ff,N.tr,fun b o q hnf=>N.up b o ((oth b (rec_ne b o q hnf)).trans q) hnf⟩
theorem Zf{l:List Env}{fl:Value}(F:Fly cz B l e C dx fl s.heap)(h:∀h',Fly cz B l e C dx .none h'->s.heap.UpToSlots h'->Q () {s with heap:=h'}):wpAny M A (setFlight (.ref e) none) Q E s:=by
 obtain⟨hst,hnw,hl,oe,vs,T,oT,ts,⟨he,hc,hdx,hd,h1,hz⟩,⟨hnT,hTe⟩,hT,hdT,h3⟩:=F;have h3s:3<ts.size:=(YbU.mp h3).1;have oth:∀b,b≠T->(s.heap.update T (Obj.mapFields (·.setIfInBounds 3 ((none:Option Addr).elim Value.none fun f=>rawInt f)))).get? b=s.heap.get? b:=fun b z=>Ybo _ _ (Ne.symm z);have rec_ne:∀b o,s.heap.get? b=some o->(∀ws,o.data≠.fields ws)->b≠T:=by intro b o q hnf z;subst z;obtain rfl:oT=o:=Option.some.inj (hT.symm.trans q);exact hnf ts hdT
 unfold setFlight;refine ε (wpAny_field he hd h1 ?_);have t1:(Value.ref T != Value.none)=true:=by simp
 rw[if_pos t1];refine wpAny_setField hT hdT h3s (h _ ⟨fun b o q=>(oth b fun z=>by subst z;rw[hnT]at q;cases q).trans (hst b o q),hnw,hl.of_keeps fun b o q hnf=>⟨o,(oth b (rec_ne b o q hnf)).trans q,rfl⟩,?_⟩ fun b o q hnf=>⟨o.slots,(oth b (rec_ne b o q hnf)).trans q⟩);exact⟨oe,vs,T,_,_,⟨(oth e (Ne.symm hTe)).trans he,hc,hdx,hd,h1,hz⟩,⟨hnT,hTe⟩,YbG _ hT (Obj.isFreed_of_fields (Obj.data_mapFields hdT _)),Obj.data_mapFields hdT _,by simp[h3s]⟩
theorem qdd{fl:Value}{h:Heap}(F:Fly cz B (env::outer) e C dx fl h):Fly cz B outer e C dx fl h:=⟨F.st,F.nw,F.ff.2.2,F.tr⟩
theorem qhz{oe:Obj}{vs:Array Value}
  (hfr:A.frames=some (env::outer)) (hl:s.heap.FunFrames B (env::outer)) (hf:env.frame=some L)
  (he:s.heap.get? e=some oe) (hc:oe.cls=.ref C) (hdx:oe.dict=some dx) (hd:oe.data=.fields vs) (h1:vs[1]?=some .none) (hz:cz->vs[2]?=some .none) (hst:B.StaysIn s.heap) (hnw:B.get? e=none)
  (h:∀h',Fly cz B outer e C dx .none h'->s.heap.UpToSlots h'->Q () {s with heap:=h'}):wpAny M A (leaving env (.ref e)) Q E s:=by
 unfold leaving;refine ε (qdx hfr hl hf he hc hdx hd h1 hz hst hnw fun h1 N=>?_);exact Zf (s:={s with heap:=h1}) ⟨N.st,hnw,N.ff,N.tr⟩ fun h2 F2 u2=>h h2 (qdd F2) (N.up.trans u2)
theorem qiI(hfr:A.frames=some (env::outer))(hf:env.frame=some L)(F:Fly cz B (env::outer) e C dx .none s.heap)
  (h:∀h',Fly cz B outer e C dx .none h'->s.heap.UpToSlots h'->Q () {s with heap:=h'}):wpAny M A (leaving env (.ref e)) Q E s:=by
 unfold leaving;refine ε (qe1 hfr hf F fun h1 N=>?_);exact Zf (s:={s with heap:=h1}) ⟨N.st,F.nw,N.ff,N.tr⟩ fun h2 F2 u2=>h h2 (qdd F2) (N.up.trans u2)
theorem qe2(hfr:A.frames=some (env::outer))(hf:env.frame=some L)(F:Fly cz B (env::outer) e C dx .none s.heap)
  (h:∀h',Fly cz B (env::outer) e C dx .none h'->s.heap.UpToSlots h'->Q () {s with heap:=h'}):wpAny M A (noteFrame (.ref e) env) (fun _ s'=>wpAny M A (setFlight (.ref e) none) Q E s') E s:=by
 refine qe1 hfr hf F fun h1 N=>?_;exact Zf (s:={s with heap:=h1}) ⟨N.st,F.nw,N.ff,N.tr⟩ fun h2 F2 u2=>h h2 F2 (N.up.trans u2)
end
end LX
end
section
namespace LX
open PySem PySem.Spec PyProof.Rows
open Sem (wp)
section
variable{prog:Program}{w:World}{A:Around}{E:Value->Shared->Prop}{h:Heap}{g:Array GenState}{d:Drawn}{t:Nat}{os:OsState}
variable{nm q:Str}{C N:Addr}{bs bm:List Value}{hdct:Bool}{sn:List Str}{sub:List Value}{ab:Bool}{col:Option Bool}{dd:Option Addr}{k0 k1 k2 k3 k5:Option Value}
abbrev XC(h:Heap)(nm q:Str)(C N:Addr)(bs bm:List Value)(hdct:Bool)(sn:List Str)(sub:List Value)(ab:Bool)(col:Option Bool)(dd:Option Addr)(k0 k1 k2 k3 k5:Option Value):Prop :=h.get? C=some (excClassObj nm q C N bs bm hdct sn sub ab col dd k0 k1 k2 k3 k5 "Exception.__new__")
structure Under(bm:List Value):Prop where
 b1:bm.contains (.type "Exception")=true
 b2:bm.contains (.type "BaseException")=true
 b3:bm.contains (.type "AttributeError")=false
 b4:bm.contains (.type "NameError")=false
theorem qhA{M:Model}{rest:List Value}{Q:Unit->Shared->Prop}(U:Under bm)(hC:XC h nm q C N bs bm hdct sn sub ab col dd k0 k1 k2 k3 k5)(hq:Q () ⟨h,g,d,t,os⟩):
  wpAny M A (checkBuiltinCall "Exception.__new__" ⟨.ref C::rest,[]⟩) Q E ⟨h,g,d,t,os⟩:=by
 have F:=YcK;have hst:=F.noStar;have hco:(Value.ref C::bm).contains (.type "Exception")=true:=by rw[Ybw,U.b1];exact Ycl _
 simp only[checkBuiltinCall,F.newKind,F.newSplit,F.newRow]
 repeat (first
  |refine wpAny_loadPart_at hC ?_
  |(refine wpAny_isSubtype_exc hC ?_;rw[hco])
  |refine wpAny_staticBase_exc hC ?_
  |refine wpAny_madeBy_exc hC ?_
  |simp only[bne_self_eq_false,YbI,if_false]
  | wp_step)
 exact hq
theorem qo3{R:Result->Shared->Prop}{rest:List Value}(U:Under bm)(hC:XC h nm q C N bs bm hdct sn sub ab col dd k0 k1 k2 k3 k5)(hr:rest.length<=Λ)
  (hq:R (.ok (.ret (.ref (h.objs.size+1)))) ⟨(h.push {cls:=.type "tuple",data:=.seq rest.toArray}).push {cls:=.ref C,data:=.fields #[.ref h.objs.size,.none,.none,.none,.bool false,.none]},g,d,t,os⟩):
  codeAny (model prog w) A (.builtin "Exception.__new__" ⟨.ref C::rest,[]⟩) R ⟨h,g,d,t,os⟩:=by
 have F:=YcK;have hen:=F.ends;have c1:(Value.ref C::bm).contains (.type "Exception")=true:=by rw[Ybw,U.b1];exact Ycl _
 have c3:(Value.ref C::bm).contains (.type "AttributeError")=false:=by rw[Ybw,U.b3];rfl
 have c4:(Value.ref C::bm).contains (.type "NameError")=false:=by rw[Ybw,U.b4];rfl
 have hrest:=hr;refine codeAny_builtinAt F.entry ?_;unfold Builtin.«BaseException.__new__»;refine PySem.wpAt_bind ?_;show PySem.wpAt _ _ _ (stack >>= _) _ _ _;refine PySem.wpAt_bind (PySem.wpAt_stack fun p below=>PySem.wpAt_of_wpAny ?_)
 wp_walk
 refine PySem.wpAt_of_wpAny ?_;rw[F.owner]
 repeat (first
  |with_reducible refine wpAny_madeHere_exc F.canon hC ?_
  |with_reducible refine wpAny_loadPart_at hC ?_
  |(with_reducible refine wpAny_isSubtype_exc hC ?_;first|rw[c1]|rw[c3]|rw[c4])
  | wp_step)
 show R _ _;rw[YbM];exact hq
theorem qhB{rest:List Value}{fI:Addr}{oI:Obj}{Q:Fin->Shared->Prop}(U:Under bm)
  (hC:XC h nm q C N bs bm hdct sn sub ab col dd k0 k1 k2 k3 k5) (hi:YdL (model prog w) h (typeLookup (.ref C) "__init__") (some (.ref fI))) (hfI:h.get? fI=some oI) (hfc:oI.cls=.type "function") (hr:rest.length<=Λ)
  (hq:∀h' e,h.objs.size<=e->Heap.MadeExcOf h h' e (.ref C) rest->wpAny (model prog w) A (call (.ref fI) (.ref e::rest)) (fun r s'=>r=.none/\Q (.done (.ret (.ref e))) s') E ⟨h',g,d,t,os⟩):
  wpAny (model prog w) A (Builtin.«type.__call__» ⟨.ref C::rest,[]⟩) Q E ⟨h,g,d,t,os⟩:=by
 have F:=YcK
 repeat (first|with_reducible refine wpAny_loadPart_at hC ?_|with_reducible refine wpAny_madeBy_exc hC ?_|wp_step)
 refine codeAny_call_builtin_code (Code.quiet_builtin _ F.quiet) (qhA U hC ?_);refine qo3 U hC hr ?_;show wpAny _ _ _ _ _ _;generalize hT:({cls:=.type "tuple",data:=.seq rest.toArray}:Obj)=oT;generalize hO:({cls:=.ref C,data:=.fields #[.ref h.objs.size,.none,.none,.none,.bool false,.none]}:Obj)=oE;have kp:∀b o,h.get? b=some o->((h.push oT).push oE).get? b=some o:=fun b o z=>ψ _ (ψ _ z);have hC1:XC ((h.push oT).push oE) nm q C N bs bm hdct sn sub ab col dd k0 k1 k2 k3 k5:=kp _ _ hC;have hf1:=kp _ _ hfI;have hi1:=hi.keeps kp;have hE:((h.push oT).push oE).get? (h.objs.size+1)=some oE:=by subst hT hO;heap_get
 have cE:oE.cls=.ref C:=by subst hO;rfl
 have cC:(Value.ref C::bm).contains (.ref C)=true:=by simp
 unfold isInstance
 repeat (first|(with_reducible refine wpAny_loadPart_at hE ?_;rw[cE])|(with_reducible refine wpAny_isSubtype_exc hC1 ?_;rw[cC])|wp_step)
 show wpAny _ _ (typeLookup (.ref C) _) _ _ _;refine hi1.at ?_;refine wpAny_holding (ε ?_);unfold bindSpecial;refine ε (wpAny_typeOf (T:= "function") ⟨_,hf1,hfc⟩ ?_);rw[if_pos (by decide)];refine Φ (ε (wpAny_mono (hq _ (h.objs.size+1) (Nat.le_succ _) ⟨kp,Yc0 (Nat.le_succ _),h.objs.size,by rw[hE,<- hO],Yc0 (ω _),?_⟩) (fun r s' z=>?_) fun _ _ x=>x))
 ·rw[hT];exact ψ _ (Heap.get?_push_at rfl (by subst hT;rfl))
 ·obtain⟨rfl,z⟩:=z
  wp_walk
  exact z
theorem x_call{rest:List Value}{fI:Addr}{oI:Obj}{Q:Value->Shared->Prop}(U:Under bm)
  (hC:XC h nm q C N bs bm hdct sn sub ab col dd k0 k1 k2 k3 k5) (hi:YdL (model prog w) h (typeLookup (.ref C) "__init__") (some (.ref fI))) (hfI:h.get? fI=some oI) (hfc:oI.cls=.type "function") (hr:rest.length<=Λ)
  (hq:∀h' e,h.objs.size<=e->Heap.MadeExcOf h h' e (.ref C) rest->wpAny (model prog w) (A.under (.builtin "type.__call__" ⟨.ref C::rest,[]⟩)) (call (.ref fI) (.ref e::rest)) (fun r s'=>r=.none/\Q (.ref e) s') E ⟨h',g,d,t,os⟩):
  wpAny (model prog w) A (call (.ref C) rest) Q E ⟨h,g,d,t,os⟩:=by
 have f1:=tc_lookup;have f2:=tc_bind (.ref C);have hT:(⟨h,g,d,t,os⟩:Shared).TypeIs (.ref C) "type":=⟨_,hC,rfl⟩;refine wpAny_call (codeAny_of_tree ?_);show wpAny _ _ (callAny (.ref C) _) _ _ _
 repeat (any_goals (first
  |assumption
  |with_reducible refine wpAny_loadPart_at hC ?_
  | wp_step))
 refine⟨rfl,?_⟩;refine codeAny_call_builtin_at (Code.quiet_builtin _ (by decide +kernel)) entry_typeCall (wpAny_check_type_call_sub hC ?_);exact qhB U hC hi hfI hfc hr fun h' e hs hm=>hq h' e hs hm
end
section
variable{M:Model}{A:Around}{E:Value->Shared->Prop}{env:Env}
variable{nm q:Str}{C N:Addr}{bs bm:List Value}{hdct:Bool}{sn:List Str}{sub:List Value}{ab:Bool}{col:Option Bool}{dd:Option Addr}{k0 k1 k2 k3 k5:Option Value}
theorem x_raise{s:Shared}{x:Sem Value}{Q:Flow->Shared->Prop}(U:Under bm)(hh:A.handled=none)
  (h:wpAny M A x (fun v s1=>∃(e t:Addr)(dx:Option Addr)(sl:Array (Option Value)),v=.ref e/\XC s1.heap nm q C N bs bm hdct sn sub ab col dd k0 k1 k2 k3 k5 /\
   s1.heap.get? e=some {cls:=.ref C,dict:=dx,data:=.fields #[.ref t,.none,.none,.none,.bool false,.none],slots:=sl}/\E (.ref e) s1) E s):
  wpAny M A (raiseStmt env (some x) none) Q E s:=by
 have cB:(Value.ref C::bm).contains (.type "BaseException")=true:=by rw[Ybw,U.b2];exact Ycl _
 unfold raiseStmt;refine ε (wpAny_mono h (fun v s1 z=>?_) fun _ _ x=>x);obtain⟨e,t,dx,sl,rfl,hC,he,hE⟩:=z;obtain⟨hp,g,d,tk,os⟩:=s1
 repeat (first
  |with_reducible refine wpAny_loadPart_at he ?_
  |with_reducible refine wpAny_loadPart_at hC ?_
  |(with_reducible refine wpAny_isSubtype_exc hC ?_;rw[cB])
  | wp_step)
 exact wpAny_raiseNew_none hh hE
theorem qe3{h:Heap}{g:Array GenState}{d:Drawn}{t:Nat}{os:OsState}{e S NS:Addr}{oe:Obj}{nmS qS:Str}{bsS bmS:List Value}{hdS:Bool}{snS:List Str}{subS:List Value}{abS:Bool}{colS:Option Bool}{ddS:Option Addr}{j0 j1 j2 j3 j5:Option Value}{Q:Bool->Shared->Prop}
  (US:Under bmS) (hC:XC h nm q C N bs bm hdct sn sub ab col dd k0 k1 k2 k3 k5) (hS:XC h nmS qS S NS bsS bmS hdS snS subS abS colS ddS j0 j1 j2 j3 j5) (hcs:(Value.ref C::bm).contains (.ref S)=true)
  (he:h.get? e=some oe) (hcls:oe.cls=.ref C) (hq:Q true ⟨h,g,d,t,os⟩):wpAny M A (excMatches (.ref e) (.ref S)) Q E ⟨h,g,d,t,os⟩:=by
 have cB:(Value.ref S::bmS).contains (.type "BaseException")=true:=by rw[Ybw,US.b2];exact Ycl _
 have f:=tc_notTuple;unfold excMatches
 repeat (first
  |(with_reducible refine wpAny_loadPart_at he ?_;rw[hcls])
  |with_reducible refine wpAny_loadPart_at hS ?_
  |(with_reducible refine wpAny_isSubtype_exc hS ?_;rw[cB])
  |(with_reducible refine wpAny_isSubtype_exc hC ?_;rw[hcs])
  | wp_step)
 exact hq
end
end LX
end
section
namespace LX
open PySem PySem.Spec PyProof.Rows Builtin Builtin.ObjectAttr
open PySem.W (Frag InstAt Looks clsIn findIn takerIn findObj handedIn looks_findIn looks_clsIn looks_mroIn mroIn)
noncomputable def Qt:List Value->Bool
 |[.type a,.type b,.type c]=>a=="Exception"&&b=="BaseException"&&c=="object"
 | .ref _::r=>Qt r
 |_=>false
theorem qc3(self:Value):∀{l:List Value},Qt l=true->refuseLoop self "__setattr__" l=pure ()
 |[.type a,.type b,.type c],e=>by simp only[Qt,Ybm,beq_iff_eq]at e;obtain⟨⟨rfl,rfl⟩,rfl⟩:=e;exact PySem.F.store_Exception.passes self
 | .ref c::r,e=>by rw[refuseLoop_ref];exact qc3 self (l:=r) e
theorem qgc:∀{l:List Value},Qt l=true->l.contains (.type "object")=true
 |[.type a,.type b,.type c],e=>by simp only[Qt,Ybm,beq_iff_eq]at e;obtain⟨⟨rfl,rfl⟩,rfl⟩:=e;decide
 | .ref c::r,e=>by rw[Ybw,qgc (l:=r) e,Ycl]
theorem qia{l:List Value}(e:Qt l=true):l.isEmpty=false:=by
 cases l with
 |nil=>cases e
 |cons _ _=>rfl
section
variable{prog:Program}{w:World}{A:Around}{E:Value->Shared->Prop}{s:Shared}{K:Frag}{x C:Addr}{ox:Obj}{od:Option Obj}{name:Str}{v:Value}{cd:ClassData}
theorem qmB{tk:Tok}{R:Result->Shared->Prop}(X:K.In s.heap)(I:InstAt s.heap x ox C od)(hc:clsIn K C=some cd)(hp:Qt cd.mro=true)(ht:findIn K (.ref C) name=some none)
  (h:wpAny (model prog w) A.in1 (storeInOwnDict (.ref x) (.ref C) (.str name tk) name v false)
   (fun fin s'=>match fin with | .done f=>R (.ok f) s' | .again c'=>c'.quiet=true/\codeAny (model prog w) A c' R s') (fun e s'=>R (.error e) s') s):
  codeAny (model prog w) A (.call (.builtin "object.__setattr__") ⟨[.ref x,.str name tk,v],[]⟩) R s:=by
 have SF:=PySem.F.store_object;have ne:=qia hp;have sub:Looks (model prog w) s.heap (isInstance (.ref x) (.type "object")) true:=I.type.andThen (looks_mroIn X (by unfold mroIn;rw[hc,Option.bind_some,if_neg (by rw[ne];decide),qgc hp]));refine codeAny_call_builtin SF.slot.plain SF.entry (@YdQ (model prog w) _ _ s "object.__setattr__" "object" "__setattr__" (.ref x) [.str name tk,v] [] _ SF.kind SF.split sub (SF.args (.ref x) (.str name tk) v) ?_);have hm:Looks (model prog w) s.heap (mroOf (.ref C)) cd.mro:=(looks_clsIn X hc).andThen .now;rw[PySem.W.osa_eq,refuse_eq];refine ε (ε (I.type.here (ε (hm.here ?_))));rw[qc3 _ hp];refine Φ (ε (I.type.here (ε ((looks_findIn X ht).here (ε ?_)))));exact Φ h
theorem qnS{vs:Array Value}{sl:Array (Option Value)}{Q:Unit->Shared->Prop}(X:K.In s.heap)(hx:s.heap.get? x=some ⟨.ref C,none,.fields vs,sl⟩)(hc:clsIn K C=some cd)(hp:Qt cd.mro=true)(hd:cd.hasDict=true)
  (hs:findIn K (.ref C) "__setattr__"=some (some (.builtin "object.__setattr__"))) (ht:findIn K (.ref C) name=some none)
  (h:∀h' tk,h'.get? x=some ⟨.ref C,some s.heap.objs.size,.fields vs,sl⟩->h'.Ns1 s.heap.objs.size (fun y=>if y=name then some v else none)->(∀b o,b≠x->s.heap.get? b=some o->h'.get? b=some o)->Q () {s with heap:=h',toks:=tk}):
  wpAny (model prog w) A (setAttr (.ref x) name v) Q E s:=by
 have I:InstAt s.heap x ⟨.ref C,none,.fields vs,sl⟩ C none:=⟨hx,rfl,rfl,trivial⟩;refine Ydo X I hs (qmB (s:={s with toks:=s.toks+1}) X I hc hp ht ?_);have L:=looks_clsIn (M:=model prog w) X hc;unfold storeInOwnDict;have e1:ownStreamTells (.ref x) (.ref C)=pure ():=rfl;rw[e1];refine ε (Φ ?_);rw[if_neg (show ¬((Value.ref C==Value.type "module")=true) by simp)];refine ε ?_;show wpAny _ _ (instanceDict x true) _ _ _;unfold instanceDict;refine ε (wpAny_loadPart (s:={s with toks:=s.toks+1}) hx ?_);dsimp only;refine ε (L.here (s:={s with toks:=s.toks+1}) ?_);rw[hd];simp only[Bool.not_true,YbI,if_false,typeHasDict,YdM];have hx1:(s.heap.push {cls:=.type "dict",data:=.dict #[]}).get? x=some ⟨.ref C,none,.fields vs,sl⟩:=ψ _ hx;have hxs:x≠s.heap.objs.size:=Ybr (Ξ hx);refine ε (wpAny_alloc (ε (wpAny_update hx1 ?_)));refine Φ (a:=some s.heap.objs.size) ?_
 have hgd:((s.heap.push {cls:=.type "dict",data:=.dict #[]}).update x fun o=>{o with dict:=some s.heap.objs.size}).get? s.heap.objs.size=some {cls:=.type "dict",data:=.dict #[]} :=
  (Heap.get?_update_ne _ _ _ _ hxs.symm).trans (Heap.get?_push_at rfl rfl)
 have hnd:((s.heap.push {cls:=.type "dict",data:=.dict #[]}).update x fun o=>{o with dict:=some s.heap.objs.size}).Ns s.heap.objs.size (fun _=>none) :=
  ⟨_,#[],_,hgd,rfl,fun e he=>absurd he (by simp),fun _=>rfl⟩
 show wpAny _ _ (storeInDict s.heap.objs.size (.str name s.toks) name v) _ _ _;unfold storeInDict newKeyGuard;refine ε (Φ (ε (wpAny_nsSet1 (Heap.Ns1.of_empty hnd) fun h' hn' hs'=>?_)));obtain⟨oD,esD,epD,hoD,hdD,hcD⟩:=hn'.count (Within.cons name v Within.nil);refine ε (wpAny_lookBehind hoD (by rw[hdD];exact pastItsLine_dict (Ybx hcD (by rw[ξ,Ψ,sizeLine_eq];omega))) ?_);refine Φ (h h' _ ?_ hn' fun b o hb q=>?_)
 ·exact(hs'.2 x hxs).trans (YbG _ hx1 rfl)
 ·exact(hs'.2 b (Ybr (Ξ q))).trans ((Heap.get?_update_ne _ _ _ _ hb).trans (ψ _ q))
theorem qnT{vs:Array Value}{sl:Array (Option Value)}{dx:Addr}{mA:Str->Option Value}{ns:List Str}{Q:Unit->Shared->Prop}(X:K.In s.heap)(hx:s.heap.get? x=some ⟨.ref C,some dx,.fields vs,sl⟩)(hn:s.heap.Ns1 dx mA)
  (hw:PySem.Within mA ns) (hsz:ns.length<=1000) (hc:clsIn K C=some cd) (hp:Qt cd.mro=true) (hd:cd.hasDict=true)
  (hs:findIn K (.ref C) "__setattr__"=some (some (.builtin "object.__setattr__"))) (ht:findIn K (.ref C) name=some none)
  (h:∀h' tk,h'.Ns1 dx (fun y=>if y=name then some v else mA y)->Ycu dx s.heap h'->Q () {s with heap:=h',toks:=tk}):
  wpAny (model prog w) A (setAttr (.ref x) name v) Q E s:=by
 obtain⟨od,eod⟩:∃od,s.heap.get? dx=some od:=let⟨o,_,_,e,_⟩:=hn;⟨o,e⟩
 have I:InstAt s.heap x ⟨.ref C,some dx,.fields vs,sl⟩ C (some od):=⟨hx,rfl,rfl,eod⟩;refine Ydo X I hs (qmB (s:={s with toks:=s.toks+1}) X I hc hp ht ?_);have L:=looks_clsIn (M:=model prog w) X hc;unfold storeInOwnDict;have e1:ownStreamTells (.ref x) (.ref C)=pure ():=rfl;rw[e1];refine ε (Φ ?_);rw[if_neg (show ¬((Value.ref C==Value.type "module")=true) by simp)];refine ε ?_;show wpAny _ _ (instanceDict x true) _ _ _;unfold instanceDict;refine ε (wpAny_loadPart (s:={s with toks:=s.toks+1}) hx ?_);dsimp only;refine ε (L.here (s:={s with toks:=s.toks+1}) ?_);rw[hd];refine Φ (a:=some dx) ?_;show wpAny _ _ (storeInDict dx (.str name s.toks) name v) _ _ _;unfold storeInDict newKeyGuard;refine ε (Φ (ε (wpAny_nsSet1 (s:={s with toks:=s.toks+1}) hn fun h' hn' hs'=>?_)));obtain⟨oD,esD,epD,hoD,hdD,hcD⟩:=hn'.count (Within.cons name v hw);refine ε (wpAny_lookBehind hoD (by rw[hdD];exact pastItsLine_dict (Ybx hcD (by rw[ξ,sizeLine_eq];omega))) ?_);exact Φ (h h' _ hn' hs')
theorem qmW:builtinKind "BaseException.__getattribute__"=some .slot:=by decide +kernel
theorem qlp:splitId "BaseException.__getattribute__"=some ("BaseException","__getattribute__"):=by decide +kernel
theorem qlq:plainId "BaseException.__getattribute__"=true:=by decide +kernel
theorem qmX(self:Value):bindSpecial (.builtin "BaseException.__getattribute__") self=pure (.builtin "BaseException.__getattribute__",[self]):=PySem.F.excAttr_ValueError.ga.bind self
theorem qo4{expr:Bool}{Q:Value->Shared->Prop}(X:K.In s.heap)(I:InstAt s.heap x ox C od)(hga:findIn K (.ref C) "__getattribute__"=some (some (.builtin "BaseException.__getattribute__")))
  (hk:findIn K (.ref C) "__getattr__"=some none) (hsub:mroIn K C (.type "BaseException")=some true) (hf:findObj K C od name=some (.value v)) (hh:handedIn v=true) (h:Q v {s with toks:=s.toks+1}):
  wpAny (model prog w) A (getAttr (.ref x) name expr) Q E s:=by
 obtain⟨hp,g,d,t,os⟩:=s;have L0:=I.type (M:=model prog w);have L1:=looks_findIn (M:=model prog w) X hga;have L2:=looks_findIn (M:=model prog w) X hk;have L3:=PySem.W.looks_find (M:=model prog w) X I hf;have L4:Looks (model prog w) hp (isInstance (.ref x) (.type "BaseException")) true:=L0.andThen (looks_mroIn X hsub);unfold getAttr getAttrBy;refine ε (wpAny_mkText (wpAny_holding (ε (L0.at (ε (L1.at ?_))))));show wpAny _ _ (getAttrByItsOwn _ _ _ _ _ _) _ _ _;unfold getAttrByItsOwn hookBefore;refine ε (L2.at ?_);refine ε (wpAny_attempt (wpAny_holding ?_));have e0:(expr&&onTheHeap (Value.builtin "BaseException.__getattribute__"))=false:=by cases expr<;>rfl
 unfold callGetattribute;rw[e0];show wpAny _ _ (boundAndCalled _ _ _) _ _ _;unfold boundAndCalled;rw[qmX];refine ε (Φ (wpAny_call ?_));refine codeAny_call_builtin qlq PySem.F.entry_bexc_ga (@YdQ (model prog w) _ _ ⟨hp,g,d,t+1,os⟩ "BaseException.__getattribute__" "BaseException" "__getattribute__" (.ref x) [.str name t] [] _ qmW qlp L4 (PySem.F.args_bexc_ga _ _) ?_);unfold Builtin.«object.__getattribute__»;refine ε (Φ (ε (Φ (ε (L0.at (ε (L3.at ?_)))))));refine Φ ?_;show wpAny _ _ (handedOut v) _ _ _;rw[PySem.W.handedOut_of hh];exact Φ h
end
end LX
end
section
namespace L2
open PySem PySem.Spec PyProof.Rows
abbrev Key:=Sum Int Str
noncomputable def JP:Key->Value->Bool
 | .inl k,v=>Value.isInt k v
 | .inr x,v=>Value.isStrOf x v
noncomputable def qlr(w:World):Key->Int
 | .inl k=>hashInt k
 | .inr x=>hashStr w x
theorem jF:∀{k:Key}{v:Value},JP k v=true->(∃i t,k=Sum.inl i/\v=Value.int i t)\/(∃x t,k=Sum.inr x/\v=Value.str x t)
 | .inl i,v,h=>by obtain⟨t,e⟩:=Value.isInt_shape (k:=i) (v:=v) h;exact .inl ⟨i,t,rfl,e⟩
 | .inr x,v,h=>by obtain⟨t,e⟩:=Value.isStrOf_shape (x:=x) (v:=v) h;exact .inr ⟨x,t,rfl,e⟩
theorem qjO(i:Int)(t:Tok):JP (.inl i) (.int i t)=true:=by simp[JP,Value.isInt]
theorem qjP(x:Str)(t:Tok):JP (.inr x) (.str x t)=true:=by simp[JP,Value.isStrOf]
theorem qnU(a b:Int):decide ((Sum.inl a:Key)=Sum.inl b)=(a==b):=by
 by_cases e:a=b
 ·subst e;simp
 ·have h:¬(Sum.inl a:Key)=Sum.inl b:=fun q=>e (Sum.inl.inj q);rw[decide_eq_false h];exact(beq_eq_false_iff_ne.mpr e).symm
theorem qnV(a b:Str):decide ((Sum.inr a:Key)=Sum.inr b)=decide (a=b):=by
 by_cases e:a=b
 ·subst e;simp
 ·have h:¬(Sum.inr a:Key)=Sum.inr b:=fun q=>e (Sum.inr.inj q);rw[decide_eq_false h,decide_eq_false e]
theorem qnW(a:Int)(b:Str):decide ((Sum.inl a:Key)=Sum.inr b)=false:=decide_eq_false (fun q=>nomatch q)
theorem qnX(a:Str)(b:Int):decide ((Sum.inr a:Key)=Sum.inl b)=false:=decide_eq_false (fun q=>nomatch q)
noncomputable def zZ(prog:Program)(w:World):PySem.KeyKind prog w Key where
 is:=JP
 hash:=qlr w
 inj:=fun v a b ha hb=>by
  rcases jF ha with⟨i,t,rfl,rfl⟩|⟨x,t,rfl,rfl⟩
  ·rcases jF hb with⟨j,u,rfl,e⟩|⟨y,u,rfl,e⟩
   ·injection e with e1 _;rw[e1]
   ·exact nomatch e
  ·rcases jF hb with⟨j,u,rfl,e⟩|⟨y,u,rfl,e⟩
   ·exact nomatch e
   ·injection e with e1 _;rw[e1]
 byValue:=fun k v h=>by rcases jF h with⟨i,t,rfl,rfl⟩|⟨x,t,rfl,rfl⟩<;>rfl
 pyHash:=fun hv h=>by
  rcases jF hv with⟨i,t,rfl,rfl⟩|⟨x,t,rfl,rfl⟩
  ·exact wpAny_pyHash_int h
  ·exact wpAny_pyHash_str h
 eqBool:=fun hu hv h=>by
  rcases jF hu with⟨i,t,rfl,rfl⟩|⟨x,t,rfl,rfl⟩
  ·rcases jF hv with⟨j,u,rfl,rfl⟩|⟨y,u,rfl,rfl⟩
   ·rw[qnU]at h;exact wpAny_eqBool_int h
   ·rw[qnW]at h;exact SeqAt.EqAt.int_str i t y u _ _ _ _ h
  ·rcases jF hv with⟨j,u,rfl,rfl⟩|⟨y,u,rfl,rfl⟩
   ·rw[qnX]at h;exact SeqAt.EqAt.str_int x t j u _ _ _ _ h
   ·rw[qnV]at h;exact wpAny_eqBool_str h
 «strs»:=fun k x t v h=>by
  rcases jF h with⟨i,u,rfl,e⟩|⟨y,u,rfl,e⟩
  ·exact nomatch e
  ·injection e with e1 _
   subst e1;cases v<;>rfl
theorem qhC(prog:Program)(w:World)(i:Int)(t:Tok):(zZ prog w).is (.inl i) (.int i t)=true:=qjO i t
theorem qhD(prog:Program)(w:World)(x:Str)(t:Tok):(zZ prog w).is (.inr x) (.str x t)=true:=qjP x t
inductive V where
 |non|bl (b:Bool)|int (i:Int)|str (x:Str)|byt (b:Array UInt8)|flt (b:UInt64)|ref (a:Addr)|ty (n:String)
 deriving DecidableEq
def RelV:V->Value->Prop
 | .non,u=>u=Value.none
 | .bl b,u=>u=Value.bool b
 | .int i,u=>∃t,u=Value.int i t
 | .str x,u=>∃t,u=Value.str x t
 | .byt b,u=>∃t,u=Value.bytes b t
 | .flt b,u=>∃t,u=Value.float b t
 | .ref a,u=>u=Value.ref a
 | .ty n,u=>u=Value.type n
abbrev qD:List V->List Value->Prop:=Paired RelV
theorem qD.length {xs:List V} {us:List Value} (r:qD xs us):xs.length=us.length:=Paired.length r
theorem qD.get:∀{xs:List V}{us:List Value}{i:Nat}{x:V},qD xs us->xs[i]?=some x->∃u,us[i]?=some u/\RelV x u
 |_,_,_,_,.nil,e=>by simp at e
 |_,_,0,_,.cons r _,e=>by simp at e;subst e;exact⟨_,rfl,r⟩
 |_,_,i+1,x,.cons _ t,e=>by obtain⟨u,h1,h2⟩:=qD.get (i:=i) (x:=x) t (by simpa using e);exact⟨u,by simpa using h1,h2⟩
theorem qD.append:∀{xs ys:List V}{us ws:List Value},qD xs us->qD ys ws->qD (xs++ys) (us++ws)
 |_,_,_,_,.nil,s=>s
 |_,_,_,_,.cons r t,s=>.cons r (qD.append t s)
theorem qD.take:∀{xs:List V}{us:List Value}(n:Nat),qD xs us->qD (xs.take n) (us.take n)
 |_,_,0,_=>.nil
 |_,_,_+1,.nil=>.nil
 |_,_,n+1,.cons r t=>.cons r (qD.take n t)
theorem qD.drop:∀{xs:List V}{us:List Value}(n:Nat),qD xs us->qD (xs.drop n) (us.drop n)
 |_,_,0,r=>r
 |_,_,_+1,.nil=>.nil
 |_,_,n+1,.cons _ t=>qD.drop n t
def j6:Option V->Option Value->Prop
 |some v,some u=>RelV v u
 |none,none=>True
 |_,_=>False
def KV{κ:Type}:List (κ×V)->List (κ×Value)->Prop:=Paired fun(p:κ×V) (q:κ×Value)=>p.1=q.1/\RelV p.2 q.2
noncomputable def kV:Key->V
 | .inl i=>.int i
 | .inr x=>.str x
inductive HO where
 |lst (xs:List V)
 |tup (xs:List V)
 |dK (kvs:List (Key×V))|dT (kvs:List (List Key×V))
 |set (S:Int->Bool) (n:Nat)
 |ins (C dx:Addr) (fs:List (Str×V))
 |own (x:Addr)
 |xd (fs:List (Str×V))
 |met (f x:Addr)
 |rng (lo hi:Int)
 |frz (o:Obj) (u:HO)
 |tbl (ps:Array Value)
 |ext (φ:Heap->Prop)
abbrev Hp:=Addr->Option HO
noncomputable def upd(H:Hp)(a:Addr)(o:HO):Hp:=fun b=>if b=a then some o else H b
theorem qc{H:Hp}{a:Addr}{o:HO}:upd H a o a=some o:=by unfold upd;rw[if_pos rfl]
theorem qd{H:Hp}{a b:Addr}{o:HO}(h:b≠a):upd H a o b=H b:=by unfold upd;rw[if_neg h]
theorem jX{H:Hp}{a:Addr}{o u:HO}:upd (upd H a o) a u=upd H a u:=by funext b;unfold upd;split<;>rfl
theorem qcH{H:Hp}{a b:Addr}{o u:HO}(h:H a=some o)(h':H b=some u)(d:o≠u):a≠b:=by intro e;subst e;rw[h]at h';exact d (Option.some.inj h')
theorem qg{H:Hp}{a b:Addr}{o:HO}(h:H a=some o)(h':H b=none):a≠b:=by intro e;subst e;rw[h]at h';cases h'
section
variable(P:Program)(w:World)
def zo(H:Hp)(h:Heap)(a:Addr):HO->Prop
 | .lst xs=>xs.length<=Λ/\∃(its:List Value)(n:Nat),qD xs its/\h.get? a=some {cls:=.type "list",data:=.seq its.toArray n}
 | .tup xs=>xs.length<=Λ/\∃its:List Value,qD xs its/\IsTup h a its.toArray
 | .dK kvs=>kvs.length<=Λ/\(a==sysModules)=false/\∃vs,KV kvs vs/\h.DictOf (zZ P w) a vs
 | .dT kvs=>kvs.length<=Λ/\(a==sysModules)=false/\∃xs:List (List Key×Addr×Value),
   Paired (fun(p:List Key×V) (q:List Key×Addr×Value)=>p.1=q.1/\H q.2.1=some (.tup (p.1.map kV))/\RelV p.2 q.2.2) kvs xs /\
   ∃o es ep,h.get? a=some o/\o.ExactDict/\o.data=.dict es ep/\es.toList=xs.map (entryOfKey (tupleKind (zZ P w)))/\(xs.map (·.1)).Nodup
 | .set S n=>h.SetOf (intKind P w) a S n
 | .ins C dx fs=>H dx=some (.own a)/\fs.length<=1000/\dx≠a/\h.get? a=some (Ych C dx) /\
   ∃mA,h.Ns1 dx mA/\(∀f,j6 (fs.lookup f) (mA f))/\PySem.Within mA (fs.map (·.1))
 | .own _=>∃o,h.get? a=some o
 | .xd fs=>∃mA,h.Ns1 a mA/\∀f,j6 (fs.lookup f) (mA f)
 | .rng lo hi=>∃t u v,h.get? a=some {cls:=.type "range",data:=.fields #[.int lo t,.int hi u,.int 1 v]}
 | .frz o u=>h.get? a=some o/\zo H h a u
 | .tbl ps=>h.get? a=some {cls:=.none,data:=.fields ps}
 | .met f x=>h.get? a=some (Ydp (.ref f) (.ref x))
 | .ext φ=>φ h/\(∃o,h.get? a=some o)/\∀h1 h2:Heap,φ h1->(∀o,h1.get? a=some o->h2.get? a=some o)->φ h2
def HOk(H:Hp)(h:Heap):Prop:=∀a o,H a=some o->zo P w H h a o
end
section
variable{P:Program}{w:World}{H H':Hp}{h h':Heap}{a:Addr}{o:HO}
theorem zo.lt (x:zo P w H h a o):a<h.objs.size:=by
 cases o with
 |lst xs=>obtain⟨_,_,_,_,e⟩:=x;exact Ξ e
 |tup xs=>obtain⟨_,_,_,p⟩:=x;exact p.lt
 |dK kvs=>obtain⟨_,_,_,_,o,_,_,e,_⟩:=x;exact Ξ e
 |dT kvs=>obtain⟨_,_,_,_,o,_,_,e,_⟩:=x;exact Ξ e
 |set S n=>obtain⟨o,_,_,_,e,_⟩:=x;exact Ξ e
 |ins C dx fs=>obtain⟨_,_,_,e,_⟩:=x;exact Ξ e
 |own y=>obtain⟨_,e⟩:=x;exact Ξ e
 |xd fs=>obtain⟨_,⟨_,_,_,e,_⟩,_⟩:=x;exact Ξ e
 |rng lo hi=>obtain⟨_,_,_,e⟩:=x;exact Ξ e
 |frz ob u=>obtain⟨e,_⟩:=x;exact Ξ e
 |tbl ps=>exact Ξ (show h.get? a=some _ from x)
 |met f y=>exact Ξ (show h.get? a=some _ from x)
 |ext φ=>obtain⟨_,⟨_,e⟩,_⟩:=x;exact Ξ e
theorem Paired.mapP {α β:Type} {F G:α->β->Prop}:∀{l₁:List α}{l₂:List β},Paired F l₁ l₂->(∀a b,F a b->G a b)->Paired G l₁ l₂
 |_,_,.nil,_=>.nil
 |_,_,.cons r t,f=>.cons (f _ _ r) (Paired.mapP t f)
theorem zo.stay (x:zo P w H h a o) (k:∀b u,(b=a\/H b=some (.own a))->h.get? b=some u->h'.get? b=some u)
  (ho:∀b,H b=some (.own a)->H' b=some (.own a)) (ht:∀b xs,H b=some (.tup xs)->H' b=some (.tup xs)):zo P w H' h' a o:=by
 induction o with
 |lst xs=>obtain⟨z,its,n,r,e⟩:=x;exact⟨z,its,n,r,k _ _ (.inl rfl) e⟩
 |tup xs=>obtain⟨z,its,r,ob,e,c⟩:=x;exact⟨z,its,r,ob,k _ _ (.inl rfl) e,c⟩
 |dK kvs=>obtain⟨z,y,vs,r,ob,es,ep,e,c⟩:=x;exact⟨z,y,vs,r,ob,es,ep,k _ _ (.inl rfl) e,c⟩
 |dT kvs=>obtain⟨z,y,xs,r,ob,es,ep,e,c⟩:=x;exact⟨z,y,xs,Paired.mapP r fun p q z=>⟨z.1,ht _ _ z.2.1,z.2.2⟩,ob,es,ep,k _ _ (.inl rfl) e,c⟩
 |set S n=>obtain⟨ob,es,ep,t,e,c⟩:=x;exact⟨ob,es,ep,t,k _ _ (.inl rfl) e,c⟩
 |ins C dx fs=>obtain⟨d,z,ne,e,mA,⟨od,es,ep,e2,c⟩,r⟩:=x;exact⟨ho _ d,z,ne,k _ _ (.inl rfl) e,mA,⟨od,es,ep,k _ _ (.inr d) e2,c⟩,r⟩
 |own y=>obtain⟨ob,e⟩:=x;exact⟨ob,k _ _ (.inl rfl) e⟩
 |xd fs=>obtain⟨mA,⟨od,es,ep,e,c⟩,r⟩:=x;exact⟨mA,⟨od,es,ep,k _ _ (.inl rfl) e,c⟩,r⟩
 |rng lo hi=>obtain⟨t,u,v,e⟩:=x;exact⟨t,u,v,k _ _ (.inl rfl) e⟩
 |frz ob u ih=>obtain⟨e,q⟩:=x;exact⟨k _ _ (.inl rfl) e,ih q⟩
 |tbl ps=>have e:h.get? a=some {cls:=.none,data:=.fields ps}:=x;show h'.get? a=some {cls:=.none,data:=.fields ps};exact k a _ (.inl rfl) e
 |met f y=>have e:h.get? a=some (Ydp (.ref f) (.ref y)):=x;show h'.get? a=some (Ydp (.ref f) (.ref y));exact k a _ (.inl rfl) e
 |ext φ=>obtain⟨p,⟨o,e⟩,st⟩:=x;exact⟨st _ _ p fun o q=>k _ _ (.inl rfl) q,⟨o,k _ _ (.inl rfl) e⟩,st⟩
theorem HOk.lt (x:HOk P w H h) (e:H a=some o):a<h.objs.size:=(x a o e).lt
theorem HOk.fresh (x:HOk P w H h) (e:h.objs.size<=a):H a=none:=by
 cases q:H a with
 |none=>rfl
 |some u=>exact absurd (Ybl (x.lt q) e) (YbN _)
theorem HOk.kept (x:HOk P w H h) (k:∀b u,h.get? b=some u->h'.get? b=some u):HOk P w H h':=fun a o e=>(x a o e).stay (fun b u _ q=>k b u q) (fun _ q=>q) fun _ _ q=>q
theorem HOk.laid (x:HOk P w H h) (k:∀b u,h.get? b=some u->h'.get? b=some u) (hp:h.objs.size<=a) (new:zo P w (upd H a o) h' a o):HOk P w (upd H a o) h':=fun b u e=>by
 have hn:=x.fresh hp;by_cases hb:b=a
 ·subst hb;rw[qc]at e;cases e;exact new
 ·rw[qd hb]at e;exact(x b u e).stay (fun c v _ q=>k c v q) (fun c q=>by rw[qd (qg q hn)];exact q) fun c xs q=>by rw[qd (qg q hn)];exact q
end
def Rd(H:Hp)(a:Addr)(u:HO):Prop:=H a=some u\/∃o,H a=some (.frz o u)
theorem Rd.ok {P:Program} {w:World} {H:Hp} {h:Heap} {a:Addr} {u:HO} (r:Rd H a u) (x:HOk P w H h):zo P w H h a u:=by
 rcases r with r|⟨o,r⟩
 ·exact x a u r
 ·obtain⟨_,q⟩:=x a _ r;exact q
def Mut:Option HO->Prop
 |some (.lst _)=>True
 |some (.dK _)=>True
 |some (.dT _)=>True
 |some (.set _ _)=>True
 |some (.ins _ _ _)=>True
 |some (.ext _)=>True
 |_=>False
section
variable{P:Program}{w:World}{H:Hp}{h h':Heap}{x e:Addr}{o':HO}
theorem HOk.write (ok:HOk P w H h) (mu:Mut (H x)) (he:e=x\/H e=some (.own x)) (k:∀b u,b≠e->h.get? b=some u->h'.get? b=some u) (heo:∃u,h'.get? e=some u)
  (new:zo P w (upd H x o') h' x o'):HOk P w (upd H x o') h':=fun b u q=>by
 have nown:∀c y,H c=some (.own y)->c≠x:=fun c y r z=>by subst z;rw[r]at mu;exact mu
 have ntup:∀c xs,H c=some (.tup xs)->c≠x:=fun c xs r z=>by subst z;rw[r]at mu;exact mu
 by_cases hb:b=x
 ·subst hb;rw[qc]at q;cases q;exact new
 ·rw[qd hb]at q;by_cases hbe:b=e
  ·have q':H b=some (.own x):=by
    rcases he with z|z
    ·exact absurd (hbe.trans z) hb
    ·rw[hbe];exact z
   rw[q]at q';cases q';obtain⟨v,hv⟩:=heo;exact⟨v,by rw[hbe];exact hv⟩
  ·refine(ok b u q).stay (fun c v hc r=>k c v ?_ r) (fun c r=>by rw[qd (nown c b r)];exact r) fun c xs r=>by rw[qd (ntup c xs r)];exact r
   rcases hc with rfl|hc
   ·exact hbe
   ·rintro rfl;rcases he with z|z
    ·exact nown c b hc z
    ·rw[hc]at z;cases z;exact hb rfl
end
structure Un(fs ex:List Addr)(H H':Hp)(h h':Heap):Prop where
 keep:∀b o,h.get? b=some o->H b=none->b∉fs->b∉ex->h'.get? b=some o
 slot:∀b o,h.get? b=some o->H b=none->b∈fs->b∉ex->∃sl,h'.get? b=some {o with slots:=sl}
 free:∀b o,h.get? b=some o->H b=none->b∉ex->H' b=none
 there:∀b o,h.get? b=some o->b∉ex->∃o',h'.get? b=some o'
 tups:∀b xs,H b=some (.tup xs)->H' b=some (.tup xs)
 frzs:∀b o u,H b=some (.frz o u)->H' b=some (.frz o u)
 tbls:∀b ps,H b=some (.tbl ps)->∃more,H' b=some (.tbl (ps++more))
section
variable{fs fs' ex ex':List Addr}{H H1 H2:Hp}{h h1 h2 h':Heap}{a x e:Addr}{o:HO}
theorem Un.any (u:Un fs ex H H1 h h1) {b:Addr} {ob:Obj} (q:h.get? b=some ob) (n:H b=none) (hx:b∉ex):∃sl,h1.get? b=some {ob with slots:=sl}:=by
 by_cases hb:b∈fs
 ·exact u.slot b ob q n hb hx
 ·exact⟨ob.slots,u.keep b ob q n hb hx⟩
theorem Un.kept (k:∀b u,h.get? b=some u->h'.get? b=some u):Un fs ex H H h h' :=⟨fun b ob q _ _ _=>k b ob q,fun b ob q _ _ _=>⟨ob.slots,k b ob q⟩,fun _ _ _ n _=>n,fun b ob q _=>⟨ob,k b ob q⟩,fun _ _ q=>q,fun _ _ _ q=>q,fun _ ps q=>⟨#[],by rw[q];simp⟩⟩
theorem Un.refl:Un fs ex H H h h:=Un.kept fun _ _ q=>q
theorem Un.laid (k:∀b u,h.get? b=some u->h'.get? b=some u) (hp:h.objs.size<=a) (hn:H a=none):Un fs ex H (upd H a o) h h' where
 keep:=fun b u q _ _ _=>k b u q
 slot:=fun b u q _ _ _=>⟨u.slots,k b u q⟩
 free:=fun b u q n _=>by rw[qd (Ybr (Ybl (Ξ q) hp))];exact n
 there:=fun b u q _=>⟨u,k b u q⟩
 tups:=fun b xs q=>by rw[qd (qg q hn)];exact q
 frzs:=fun b u xs q=>by rw[qd (qg q hn)];exact q
 tbls:=fun b ps q=>⟨#[],by rw[qd (qg q hn),q];simp⟩
theorem Un.write (mu:Mut (H x)) (he:e=x\/H e=some (.own x)) (k:∀b u,b≠e->h.get? b=some u->h'.get? b=some u) (heo:∃u,h'.get? e=some u):Un fs ex H (upd H x o) h h':=by
 have hx:∀b,H b=none->b≠x:=fun b n z=>by subst z;rw[n]at mu;exact mu
 have hb:∀b,H b=none->b≠e:=fun b n z=>by
  subst z;rcases he with r|r
  ·exact hx b n r
  ·rw[n]at r;cases r
 have hm:∀b u,H b=some u->¬Mut (some u)->b≠x:=fun b u q nm z=>by subst z;rw[q]at mu;exact nm mu
 refine⟨fun b u q n _ _=>k b u (hb b n) q,fun b u q n _ _=>⟨u.slots,k b u (hb b n) q⟩,fun b u q n _=>by rw[qd (hx b n)];exact n,fun b u q _=>?_,
  fun b xs q=>by rw[qd (hm b _ q fun z=>z)];exact q,fun b u xs q=>by rw[qd (hm b _ q fun z=>z)];exact q,fun b ps q=>⟨#[],by rw[qd (hm b _ q fun z=>z),q];simp⟩⟩
 by_cases hbe:b=e
 ·subst hbe;exact heo
 ·exact⟨u,k b u hbe q⟩
end
noncomputable def trk(h:Heap)(H:Hp):List Addr:=(Ydc h.objs.size).filter fun a=>(H a).isSome
noncomputable def qa0(h:Heap)(H:Hp):Heap:=YdA h (trk h H)
theorem qjQ(h:Heap)(H:Hp):(qa0 h H).objs.size=h.objs.size:=PySem.W.hideAll_size _ _
theorem qls{h:Heap}{H:Hp}{b:Addr}{o:Obj}(e:h.get? b=some o)(n:H b=none):(qa0 h H).get? b=some o :=Yc5 _ e fun hm=>by have q:(H b).isSome=true:=(List.mem_filter.mp hm).2;rw[n]at q;simp at q
theorem qmY{h:Heap}{H:Hp}{b:Addr}{o:Obj}(e:(qa0 h H).get? b=some o):h.get? b=some o/\H b=none:=by
 have e':h.get? b=some o:=Ydd (trk h H) e;refine⟨e',?_⟩;cases q:H b with
 |none=>rfl
 |some x=>have hm:b∈trk h H:=List.mem_filter.mpr ⟨List.mem_range.mpr (Ξ e'),by simp[q]⟩;have z:(qa0 h H).get? b=none:=Yce (trk h H) hm;rw[z]at e;cases e
structure Mod(K:γ)(mg:Str->Option Value)(base:Heap):Prop where
 kin:K.In base
 glob:base.Ns η mg
 blt:∃mb,base.Ns builtinsNs mb/\∀x:Str,x≠"__name__"->mb x=bootBuiltins x
 nolimit:base.NoLimit
structure Cx where
 prog:Program
 w:World
 K:γ
 mg:Str->Option Value
 base:Heap
 A:Around
 N:List Str
 s_0:Shared
 H_0:Hp
 env:Env
 outer:List Env
 stack:List Env
 ex:List Addr
 fn:Str->Bool
 calm:Bool
 pn:List (Addr×Obj)
 xe:Value->Shared->Prop
noncomputable def frs(l:List Env):List Addr:=l.filterMap (·.frame)
abbrev Cx.fs (X:Cx):List Addr:=frs X.outer
def Vis(sc:Scope)(x:Str):Prop:=sc.names.lookup x=some .local\/sc.names.lookup x=some .cell\/sc.names.lookup x=some .free
def Loc(sc:Scope)(x:Str):Prop:=sc.names.lookup x=some .local\/sc.names.lookup x=some .cell
def Look(env:Env)(h:Heap)(m:Str->Option Value)(x:Str)(u:Value):Prop :=(env.kindOf x=some .local/\m x=some u)\/((env.kindOf x=some .cell\/env.kindOf x=some .free)/\∃c,env.cells.lookup x=some c/\h.IsCell c (some u))
structure Cx.Ok (X:Cx):Prop where
 mod:Mod X.K X.mg X.base
 kind:X.env.scope.kind=.function
 glob:X.env.globals=η
 blt:X.env.builtins=builtinsNs
 above:X.s_0.heap.objs.size<=X.env.locals
 inj:∀x y c,X.env.cells.lookup x=some c->X.env.cells.lookup y=some c->x=y
 has:∀x,(X.env.kindOf x=some .cell\/X.env.kindOf x=some .free)->∃c,X.env.cells.lookup x=some c
 cab:∀x c,X.fn x=true->X.env.cells.lookup x=some c->X.s_0.heap.objs.size<=c
 hd:X.calm=true->X.A.handled=none
 frames:X.A.frames=some X.stack
 stk:X.stack=X.outer\/(X.stack=X.env::X.outer/\X.env.frame=some X.env.locals)
 exf:∀b∈X.ex,b≠X.env.locals/\∀x c,X.env.cells.lookup x=some c->c≠b
 bs:∀b o,X.base.get? b=some o->X.s_0.heap.get? b=some o/\X.H_0 b=none
 bsz:X.base.objs.size<=X.s_0.heap.objs.size
 noex:∀b o,X.base.get? b=some o->b∉X.ex
 exfs:∀b∈X.ex,b∉X.fs
 funs:X.s_0.heap.FunFrames X.base X.outer
 frf:∀b∈X.fs,X.H_0 b=none
structure Inv(X:Cx)(pins:List (Addr×Obj))(σ:List (Option V))(H:Hp)(s:Shared):Prop where
 ok:X.Ok
 os:s.os=X.s_0.os
 bare:AllBare s.gens
 base:Un X.fs X.ex X.H_0 H X.s_0.heap s.heap
 loc:∃m,s.heap.Ns X.env.locals m/\∀(i:Nat)(x:Str)(v:V),X.N[i]?=some x->σ[i]?=some (some v)->Vis X.env.scope x->∃u,RelV v u/\Look X.env s.heap m x u
 cell:∀x c,X.env.cells.lookup x=some c->∃v,s.heap.IsCell c v
 free:H X.env.locals=none
 freeC:∀x c,X.env.cells.lookup x=some c->H c=none
 pin:∀p∈X.pn++pins,s.heap.get? p.1=some p.2/\H p.1=none/\p.1≠X.env.locals/\p.1∉X.fs/\∀v,p.2.data≠.cell v
 hok:HOk X.prog X.w H s.heap
 len:σ.length=X.N.length
section
variable{X:Cx}{pins:List (Addr×Obj)}{σ:List (Option V)}{H H':Hp}{s:Shared}{h':Heap}
theorem Cx.Ok.nofr (ok:X.Ok) {b:Addr} {o:Obj} (e:X.base.get? b=some o):b∉X.fs:=fun hb=>by have:=(ok.funs.mem hb).1;rw[e]at this;cases this
theorem Inv.bs (I:Inv X pins σ H s):∀b o,X.base.get? b=some o->s.heap.get? b=some o/\H b=none:=fun b o e=>⟨I.base.keep b o (I.ok.bs b o e).1 (I.ok.bs b o e).2 (I.ok.nofr e) (I.ok.noex b o e),I.base.free b o (I.ok.bs b o e).1 (I.ok.bs b o e).2 (I.ok.noex b o e)⟩
theorem Inv.bk (I:Inv X pins σ H s):∀b o,X.base.get? b=some o->s.heap.get? b=some o:=fun b o e=>(I.bs b o e).1
theorem Inv.mod (I:Inv X pins σ H s):Mod X.K X.mg X.base:=I.ok.mod
theorem Inv.kIn (I:Inv X pins σ H s):X.K.In s.heap:=I.ok.mod.kin.keeps I.bk
theorem Inv.lt (I:Inv X pins σ H s):X.env.locals<s.heap.objs.size:=let⟨_,hn,_⟩:=I.loc;hn.lt
theorem Inv.sz (I:Inv X pins σ H s):X.s_0.heap.objs.size<=s.heap.objs.size:=Ybx I.ok.above (Yb2 I.lt)
theorem Inv.nofs (I:Inv X pins σ H s) {a:Addr} (h:s.heap.objs.size<=a):a∉X.fs:=fun hb=>by obtain⟨_,o,ho,_⟩:=I.ok.funs.mem hb;exact absurd (Ybl (Ξ ho) (Ybx I.sz h)) (YbN _)
theorem Inv.cne (I:Inv X pins σ H s):∀x c,X.env.cells.lookup x=some c->c≠X.env.locals:=fun x c e z=>by obtain⟨v,o,ho,hd⟩:=I.cell x c e;obtain⟨m,⟨o',es,ep,ho',hd',_⟩,_⟩:=I.loc;rw[z,ho']at ho;cases ho;rw[hd']at hd;cases hd
theorem Inv.funs (I:Inv X pins σ H s):s.heap.FunFrames X.base X.outer:=by
 have all:∀(l:List Env),(∀b∈frs l,b∈X.fs)->X.s_0.heap.FunFrames X.base l->s.heap.FunFrames X.base l:=by
  intro l
  induction l with
  |nil=>intro _ _;trivial
  |cons env r ih=>intro hs hl;obtain⟨hk,⟨L,o,hf,hn,ho,hd⟩,hr⟩:=hl;have hL:L∈X.fs:=hs L (by unfold frs;rw[YbR,hf];exact π);obtain⟨sl,e⟩:=I.base.slot L o ho (I.ok.frf L hL) hL fun z=>I.ok.exfs L z hL;exact⟨hk,⟨L,_,hf,hn,e,hd⟩,ih (fun b hb=>hs b (by unfold frs;rw[YbR,hf];exact ρ _ hb)) hr⟩
 exact all X.outer (fun _ hb=>hb) I.ok.funs
theorem Inv.stack (I:Inv X pins σ H s):s.heap.FunFrames X.base X.stack:=by
 rcases I.ok.stk with e|⟨e,hf⟩
 ·rw[e];exact I.funs
 ·rw[e];obtain⟨m,hn,_⟩:=I.loc;refine .cons (by rw[I.ok.kind];decide) hf hn ?_ I.funs;exact Yc0 (Ybx I.ok.bsz I.ok.above)
theorem Inv.stkSub (I:Inv X pins σ H s):∀b∈frs X.stack,b∈X.env.locals::X.fs:=fun b hb=>by
 rcases I.ok.stk with e|⟨e,hf⟩
 ·rw[e]at hb;exact ρ _ hb
 ·rw[e]at hb;unfold frs at hb;rw[YbR,hf]at hb;exact hb
theorem Inv.stkFree (I:Inv X pins σ H s):∀b∈frs X.stack,H b=none:=fun b hb=>by
 rcases Γ.mp (I.stkSub b hb)with e|hb
 ·rw[e];exact I.free
 ·obtain⟨_,o,ho,_⟩:=I.ok.funs.mem hb;exact I.base.free b o ho (I.ok.frf b hb) fun z=>I.ok.exfs b z hb
theorem Inv.step {g':Array GenState} {t':Nat} {d':Drawn} {ch:List Addr} (I:Inv X pins σ H s)
  (hch:∀b∈ch,(b∈X.ex\/X.s_0.heap.objs.size<=b)/\b≠X.env.locals/\(∀x c,X.env.cells.lookup x=some c->c≠b)/\∀p∈X.pn++pins,p.1≠b)
  (keep:∀b o,b≠X.env.locals->b∉X.fs->b∉ch->s.heap.get? b=some o->H b=none->h'.get? b=some o)
  (slot:∀b o,b≠X.env.locals->b∈X.fs->b∉ch->s.heap.get? b=some o->H b=none->∃sl,h'.get? b=some {o with slots:=sl}) (free:∀b o,b∉ch->s.heap.get? b=some o->H b=none->H' b=none)
  (there:∀b o,b∉ch->s.heap.get? b=some o->∃o',h'.get? b=some o')
  (tups:∀b xs,H b=some (.tup xs)->H' b=some (.tup xs)) (frzs:∀b o u,H b=some (.frz o u)->H' b=some (.frz o u)) (tbls:∀b ps,H b=some (.tbl ps)->∃more,H' b=some (.tbl (ps++more)))
  (ns:∀m,s.heap.Ns X.env.locals m->h'.Ns X.env.locals m) (hok:HOk X.prog X.w H' h') (hg:AllBare g'):
  Inv X pins σ H' {s with heap:=h',gens:=g',drawn:=d',toks:=t'}:=by
 have neL:∀b o,X.s_0.heap.get? b=some o->b≠X.env.locals:=fun b o e=>Ybr (Ybl (Ξ e) I.ok.above)
 have neC:∀b o,X.s_0.heap.get? b=some o->b∉X.ex->b∉ch:=fun b o e hx hb=>by
  rcases(hch b hb).1 with z|z
  ·exact hx z
  ·exact absurd (Ybl (Ξ e) z) (YbN _)
 have cellK:∀x c,X.env.cells.lookup x=some c->∀v,s.heap.IsCell c v->h'.IsCell c v:=fun x c e v ⟨o,ho,hd⟩=>by
  have nch:c∉ch:=fun z=>(hch c z).2.2.1 x c e rfl;by_cases hc:c∈X.fs
  ·obtain⟨sl,q⟩:=slot c o (I.cne x c e) hc nch ho (I.freeC x c e);exact⟨_,q,hd⟩
  ·exact⟨o,keep c o (I.cne x c e) hc nch ho (I.freeC x c e),hd⟩
 refine⟨I.ok,I.os,hg,⟨fun b o e n hb hx=>?_,fun b o e n hb hx=>?_,fun b o e n hx=>?_,fun b o e hx=>?_,fun b xs e=>tups b xs (I.base.tups b xs e),fun b o xs e=>frzs b o xs (I.base.frzs b o xs e),fun b ps e=>?_⟩,?_,fun x c e=>?_,?_,fun x c e=>?_,fun p hp=>?_,hok,I.len⟩
 ·exact keep b o (neL b o e) hb (neC b o e hx) (I.base.keep b o e n hb hx) (I.base.free b o e n hx)
 ·obtain⟨sl,e1⟩:=I.base.slot b o e n hb hx;obtain⟨sl',e2⟩:=slot b _ (neL b o e) hb (neC b o e hx) e1 (I.base.free b o e n hx);exact⟨sl',e2⟩
 ·obtain⟨o',e1⟩:=I.base.there b o e hx;exact free b o' (neC b o e hx) e1 (I.base.free b o e n hx)
 ·obtain⟨o',e1⟩:=I.base.there b o e hx;exact there b o' (neC b o e hx) e1
 ·obtain⟨m1,e1⟩:=I.base.tbls b ps e;obtain⟨m2,e2⟩:=tbls b _ e1;exact⟨m1++m2,by rw[e2,Array.append_assoc]⟩
 ·obtain⟨m,hn,hl⟩:=I.loc;refine⟨m,ns m hn,fun i x v e1 e2 e3=>?_⟩;obtain⟨u,r,l⟩:=hl i x v e1 e2 e3;refine⟨u,r,?_⟩;rcases l with l|⟨k,c,e,z⟩
  ·exact .inl l
  ·exact .inr ⟨k,c,e,cellK x c e _ z⟩
 ·obtain⟨v,z⟩:=I.cell x c e;exact⟨v,cellK x c e v z⟩
 ·obtain⟨m,⟨o,_,_,ho,_⟩,_⟩:=I.loc;exact free _ o (fun z=>(hch _ z).2.1 rfl) ho I.free
 ·obtain⟨v,o,ho,hd⟩:=I.cell x c e;exact free c o (fun z=>(hch c z).2.2.1 x c e rfl) ho (I.freeC x c e)
 ·obtain⟨e,n,ne,nf,d⟩:=I.pin p hp;have nch:p.1∉ch:=fun z=>(hch p.1 z).2.2.2 p hp rfl;exact⟨keep p.1 p.2 ne nf nch e n,free p.1 p.2 nch e n,ne,nf,d⟩
theorem Inv.un {t':Nat} (I:Inv X pins σ H s) (u:Un X.fs [] H H' s.heap h') (hok:HOk X.prog X.w H' h'):Inv X pins σ H' {s with heap:=h',toks:=t'}:=by
 obtain⟨m,⟨o,es,ep,ho,r⟩,_⟩:=id I.loc;obtain⟨sl,hL⟩:=u.any ho I.free (by simp)
 exact I.step (g':=s.gens) (d':=s.drawn) (ch:=[]) (fun _ z=>nomatch z) (fun b o _ hb _ e n=>u.keep b o e n hb (by simp)) (fun b o _ hb _ e n=>u.slot b o e n hb (by simp)) (fun b o _ e n=>u.free b o e n (by simp)) (fun b o _ e=>u.there b o e (by simp)) u.tups u.frzs u.tbls (fun m' hm=>by
  obtain⟨o',es',ep',ho',r'⟩:=hm;rw[ho]at ho';cases ho'
  exact⟨_,es',ep',hL,r'⟩) hok I.bare
theorem Inv.call {g':Array GenState} {t':Nat} {d':Drawn} {ch:List Addr} (I:Inv X pins σ H s) (u:Un (frs X.stack) ch H H' s.heap h') (hok:HOk X.prog X.w H' h') (hg:AllBare g')
  (hch:∀b∈ch,(b∈X.ex\/X.s_0.heap.objs.size<=b)/\b≠X.env.locals/\(∀x c,X.env.cells.lookup x=some c->c≠b)/\∀p∈X.pn++pins,p.1≠b):
  Inv X pins σ H' {s with heap:=h',gens:=g',drawn:=d',toks:=t'}:=by
 obtain⟨m,⟨o,es,ep,ho,r⟩,_⟩:=id I.loc;obtain⟨sl,hL⟩:=u.any ho I.free fun z=>(hch _ z).2.1 rfl
 exact I.step (ch:=ch) hch (fun b o hL hb hc e n=>u.keep b o e n (fun z=>(Γ.mp (I.stkSub b z)).elim hL hb) hc) (fun b o _ _ hc e n=>u.any e n hc) (fun b o hc e n=>u.free b o e n hc) (fun b o hc e=>u.there b o e hc) u.tups u.frzs u.tbls (fun m' hm=>by
  obtain⟨o',es',ep',ho',r'⟩:=hm;rw[ho]at ho';cases ho'
  exact⟨_,es',ep',hL,r'⟩) hok hg
theorem Inv.turned {t':Nat} {it:Addr} (I:Inv X pins σ H s) (k:∀b o,b≠it->s.heap.get? b=some o->h'.get? b=some o) (hn:H it=none) (hL:it≠X.env.locals)
  (h1:it∈X.ex\/X.s_0.heap.objs.size<=it) (h2:∀x c,X.env.cells.lookup x=some c->c≠it) (h3:∀p∈X.pn++pins,p.1≠it):Inv X pins σ H {s with heap:=h',toks:=t'}:=by
 have nit:∀b u,H b=some u->b≠it:=fun b u e z=>by rw[z,hn]at e;cases e
 refine I.step (g':=s.gens) (d':=s.drawn) (ch:=[it]) (fun b hb=>?_) (fun b o _ _ hc e _=>k b o (fun z=>hc (by simp[z])) e) (fun b o _ _ hc e _=>⟨o.slots,k b o (fun z=>hc (by simp[z])) e⟩) (fun _ _ _ _ n=>n)
  (fun b o hc e=>⟨o,k b o (fun z=>hc (by simp[z])) e⟩) (fun _ _ e=>e) (fun _ _ _ e=>e) (fun b ps e=>⟨#[],by rw[e];simp⟩) (fun m hm=>?_) (fun b u e=>?_) I.bare
 ·have e:b=it:=by simpa using hb
  subst e;exact⟨h1,hL,h2,h3⟩
 ·obtain⟨o,es,ep,ho,r⟩:=hm;exact⟨o,es,ep,k _ o (Ne.symm hL) ho,r⟩
 ·refine(I.hok b u e).stay (fun c v hc q=>k c v ?_ q) (fun _ q=>q) fun _ _ q=>q;rcases hc with z|z
  ·rw[z];exact nit b u e
  ·exact nit c _ z
theorem Inv.tok (I:Inv X pins σ H s) (t:Nat):Inv X pins σ H {s with toks:=t}:=I.un (h':=s.heap) (t':=t) Un.refl I.hok
theorem Inv.kept {t':Nat} (I:Inv X pins σ H s) (k:∀b u,s.heap.get? b=some u->h'.get? b=some u):Inv X pins σ H {s with heap:=h',toks:=t'}:=I.un (Un.kept k) (I.hok.kept k)
theorem Inv.laid {a:Addr} {o:HO} {t':Nat} (I:Inv X pins σ H s) (k:∀b u,s.heap.get? b=some u->h'.get? b=some u) (hp:s.heap.objs.size<=a) (new:zo X.prog X.w (upd H a o) h' a o):
  Inv X pins σ (upd H a o) {s with heap:=h',toks:=t'}:=I.un (Un.laid k hp (I.hok.fresh hp)) (I.hok.laid k hp new)
theorem Inv.write {x e:Addr} {o:HO} {t':Nat} (I:Inv X pins σ H s) (mu:Mut (H x)) (he:e=x\/H e=some (.own x)) (k:∀b u,b≠e->s.heap.get? b=some u->h'.get? b=some u) (heo:∃u,h'.get? e=some u)
  (new:zo X.prog X.w (upd H x o) h' x o):Inv X pins σ (upd H x o) {s with heap:=h',toks:=t'}:=I.un (Un.write mu he k heo) (I.hok.write mu he k heo new)
theorem Inv.weak {σ':List (Option V)} (I:Inv X pins σ H s) (hl:σ'.length=σ.length) (w:∀(i:Nat)v,σ'[i]?=some (some v)->σ[i]?=some (some v)):Inv X pins σ' H s :=⟨I.ok,I.os,I.bare,I.base,let⟨m,hn,hl'⟩:=I.loc;⟨m,hn,fun i x v e1 e2 e3=>hl' i x v e1 (w i v e2) e3⟩,I.cell,I.free,I.freeC,I.pin,I.hok,hl.trans I.len⟩
theorem Inv.pins_of {pins':List (Addr×Obj)} (I:Inv X pins σ H s) (h:∀p∈pins',s.heap.get? p.1=some p.2/\H p.1=none/\p.1≠X.env.locals/\p.1∉X.fs/\∀v,p.2.data≠.cell v):Inv X pins' σ H s :=⟨I.ok,I.os,I.bare,I.base,I.loc,I.cell,I.free,I.freeC,fun p hp=>(YbK.mp hp).elim (fun z=>I.pin p (YbC _ z)) (h p),I.hok,I.len⟩
theorem qde{N:List Str}(hN:N.Nodup){i j:Nat}{x:Str}(a:N[i]?=some x)(b:N[j]?=some x):i=j:=by obtain⟨h1,e1⟩:=Δ.mp a;obtain⟨h2,e2⟩:=Δ.mp b;exact(List.getElem_inj hN).mp (e1.trans e2.symm)
theorem qe4{M:Model}{A:Around}{E:Value->Shared->Prop}{i:Nat}{x:Str}{v:V}{u:Value}{Q:Unit->Shared->Prop}(I:Inv X pins σ H s)(hN:X.N.Nodup)(hi:X.N[i]?=some x)(hx:Loc X.env.scope x)(r:RelV v u)
  (h:∀s',Inv X pins (σ.set i (some v)) H s'->(∃a,Ycu a s.heap s'.heap/\(a=X.env.locals\/X.env.cells.lookup x=some a))->Q () s') (hf:X.fn x=true\/X.env.scope.names.lookup x=some .local:=by first|exact .inl rfl|exact .inr rfl|assumption):wpAny M A (storeName X.env x u) Q E s:=by
 obtain⟨m,hn,hl⟩:=id I.loc;have hcls:(X.env.scope.kind==.class||(X.env.scope.kind==.module&&X.env.locals != X.env.globals))=false:=by rw[I.ok.kind];rfl
 have hiσ:i<σ.length:=by rw[I.len];exact(Δ.mp hi).1
 have cne:=I.cne
 have tracked:∀{a:Addr}{h':Heap},(∃o,s.heap.get? a=some o/\H a=none)->Ycu a s.heap h'->HOk X.prog X.w H h':=fun{a h'} ha hs b ob e=>by
  obtain⟨_,_,hfree⟩:=ha;refine(I.hok b ob e).stay (fun c w' hc q=>(hs.2 c ?_).trans q) (fun _ q=>q) fun _ _ q=>q;rintro rfl;rcases hc with rfl|hc
  ·rw[hfree]at e;cases e
  ·rw[hfree]at hc;cases hc
 rcases hx with hk|hk
 ·refine wpAny_storeName_local hk hn (fun h' hn' hs=>?_) hcls;obtain⟨oL,_,_,hoL,_⟩:=id hn;refine h _ ⟨I.ok,I.os,I.bare,⟨fun b o e n hb hx=>?_,fun b o e n hb hx=>?_,I.base.free,fun b o e hx=>?_,I.base.tups,I.base.frzs,I.base.tbls⟩,⟨_,hn',fun j y v' e1 e2 e3=>?_⟩,fun y c e=>?_,I.free,I.freeC,fun p hp=>?_,tracked ⟨oL,hoL,I.free⟩ hs,by simpa using I.len⟩ ⟨_,hs,.inl rfl⟩
  ·exact(hs.2 b (Ybr (Ybl (Ξ e) I.ok.above))).trans (I.base.keep b o e n hb hx)
  ·obtain⟨sl,e1⟩:=I.base.slot b o e n hb hx;exact⟨sl,(hs.2 b (Ybr (Ybl (Ξ e) I.ok.above))).trans e1⟩
  ·obtain⟨o',e1⟩:=I.base.there b o e hx;exact⟨o',(hs.2 b (Ybr (Ybl (Ξ e) I.ok.above))).trans e1⟩
  ·by_cases hj:j=i
   ·subst hj;rw[hi]at e1;cases e1;rw[Ycv hiσ]at e2;cases e2;exact⟨u,r,.inl ⟨hk,by simp⟩⟩
   ·rw[Yc1 (Ne.symm hj)]at e2;obtain⟨u',r',q⟩:=hl j y v' e1 e2 e3;refine⟨u',r',?_⟩;rcases q with⟨k,e⟩|⟨k,c,e,z⟩
    ·refine .inl ⟨k,?_⟩;have:y≠x:=fun e=>hj (qde hN e1 (e▸hi));simp[this,e]
    ·exact .inr ⟨k,c,e,z.sameBut hs (cne y c e)⟩
  ·obtain⟨w',z⟩:=I.cell y c e;exact⟨w',z.sameBut hs (cne y c e)⟩
  ·obtain⟨e,n,ne,nf,d⟩:=I.pin p hp;exact⟨(hs.2 p.1 ne).trans e,n,ne,nf,d⟩
 ·have hfn:X.fn x=true:=by
   rcases hf with z|z
   ·exact z
   ·rw[z]at hk;cases hk
  obtain⟨c,hc⟩:=I.ok.has x (.inl hk);obtain⟨w',z⟩:=I.cell x c hc;refine wpAny_storeName_cell I.ok.kind hk hc z (fun h' hc' hs=>?_);obtain⟨oc,hoc,hocd⟩:=id z;refine h {s with heap:=h'} ⟨I.ok,I.os,I.bare,⟨fun b o e n hb hx=>?_,fun b o e n hb hx=>?_,I.base.free,fun b o e hx=>?_,I.base.tups,I.base.frzs,I.base.tbls⟩,⟨m,hn.sameBut hs (Ne.symm (cne x c hc)),fun j y v' e1 e2 e3=>?_⟩,fun y c' e=>?_,I.free,I.freeC,fun p hp=>?_,tracked ⟨oc,hoc,I.freeC x c hc⟩ hs,by simpa using I.len⟩ ⟨c,hs,.inr hc⟩
  ·exact(hs.2 b (Ybr (Ybl (Ξ e) (I.ok.cab x c hfn hc)))).trans (I.base.keep b o e n hb hx)
  ·obtain⟨sl,e1⟩:=I.base.slot b o e n hb hx;exact⟨sl,(hs.2 b (Ybr (Ybl (Ξ e) (I.ok.cab x c hfn hc)))).trans e1⟩
  ·obtain⟨o',e1⟩:=I.base.there b o e hx;exact⟨o',(hs.2 b (Ybr (Ybl (Ξ e) (I.ok.cab x c hfn hc)))).trans e1⟩
  ·by_cases hj:j=i
   ·subst hj;rw[hi]at e1;cases e1;rw[Ycv hiσ]at e2;cases e2;exact⟨u,r,.inr ⟨.inl hk,c,hc,hc'⟩⟩
   ·rw[Yc1 (Ne.symm hj)]at e2;obtain⟨u',r',q⟩:=hl j y v' e1 e2 e3;refine⟨u',r',?_⟩;rcases q with q|⟨k,c',e,z'⟩
    ·exact .inl q
    ·refine .inr ⟨k,c',e,z'.sameBut hs ?_⟩;rintro rfl;exact hj (qde hN e1 (I.ok.inj _ _ _ e hc▸hi))
  ·by_cases hcc:c'=c
   ·subst hcc;exact⟨_,hc'⟩
   ·obtain⟨w2,z2⟩:=I.cell y c' e;exact⟨w2,z2.sameBut hs hcc⟩
  ·obtain⟨e,n,ne,nf,d⟩:=I.pin p hp;refine⟨(hs.2 p.1 ?_).trans e,n,ne,nf,d⟩;intro q;rw[q,hoc]at e;have q':oc=p.2:=Option.some.inj e;exact d w' (by rw[<- q'];exact hocd)
theorem J1{M:Model}{A:Around}{E:Value->Shared->Prop}{i:Nat}{x:Str}{v:V}{u:Value}{Q:Unit->Shared->Prop}(I:Inv X pins σ H s)(hN:X.N.Nodup)(hi:X.N[i]?=some x)(hx:Loc X.env.scope x)(r:RelV v u)
  (h:∀s',Inv X pins (σ.set i (some v)) H s'->Q () s') (hf:X.fn x=true\/X.env.scope.names.lookup x=some .local:=by first|exact .inl rfl|exact .inr rfl|assumption):wpAny M A (storeName X.env x u) Q E s :=
 qe4 I hN hi hx r (fun s' I' _=>h s' I') hf
theorem Inv.call' {s':Shared} {ch:List Addr} (I:Inv X pins σ H s) (ho:s'.os=s.os) (u:Un (frs X.stack) ch H H' s.heap s'.heap) (hok:HOk X.prog X.w H' s'.heap) (hg:AllBare s'.gens)
  (hch:∀b∈ch,(b∈X.ex\/X.s_0.heap.objs.size<=b)/\b≠X.env.locals/\(∀x c,X.env.cells.lookup x=some c->c≠b)/\∀p∈X.pn++pins,p.1≠b):Inv X pins σ H' s':=by
 obtain⟨h',g',d',t',o'⟩:=s';have e:o'=s.os:=ho;subst e;exact I.call (g':=g') (t':=t') (d':=d') u hok hg hch
end
abbrev XK:=Value->Option Addr->Hp->Prop
abbrev St:=List (Option V)
abbrev VK:=V->Hp->Prop
abbrev TE:=St->Hp->VK->Prop
abbrev TT:=St->Hp->(Bool->Hp->Prop)->Prop
abbrev TA:=St->Hp->(List V->Hp->Prop)->Prop
structure Ends where
 nx:St->Hp->Prop
 rt:VK
 bk:St->Hp->Prop:=fun _ _=>False
 ct:St->Hp->Prop:=fun _ _=>False
abbrev TS:=Ends->St->Hp->Prop
def EP(X:Cx)(pins:List (Addr×Obj))(σ:St)(Q:VK)(u:Value)(s':Shared):Prop:=∃v H',Inv X pins σ H' s'/\RelV v u/\Q v H'
def TP(X:Cx)(pins:List (Addr×Obj))(σ:St)(Q:Bool->Hp->Prop)(b:Bool)(s':Shared):Prop:=∃H',Inv X pins σ H' s'/\Q b H'
def AP(X:Cx)(pins:List (Addr×Obj))(σ:St)(Q:List V->Hp->Prop)(us:List Value)(s':Shared):Prop:=∃vs H',Inv X pins σ H' s'/\qD vs us/\Q vs H'
def SP(X:Cx)(pins:List (Addr×Obj))(D:Ends)(f:Flow)(s':Shared):Prop :=
 match f with
 | .next=>∃σ' H',Inv X pins σ' H' s'/\D.nx σ' H'
 | .brk=>∃σ' H',Inv X pins σ' H' s'/\D.bk σ' H'
 | .cont=>∃σ' H',Inv X pins σ' H' s'/\D.ct σ' H'
 | .ret u=>∃v σ' H',Inv X pins σ' H' s'/\RelV v u/\D.rt v H'
def PE(X:Cx)(e:Expr)(t:TE):Prop :=∀(pins:List (Addr×Obj))(s:Shared)(σ:St)(H:Hp)(Q:VK),Inv X pins σ H s->t σ H Q->wpAny (model X.prog X.w) X.A (eval e X.env) (EP X pins σ Q) X.xe s
def PT(X:Cx)(e:Expr)(t:TT):Prop :=∀(pins:List (Addr×Obj))(s:Shared)(σ:St)(H:Hp)(Q:Bool->Hp->Prop),Inv X pins σ H s->t σ H Q->wpAny (model X.prog X.w) X.A (isTrue e X.env (eval e X.env)) (TP X pins σ Q) X.xe s
def PW(X:Cx)(e:Expr)(t:TT):Prop :=∀(whole:Sem Value)(pins:List (Addr×Obj))(s:Shared)(σ:St)(H:Hp)(Q:Bool->Hp->Prop),Inv X pins σ H s->t σ H Q->wpAny (model X.prog X.w) X.A (isTrue e X.env whole) (TP X pins σ Q) X.xe s
theorem PW.pt {X:Cx} {e:Expr} {t:TT} (h:PW X e t):PT X e t:=h _
def PA(X:Cx)(es:List Expr)(t:TA):Prop :=∀(pos:Pos)(pins:List (Addr×Obj))(s:Shared)(σ:St)(H:Hp)(Q:List V->Hp->Prop),Inv X pins σ H s->t σ H Q->wpAny (model X.prog X.w) X.A (spliced (backTo pos (starEach es X.env))) (AP X pins σ Q) X.xe s
def PS(X:Cx)(st:Stmt)(t:TS):Prop :=∀(pins:List (Addr×Obj))(s:Shared)(σ:St)(H:Hp)(D:Ends),Inv X pins σ H s->t D σ H->wpAny (model X.prog X.w) X.A (exec st X.env) (SP X pins D) X.xe s
def PSs(X:Cx)(st:List Stmt)(t:TS):Prop :=∀(pins:List (Addr×Obj))(s:Shared)(σ:St)(H:Hp)(D:Ends),Inv X pins σ H s->t D σ H->wpAny (model X.prog X.w) X.A (execs st X.env) (SP X pins D) X.xe s
theorem thn{α:Type}{t:Sem α}{Q Q':α->Shared->Prop}{M:Model}{A:Around}{E:Value->Shared->Prop}{s:Shared}(h:wpAny M A t Q E s)(hQ:∀a s,Q a s->Q' a s):wpAny M A t Q' E s:=wpAny_mono h hQ fun _ _ x=>x
section
variable{X:Cx}
def zt(i:Nat):TE:=fun σ H Q=>∃v,σ[i]?=some (some v)/\Q v H
def tC(v:V):TE:=fun _ H Q=>Q v H
theorem qgd{i:Nat}{x:Str}{pos:Pos}(hN:X.N[i]?=some x)(hv:Vis X.env.scope x)(hd:(x==("__debug__":Str))=false:=by decide)(hcd:(x==("__classdict__":Str))=false:=by decide):PE X (.Name x pos) (zt i):=by
 intro pins s σ H Q I h;obtain⟨v,e,h⟩:=h;obtain⟨m,hn,hl⟩:=I.loc;obtain⟨u,r,l⟩:=hl i x v hN e hv;have fin:EP X pins σ Q u s:=⟨v,H,I,r,h⟩;rcases l with⟨hk,hm⟩|⟨hk,c,hc,hcell⟩
 ·exact wpAny_Name (wpAny_loadName_local I.ok.kind hk hn hm fin) hd
 ·rcases hk with hk|hk
  ·exact wpAny_Name (wpAny_loadName_cell I.ok.kind hk hc hcell fin) hd
  ·exact wpAny_Name (wpAny_loadName_free I.ok.kind hk hc hcell fin hcd) hd
theorem qr{i j pos}:PE X (.Constant (.int i) j pos) (tC (.int i)):=fun _ _ _ H _ I h=>wpAny_Constant_int ⟨.int i,H,I.tok _,⟨_,rfl⟩,h⟩
theorem qa1{b j pos}:PE X (.Constant (.bool b) j pos) (tC (.bl b)):=fun _ _ _ H _ I h=>Constant_bool ⟨.bl b,H,I,rfl,h⟩
theorem qL{x j pos}:PE X (.Constant (.str x) j pos) (tC (.str x)):=fun _ _ _ H _ I h=>Calls.Constant_str ⟨.str x,H,I.tok _,⟨_,rfl⟩,h⟩
def Gl(X:Cx)(x:Str):Prop:=X.env.kindOf x=some .globalImplicit
theorem Qu{E:Value->Shared->Prop}{pins:List (Addr×Obj)}{s:Shared}{σ:St}{H:Hp}{x:Str}{u:Value}{pos:Pos}{Q:Value->Shared->Prop}(I:Inv X pins σ H s)(hg:Gl X x)(hm:X.mg x=some u)(h:Q u s)
  (hd:(x==("__debug__":Str))=false:=by decide):wpAny (model X.prog X.w) X.A (eval (.Name x pos) X.env) Q E s :=
 Calls.Name_function_global I.ok.kind hg (Calls.loadGlobal_global (by rw[I.ok.glob];exact I.mod.glob.keeps I.bk) hm h) hd
theorem Zv{E:Value->Shared->Prop}{pins:List (Addr×Obj)}{s:Shared}{σ:St}{H:Hp}{x:Str}{u:Value}{pos:Pos}{Q:Value->Shared->Prop}(I:Inv X pins σ H s)(hg:Gl X x)(hm:X.mg x=none)(hv:bootBuiltins x=some u)(h:Q u s)
  (hn:x≠"__name__":=by decide) (hd:(x==("__debug__":Str))=false:=by decide):wpAny (model X.prog X.w) X.A (eval (.Name x pos) X.env) Q E s:=by
 obtain⟨mb,h1,h2⟩:=I.mod.blt;exact Calls.Name_function_global I.ok.kind hg (Calls.loadGlobal_builtin (by rw[I.ok.glob];exact I.mod.glob.keeps I.bk) hm (by rw[I.ok.blt];exact h1.keeps I.bk) ((h2 x hn).trans hv) h) hd
theorem qmZ{x:Str}{v:V}{u:Value}{pos:Pos}(hg:Gl X x)(hm:X.mg x=some u)(r:RelV v u)(hd:(x==("__debug__":Str))=false:=by decide):PE X (.Name x pos) (tC v) :=fun _ _ _ H _ I h=>Qu I hg hm ⟨v,H,I,r,h⟩ hd
variable{a b:Expr}{ta tb:TE}{pos:Pos}
def PC(X:Cx)(op:CmpOp)(a b:Expr)(t:TE):Prop :=
 ∀(pins:List (Addr×Obj))(s:Shared)(σ:St)(H:Hp)(Q:VK),Inv X pins σ H s->t σ H Q ->
  wpAny (model X.prog X.w) X.A (eval a X.env) (fun v s₁=>wpAny (model X.prog X.w) X.A (eval b X.env) (fun u s₂=>wpAny (model X.prog X.w) X.A (compareOp op v u) (EP X pins σ Q) X.xe s₂) X.xe s₁) X.xe s
theorem qlt(b:Expr){op:CmpOp}(h:op≠.In)(h2:op≠.NotIn):behindInMarks op b=false:=by
 have e1:(op==CmpOp.In)=false:=by cases op<;>first|rfl|exact absurd rfl h
 have e2:(op==CmpOp.NotIn)=false:=by cases op<;>first|rfl|exact absurd rfl h2
 cases b<;>simp[behindInMarks,e1,e2]
def qpo(ta:TE):TE:=fun σ H Q=>ta σ H fun x H1=>Q (.bl (decide (x=.non))) H1
theorem RelV.none_iff {x:V} {v:Value} (r:RelV x v):(v==Value.none)=decide (x=.non):=by
 cases x with
 |non=>cases r;rfl
 |bl _=>cases r;rfl
 |int _=>obtain⟨t,rfl⟩:=r;rfl
 |str _=>obtain⟨t,rfl⟩:=r;rfl
 |byt _=>obtain⟨t,rfl⟩:=r;rfl
 |flt _=>obtain⟨t,rfl⟩:=r;rfl
 |ref _=>cases r;rfl
 |ty _=>cases r;rfl
theorem qnY{j pos'}(ha:PE X a ta):PC X .Is a (.Constant .none j pos') (qpo ta):=by intro pins s σ H Q I h;refine thn (ha pins s σ H _ I h) fun v s1 ⟨x,H1,I1,r1,q1⟩=>?_;exact Constant_none (is_none_gen ⟨.bl _,H1,I1,by rw[r1.none_iff];rfl,q1⟩)
def tB(t:TE):TT:=fun σ H Q=>t σ H fun x H1=>∃c,x=.bl c/\Q c H1
theorem qge{op:CmpOp}{t:TE}(h:PC X op a b t)(h1:behindInMarks op b=false:=by first|exact qlt _ (by decide) (by decide)|rfl):PT X (.Compare a [op] [b] pos) (tB t):=by intro pins s σ H Q I hw;refine wpAny_isTrue_Compare1 (thn (h pins s σ H _ I hw) fun v s1 h1=>thn h1 fun u s2 h2=>thn h2 fun c s3 ⟨x,H1,I1,r1,q1⟩=>?_) h1;obtain⟨d,rfl,q⟩:=q1;cases r1;exact wpAny_truthy_bool ⟨H1,I1,q⟩
theorem Q3{e:Expr}{t:TE}(h:PE X e t)(he:∀whole,isTrue e X.env whole=(do let v <- whole;standAt e.pos;holding [v] (truthy v)):=by intro _;rfl):PT X e (tB t):=by intro pins s σ H Q I hw;refine isTrue_plain (thn (h pins s σ H _ I hw) fun v s1 ⟨x,H1,I1,r1,q1⟩=>?_) (he _);obtain⟨d,rfl,q⟩:=q1;cases r1;exact wpAny_truthy_bool ⟨H1,I1,q⟩
variable{tA tB':TT}{rest:List Expr}
def qnZ(t u:TT):TT:=fun σ H Q=>t σ H fun c H1=>if c=true then u σ H1 Q else Q false H1
def tOr(t u:TT):TT:=fun σ H Q=>t σ H fun c H1=>if c=true then Q true H1 else u σ H1 Q
def qpp(t:TT):TT:=fun σ H Q=>t σ H fun c H1=>Q (!c) H1
theorem qei(ha:PT X a tA):PW X (.BoolOp .And [a] pos) tA:=by
 intro wh pins s σ H Q I h;refine isTrue_and (thn (ha pins s σ H Q I h) fun c s1 e=>?_);cases c with
 |true=>exact isTrue_and_nil e
 |false=>exact e
theorem qjR(ha:PT X a tA):PW X (.BoolOp .Or [a] pos) tA:=by
 intro wh pins s σ H Q I h;refine isTrue_or (thn (ha pins s σ H Q I h) fun c s1 e=>?_);cases c with
 |false=>exact isTrue_or_nil e
 |true=>exact e
theorem qgf(ha:PT X a tA)(hb:PW X (.BoolOp .And (b::rest) pos) tB'):PW X (.BoolOp .And (a::b::rest) pos) (qnZ tA tB'):=by
 intro wh pins s σ H Q I h;refine isTrue_and (thn (ha pins s σ H _ I h) fun c s1 ⟨H1,I1,q1⟩=>?_);cases c with
 |true=>exact hb wh pins s1 σ H1 Q I1 q1
 |false=>exact⟨H1,I1,q1⟩
theorem qmC(ha:PT X a tA)(hb:PW X (.BoolOp .Or (b::rest) pos) tB'):PW X (.BoolOp .Or (a::b::rest) pos) (tOr tA tB'):=by
 intro wh pins s σ H Q I h;refine isTrue_or (thn (ha pins s σ H _ I h) fun c s1 ⟨H1,I1,q1⟩=>?_);cases c with
 |true=>exact⟨H1,I1,q1⟩
 |false=>exact hb wh pins s1 σ H1 Q I1 q1
theorem qbU(ha:PT X a tA):PT X (.UnaryOp .Not a pos) (qpp tA):=by intro pins s σ H Q I h;exact isTrue_not (ha pins s σ H (fun c H1=>Q (!c) H1) I h)
def qlu(ta tb:TE):TE:=fun σ H Q=>ta σ H fun x H1=>∃c,x=.bl c/\if c=true then Q (.bl true) H1 else tb σ H1 Q
theorem qjS{op}{t:TE}(h:PE X a t):PE X (.BoolOp op [a] pos) t:=fun pins s σ H Q I hw=>BoolOp_one (h pins s σ H Q I hw)
theorem qiJ(ha:PE X a ta)(hb:PE X (.BoolOp .Or (b::rest) pos) tb):PE X (.BoolOp .Or (a::b::rest) pos) (qlu ta tb):=by
 intro pins s σ H Q I h;refine BoolOp_or (thn (ha pins s σ H _ I h) fun v s1 ⟨x,H1,I1,r1,q1⟩=>?_);obtain⟨c,rfl,q1⟩:=q1;cases r1;refine wpAny_truthy_bool ?_;cases c with
 |false=>exact hb pins s1 σ H1 Q I1 q1
 |true=>exact⟨.bl true,H1,I1,rfl,q1⟩
def tIf(t:TT)(ta tb:TE):TE:=fun σ H Q=>t σ H fun c H1=>if c=true then ta σ H1 Q else tb σ H1 Q
theorem qa2{c:Expr}(hc:PT X c tA)(ha:PE X a ta)(hb:PE X b tb):PE X (.IfExp c a b pos) (tIf tA ta tb):=by
 intro pins s σ H Q I h;refine wpAny_IfExp (thn (hc pins s σ H _ I h) fun d s1 ⟨H1,I1,q1⟩=>?_);cases d with
 |true=>exact ha pins s1 σ H1 Q I1 q1
 |false=>exact hb pins s1 σ H1 Q I1 q1
end
def SqL(K:γ)(H:Hp)(a:Addr)(xs:List V):Prop :=
 Rd H a (.lst xs) \/
  ∃(o:Obj)(its:Array Value)(n:Nat),K.lookup a=some o/\o.cls=.type "list"/\o.dict=none/\o.data=.seq its n/\its.size<=Λ/\qD xs its.toList
def SqT(K:γ)(H:Hp)(a:Addr)(xs:List V):Prop :=
 Rd H a (.tup xs) \/
  ∃(o:Obj)(its:Array Value)(n:Nat),K.lookup a=some o/\o.cls=.type "tuple"/\o.data=.seq its n/\its.size<=Λ/\qD xs its.toList
noncomputable def qpq:Value->Option V
 | .none=>some .non
 | .bool b=>some (.bl b)
 | .int i _=>some (.int i)
 | .str x _=>some (.str x)
 | .bytes b _=>some (.byt b)
 | .float b _=>some (.flt b)
 | .ref a=>some (.ref a)
 | .type n=>some (.ty n)
 |_=>none
theorem RelV.abs {x:V} {u:Value} (r:RelV x u):qpq u=some x:=by
 cases x with
 |non=>cases r;rfl
 |bl _=>cases r;rfl
 |int _=>obtain⟨t,rfl⟩:=r;rfl
 |str _=>obtain⟨t,rfl⟩:=r;rfl
 |byt _=>obtain⟨t,rfl⟩:=r;rfl
 |flt _=>obtain⟨t,rfl⟩:=r;rfl
 |ref _=>cases r;rfl
 |ty _=>cases r;rfl
theorem RelV.inj {x y:V} {u:Value} (r:RelV x u) (q:RelV y u):x=y:=Option.some.inj (r.abs.symm.trans q.abs)
theorem qD.inj:∀{xs ys:List V}{us:List Value},qD xs us->qD ys us->xs=ys
 |_,_,_,.nil,.nil=>rfl
 |_,_,_,.cons r t,.cons r' t'=>by rw[r.inj r',qD.inj t t']
section
variable{X:Cx}{pins:List (Addr×Obj)}{σ:St}{H:Hp}{s:Shared}{a:Addr}{xs ys:List V}
theorem SqL.of {K:γ} (h:H a=some (.lst xs)):SqL K H a xs:=.inl (.inl h)
theorem SqT.of {K:γ} (h:H a=some (.tup xs)):SqT K H a xs:=.inl (.inl h)
theorem Inv.list (I:Inv X pins σ H s) (h:SqL X.K H a xs):∃its:List Value,qD xs its/\PlainL s.heap a its.toArray/\xs.length<=Λ:=by
 rcases h with h|⟨o,its,n,hk,hc,hd,hs,hz,r⟩
 ·obtain⟨z,its,n,r,e⟩:=h.ok I.hok;exact⟨its,r,⟨_,n,e,rfl,rfl,rfl⟩,z⟩
 ·refine⟨its.toList,r,⟨o,n,I.kIn a o hk,hc,hd,by simpa using hs⟩,?_⟩;have e:=r.length;simp only[Yck]at e;omega
theorem Inv.tuple (I:Inv X pins σ H s) (h:SqT X.K H a xs):∃its:List Value,qD xs its/\IsTup s.heap a its.toArray/\xs.length<=Λ:=by
 rcases h with h|⟨o,its,n,hk,hc,hs,hz,r⟩
 ·obtain⟨z,its,r,p⟩:=h.ok I.hok;exact⟨its,r,p,z⟩
 ·refine⟨its.toList,r,⟨o,I.kIn a o hk,hc,n,by simpa using hs⟩,?_⟩;have e:=r.length;simp only[Yck]at e;omega
theorem Inv.list_inj (I:Inv X pins σ H s) (h:SqL X.K H a xs) (h':SqL X.K H a ys):xs=ys:=by
 obtain⟨its,r,⟨o,n,e,_,_,d⟩,_⟩:=I.list h;obtain⟨its',r',⟨o',n',e',_,_,d'⟩,_⟩:=I.list h';rw[e]at e';cases e';rw[d]at d';injection d' with d1 _
 have:its=its':=by simpa using congrArg YdU d1
 subst this;exact r.inj r'
theorem Inv.tuple_inj (I:Inv X pins σ H s) (h:SqT X.K H a xs) (h':SqT X.K H a ys):xs=ys:=by
 obtain⟨its,r,⟨o,e,_,n,d⟩,_⟩:=I.tuple h;obtain⟨its',r',⟨o',e',_,n',d'⟩,_⟩:=I.tuple h';rw[e]at e';cases e';rw[d]at d';injection d' with d1 _
 have:its=its':=by simpa using congrArg YdU d1
 subst this;exact r.inj r'
end
abbrev Cx.wish (X:Cx) (E:Value->Shared->Prop):Cx:={X with xe:=E}
abbrev Cx.nox (X:Cx):Cx:=X.wish fun _ _=>False
theorem Cx.Ok.wish {X:Cx} (ok:X.Ok) (E:Value->Shared->Prop):(X.wish E).Ok :=⟨ok.mod,ok.kind,ok.glob,ok.blt,ok.above,ok.inj,ok.has,ok.cab,ok.hd,ok.frames,ok.stk,ok.exf,ok.bs,ok.bsz,ok.noex,ok.exfs,ok.funs,ok.frf⟩
theorem Cx.Ok.unwish {X:Cx} {E:Value->Shared->Prop} (ok:(X.wish E).Ok):X.Ok :=⟨ok.mod,ok.kind,ok.glob,ok.blt,ok.above,ok.inj,ok.has,ok.cab,ok.hd,ok.frames,ok.stk,ok.exf,ok.bs,ok.bsz,ok.noex,ok.exfs,ok.funs,ok.frf⟩
section
variable{X:Cx}{pins:List (Addr×Obj)}{σ:St}{H:Hp}{s:Shared}{E:Value->Shared->Prop}
theorem Inv.wish (I:Inv X pins σ H s) (E:Value->Shared->Prop):Inv (X.wish E) pins σ H s:=⟨I.ok.wish E,I.os,I.bare,I.base,I.loc,I.cell,I.free,I.freeC,I.pin,I.hok,I.len⟩
theorem Inv.unwish (I:Inv (X.wish E) pins σ H s):Inv X pins σ H s:=⟨I.ok.unwish,I.os,I.bare,I.base,I.loc,I.cell,I.free,I.freeC,I.pin,I.hok,I.len⟩
theorem SP.unwish {D:Ends} {f:Flow} {s':Shared} (h:SP (X.wish E) pins D f s'):SP X pins D f s':=by
 cases f with
 |next=>obtain⟨σ',H',I,q⟩:=h;exact⟨σ',H',I.unwish,q⟩
 |brk=>obtain⟨σ',H',I,q⟩:=h;exact⟨σ',H',I.unwish,q⟩
 |cont=>obtain⟨σ',H',I,q⟩:=h;exact⟨σ',H',I.unwish,q⟩
 |ret u=>obtain⟨v,σ',H',I,r,q⟩:=h;exact⟨v,σ',H',I.unwish,r,q⟩
theorem PSs.nox {st:List Stmt} {t:TS} (h:PSs X.nox st t):PSs X st t:=fun pins s σ H D I hw=>wpAny_mono (h pins s σ H D (I.wish _) hw) (fun _ _ q=>q.unwish) fun _ _ z=>False.elim z
end
section
variable{X:Cx}{st:Stmt}{rest:List Stmt}{t u:TS}{e:Expr}{te:TE}{pos:Pos}
def qmD:TS:=fun D σ H=>D.nx σ H
def qa3(t u:TS):TS:=fun D σ H=>t {D with nx:=u D} σ H
theorem zh:PSs X [] qmD:=fun _ _ σ H _ I h=>wpAny_execs_nil ⟨σ,H,I,h⟩
theorem qi(h1:PS X st t)(h2:PSs X rest u):PSs X (st::rest) (qa3 t u):=by
 intro pins s σ H D I h;refine wpAny_execs_cons (thn (h1 pins s σ H {D with nx:=u D} I h) fun f s1 q=>?_);cases f with
 |next=>obtain⟨σ',H',I',q⟩:=q;exact h2 pins s1 σ' H' D I' q
 |ret v=>exact q
 |brk=>exact q
 |cont=>exact q
theorem qf(h1:PS X st t):PSs X [st] t:=by
 intro pins s σ H D I h;refine wpAny_execs_cons (thn (h1 pins s σ H D I h) fun f s1 q=>?_);cases f with
 |next=>exact wpAny_execs_nil q
 |ret v=>exact q
 |brk=>exact q
 |cont=>exact q
theorem Inv.quiet {pins:List (Addr×Obj)} {σ:St} {H:Hp} {s:Shared} (I:Inv X pins σ H s):interactive X.env=false:=by simp[interactive,I.ok.kind]
def qiK(te:TE):TS:=fun D σ H=>te σ H fun _ H1=>D.nx σ H1
theorem qu(he:PE X e te)(hs:swapsWith e none pos.line X.env=pure false:=by rfl):PS X (.Expr e pos) (qiK te):=by intro pins s σ H D I h;exact wpAny_Expr_any (thn (he pins s σ H _ I h) fun v s1 ⟨x,H1,I1,r1,q1⟩=>⟨σ,H1,I1,q1⟩) I.quiet hs
def qbV(te:TE):TS:=fun D σ H=>te σ H D.rt
theorem qG(he:PE X e te):PS X (.Return (some e) pos) (qbV te):=by intro pins s σ H D I h;exact wpAny_Return_some (thn (he pins s σ H _ I h) fun v s1 ⟨x,H1,I1,r1,q1⟩=>⟨x,σ,H1,I1,r1,q1⟩)
def qo5:TS:=fun D _ H=>D.rt .non H
theorem qm0:PS X (.Return none pos) qo5:=fun _ _ σ H _ I h=>wpAny_Return_none ⟨.non,σ,H,I,rfl,h⟩
def qiL(c:TT)(t u:TS):TS:=fun D σ H=>c σ H fun b H1=>if b=true then t D σ H1 else u D σ H1
theorem qR{c:Expr}{a b:List Stmt}{tc:TT}(hc:PT X c tc)(ha:PSs X a t)(hb:PSs X b u):PS X (.If c a b pos) (qiL tc t u):=by
 intro pins s σ H D I h;refine wpAny_If (thn (hc pins s σ H _ I h) fun d s1 ⟨H1,I1,q1⟩=>?_);cases d with
 |true=>exact ha pins s1 σ H1 D I1 q1
 |false=>exact hb pins s1 σ H1 D I1 q1
end
abbrev TG:=V->St->Hp->(St->Hp->Prop)->Prop
abbrev TGs:=List V->St->Hp->(St->Hp->Prop)->Prop
def PG(X:Cx)(target:Expr)(t:TG):Prop :=
 ∀(pins:List (Addr×Obj))(s:Shared)(σ:St)(H:Hp)(v:V)(u:Value)(Q:St->Hp->Prop),Inv X pins σ H s->RelV v u->t v σ H Q ->
  wpAny (model X.prog X.w) X.A (assign target X.env u) (fun _ s'=>∃σ' H',Inv X pins σ' H' s'/\Q σ' H') X.xe s
def PGs(X:Cx)(ts:List Expr)(t:TGs):Prop :=
 ∀(pins:List (Addr×Obj))(s:Shared)(σ:St)(H:Hp)(vs:List V)(us:List Value)(Q:St->Hp->Prop),Inv X pins σ H s->qD vs us->t vs σ H Q ->
  wpAny (model X.prog X.w) X.A (assignInOrder ((assignEach ts X.env).map (·.2)) us) (fun _ s'=>∃σ' H',Inv X pins σ' H' s'/\Q σ' H') X.xe s
abbrev TIp:=V->V->Hp->VK->Prop
def PIp(X:Cx)(op:Operator)(t:TIp):Prop :=
 ∀(pins:List (Addr×Obj))(s:Shared)(σ:St)(H:Hp)(x y:V)(v u:Value)(Q:VK),Inv X pins σ H s->RelV x v->RelV y u->t x y H Q ->
  wpAny (model X.prog X.w) X.A (inplaceOp op v u) (EP X pins σ Q) X.xe s
section
variable{X:Cx}{pos:Pos}
def QX(i:Nat):TG:=fun v σ H Q=>Q (σ.set i (some v)) H
theorem jd{i:Nat}{x:Str}(hN:X.N.Nodup)(hi:X.N[i]?=some x)(hx:Loc X.env.scope x)(hf:X.fn x=true\/X.env.scope.names.lookup x=some .local:=by first|exact .inl rfl|exact .inr rfl|assumption):PG X (.Name x pos) (QX i):=by intro pins s σ H v u Q I r h;exact wpAny_assign_Name (J1 I hN hi hx r (fun s' I'=>⟨_,H,I',h⟩) hf)
def qn0:TGs:=fun vs σ H Q=>vs=[]/\Q σ H
def qiM(t:TG)(u:TGs):TGs:=fun vs σ H Q=>∃v r,vs=v::r/\t v σ H fun σ' H'=>u r σ' H' Q
theorem qej:PGs X [] qn0:=by intro pins s σ H vs us Q I r h;obtain⟨e,h⟩:=h;subst e;cases r;exact assignInOrder_nil ⟨σ,H,I,h⟩
theorem Je{e:Expr}{es:List Expr}{t:TG}{u:TGs}(h1:PG X e t)(h2:PGs X es u)
  (hs:(assignEach (e::es) X.env).map (·.2)=assign e X.env::(assignEach es X.env).map (·.2):=by rfl):PGs X (e::es) (qiM t u):=by
 intro pins s σ H vs us Q I r h;obtain⟨v,vr,e1,h⟩:=h;subst e1;cases r with
 |cons r rr=>rw[hs];refine assignInOrder_cons (thn (h1 pins s σ H _ _ _ I r h) fun _ s1 ⟨σ1,H1,I1,q1⟩=>?_);exact h2 pins s1 σ1 H1 _ _ Q I1 rr q1
def qn1(K:γ)(n:Nat)(t:TGs):TG:=fun v σ H Q=>∃a xs,v=.ref a/\SqT K H a xs/\xs.length=n/\t xs σ H Q
theorem qgg{es:List Expr}{k:Nat}{t:TGs}{n:Nat}(hc:X.calm=true)(h:PGs X es t)
  (hn:(assignEach es X.env).length=n:=by rfl) (hst:(assignEach es X.env).findIdx? (·.1)=none:=by rfl):PG X (.Tuple es k pos) (qn1 X.K n t):=by
 intro pins s σ H v u Q I r hw;obtain⟨a,xs,e1,hq,hl,hw⟩:=hw;subst e1;cases r;obtain⟨its,rv,ht,hz⟩:=I.tuple hq;refine assign_Tuple_tuple (I.ok.hd hc) ht (by simp[hn,<- hl,rv.length]) hst fun h' hx=>?_;have I1:Inv X pins σ H {s with heap:=h'}:=I.kept (t':=s.toks) fun b o e=>hx b o (Ybr (Ξ e)) e;exact h pins _ σ H xs _ Q I1 (by simpa using rv) hw
def qek(te:TE)(g:TG):TS:=fun D σ H=>te σ H fun x H1=>g x σ H1 D.nx
theorem qW{i:Nat}{x:Str}{e:Expr}{te:TE}{pos':Pos}(hN:X.N.Nodup)(hi:X.N[i]?=some x)(hx:Loc X.env.scope x)(he:PE X e te)(hs:swapsWith e (some (.Name x pos')) pos.line X.env=pure false:=by rfl)(hf:X.fn x=true\/X.env.scope.names.lookup x=some .local:=by first|exact .inl rfl|exact .inr rfl|assumption):
  PS X (.Assign [.Name x pos'] e pos) (qek te (QX i)):=by
 intro pins s σ H D I h;refine wpAny_Assign_Name (thn (he pins s σ H _ I h) fun v s1 ⟨y,H1,I1,r1,q1⟩=>?_) hs;exact J1 I1 hN hi hx r1 (fun s2 I2=>⟨_,H1,I2,q1⟩) hf
def qpr(i:Nat)(te:TE)(ti:TIp):TS:=fun D σ H=>∃x,σ[i]?=some (some x)/\te σ H fun y H1=>ti x y H1 fun z H2=>D.nx (σ.set i (some z)) H2
theorem qjT{i:Nat}{x:Str}{e:Expr}{te:TE}{op:Operator}{ti:TIp}{pos':Pos}(hN:X.N.Nodup)(hi:X.N[i]?=some x)(hx:Loc X.env.scope x)(he:PE X e te)(ho:PIp X op ti)(hf:X.fn x=true\/X.env.scope.names.lookup x=some .local:=by first|exact .inl rfl|exact .inr rfl|assumption):
  PS X (.AugAssign (.Name x pos') op e pos) (qpr i te ti):=by
 intro pins s σ H D I h;obtain⟨v,e1,h⟩:=h;obtain⟨m,hn,hl⟩:=I.loc;have vis:Vis X.env.scope x:=by rcases hx with k|k;exact .inl k;exact .inr (.inl k)
 obtain⟨u,r,l⟩:=hl i x v hi e1 vis;refine wpAny_AugAssign_Name ?_;have go:wpAny (model X.prog X.w) X.A (eval e X.env) (fun w s₂=>wpAny (model X.prog X.w) X.A (inplaceOp op u w) (fun r s₃=>wpAny (model X.prog X.w) X.A (storeName X.env x r) (fun _=>SP X pins D .next) X.xe s₃) X.xe s₂) X.xe s:=by refine thn (he pins s σ H _ I h) fun w s1 ⟨y,H1,I1,r1,q1⟩=>?_;refine thn (ho pins s1 σ H1 v y u w _ I1 r r1 q1) fun z s2 ⟨zv,H2,I2,r2,q2⟩=>?_;exact J1 I2 hN hi hx r2 (fun s3 I3=>⟨_,H2,I3,q2⟩) hf
 rcases l with⟨hk,hm⟩|⟨hk,c,hc,hcell⟩
 ·exact wpAny_loadName_local I.ok.kind hk hn hm go
 ·rcases hk with hk|hk
  ·exact wpAny_loadName_cell I.ok.kind hk hc hcell go
  ·rcases hx with k|k
   ·have:X.env.scope.names.lookup x=some .free:=hk;rw[k]at this;cases this
   ·have:X.env.scope.names.lookup x=some .free:=hk;rw[k]at this;cases this
def ipI(f:Int->Int->Int):TIp:=fun x y H Q=>∃i j,x=.int i/\y=.int j/\Q (.int (f i j)) H
theorem qjU:PIp X .Add (ipI fun i j=>i+j):=by intro pins s σ H x y v u Q I r1 r2 h;obtain⟨i,j,e1,e2,q⟩:=h;subst e1;subst e2;obtain⟨t,rfl⟩:=r1;obtain⟨t',rfl⟩:=r2;exact iadd_int ⟨.int _,H,I.tok _,⟨_,rfl⟩,q⟩
end
section
variable{X:Cx}{pos:Pos}
def qn2(c:TT)(tb:TS):TS:=fun D σ H=>∃W:Nat->St->Hp->Prop,(∃m,W m σ H)/\∀m σ H,W m σ H ->
 c σ H fun b H1=>if b=true then ∃N:St->Hp->Prop,(∀σ' H',N σ' H'->∃m',m'<m/\W m' σ' H')/\tb {D with nx:=N,ct:=N,bk:=D.nx} σ H1 else D.nx σ H1
theorem Q4{c:Expr}{body:List Stmt}{tc:TT}{tb:TS}(hp:PassesOwn (model X.prog X.w) X.A X.env X.xe)(hc:PT X c tc)(hb:PSs X body tb):PS X (.While c body [] pos) (qn2 tc tb):=by
 intro pins s σ H D I h;obtain⟨W,⟨m0,w0⟩,turn⟩:=h;refine wpAny_While (codeAny_whileLoop (fun n s'=>∃σ' H',Inv X pins σ' H' s'/\W n σ' H') ?_ m0 ⟨σ,H,I,w0⟩);rintro n s1 ⟨σ1,H1,I1,w1⟩;refine wpAny_passesOwn hp (thn (hc pins s1 σ1 H1 _ I1 (turn n σ1 H1 w1)) fun b s2 ⟨H2,I2,q2⟩=>?_);cases b with
 |true=>
  obtain⟨N,hN,q2⟩:=q2;rw[if_pos rfl];refine wpAny_passesOwn hp (thn (hb pins s2 σ1 H2 _ I2 q2) fun f s3 q3=>?_);cases f with
  |next=>obtain⟨σ3,H3,I3,n3⟩:=q3;obtain⟨m',hm,w3⟩:=hN σ3 H3 n3;exact⟨m',hm,σ3,H3,I3,w3⟩
  |cont=>obtain⟨σ3,H3,I3,n3⟩:=q3;obtain⟨m',hm,w3⟩:=hN σ3 H3 n3;exact⟨m',hm,σ3,H3,I3,w3⟩
  |brk=>exact q3
  |ret v=>exact q3
 |false=>rw[if_neg ϋ];exact wpAny_execs_nil ⟨σ1,H2,I2,q2⟩
end
structure It where
 go:Nat->Hp->Prop
 yld:Nat->Hp->V->Hp->Prop
 stop:Nat->Hp->Prop
def Q5(X:Cx)(pins:List (Addr×Obj))(H:Hp)(b:Addr):Prop :=H b=none/\b≠X.env.locals/\b∉X.fs/\(b∈X.ex\/X.s_0.heap.objs.size<=b)/\(∀x c,X.env.cells.lookup x=some c->c≠b)/\∀p∈X.pn++pins,p.1≠b
theorem Inv.fpOk {X:Cx} {pins:List (Addr×Obj)} {σ:St} {H H':Hp} {s:Shared} {b:Addr} (I:Inv X pins σ H s) (hb:s.heap.objs.size<=b) (hn:H' b=none):Q5 X pins H' b:=by
 refine⟨hn,YcS (Ybl I.lt hb),I.nofs hb,.inr (Ybx I.sz hb),fun x c e z=>?_,fun p hp z=>?_⟩
 ·obtain⟨v,q⟩:=I.cell x c e;exact absurd (Ybl q.lt (by rw[z];exact hb)) (YbN _)
 ·exact absurd (Ybl (Ξ (I.pin p hp).1) (by rw[z];exact hb)) (YbN _)
structure Turn(P:Program)(w:World)(K:γ)(tg:Expr)(J:It)(fp:List Addr)(it:Addr)(tn:Nat->Heap->Prop):Prop where
 mem:it∈fp
 obj:∀i h,tn i h->∀b∈fp,∃o,h.get? b=some o/\∀v,o.data≠.cell v
 keep:∀i h h',tn i h->(∀b∈fp,∀o,h.get? b=some o->h'.get? b=some o)->tn i h'
 item:∀(X:Cx),X.prog=P->X.w=w->X.K=K->X.calm=true->∀(i:Nat)(pins:List (Addr×Obj))(s:Shared)(σ:St)(H:Hp)(E:Value->Shared->Prop),Inv X pins σ H s->(∀b∈fp,Q5 X pins H b)->tn i s.heap->J.go i H ->
  wpAny (model P w) X.A (pyNext (.ref it)) (fun r s1=>∃u,r=some u /\
   wpAny (model P w) X.A (letOwnedTupleGo tg (.ref it) u) (fun _ s2=>∃x H',Inv X pins σ H' s2/\RelV x u/\J.yld i H x H'/\tn (i+1) s2.heap/\∀b∈fp,H' b=none) E s1) E s
 done:∀(X:Cx),X.prog=P->X.w=w->X.K=K->X.calm=true->∀(i:Nat)(pins:List (Addr×Obj))(s:Shared)(σ:St)(H:Hp)(E:Value->Shared->Prop),Inv X pins σ H s->(∀b∈fp,Q5 X pins H b)->tn i s.heap->J.stop i H ->
  wpAny (model P w) X.A (pyNext (.ref it)) (fun r s1=>r=none/\Inv X pins σ H s1) E s
 self:∀(A:Around)(i:Nat)(s:Shared)(Q:Value->Shared->Prop)(E:Value->Shared->Prop),tn i s.heap->Q (.ref it) s->wpAny (model P w) A (pyIter (.ref it)) Q E s
abbrev TI:=St->Hp->(It->Hp->Prop)->Prop
def PIE(X:Cx)(pins:List (Addr×Obj))(σ:St)(tg:Expr)(R:It->Hp->Prop)(itv:Value)(s2:Shared):Prop :=∃(it:Addr)(fp:List Addr)(tn:Nat->Heap->Prop)(J:It)(H':Hp),itv=.ref it/\Inv X pins σ H' s2/\Turn X.prog X.w X.K tg J fp it tn/\tn 0 s2.heap/\(∀b∈fp,Q5 X pins H' b)/\R J H'
def PI(X:Cx)(tg iter:Expr)(wi:TI):Prop :=
 ∀(pins:List (Addr×Obj))(s:Shared)(σ:St)(H:Hp)(R:It->Hp->Prop),Inv X pins σ H s->wi σ H R ->
  wpAny (model X.prog X.w) X.A (eval iter X.env) (fun v s1=>wpAny (model X.prog X.w) X.A (pyIter v) (PIE X pins σ tg R) X.xe s1) X.xe s
theorem qf2{M:Model}{A:Around}{E:Value->Shared->Prop}{s:Shared}{tg:Expr}{it:Addr}{u:Value}{o:Obj}{n:String}{vs:Array Value}{Q:Unit->Shared->Prop}(ho:s.heap.get? it=some o)(hc:o.cls=.type n)(hd:o.data=.fields vs)
  (hn:["enumerate","zip","dict_itemiterator","dict_reverseitemiterator","odict_iterator","itertools.zip_longest","itertools.pairwise"].contains n=false) (hQ:Q () s):wpAny M A (letOwnedTupleGo tg (.ref it) u) Q E s:=by
 unfold letOwnedTupleGo
 cases tg<;>first
  |exact Φ hQ
  | (cases u<;>first
    |exact Φ hQ
    | (refine ε (wpAny_load ho ?_)
       rw[hc,hd];show wpAny M A (if(["enumerate","zip","dict_itemiterator","dict_reverseitemiterator","odict_iterator","itertools.zip_longest","itertools.pairwise"].contains n&&vs[0]?==some (rawInt _))=true then _ else _) Q E s;rw[if_neg (by intro h;rw[hn,Bool.false_and]at h;cases h)]
       exact Φ hQ))
noncomputable def Itl(K:γ)(a:Addr):It :=⟨fun i H=>∃xs x,SqL K H a xs/\xs[i]?=some x,fun i H x H'=>H'=H/\∀xs,SqL K H a xs->xs[i]?=some x,fun i H=>∃xs,SqL K H a xs/\xs.length<=i⟩
noncomputable def Itt(K:γ)(a:Addr):It :=⟨fun i H=>∃xs x,SqT K H a xs/\xs[i]?=some x,fun i H x H'=>H'=H/\∀xs,SqT K H a xs->xs[i]?=some x,fun i H=>∃xs,SqT K H a xs/\xs.length<=i⟩
theorem qjV{P:Program}{w:World}{K:γ}{tg:Expr}(a it:Addr):Turn P w K tg (Itl K a) [it] it (fun i h=>h.IsListIter it a i) where
 mem:=by simp
 obj:=fun i h st b hb=>by
  have e:b=it:=by simpa using hb
  subst e;obtain⟨o,e,c,d⟩:=st;exact⟨o,e,fun v z=>by rw[d]at z;cases z⟩
 keep:=fun i h h' st k=>st.at fun o e=>k it (by simp) o e
 item:=by intro X hP hw hK hc i pins s σ H E I hf st hg;subst hP hw hK;obtain⟨xs,x,hq,hx⟩:=hg;obtain⟨its,rv,p,hz⟩:=I.list hq;obtain⟨u,hu,ru⟩:=rv.get hx;obtain⟨f0,f1,f2,f3,f4,f5⟩:=hf it (by simp);refine wpAny_pyNext_list_item st p.isList (x:=u) (by simpa using hu) fun h' st' sb=>?_;have I1:Inv X pins σ H {s with heap:=h'}:=I.turned (t':=s.toks) (fun b o hb e=>(sb.2 b hb).trans e) f0 f1 f3 f4 f5;obtain⟨o,e,c,d⟩:=id st';exact⟨u,rfl,qf2 (s:={s with heap:=h'}) e c d (by decide) ⟨x,H,I1,ru,⟨rfl,fun ys hy=>by rw[I.list_inj hy hq];exact hx⟩,st',fun b hb=>(hf b hb).1⟩⟩
 done:=by intro X hP hw hK hc i pins s σ H E I hf st hg;subst hP hw hK;obtain⟨xs,hq,hx⟩:=hg;obtain⟨its,rv,p,hz⟩:=I.list hq;obtain⟨f0,f1,f2,f3,f4,f5⟩:=hf it (by simp);have hl:=rv.length;exact wpAny_pyNext_list_end (I.ok.hd hc) st p.isList (by simp;omega) fun h' eb=>⟨rfl,I.turned (t':=s.toks) (fun b o hb e=>eb b o hb e) f0 f1 f3 f4 f5⟩
 self:=fun _ _ _ _ _ st h=>wpAny_pyIter_listiter st h
theorem qiN{P:Program}{w:World}{K:γ}{tg:Expr}(a it:Addr):Turn P w K tg (Itt K a) [it] it (fun i h=>h.IsTupleIter it a i) where
 mem:=by simp
 obj:=fun i h st b hb=>by
  have e:b=it:=by simpa using hb
  subst e;obtain⟨o,e,c,d⟩:=st;exact⟨o,e,fun v z=>by rw[d]at z;cases z⟩
 keep:=fun i h h' st k=>st.at fun o e=>k it (by simp) o e
 item:=by intro X hP hw hK hc i pins s σ H E I hf st hg;subst hP hw hK;obtain⟨xs,x,hq,hx⟩:=hg;obtain⟨its,rv,p,hz⟩:=I.tuple hq;obtain⟨u,hu,ru⟩:=rv.get hx;obtain⟨f0,f1,f2,f3,f4,f5⟩:=hf it (by simp);refine wpAny_pyNext_tuple_item st (show s.heap.IsTuple a its.toArray from p) (x:=u) (by simpa using hu) fun h' st' sb=>?_;have I1:Inv X pins σ H {s with heap:=h'}:=I.turned (t':=s.toks) (fun b o hb e=>(sb.2 b hb).trans e) f0 f1 f3 f4 f5;obtain⟨o,e,c,d⟩:=id st';exact⟨u,rfl,qf2 (s:={s with heap:=h'}) e c d (by decide) ⟨x,H,I1,ru,⟨rfl,fun ys hy=>by rw[I.tuple_inj hy hq];exact hx⟩,st',fun b hb=>(hf b hb).1⟩⟩
 done:=by intro X hP hw hK hc i pins s σ H E I hf st hg;subst hP hw hK;obtain⟨xs,hq,hx⟩:=hg;obtain⟨its,rv,p,hz⟩:=I.tuple hq;obtain⟨f0,f1,f2,f3,f4,f5⟩:=hf it (by simp);have hl:=rv.length;exact wpAny_pyNext_tuple_end (I.ok.hd hc) st (show s.heap.IsTuple a its.toArray from p) (by simp;omega) fun h' eb=>⟨rfl,I.turned (t':=s.toks) (fun b o hb e=>eb b o hb e) f0 f1 f3 f4 f5⟩
 self:=fun _ _ _ _ _ st h=>wpAny_pyIter_tupleiter st h
section
variable{X:Cx}{tg:Expr}
def qo6(K:γ)(tl:TE):TI:=fun σ H R=>tl σ H fun x H1=>∃a,x=.ref a/\(∃xs,SqL K H1 a xs)/\R (Itl K a) H1
def qps(K:γ)(tl:TE):TI:=fun σ H R=>tl σ H fun x H1=>∃a,x=.ref a/\(∃xs,SqT K H1 a xs)/\R (Itt K a) H1
theorem Jf{l:Expr}{tl:TE}(hl:PE X l tl):PI X tg l (qo6 X.K tl):=by
 intro pins s σ H R I h;refine thn (hl pins s σ H _ I h) fun v s1 ⟨x,H1,I1,r1,q1⟩=>?_;obtain⟨a,e,⟨xs,hq⟩,q⟩:=q1;subst e;cases r1;obtain⟨its,rv,p,hz⟩:=I1.list hq;refine wpAny_pyIter_list p.isList ?_;refine⟨s1.heap.objs.size,[s1.heap.objs.size],_,_,H1,rfl,I1.kept (t':=s1.toks) fun b o e=>ψ _ e,qjV a _,⟨_,Ybk _ rfl,rfl,rfl⟩,fun b hb=>?_,q⟩;have e:b=s1.heap.objs.size:=by simpa using hb
 subst e;exact I1.fpOk (ω _) (I1.hok.fresh (ω _))
theorem qgh{l:Expr}{tl:TE}(hl:PE X l tl):PI X tg l (qps X.K tl):=by
 intro pins s σ H R I h;refine thn (hl pins s σ H _ I h) fun v s1 ⟨x,H1,I1,r1,q1⟩=>?_;obtain⟨a,e,⟨xs,hq⟩,q⟩:=q1;subst e;cases r1;obtain⟨its,rv,p,hz⟩:=I1.tuple hq;refine wpAny_pyIter_tuple (show s1.heap.IsTuple a its.toArray from p) ?_;refine⟨s1.heap.objs.size,[s1.heap.objs.size],_,_,H1,rfl,I1.kept (t':=s1.toks) fun b o e=>ψ _ e,qiN a _,⟨_,Ybk _ rfl,rfl,rfl⟩,fun b hb=>?_,q⟩;have e:b=s1.heap.objs.size:=by simpa using hb
 subst e;exact I1.fpOk (ω _) (I1.hok.fresh (ω _))
def qpt(wi:TI)(g:TG)(tb:TS):TS:=fun D σ H=>wi σ H fun J H1=>∃W:Nat->Nat->St->Hp->Prop,(∃m,W 0 m σ H1)/\∀i m σ H,W i m σ H ->
 (J.stop i H/\D.nx σ H)\/(J.go i H/\∃N:St->Hp->Prop,(∀σ' H',N σ' H'->∃m',m'<m/\W (i+1) m' σ' H')/\∀x H',J.yld i H x H'->g x σ H' fun σ2 H2=>tb {D with nx:=N,ct:=N,bk:=D.nx} σ2 H2)
noncomputable def qbW(fp:List Addr)(h:Heap):List (Addr×Obj):=fp.filterMap fun b=>(h.get? b).map fun o=>(b,o)
theorem qa4{fp:List Addr}{h:Heap}{b:Addr}{o:Obj}(hb:b∈fp)(e:h.get? b=some o):(b,o)∈qbW fp h:=List.mem_filterMap.mpr ⟨b,hb,by rw[e];rfl⟩
theorem qjW{fp:List Addr}{h:Heap}{p:Addr×Obj}(hp:p∈qbW fp h):p.1∈fp/\h.get? p.1=some p.2:=by
 obtain⟨b,hb,e⟩:=List.mem_filterMap.mp hp;cases q:h.get? b with
 |none=>rw[q]at e;cases e
 |some o=>rw[q]at e;have e':(b,o)=p:=Option.some.inj e;subst e';exact⟨hb,q⟩
theorem Inv.pinned {pins:List (Addr×Obj)} {σ:St} {H:Hp} {s:Shared} {fp:List Addr} (I:Inv X pins σ H s) (hf:∀b∈fp,Q5 X pins H b) (ho:∀b∈fp,∃o,s.heap.get? b=some o/\∀v,o.data≠.cell v):Inv X (pins++qbW fp s.heap) σ H s :=I.pins_of fun p hp=>(YbK.mp hp).elim (fun z=>I.pin p (Ybt _ z)) fun z=>by obtain⟨hb,e⟩:=qjW z;obtain⟨f0,f1,f2,_⟩:=hf p.1 hb;obtain⟨o,e',d⟩:=ho p.1 hb;rw[e]at e';cases e';exact⟨e,f0,f1,f2,d⟩
theorem Inv.unpinned {pins pl:List (Addr×Obj)} {σ:St} {H:Hp} {s:Shared} (I:Inv X (pins++pl) σ H s):Inv X pins σ H s:=I.pins_of fun p hp=>I.pin p (Ybt _ (YbC _ hp))
theorem Z0{iter:Expr}{body:List Stmt}{wi:TI}{g:TG}{tb:TS}{pos:Pos}(hp:PassesOwn (model X.prog X.w) X.A X.env X.xe)(hc:X.calm=true)(hi:PI X tg iter wi)(hg:PG X tg g)(hb:PSs X body tb)
  (hs:∀x,foldedSetIterable iter X.env x=pure x:=by intro _;rfl):PS X (.For tg iter body [] pos) (qpt wi g tb):=by
 intro pins s σ H D I h;refine wpAny_For (thn (hi pins s σ H _ I h) fun v s1 h1=>thn h1 fun itv s2 h2=>?_) hs;obtain⟨it,fp,tn,J,H2,e,I2,T,st2,f2,W,⟨m0,w0⟩,turn⟩:=h2;subst e;have stat:∀{H':Hp},(∀b∈fp,H' b=none)->∀b∈fp,Q5 X pins H' b:=fun hn b hb=>⟨hn b hb,(f2 b hb).2⟩;refine codeAny_forLoop_any (fun n s'=>∃i σ' H',Inv X pins σ' H' s'/\tn i s'.heap/\(∀b∈fp,H' b=none)/\W i n σ' H') ?_ m0 ⟨0,σ,H2,I2,st2,fun b hb=>(f2 b hb).1,w0⟩;rintro n s3 ⟨i,σ3,H3,I3,st3,fr3,w3⟩;rcases turn i n σ3 H3 w3 with⟨stop,qn⟩|⟨go,N,hN,step⟩
 ·refine wpAny_passesOwn hp (thn (T.done X rfl rfl rfl hc i pins s3 σ3 H3 X.xe I3 (stat fr3) st3 stop) fun r s4 ⟨hr,I4⟩=>?_);subst hr;exact wpAny_execs_nil ⟨σ3,H3,I4,qn⟩
 ·refine wpAny_passesOwn hp (thn (T.item X rfl rfl rfl hc i pins s3 σ3 H3 X.xe I3 (stat fr3) st3 go) fun r s4 ⟨u,hr,h4⟩=>?_);subst hr;refine wpAny_passesOwn hp (thn h4 fun _ s5 ⟨x,H5,I5,r5,y5,st5,fr5⟩=>?_);have I5':=I5.pinned (stat fr5) (T.obj _ _ st5);refine wpAny_passesOwn hp (thn (hg _ s5 σ3 H5 x u _ I5' r5 (step x H5 y5)) fun _ s6 ⟨σ6,H6,I6,q6⟩=>?_);refine wpAny_passesOwn hp (thn (hb _ s6 σ6 H6 _ I6 q6) fun f s7 q7=>?_);have again:∀{σ7:St}{H7:Hp},Inv X (pins++qbW fp s5.heap) σ7 H7 s7->N σ7 H7->∃m,m<n/\∃i σ' H',Inv X pins σ' H' s7/\tn i s7.heap/\(∀b∈fp,H' b=none)/\W i m σ' H':=fun{σ7 H7} I7 n7=>by obtain⟨m',hm,w7⟩:=hN σ7 H7 n7;refine⟨m',hm,i+1,σ7,H7,I7.unpinned,T.keep _ _ _ st5 fun b hb o e=>(I7.pin (b,o) (Ybt _ (Ybt _ (qa4 hb e)))).1,fun b hb=>?_,w7⟩;obtain⟨o,e,d⟩:=T.obj _ _ st5 b hb;exact(I7.pin (b,o) (Ybt _ (Ybt _ (qa4 hb e)))).2.1
  cases f with
  |next=>obtain⟨σ7,H7,I7,n7⟩:=q7;exact again I7 n7
  |cont=>obtain⟨σ7,H7,I7,n7⟩:=q7;exact again I7 n7
  |brk=>obtain⟨σ7,H7,I7,q7⟩:=q7;exact⟨σ7,H7,I7.unpinned,q7⟩
  |ret v=>obtain⟨x7,σ7,H7,I7,r7,q7⟩:=q7;exact⟨x7,σ7,H7,I7.unpinned,r7,q7⟩
end
theorem qa5{K:γ}{a:Addr}{xs:List V}{g:TG}{tb:TS}{D:Ends}{σ:St}{H:Hp}(Pv:Nat->St->Hp->Prop)(h0:Pv 0 σ H)(hl:∀i σ H,i<=xs.length->Pv i σ H->SqL K H a xs)
  (hs:∀i x σ H,xs[i]?=some x->Pv i σ H->g x σ H fun σ2 H2=>tb {D with nx:=Pv (i+1),ct:=Pv (i+1),bk:=D.nx} σ2 H2) (hd:∀σ H,Pv xs.length σ H->D.nx σ H):
  ∃W:Nat->Nat->St->Hp->Prop,(∃m,W 0 m σ H)/\∀i m σ H,W i m σ H ->
   ((Itl K a).stop i H/\D.nx σ H)\/((Itl K a).go i H/\∃N:St->Hp->Prop,(∀σ' H',N σ' H'->∃m',m'<m/\W (i+1) m' σ' H')/\∀x H',(Itl K a).yld i H x H'->g x σ H' fun σ2 H2=>tb {D with nx:=N,ct:=N,bk:=D.nx} σ2 H2):=by
 refine⟨fun i m σ H=>m=xs.length - i/\i<=xs.length/\Pv i σ H,⟨xs.length,by simp,ό _,h0⟩,?_⟩;rintro i m σ H ⟨rfl,hi,p⟩;have q:=hl i σ H hi p;by_cases hlt:i<xs.length
 ·refine .inr ⟨⟨xs,xs[i],q,by simp[hlt]⟩,Pv (i+1),fun σ' H' p'=>⟨xs.length - (i+1),by omega,rfl,hlt,p'⟩,fun x H' y=>?_⟩;obtain⟨e,y⟩:=y;subst e;exact hs i x σ _ (y xs q) p
 ·have e:i=xs.length:=by omega
  subst e;exact .inl ⟨⟨xs,q,ω _⟩,hd σ H p⟩
theorem qel{K:γ}{a:Addr}{xs:List V}{g:TG}{tb:TS}{D:Ends}{σ:St}{H:Hp}(Pv:Nat->St->Hp->Prop)(h0:Pv 0 σ H)(hl:∀i σ H,i<=xs.length->Pv i σ H->SqT K H a xs)
  (hs:∀i x σ H,xs[i]?=some x->Pv i σ H->g x σ H fun σ2 H2=>tb {D with nx:=Pv (i+1),ct:=Pv (i+1),bk:=D.nx} σ2 H2) (hd:∀σ H,Pv xs.length σ H->D.nx σ H):
  ∃W:Nat->Nat->St->Hp->Prop,(∃m,W 0 m σ H)/\∀i m σ H,W i m σ H ->
   ((Itt K a).stop i H/\D.nx σ H)\/((Itt K a).go i H/\∃N:St->Hp->Prop,(∀σ' H',N σ' H'->∃m',m'<m/\W (i+1) m' σ' H')/\∀x H',(Itt K a).yld i H x H'->g x σ H' fun σ2 H2=>tb {D with nx:=N,ct:=N,bk:=D.nx} σ2 H2):=by
 refine⟨fun i m σ H=>m=xs.length - i/\i<=xs.length/\Pv i σ H,⟨xs.length,by simp,ό _,h0⟩,?_⟩;rintro i m σ H ⟨rfl,hi,p⟩;have q:=hl i σ H hi p;by_cases hlt:i<xs.length
 ·refine .inr ⟨⟨xs,xs[i],q,by simp[hlt]⟩,Pv (i+1),fun σ' H' p'=>⟨xs.length - (i+1),by omega,rfl,hlt,p'⟩,fun x H' y=>?_⟩;obtain⟨e,y⟩:=y;subst e;exact hs i x σ _ (y xs q) p
 ·have e:i=xs.length:=by omega
  subst e;exact .inl ⟨⟨xs,q,ω _⟩,hd σ H p⟩
abbrev R2:=V->V->Hp->VK->Prop
def OpR(X:Cx)(f:Value->Value->Sem Value)(r:R2):Prop :=
 ∀(pins:List (Addr×Obj))(s:Shared)(σ:St)(H:Hp)(x y:V)(v u:Value)(Q:VK),Inv X pins σ H s->RelV x v->RelV y u->r x y H Q ->
  wpAny (model X.prog X.w) X.A (f v u) (EP X pins σ Q) X.xe s
def UnR(X:Cx)(f:Value->Sem Value)(r:V->Hp->VK->Prop):Prop :=
 ∀(pins:List (Addr×Obj))(s:Shared)(σ:St)(H:Hp)(x:V)(v:Value)(Q:VK),Inv X pins σ H s->RelV x v->r x H Q ->
  wpAny (model X.prog X.w) X.A (f v) (EP X pins σ Q) X.xe s
def qcI(X:Cx)(f:Value)(r:List V->Hp->VK->Prop):Prop :=
 ∀(pins:List (Addr×Obj))(s:Shared)(σ:St)(H:Hp)(xs:List V)(us:List Value)(Q:VK),Inv X pins σ H s->qD xs us->r xs H Q ->
  wpAny (model X.prog X.w) X.A (call f us) (EP X pins σ Q) X.xe s
def qpu(X:Cx)(r:V->Hp->(Bool->Hp->Prop)->Prop):Prop :=
 ∀(pins:List (Addr×Obj))(s:Shared)(σ:St)(H:Hp)(x:V)(v:Value)(Q:Bool->Hp->Prop),Inv X pins σ H s->RelV x v->r x H Q ->
  wpAny (model X.prog X.w) X.A (truthy v) (TP X pins σ Q) X.xe s
def tOp(r:R2)(ta tb:TE):TE:=fun σ H Q=>ta σ H fun x H1=>tb σ H1 fun y H2=>r x y H2 Q
def tUn(r:V->Hp->VK->Prop)(ta:TE):TE:=fun σ H Q=>ta σ H fun x H1=>r x H1 Q
def rI0(g:Int->Int->V):R2:=fun x y H Q=>∃i j,x=.int i/\y=.int j/\Q (g i j) H
def rU(g:Int->V):V->Hp->VK->Prop:=fun x H Q=>∃i,x=.int i/\Q (g i) H
section
variable{X:Cx}{a b c:Expr}{ta tb tc:TE}{pos:Pos}
theorem qlv(ha:PE X a ta)(hb:PE X b tb){pins:List (Addr×Obj)}{s:Shared}{σ:St}{H:Hp}{R:V->V->Hp->Prop}(I:Inv X pins σ H s)
  (h:ta σ H fun x H1=>tb σ H1 fun y H2=>R x y H2) {Q:Value->Shared->Prop} {f:Value->Value->Sem Value}
  (hf:∀v u s2 x y H2,Inv X pins σ H2 s2->RelV x v->RelV y u->R x y H2->wpAny (model X.prog X.w) X.A (f v u) Q X.xe s2):
  wpAny (model X.prog X.w) X.A (eval a X.env) (fun v s₁=>wpAny (model X.prog X.w) X.A (eval b X.env) (fun u s₂=>wpAny (model X.prog X.w) X.A (f v u) Q X.xe s₂) X.xe s₁) X.xe s:=by
 refine thn (ha pins s σ H _ I h) fun v s1 ⟨x,H1,I1,r1,q1⟩=>?_;refine thn (hb pins s1 σ H1 _ I1 q1) fun u s2 ⟨y,H2,I2,r2,q2⟩=>?_;exact hf v u s2 x y H2 I2 r1 r2 q2
theorem j8{op:Operator}{r:R2}(ho:OpR X (binaryOp op) r)(ha:PE X a ta)(hb:PE X b tb):PE X (.BinOp a op b pos) (tOp r ta tb):=by intro pins s σ H Q I h;exact wpAny_BinOp (qlv ha hb I h fun v u s2 x y H2 I2 rx ry q=>ho pins s2 σ H2 x y v u Q I2 rx ry q)
theorem JQ{op:UnaryOp}{r:V->Hp->VK->Prop}(ho:UnR X (unaryOp op) r)(ha:PE X a ta):PE X (.UnaryOp op a pos) (tUn r ta):=by intro pins s σ H Q I h;exact UnaryOp_ (thn (ha pins s σ H _ I h) fun v s1 ⟨x,H1,I1,r1,q1⟩=>ho pins s1 σ H1 x v Q I1 r1 q1)
theorem qn3{f:Value->Value->Sem Value}{g:Int->Int->Int}
  (rule:∀(i j:Int)(t u:Tok)(s:Shared)(Q:Value->Shared->Prop)(E:Value->Shared->Prop),Q (.int (g i j) s.toks) {s with toks:=s.toks+1}->wpAny (model X.prog X.w) X.A (f (.int i t) (.int j u)) Q E s):
  OpR X f (rI0 fun i j=>.int (g i j)):=by
 intro pins s σ H x y v u Q I rx ry h;obtain⟨i,j,rfl,rfl,q⟩:=h;obtain⟨t,rfl⟩:=rx;obtain⟨t',rfl⟩:=ry;exact rule i j t t' s _ _ ⟨.int (g i j),H,I.tok _,⟨_,rfl⟩,q⟩
theorem qiO{f:Value->Value->Sem Value}{g:Int->Int->Bool}
  (rule:∀(i j:Int)(t u:Tok)(s:Shared)(Q:Value->Shared->Prop)(E:Value->Shared->Prop),Q (.bool (g i j)) s->wpAny (model X.prog X.w) X.A (f (.int i t) (.int j u)) Q E s):
  OpR X f (rI0 fun i j=>.bl (g i j)):=by
 intro pins s σ H x y v u Q I rx ry h;obtain⟨i,j,rfl,rfl,q⟩:=h;obtain⟨t,rfl⟩:=rx;obtain⟨t',rfl⟩:=ry;exact rule i j t t' s _ _ ⟨.bl (g i j),H,I,rfl,q⟩
theorem Z1:OpR X (binaryOp .Add) (rI0 fun i j=>.int (i+j)):=qn3 fun _ _ _ _ _ _ _ q=>add_int q
theorem qdy:OpR X (binaryOp .Sub) (rI0 fun i j=>.int (i - j)):=qn3 fun _ _ _ _ _ _ _ q=>sub_int q
theorem unI{f:Value->Sem Value}{g:Int->Int}
  (rule:∀(i:Int)(t:Tok)(s:Shared)(Q:Value->Shared->Prop)(E:Value->Shared->Prop),Q (.int (g i) s.toks) {s with toks:=s.toks+1}->wpAny (model X.prog X.w) X.A (f (.int i t)) Q E s):
  UnR X f (rU fun i=>.int (g i)):=by
 intro pins s σ H x v Q I rx h;obtain⟨i,rfl,q⟩:=h;obtain⟨t,rfl⟩:=rx;exact rule i t s _ _ ⟨.int (g i),H,I.tok _,⟨_,rfl⟩,q⟩
theorem Z2:UnR X (unaryOp .USub) (rU fun i=>.int (-i)):=unI fun _ _ _ _ _ q=>neg_int q
end
noncomputable def qn4:V->V->Bool
 | .non,.non=>true | .non,.int _=>true | .int _,.non=>true | .non,.bl _=>true | .bl _,.non=>true | .non,.str _=>true | .str _,.non=>true
 | .int _,.int _=>true | .bl _,.bl _=>true | .str _,.str _=>true | .byt _,.byt _=>true
 | .int _,.str _=>true | .str _,.int _=>true | .bl _,.str _=>true | .str _,.bl _=>true
 |_,_=>false
def rEq:R2:=fun x y H Q=>qn4 x y=true/\Q (.bl (decide (x=y))) H
def rNe:R2:=fun x y H Q=>qn4 x y=true/\Q (.bl (!decide (x=y))) H
theorem jB{i j:Int}:decide (V.int i=V.int j)=(i==j):=by rw[Yca];simp
theorem qjX{i j:Bool}:decide (V.bl i=V.bl j)=(i==j):=by rw[Yca];simp
theorem qib{i j:Str}:decide (V.str i=V.str j)=(i==j):=by rw[Yca];simp
theorem qic{i j:Array UInt8}:decide (V.byt i=V.byt j)=(i.toList==j.toList):=by rw[Yca];cases i;cases j;simp
section
variable{X:Cx}{a b c:Expr}{ta tb tc:TE}{pos:Pos}
theorem zj{pins:List (Addr×Obj)}{σ:St}{H:Hp}{s:Shared}{Q:VK}{k k':Bool}(I:Inv X pins σ H s)(q:Q (.bl k) H)(e:k=k'):EP X pins σ Q (.bool k') s:=by subst e;exact⟨.bl k,H,I,rfl,q⟩
theorem jb:OpR X (compareOp .Eq) rEq:=by
 intro pins s σ H x y v u Q I rx ry h;obtain⟨hs,q⟩:=h;cases x with
 |non=>
  cases rx;cases y with
  |non=>cases ry;exact PySem.EqNone.eq_none_none (zj I q (by simp))
  |bl j=>cases ry;exact PySem.EqNone.eq_none_bool (zj I q (by simp))
  |int j=>obtain⟨t',rfl⟩:=ry;exact PySem.EqNone.eq_none_int (zj I q (by simp))
  |str j=>obtain⟨t',rfl⟩:=ry;exact PySem.EqNone.eq_none_str (zj I q (by simp))
  |_=>exact absurd (show false=true from hs) ϋ
 |bl i=>
  cases rx;cases y with
  |non=>cases ry;exact PySem.EqNone.eq_bool_none (zj I q (by simp))
  |bl j=>cases ry;exact eq_bool (zj I q qjX)
  |str j=>obtain⟨t',rfl⟩:=ry;exact PySem.EqMixed.eq_bool_str (zj I q (by simp))
  |_=>exact absurd (show false=true from hs) ϋ
 |int i=>
  obtain⟨t,rfl⟩:=rx;cases y with
  |non=>cases ry;exact PySem.EqNone.eq_int_none (zj I q (by simp))
  |int j=>obtain⟨t',rfl⟩:=ry;exact eq_int (zj I q jB)
  |str j=>obtain⟨t',rfl⟩:=ry;exact PySem.EqMixed.eq_int_str (zj I q (by simp))
  |_=>exact absurd (show false=true from hs) ϋ
 |str i=>
  obtain⟨t,rfl⟩:=rx;cases y with
  |non=>cases ry;exact PySem.EqNone.eq_str_none (zj I q (by simp))
  |bl j=>cases ry;exact PySem.EqMixed.eq_str_bool (zj I q (by simp))
  |int j=>obtain⟨t',rfl⟩:=ry;exact PySem.EqMixed.eq_str_int (zj I q (by simp))
  |str j=>obtain⟨t',rfl⟩:=ry;exact eq_str (zj I q qib)
  |_=>exact absurd (show false=true from hs) ϋ
 |byt i=>
  obtain⟨t,rfl⟩:=rx;cases y with
  |byt j=>obtain⟨t',rfl⟩:=ry;exact PySem.W.eq_bytes (zj I q qic)
  |_=>exact absurd (show false=true from hs) ϋ
 |_=>cases y<;>exact absurd (show false=true from hs) ϋ
theorem qo7:OpR X (compareOp .NotEq) rNe:=by
 intro pins s σ H x y v u Q I rx ry h;obtain⟨hs,q⟩:=h;cases x with
 |non=>
  cases rx;cases y with
  |non=>cases ry;exact PySem.EqNone.ne_none_none (zj I q (by simp))
  |bl j=>cases ry;exact PySem.EqNone.ne_none_bool (zj I q (by simp))
  |int j=>obtain⟨t',rfl⟩:=ry;exact PySem.EqNone.ne_none_int (zj I q (by simp))
  |str j=>obtain⟨t',rfl⟩:=ry;exact PySem.EqNone.ne_none_str (zj I q (by simp))
  |_=>exact absurd (show false=true from hs) ϋ
 |bl i=>
  cases rx;cases y with
  |non=>cases ry;exact PySem.EqNone.ne_bool_none (zj I q (by simp))
  |bl j=>cases ry;exact ne_bool (zj I q (congrArg not qjX))
  |str j=>obtain⟨t',rfl⟩:=ry;exact PySem.EqMixed.ne_bool_str (zj I q (by simp))
  |_=>exact absurd (show false=true from hs) ϋ
 |int i=>
  obtain⟨t,rfl⟩:=rx;cases y with
  |non=>cases ry;exact PySem.EqNone.ne_int_none (zj I q (by simp))
  |int j=>obtain⟨t',rfl⟩:=ry;exact ne_int (zj I q (congrArg not jB))
  |str j=>obtain⟨t',rfl⟩:=ry;exact PySem.EqMixed.ne_int_str (zj I q (by simp))
  |_=>exact absurd (show false=true from hs) ϋ
 |str i=>
  obtain⟨t,rfl⟩:=rx;cases y with
  |non=>cases ry;exact PySem.EqNone.ne_str_none (zj I q (by simp))
  |bl j=>cases ry;exact PySem.EqMixed.ne_str_bool (zj I q (by simp))
  |int j=>obtain⟨t',rfl⟩:=ry;exact PySem.EqMixed.ne_str_int (zj I q (by simp))
  |str j=>obtain⟨t',rfl⟩:=ry;exact ne_str (zj I q (congrArg not qib))
  |_=>exact absurd (show false=true from hs) ϋ
 |byt i=>
  obtain⟨t,rfl⟩:=rx;cases y with
  |byt j=>obtain⟨t',rfl⟩:=ry;exact PySem.W.ne_bytes (zj I q (congrArg not qic))
  |_=>exact absurd (show false=true from hs) ϋ
 |_=>cases y<;>exact absurd (show false=true from hs) ϋ
theorem qf3:OpR X (compareOp .Lt) (rI0 fun i j=>.bl (decide (i<j))):=qiO fun _ _ _ _ _ _ _ q=>lt_int q
theorem qcJ:OpR X (compareOp .LtE) (rI0 fun i j=>.bl (decide (i<=j))):=qiO fun _ _ _ _ _ _ _ q=>le_int q
theorem JR:OpR X (compareOp .Gt) (rI0 fun i j=>.bl (decide (j<i))):=qiO fun _ _ _ _ _ _ _ q=>gt_int q
theorem qo8:OpR X (compareOp .GtE) (rI0 fun i j=>.bl (decide (j<=i))):=qiO fun _ _ _ _ _ _ _ q=>ge_int q
theorem qX(b:Expr){op:CmpOp}(h:op≠.In:=by decide)(h2:op≠.NotIn:=by decide):behindInMarks op b=false:=by
 have e1:(op==CmpOp.In)=false:=by cases op<;>first|rfl|exact absurd rfl h
 have e2:(op==CmpOp.NotIn)=false:=by cases op<;>first|rfl|exact absurd rfl h2
 cases b<;>simp[behindInMarks,e1,e2]
theorem qem{op:CmpOp}{r:R2}(ho:OpR X (compareOp op) r)(ha:PE X a ta)(hb:PE X b tb)(hm:behindInMarks op b=false):PE X (.Compare a [op] [b] pos) (tOp r ta tb):=by intro pins s σ H Q I h;exact wpAny_Compare1 (qlv ha hb I h fun v u s2 x y H2 I2 rx ry q=>ho pins s2 σ H2 x y v u Q I2 rx ry q) hm
def qdz(t:TE):TT:=fun σ H Q=>t σ H fun x H'=>∃k,x=.bl k/\Q k H'
theorem qK{op:CmpOp}{r:R2}(ho:OpR X (compareOp op) r)(ha:PE X a ta)(hb:PE X b tb)(hm:behindInMarks op b=false):PT X (.Compare a [op] [b] pos) (qdz (tOp r ta tb)):=by
 intro pins s σ H Q I h
 refine wpAny_isTrue_Compare1 (thn (ha pins s σ H _ I h) fun v s1 ⟨x,H1,I1,r1,q1⟩=>thn (hb pins s1 σ H1 _ I1 q1) fun u s2 ⟨y,H2,I2,r2,q2⟩=>
  thn (ho pins s2 σ H2 x y v u _ I2 r1 r2 q2) fun c s3 ⟨z,H3,I3,r3,k,e,q3⟩=>?_) hm
 subst e;cases r3;exact wpAny_truthy_bool ⟨H3,I3,q3⟩
def qgi(r r':R2)(ta tb tc:TE):TE:=fun σ H Q=>ta σ H fun x H1=>tb σ H1 fun y H2=>r x y H2 fun z H3=>∃k,z=.bl k /\
 (if k=true then tc σ H3 fun w' H4=>r' y w' H4 Q else Q (.bl false) H3)
theorem qdf{op op':CmpOp}{r r':R2}(ho:OpR X (compareOp op) r)(ho':OpR X (compareOp op') r')(ha:PE X a ta)(hb:PE X b tb)(hc:PE X c tc)
  (hm:lastMarks [op,op'] [b,c]=false:=by with_unfolding_all rfl):PE X (.Compare a [op,op'] [b,c] pos) (qgi r r' ta tb tc):=by
 intro pins s σ H Q I h
 refine Compare_chain (thn (ha pins s σ H _ I h) fun v s1 ⟨x,H1,I1,r1,q1⟩=>chain_link (thn (hb pins s1 σ H1 _ I1 q1) fun u s2 ⟨y,H2,I2,r2,q2⟩=>
  thn (ho pins s2 σ H2 x y v u _ I2 r1 r2 q2) fun d s3 ⟨z,H3,I3,r3,k,e,q3⟩=>?_)) hm
 subst e;cases r3;refine wpAny_truthy_bool ?_;cases k with
 |false=>exact ite_ff ⟨.bl false,H3,I3,rfl,q3⟩
 |true=>exact ite_tt (chain_last (thn (hc pins s3 σ H3 _ I3 q3) fun w' s4 ⟨z',H4,I4,r4,q4⟩=>ho' pins s4 σ H4 y z' u w' Q I4 r2 r4 q4))
def qn5(K:γ)(x:V)(H:Hp)(k:Bool):Prop :=
 match x with
 | .non=>k=false
 | .bl b=>k=b
 | .int i=>k=(i != 0)
 | .str y=>y.length<=Λ/\k=((y.length:Int) != 0)
 | .byt y=>y.size<=Λ/\k=((y.size:Int) != 0)
 | .ref p=>(∃xs,SqL K H p xs/\k=!xs.isEmpty)\/(∃xs,SqT K H p xs/\k=!xs.isEmpty)\/∃kvs,H p=some (.dK kvs)/\k=!kvs.isEmpty
 |_=>False
theorem qiP{κ:Type}{kvs:List (κ×V)}{vs:List (κ×Value)}(r:KV kvs vs):(!vs.isEmpty)=!kvs.isEmpty:=by cases r<;>rfl
theorem qdA{xs:List V}{its:List Value}(r:qD xs its):(!its.toArray.isEmpty)=!xs.isEmpty:=by cases r<;>simp
theorem qdB:(sizeLine:Nat)<2 ^ 63:=by rw[sizeLine_eq];decide
theorem qn6:qpu X (fun x H Q=>∃k,qn5 X.K x H k/\Q k H):=by
 intro pins s σ H x v Q I rx h;obtain⟨k,e,q⟩:=h;have hl:=qdB;have hs:Λ=16777216:=sizeLine_eq;cases x with
 |non=>cases rx;have e':k=false:=e;subst e';exact truthy_none ⟨H,I,q⟩
 |bl b=>cases rx;have e':k=b:=e;subst e';exact wpAny_truthy_bool ⟨H,I,q⟩
 |int i=>obtain⟨t,rfl⟩:=rx;have e':k=(i != 0):=e;subst e';exact PySem.P.truthy_int ⟨H,I,q⟩
 |str y=>obtain⟨t,rfl⟩:=rx;obtain⟨hy,e'⟩:y.length<=Λ/\k=((y.length:Int) != 0):=e;subst e';exact PySem.P.truthy_str (by omega) ⟨H,I.tok _,q⟩
 |byt y=>obtain⟨t,rfl⟩:=rx;obtain⟨hy,e'⟩:y.size<=Λ/\k=((y.size:Int) != 0):=e;subst e';exact PySem.W.truthy_bytes (by omega) ⟨H,I.tok _,q⟩
 |ref p=>
  cases rx;have e':(∃xs,SqL X.K H p xs/\k=!xs.isEmpty)\/(∃xs,SqT X.K H p xs/\k=!xs.isEmpty)\/∃kvs,H p=some (.dK kvs)/\k=!kvs.isEmpty:=e;rcases e' with⟨xs,hx,e'⟩|⟨xs,hx,e'⟩|⟨kvs,hx,e'⟩
  ·subst e';obtain⟨its,r,pl,hz⟩:=I.list hx;have hlen:=r.length;exact wpAny_truthy_list pl.isList (by simp only[ύ];omega) ⟨H,I.tok _,by rw[qdA r];exact q⟩
  ·subst e';obtain⟨its,r,pl,hz⟩:=I.tuple hx;have hlen:=r.length;exact truthy_tuple pl (by simp only[ύ];omega) ⟨H,I.tok _,by rw[qdA r];exact q⟩
  ·subst e';obtain⟨hz,hS,vs,r,m⟩:kvs.length<=Λ/\(p==sysModules)=false/\∃vs,KV kvs vs/\s.heap.DictOf (zZ X.prog X.w) p vs:=I.hok p _ hx;have hlen:kvs.length=vs.length:=Paired.length r;exact wpAny_truthy_dict hS m (by omega) ⟨H,I.tok _,by rw[qiP r];exact q⟩
 |_=>exact(show False from e).elim
theorem Q6(ha:PE X a ta)(he:∀whole,isTrue a X.env whole=(do let v <- whole;standAt a.pos;holding [v] (truthy v))):
  PT X a (fun σ H Q=>ta σ H fun x H'=>∃k,qn5 X.K x H' k/\Q k H'):=by
 intro pins s σ H Q I h;exact isTrue_plain (thn (ha pins s σ H _ I h) fun v s1 ⟨x,H1,I1,r1,q1⟩=>qn6 pins s1 σ H1 x v Q I1 r1 q1) (he _)
theorem vals1{x:V}{us:List Value}(r:qD [x] us):∃u,us=[u]/\RelV x u:=by
 cases r with
 |cons r1 r2=>cases r2;exact⟨_,rfl,r1⟩
theorem qlw:qcI X (.builtin "ord") (fun xs H Q=>∃x,xs=[.str x]/\x.length=1/\Q (.int (x.cps.getD 0 0:Nat)) H):=by intro pins s σ H xs us Q I r h;obtain⟨x,rfl,hz,q⟩:=h;obtain⟨u,rfl,t,rfl⟩:=vals1 r;exact ord_of_one hz ⟨.int _,H,I.tok _,⟨_,rfl⟩,q⟩
end
structure qdg(h:Heap)(x dx C:Addr)(mA:Str->Option Value):Prop where
 obj:h.get? x=some (Ych C dx)
 ns:h.Ns1 dx mA
 ne:dx≠x
theorem qe5{h:Heap}{dx:Addr}{mA:Str->Option Value}(n:h.Ns1 dx mA):∃od,h.get? dx=some od/\∀name,Yde name od=some (mA name):=by
 obtain⟨o,es,ep,ho,hd,hk,_,hm⟩:=n;refine⟨o,ho,fun name=>?_⟩;have e:=hm name;unfold nsFind findBy at e;rw[<- Array.find?_toList]at e;unfold Yde;rw[hd];dsimp only
 split
 ·rename_i y q;rw[q]at e;exact congrArg some e
 ·rename_i q;rw[q]at e;have a:es.toList.any (·.refKey)=false:=by rw[List.any_eq_false];intro y hy;obtain⟨z,t,hkey⟩:=hk y (YdH.mp hy);simp[DictEntry.refKey,hkey]
  have a':¬es.toList.any (·.refKey)=true:=by rw[a];exact ϋ
  rw[if_neg a'];exact congrArg some e
theorem qdg.look {h:Heap} {x dx C:Addr} {mA:Str->Option Value} (I:qdg h x dx C mA):∃od,PySem.W.InstAt h x (Ych C dx) C (some od)/\∀name,Yde name od=some (mA name) :=
 let⟨od,ho,hl⟩:=qe5 I.ns
 ⟨od,⟨I.obj,rfl,rfl,ho⟩,hl⟩
section
variable{prog:Program}{w:World}{A:Around}{E:Value->Shared->Prop}{s:Shared}{K:γ}{x dx C f:Addr}{mA:Str->Option Value}{name:Str}{v:Value}
theorem qm1{expr:Bool}{Q:Value->Shared->Prop}(X:K.In s.heap)(I:qdg s.heap x dx C mA)(hg:Yb4 K C name=true)(hh:Yb6 K C=true)
  (ha:δ K (.ref C) name=some none) (hv:mA name=some v) (hv':PySem.W.handedIn v=true) (h:Q v {s with toks:=s.toks+1}):
  wpAny (model prog w) A (getAttr (.ref x) name expr) Q E s:=by
 obtain⟨od,J,hl⟩:=I.look;exact PySem.W.get_value X J (Yc6 hg).1 (YdJ hh ha rfl (by rw[hl,hv])) hv' h
theorem qlx{pl:Sem Bool}{Q:Value×List Value->Shared->Prop}(X:K.In s.heap)(I:qdg s.heap x dx C mA)(hg:Yb4 K C name=true)
  (hf:δ K (.ref C) name=some (some (.ref f))) (ht:Ybj K (.ref f)=true) (hv:mA name=none) (h:Q (.ref f,[.ref x]) s):
  wpAny (model prog w) A (getMethod (.ref x) name pl) Q E s:=by
 obtain⟨od,J,hl⟩:=I.look;exact PySem.W.method_fn X J (Yc6 hg).1 (Yc6 hg).2 hf (beq_iff_eq.mp ht) (by show(Yde name od).map (·.isSome)=some false;rw[hl,hv];rfl) h
theorem qm2{ns:List Str}{Q:Unit->Shared->Prop}(X:K.In s.heap)(I:qdg s.heap x dx C mA)
  (hs:δ K (.ref C) "__setattr__"=some (some (.builtin "object.__setattr__"))) (hp:Ycf K C=true) (ht:YdB K C name=some none) (hh:Yb6 K C=true)
  (hw:PySem.Within mA ns) (hsz:ns.length<=Λ)
  (h:∀h',qdg h' x dx C (fun y=>if y=name then some v else mA y)->Ycu dx s.heap h'->Q () {s with heap:=h',toks:=s.toks+2}):
  wpAny (model prog w) A (setAttr (.ref x) name v) Q E s:=by
 obtain⟨od,J,hl⟩:=I.look;refine Ydo X J hs (PySem.W.osa_open (s:={s with toks:=s.toks+1}) (r:=none) X J hp ht fun b=>?_);obtain⟨cd,hc,hd'⟩:=PySem.W.any_some hh;have hx:s.heap.get? x=some ⟨.ref C,some dx,.plain,#[]⟩:=I.obj;refine ε (Φ (ε (ε (wpAny_loadPart hx (ε (YdL.here (s:={s with toks:=s.toks+1}) (PySem.W.looks_clsIn X hc) ?_))))));rw[hd'];refine Φ (a:=some dx) (ε (Φ (ε ?_)));refine wpAny_nsSet1 (s:={s with toks:=s.toks+1}) I.ns fun h' hn2 hs2=>?_;obtain⟨oD,esD,epD,hoD,hdD,hcD⟩:=hn2.count (PySem.Within.cons name v hw);refine ε (wpAny_lookBehind hoD (by rw[hdD];exact pastItsLine_dict (Ybx hcD (by rw[ξ];omega))) ?_);exact Φ (h _ ⟨(hs2.2 _ (Ne.symm I.ne)).trans I.obj,hn2,I.ne⟩ hs2)
theorem qly{R:Result->Shared->Prop}{vs:List Value}{kw:List (Str×Value)}(X:K.In s.heap)(hm:Ycr K C=true)
  (hi:δ K (.ref C) "__init__"=some (some (.ref f))) (hf:PySem.W.typeIn K (.ref f)=some (.type "function"))
  (h:codeAny (model prog w) (A.under (.builtin "type.__call__" ⟨.ref C::vs,kw⟩)) (.call (.ref f) ⟨.ref (s.heap.objs.size+1)::vs,kw⟩) (PySem.W.InitBack (s.heap.objs.size+1) R)
   {s with heap:=(s.heap.push Yb1).push (Ych C s.heap.objs.size)}):
  codeAny (model prog w) A (.call (.ref C) ⟨vs,kw⟩) R s:=by
 obtain⟨hh,g,d,t,os⟩:=s;exact PySem.W.make_core (PySem.W.makes_of X hm) (Yc2 X hi) (fun self=>PySem.W.bind_fn X self hf) (.inl rfl) h
end
noncomputable def zd(f:Str)(v:V):List (Str×V)->List (Str×V)
 |[]=>[(f,v)]
 |(g,x)::r=>if g=f then(g,v)::r else(g,x)::zd f v r
theorem qap(f g:Str)(v:V):∀fs:List (Str×V),(zd f v fs).lookup g=if g=f then some v else fs.lookup g
 |[]=>by
  show YcD g [(f,v)]=_;by_cases h:g=f
  ·have hb:(g==f)=true:=beq_iff_eq.mpr h;simp only[YcD,hb,if_pos h]
  ·have hb:(g==f)=false:=beq_eq_false_iff_ne.mpr h;simp only[YcD,hb,if_neg h]
 |(k,x)::r=>by
  have ih:=qap f g v r;rw[show zd f v ((k,x)::r)=(if k=f then(k,v)::r else(k,x)::zd f v r)from rfl];by_cases hk:k=f
  ·rw[if_pos hk];by_cases h:g=k
   ·have hb:(g==k)=true:=beq_iff_eq.mpr h;simp only[YcD,hb,if_pos (h.trans hk)]
   ·have hb:(g==k)=false:=beq_eq_false_iff_ne.mpr h;simp only[YcD,hb,if_neg (fun e:g=f=>h (e.trans hk.symm))]
  ·rw[if_neg hk];by_cases h:g=k
   ·have hb:(g==k)=true:=beq_iff_eq.mpr h;simp only[YcD,hb,if_neg (fun e:g=f=>hk (h.symm.trans e))]
   ·have hb:(g==k)=false:=beq_eq_false_iff_ne.mpr h;simp only[YcD,hb];exact ih
theorem JF(f:Str)(v:V):∀fs:List (Str×V),f∈(zd f v fs).map (·.1)/\∀g,g∈fs.map (·.1)->g∈(zd f v fs).map (·.1)
 |[]=>⟨by simp[zd],fun g h=>by simp at h⟩
 |(k,x)::r=>by
  obtain⟨i1,i2⟩:=JF f v r;rw[show zd f v ((k,x)::r)=(if k=f then(k,v)::r else(k,x)::zd f v r)from rfl];by_cases hk:k=f
  ·rw[if_pos hk];subst hk;exact⟨by simp,fun g h=>by simpa using h⟩
  ·rw[if_neg hk];refine⟨?_,fun g h=>?_⟩
   ·rw[Ybp];exact ρ _ i1
   ·rw[Ybp]at h ⊢;rcases Γ.mp h with e|e
    ·exact Γ.mpr (.inl e)
    ·exact ρ _ (i2 g e)
theorem qc4(f:Str)(v:V):∀fs:List (Str×V),(zd f v fs).length<=fs.length+1
 |[]=>by simp[zd]
 |(k,x)::r=>by
  have ih:=qc4 f v r;rw[show zd f v ((k,x)::r)=(if k=f then(k,v)::r else(k,x)::zd f v r)from rfl];by_cases hk:k=f
  ·rw[if_pos hk,ξ,ξ];omega
  ·rw[if_neg hk,ξ,ξ];omega
theorem j6.some_of {v:V} {o:Option Value} (r:j6 (some v) o):∃u,o=some u/\RelV v u:=by
 cases o with
 |none=>exact(show False from r).elim
 |some u=>exact⟨u,rfl,r⟩
theorem j6.none_of {o:Option Value} (r:j6 none o):o=none:=by
 cases o with
 |none=>rfl
 |some u=>exact(show False from r).elim
theorem qe6{v:V}{u:Value}(r:RelV v u):PySem.W.handedIn u=true:=by
 cases v with
 |non=>cases (show u=Value.none from r);rfl
 |bl b=>cases (show u=Value.bool b from r);rfl
 |int i=>obtain⟨t,e⟩:=(show ∃t,u=Value.int i t from r);cases e;rfl
 |str x=>obtain⟨t,e⟩:=(show ∃t,u=Value.str x t from r);cases e;rfl
 |byt b=>obtain⟨t,e⟩:=(show ∃t,u=Value.bytes b t from r);cases e;rfl
 |flt b=>obtain⟨t,e⟩:=(show ∃t,u=Value.float b t from r);cases e;rfl
 |ref a=>cases (show u=Value.ref a from r);rfl
 |ty n=>cases (show u=Value.type n from r);rfl
section
variable{P:Program}{w:World}{H H':Hp}{h h':Heap}{a C dx:Addr}{fs fs':List (Str×V)}
theorem qcK(hok:HOk P w H h)(e:H a=some (.ins C dx fs)):∃mA,qdg h a dx C mA/\(∀f,j6 (fs.lookup f) (mA f))/\PySem.Within mA (fs.map (·.1))/\fs.length<=1000/\H dx=some (.own a):=by obtain⟨d,z,ne,ob,mA,n,r,q⟩:=(show zo P w H h a (.ins C dx fs)from hok a _ e);exact⟨mA,⟨ob,n,ne⟩,r,q,z,d⟩
end
structure Cls(K:γ)(C:Addr):Prop where
 pg:Yb4 K C Ydv=true
 hd:Yb6 K C=true
 po:Ycf K C=true
 sa:δ K (.ref C) "__setattr__"=some (some (.builtin "object.__setattr__"))
theorem Cls.get {K:γ} {C:Addr} (c:Cls K C) (f:Str):Yb4 K C f=true:=c.pg
def qv(K:γ)(C:Addr)(f:Str):Prop:=δ K (.ref C) f=some none
theorem qv.taker {K:γ} {C:Addr} {f:Str} (n:qv K C f):YdB K C f=some none:=by unfold YdB;rw[show δ K (.ref C) f=some none from n];rfl
structure qiQ(K:γ)(C:Addr)(m:Str)(f:Addr):Prop where
 at_:δ K (.ref C) m=some (some (.ref f))
 fn:Ybj K (.ref f)=true
 kp:ζ K (.ref f)=true
section
variable{X:Cx}{pins:List (Addr×Obj)}{σ:St}{H:Hp}{s:Shared}{a C dx:Addr}{fs:List (Str×V)}{f:Str}{v:V}{A:Around}{E:Value->Shared->Prop}
theorem qdC{b:Bool}{Q:Value->Shared->Prop}(I:Inv X pins σ H s)(e:H a=some (.ins C dx fs))(c:Cls X.K C)(n:qv X.K C f)(l:fs.lookup f=some v)
  (h:∀u s',Inv X pins σ H s'->RelV v u->Q u s'):wpAny (model X.prog X.w) A (getAttr (.ref a) f b) Q E s:=by
 obtain⟨mA,O,r,_,_,_⟩:=qcK I.hok e;obtain⟨u,hu,ru⟩:=j6.some_of (v:=v) (o:=mA f) (by rw[<- l];exact r f);exact qm1 I.kIn O (c.get f) c.hd n hu (qe6 ru) (h u _ (I.tok _) ru)
theorem qdD{m:Str}{g:Addr}{pl:Sem Bool}{Q:Value×List Value->Shared->Prop}(I:Inv X pins σ H s)(e:H a=some (.ins C dx fs))(c:Cls X.K C)(k:qiQ X.K C m g)(l:fs.lookup m=none)
  (h:Q (.ref g,[.ref a]) s):wpAny (model X.prog X.w) A (getMethod (.ref a) m pl) Q E s:=by
 obtain⟨mA,O,r,_,_,_⟩:=qcK I.hok e;have hn:mA m=none:=j6.none_of (by rw[<- l];exact r m);exact qlx I.kIn O (c.get m) k.at_ k.fn hn h
theorem qdE{y:V}{u:Value}{Q:Unit->Shared->Prop}(I:Inv X pins σ H s)(e:H a=some (.ins C dx fs))(c:Cls X.K C)(n:qv X.K C f)(hl:fs.length<1000)(ry:RelV y u)
  (h:∀s',Inv X pins σ (upd H a (.ins C dx (zd f y fs))) s'->Q () s'):wpAny (model X.prog X.w) A (setAttr (.ref a) f u) Q E s:=by
 obtain⟨mA,O,r,wi,_,ho⟩:=qcK I.hok e;have hz:(fs.map (·.1)).length<=Λ:=by rw[τ,sizeLine_eq];omega
 refine qm2 I.kIn O c.sa c.po n.taker c.hd wi hz fun h' O' sb=>h _ ?_;have hd:∃o,h'.get? dx=some o:=let⟨o,_,_,e',_⟩:=O'.ns;⟨o,e'⟩
 refine I.write (x:=a) (e:=dx) (by rw[e];exact True.intro) (.inr ho) (fun b q hb z=>(sb.2 b hb).trans z) hd ?_;refine⟨by rw[qd O.ne];exact ho,?_,O.ne,O'.obj,_,O'.ns,fun g=>?_,fun g hg=>?_⟩
 ·have:=qc4 f y fs;omega
 ·show j6 ((zd f y fs).lookup g) (if g=f then some u else mA g);rw[qap];by_cases q:g=f
  ·rw[if_pos q,if_pos q];exact ry
  ·rw[if_neg q,if_neg q];exact r g
 ·by_cases q:g=f
  ·rw[q];exact(JF f y fs).1
  ·refine(JF f y fs).2 g (wi g fun z=>hg ?_);show(if g=f then some u else mA g)=none;rw[if_neg q];exact z
theorem Inv.made (I:Inv X pins σ H s):Inv X pins σ (upd (upd H s.heap.objs.size (.own (s.heap.objs.size+1))) (s.heap.objs.size+1) (.ins C s.heap.objs.size []))
  {s with heap:=(s.heap.push Yb1).push (Ych C s.heap.objs.size)}:=by
 have e1:(s.heap.push Yb1).get? s.heap.objs.size=some Yb1:=Ybk s.heap rfl
 have e2:((s.heap.push Yb1).push (Ych C s.heap.objs.size)).get? (s.heap.objs.size+1)=some (Ych C s.heap.objs.size):=by
  have:=Ybk (s.heap.push Yb1) (o:=Ych C s.heap.objs.size) rfl
  rwa [YbM]at this
 have e3:(s.heap.push Yb1).Ns s.heap.objs.size (fun _=>none):=⟨Yb1,#[],_,e1,rfl,(fun e he=>absurd he (by simp)),fun _=>rfl⟩;have I1:=I.laid (a:=s.heap.objs.size) (o:=.own (s.heap.objs.size+1)) (h':=s.heap.push Yb1) (t':=s.toks) (fun b u q=>ψ _ q) (ω _) ⟨_,e1⟩;refine I1.laid (a:=s.heap.objs.size+1) (o:=.ins C s.heap.objs.size []) (t':=s.toks) (fun b u q=>ψ _ q) (YcT (YbM _ _)) ?_;have ne:s.heap.objs.size≠s.heap.objs.size+1:=Ybr (YbE _);refine⟨by rw[qd ne,qc],ό _,ne,e2,fun _=>none,(Heap.Ns1.of_empty e3).at fun o q=>ψ _ q,fun _=>True.intro,fun y hy=>absurd rfl hy⟩
theorem qid{prog:Program}{w:World}{env:Env}{e:Expr}{f:Str}{pos:Pos}{s:Shared}{Q:Value->Shared->Prop}(hb:attributeBase e f env (eval e env)=eval e env)
  (h:wpAny (model prog w) A (eval e env) (fun o s₁=>wpAny (model prog w) A (getAttr o f true) Q E s₁) E s):wpAny (model prog w) A (eval (.Attribute e f pos) env) Q E s :=
 Attribute_any_ h (by rw[arm_eval_Attribute,hb])
end
def qaq(K:γ)(ta:TE)(f:Str):TE:=fun σ H Q=>ta σ H fun x H1=>∃a C dx fs v,x=.ref a/\H1 a=some (.ins C dx fs)/\Cls K C/\qv K C f/\fs.lookup f=some v/\Q v H1
def qpv(K:γ)(ta tv:TE)(f:Str):TS:=fun D σ H=>tv σ H fun y H1=>ta σ H1 fun x H2=>∃a C dx fs,x=.ref a/\H2 a=some (.ins C dx fs)/\Cls K C/\qv K C f/\fs.length<1000 /\
 D.nx σ (upd H2 a (.ins C dx (zd f y fs)))
def qlz(X:Cx)(op:Operator)(rd:V->V->Hp->VK->Prop):Prop :=∀(pins:List (Addr×Obj))(s:Shared)(σ:St)(H:Hp)(x y:V)(u v:Value)(Q:VK),Inv X pins σ H s->RelV x u->RelV y v->rd x y H Q->wpAny (model X.prog X.w) X.A (inplaceOp op u v) (EP X pins σ Q) X.xe s
def qm3(K:γ)(ta tv:TE)(rd:V->V->Hp->VK->Prop)(f:Str):TS:=fun D σ H=>ta σ H fun x H1=>∃a C dx fs v,x=.ref a/\H1 a=some (.ins C dx fs)/\Cls K C/\qv K C f/\fs.lookup f=some v /\
 tv σ H1 fun y H2=>rd v y H2 fun z H3=>∃dx' fs',H3 a=some (.ins C dx' fs')/\fs'.length<1000/\D.nx σ (upd H3 a (.ins C dx' (zd f z fs')))
section
variable{X:Cx}{o e value:Expr}{f:Str}{pos pos' tpos:Pos}{ta tv:TE}
theorem qj(he:PE X e ta)(hb:attributeBase e f X.env (eval e X.env)=eval e X.env):PE X (.Attribute e f pos) (qaq X.K ta f):=by intro pins s σ H Q I h;refine qid hb (thn (he pins s σ H _ I h) fun u s1 ⟨x,H1,I1,rx,a,C,dx,fs,v,ex,ea,c,n,l,q⟩=>?_);subst ex;obtain rfl:u=Value.ref a:=rx;exact qdC I1 ea c n l fun u' s2 I2 ru=>⟨v,H1,I2,ru,q⟩
theorem zA(ha:PE X o ta)(hv:PE X value tv)(hs:swapsWith value (some (.Attribute o f pos')) pos.line X.env=pure false):PS X (.Assign [.Attribute o f pos'] value pos) (qpv X.K ta tv f):=by intro pins s σ H D I h;refine plainObj_wpAny_Assign_Attribute (thn (hv pins s σ H _ I h) fun u s1 ⟨y,H1,I1,ry,q⟩=>thn (ha pins s1 σ H1 _ I1 q) fun ov s2 ⟨x,H2,I2,rx,a,C,dx,fs,ex,ea,c,n,l,q2⟩=>?_) hs;subst ex;obtain rfl:ov=Value.ref a:=rx;exact qdE I2 ea c n l ry fun s3 I3=>⟨σ,_,I3,q2⟩
theorem QC{op:Operator}{rd:V->V->Hp->VK->Prop}(ha:PE X o ta)(hv:PE X value tv)(hop:qlz X op rd):PS X (.AugAssign (.Attribute o f tpos) op value pos) (qm3 X.K ta tv rd f):=by intro pins s σ H D I h;refine wpAny_AugAssign_AttributeAny (thn (ha pins s σ H _ I h) fun ov s1 ⟨x,H1,I1,rx,a,C,dx,fs,v,ex,ea,c,n,l,q⟩=>?_);subst ex;obtain rfl:ov=Value.ref a:=rx;refine qdC I1 ea c n l fun u s2 I2 ru=>thn (hv pins s2 σ H1 _ I2 q) fun w3 s3 ⟨y,H2,I3,ry,q3⟩=>thn (hop pins s3 σ H2 v y u w3 _ I3 ru ry q3) fun w4 s4 ⟨z,H3,I4,rz,dx',fs',ea',l',q4⟩=>?_;exact qdE I4 ea' c n l' rz fun s5 I5=>⟨σ,_,I5,q4⟩
def qpw:V->V->Hp->VK->Prop:=fun x y H Q=>∃i j,x=.int i/\y=.int j/\Q (.int (i+j)) H
def qpx:V->V->Hp->VK->Prop:=fun x y H Q=>∃i j,x=.int i/\y=.int j/\Q (.int (i - j)) H
theorem J4:qlz X .Add qpw:=by rintro pins s σ H x y u v Q I rx ry ⟨i,j,rfl,rfl,q⟩;obtain⟨t,rfl⟩:=(show ∃t,u=Value.int i t from rx);obtain⟨t',rfl⟩:=(show ∃t',v=Value.int j t' from ry);exact PyProof.Rows.iadd_int ⟨.int (i+j),H,I.tok _,⟨_,rfl⟩,q⟩
theorem qn7:qlz X .Sub qpx:=by rintro pins s σ H x y u v Q I rx ry ⟨i,j,rfl,rfl,q⟩;obtain⟨t,rfl⟩:=(show ∃t,u=Value.int i t from rx);obtain⟨t',rfl⟩:=(show ∃t',v=Value.int j t' from ry);exact PyProof.Rows.isub_int ⟨.int (i - j),H,I.tok _,⟨_,rfl⟩,q⟩
end
section
variable{X:Cx}{pins:List (Addr×Obj)}{σ:St}{H:Hp}{s:Shared}{A:Around}{E:Value->Shared->Prop}{Q:Value->Shared->Prop}{c:Value}{b:Bool}
inductive Jg(K:γ)(H:Hp):V->Value->Prop where
 |non:Jg K H .non (.type "NoneType")
 |bl (x:Bool):Jg K H (.bl x) (.type "bool")
 |int (i:Int):Jg K H (.int i) (.type "int")
 |str (x:Str):Jg K H (.str x) (.type "str")
 |flt (x:UInt64):Jg K H (.flt x) (.type "float")
 |lst {a:Addr} {xs:List V} (e:H a=some (.lst xs)):Jg K H (.ref a) (.type "list")
 |frz {a:Addr} {o:Obj} {xs:List V} (e:H a=some (.frz o (.lst xs))):Jg K H (.ref a) (.type "list")
 |tup {a:Addr} {xs:List V} (e:H a=some (.tup xs)):Jg K H (.ref a) (.type "tuple")
 |dK {a:Addr} {kvs:List (Key×V)} (e:H a=some (.dK kvs)):Jg K H (.ref a) (.type "dict")
 |dT {a:Addr} {kvs:List (List Key×V)} (e:H a=some (.dT kvs)):Jg K H (.ref a) (.type "dict")
 |ins {a C dx:Addr} {fs:List (Str×V)} (e:H a=some (.ins C dx fs)) (cl:Cls K C) (ha:δ K (.ref C) "__class__"=some (some (.builtin "object.__class__")))
   (hn:YcC K (.builtin "object.__class__") "__get__"=some (some (.builtin "getset_descriptor.__get__"))) (htk:YdC K (.builtin "object.__class__")=some true)
   (hm:Ydt K C (.type "object")=some true):Jg K H (.ref a) (.ref C)
theorem qjY{x:V}{u t:Value}(I:Inv X pins σ H s)(rx:RelV x u)(ty:Jg X.K H x t)(e:YbV X.K t c=some b)(h:∀tk,Q (.bool b) {s with toks:=tk}):
  wpAny (model X.prog X.w) A (call (.builtin "isinstance") [u,c]) Q E s:=by
 cases ty with
 |non=>cases (show u=Value.none from rx);exact YbW PySem.W.kitx_none I.kIn True.intro e (fun z=>nomatch z) h
 |bl y=>cases (show u=Value.bool y from rx);exact YbW PySem.W.kitx_bool I.kIn True.intro e (fun z=>nomatch z) h
 |int i=>obtain⟨t,q⟩:=(show ∃t,u=Value.int i t from rx);cases q;exact YbW PySem.W.kitx_int I.kIn True.intro e (fun z=>nomatch z) h
 |str y=>obtain⟨t,q⟩:=(show ∃t,u=Value.str y t from rx);cases q;exact YbW PySem.W.kitx_str I.kIn True.intro e (fun z=>nomatch z) h
 |flt y=>obtain⟨t,q⟩:=(show ∃t,u=Value.float y t from rx);cases q;exact YbW PySem.W.kitx_float I.kIn True.intro e (fun z=>nomatch z) h
 | @lst a xs ea=>cases (show u=Value.ref a from rx);obtain⟨_,_,n,_,h1⟩:=(show zo X.prog X.w H s.heap a (.lst xs)from I.hok a _ ea);exact YbW YdV I.kIn ⟨_,h1,rfl⟩ e (fun z=>nomatch z) h
 | @frz a ob xs ea=>cases (show u=Value.ref a from rx);obtain⟨_,_,_,n,_,h1⟩:=(show zo X.prog X.w H s.heap a (.frz ob (.lst xs))from I.hok a _ ea);exact YbW YdV I.kIn ⟨_,h1,rfl⟩ e (fun z=>nomatch z) h
 | @tup a xs ea=>cases (show u=Value.ref a from rx);obtain⟨_,_,_,p⟩:=(show zo X.prog X.w H s.heap a (.tup xs)from I.hok a _ ea);obtain⟨o,h1,h2,_⟩:=p;exact YbW PySem.W.kitx_tuple I.kIn ⟨o,h1,h2⟩ e (fun z=>nomatch z) h
 | @dK a kvs ea=>cases (show u=Value.ref a from rx);obtain⟨_,_,vs,_,p⟩:=(show zo X.prog X.w H s.heap a (.dK kvs)from I.hok a _ ea);obtain⟨o,es,ep,h1,h2,_⟩:=p;exact YbW YdW I.kIn ⟨o,h1,h2.1⟩ e (fun z=>nomatch z) h
 | @dT a kvs ea=>cases (show u=Value.ref a from rx);obtain⟨_,_,xs,_,o,es,ep,h1,h2,_⟩:=(show zo X.prog X.w H s.heap a (.dT kvs)from I.hok a _ ea);exact YbW YdW I.kIn ⟨o,h1,h2.1⟩ e (fun z=>nomatch z) h
 | @ins a C dx fs ea cl ha hn htk hm=>cases (show u=Value.ref a from rx);obtain⟨mA,O,_⟩:=qcK I.hok ea;obtain⟨od,J,_⟩:=O.look;exact YbW (PySem.W.kitx_own (cl.get _) cl.hd ha hn htk hm) I.kIn J e (fun z=>nomatch z) h
end
structure qI(k:Nat)(A:Around):Prop where
 hd:A.handled=none
 dp:A.depth+3 * k+5<recursionLimit
 un:A.units+16 * k+200<cLine
theorem qI.mono {j k:Nat} {A:Around} (r:qI k A) (h:j<=k):qI j A:=⟨r.hd,by have:=r.dp;omega,by have:=r.un;omega⟩
theorem qI.deeper {k:Nat} {A:Around} (r:qI (k+1) A) (env:Env):qI k (A.deeper env) :=⟨r.hd,by have:=r.dp;show A.depth+1+3 * k+5<_;omega,by have:=r.un;show A.units+3+16 * k+200<_;omega⟩
theorem qdF{A:Around}{C:Addr}{us:List Value}{kw:List (Str×Value)}:(A.under (.builtin "type.__call__" ⟨.ref C::us,kw⟩)).depth=A.depth+1:=by first|rfl|simp[Around.under,Code.weight,Code.isCreation,Code.isGuard,Code.isCaller,Code.frames,Code.isFrame,guardIds]
theorem qdG{A:Around}{C:Addr}{us:List Value}{kw:List (Str×Value)}:(A.under (.builtin "type.__call__" ⟨.ref C::us,kw⟩)).units=A.units+1:=by first|rfl|simp[Around.under,Code.cUnits,Code.frames,Code.isFrame]
theorem qI.make {k:Nat} {A:Around} (r:qI (k+1) A) (C:Addr) (us:List Value) (kw:List (Str×Value)):qI k (A.under (.builtin "type.__call__" ⟨.ref C::us,kw⟩)) :=⟨r.hd,by have:=r.dp;rw[qdF];omega,by have:=r.un;rw[qdG];omega⟩
theorem qI.depth {k:Nat} {A:Around} (r:qI k A):A.depth<recursionLimit:=by have:=r.dp;omega
theorem qI.units {k:Nat} {A:Around} (r:qI k A):A.units+64<cLine:=by have:=r.un;omega
def jN:TA:=fun _ H Q=>Q [] H
def zO(ta:TE)(tr:TA):TA:=fun σ H Q=>ta σ H fun x H1=>tr σ H1 fun xs H2=>Q (x::xs) H2
section
variable{X:Cx}{e:Expr}{es:List Expr}{te:TE}{t:TA}{pos:Pos}
theorem qh:PA X [] jN:=fun _ _ _ _ H Q I h=>Calls.spliced_nil ⟨[],H,I,.nil,h⟩
theorem qa(ha:PE X e te)(hr:PA X es t)(hs:starEach (e::es) X.env=(false,eval e X.env)::starEach es X.env:=by rfl):PA X (e::es) (zO te t):=by intro pos pins s σ H Q I h;rw[hs];show wpAny _ _ (spliced ((false,eval e X.env)::backTo pos (starEach es X.env))) _ _ s;refine Calls.spliced_cons (thn (ha pins s σ H _ I h) fun u s1 ⟨x,H1,I1,r1,q1⟩=>?_);exact thn (hr pos pins s1 σ H1 _ I1 q1) fun us s2 ⟨xs,H2,I2,r2,q2⟩=>⟨x::xs,H2,I2,.cons r1 r2,q2⟩
def qn8(t:TA):TE:=fun σ H Q=>t σ H fun xs H1=>xs.length<=Λ/\∀p,H1 p=none->Q (.ref p) (upd H1 p (.tup xs))
def qbX(t:TA):TE:=fun σ H Q=>t σ H fun xs H1=>xs.length<=Λ/\∀p,H1 p=none->Q (.ref p) (upd H1 p (.lst xs))
theorem qgj{x1}(h:PA X es t):PE X (.Tuple es x1 pos) (qn8 t):=by intro pins s σ H Q I hq;refine wpAny_Tuple_spliced (thn (h pos pins s σ H _ I hq) fun us s1 ⟨xs,H1,I1,r,z,q⟩=>⟨by rw[<- r.length];exact z,?_⟩);have hf:H1 s1.heap.objs.size=none:=I1.hok.fresh (ω _);refine⟨.ref s1.heap.objs.size,upd H1 s1.heap.objs.size (.tup xs),I1.laid (t':=s1.toks) (fun b u e=>ψ _ e) (ω _) ?_,rfl,q _ hf⟩;exact⟨z,us,r,⟨_,Ybk _ rfl,rfl,_,rfl⟩⟩
theorem za(h:PA X es t):PE X (.List es pos) (qbX t):=by intro pins s σ H Q I hq;refine wpAny_List_spliced (thn (h pos pins s σ H _ I hq) fun us s1 ⟨xs,H1,I1,r,z,q⟩=>⟨by rw[<- r.length];exact z,?_⟩);have hf:H1 s1.heap.objs.size=none:=I1.hok.fresh (ω _);refine⟨.ref s1.heap.objs.size,upd H1 s1.heap.objs.size (.lst xs),I1.laid (t':=s1.toks) (fun b u e=>ψ _ e) (ω _) ?_,rfl,q _ hf⟩;exact⟨z,us,0,r,Ybk _ rfl⟩
end
abbrev Sp:=List V->Hp->VK->XK->Prop
abbrev CXT:=List Env->Hp->Shared->XK->Value->Shared->Prop
structure qa6(P:Program)(w:World)(K:γ)(mg:Str->Option Value)(base:Heap)(A:Around)(outer:List Env)(s:Shared)(H:Hp):Prop where
 frames:A.frames=some outer
 mod:Mod K mg base
 bs:∀b o,base.get? b=some o->s.heap.get? b=some o/\H b=none
 bsz:base.objs.size<=s.heap.objs.size
 funs:s.heap.FunFrames base outer
 frf:∀b∈frs outer,H b=none
 hok:HOk P w H s.heap
 bare:AllBare s.gens
def CE(outer:List Env)(P:Program)(w:World)(H:Hp)(s:Shared)(Q:VK)(u:Value)(s':Shared):Prop :=∃v H',s'.os=s.os/\AllBare s'.gens/\Un (frs outer) [] H H' s.heap s'.heap/\HOk P w H' s'.heap/\RelV v u/\Q v H'
def CR(CX:CXT)(outer:List Env)(P:Program)(w:World)(H:Hp)(s:Shared)(Q:VK)(E:XK)(r:Result)(s':Shared):Prop :=
 match r with
 | .ok (.ret u)=>CE outer P w H s Q u s'
 | .ok _=>False
 | .error e=>CX outer H s E e s'
structure qw(P:Program)(w:World)(K:γ)(mg:Str->Option Value)(base:Heap)(CX:CXT)(k:Nat)(f:Addr)(fd:FuncData)(ps:List Str)(sp:Sp):Prop where
 len:∀vs H Q E,sp vs H Q E->vs.length=ps.length
 run:∀(A:Around)(outer:List Env)(s:Shared)(H:Hp)(args:Args)(us:List Value)(vs:List V)(Q:VK)(E:XK),qI k A->qa6 P w K mg base A outer s H->BindsTo s fd args (ps.zip us)->qD vs us->sp vs H Q E ->
  codeAny (model P w) A (.call (.ref f) args) (CR CX outer P w H s Q E) s
theorem qw.mono {P:Program} {w:World} {K:γ} {mg:Str->Option Value} {base:Heap} {CX:CXT} {j k:Nat} {f:Addr} {fd:FuncData} {ps:List Str} {sp:Sp} (F:qw P w K mg base CX j f fd ps sp) (h:j<=k):
  qw P w K mg base CX k f fd ps sp:=⟨F.len,fun A outer s H args us vs Q E hr=>F.run A outer s H args us vs Q E (hr.mono h)⟩
theorem qa6.make {P:Program} {w:World} {K:γ} {mg:Str->Option Value} {base:Heap} {A:Around} {outer:List Env} {s:Shared} {H:Hp} (e:qa6 P w K mg base A outer s H) (C:Addr) (us:List Value) (kw:List (Str×Value)):
  qa6 P w K mg base (A.under (.builtin "type.__call__" ⟨.ref C::us,kw⟩)) outer s H:=⟨by first|exact e.frames|(simpa[Around.under,Code.envs,Code.isFrame,pushEnvs]using e.frames),e.mod,e.bs,e.bsz,e.funs,e.frf,e.hok,e.bare⟩
section
variable{X:Cx}{pins:List (Addr×Obj)}{σ:St}{H:Hp}{s s':Shared}
theorem Inv.env0 (I:Inv X pins σ H s):qa6 X.prog X.w X.K X.mg X.base X.A X.stack s H :=⟨I.ok.frames,I.ok.mod,I.bs,Ybx I.ok.bsz I.sz,I.stack,I.stkFree,I.hok,I.bare⟩
theorem Inv.after {Q:VK} {u:Value} (I:Inv X pins σ H s) (h:CE X.stack X.prog X.w H s Q u s'):EP X pins σ Q u s':=by obtain⟨v,H',os,bare,un,hok,r,q⟩:=h;obtain⟨hh,g,d,t,os'⟩:=s';obtain rfl:os'=s.os:=os;exact⟨v,H',I.call (h':=hh) (g':=g) (d':=d) (t':=t) (ch:=[]) un hok bare (fun b z=>absurd z (by simp)),r,q⟩
end
def QY(sp:Sp)(dvs:List V)(E:XK)(t:TA):TE:=fun σ H Q=>t σ H fun vs H1=>sp (vs++dvs) H1 Q E
def qdH(C:Addr)(m:Str)(sp:Sp)(dvs:List V)(E:XK)(ta:TE)(t:TA):TE:=fun σ H Q=>ta σ H fun x H1=>∃a dx fs,x=.ref a/\H1 a=some (.ins C dx fs)/\fs.lookup m=none /\
 t σ H1 fun vs H2=>sp (x::(vs++dvs)) H2 Q E
def qmE(C:Addr)(sp:Sp)(dvs:List V)(E:XK)(t:TA):TE:=fun σ H Q=>t σ H fun vs H1=>∀x dx,H1 x=none->H1 dx=none->dx≠x ->
 sp (.ref x::(vs++dvs)) (upd (upd H1 dx (.own x)) x (.ins C dx [])) (fun v H2=>v=.non/\Q (.ref x) H2) E
def Binds(K:γ)(fd:FuncData)(ps:List Str)(ds:List Value):Prop :=∀(s:Shared)(us:List Value),K.In s.heap->(us++ds).length=ps.length->BindsTo s fd ⟨us,[]⟩ (ps.zip (us++ds))
theorem Binds.all {K:γ} {fd:FuncData} {ps:List Str} (h:∀us:List Value,us.length=ps.length->bindArgs fd ⟨us,[]⟩=pure (ps.zip us)):Binds K fd ps []:=fun s us _ hl=>by rw[Ybs]at hl ⊢;exact .of_eq (h us hl)
def jo(CX:CXT)(X:Cx)(E:XK):Prop:=∀(pins:List (Addr×Obj))(σ:St)(H:Hp)(s:Shared)(e:Value)(s':Shared),Inv X pins σ H s->CX X.stack H s E e s'->X.xe e s'
section
variable{X:Cx}{CX:CXT}{k:Nat}{f C:Addr}{fd:FuncData}{ps:List Str}{sp:Sp}{dvs:List V}{ds:List Value}{E:XK}{x m:Str}{p pos apos:Pos}{e o:Expr}{es:List Expr}{ta:TE}{t:TA}
theorem qbY{pins:List (Addr×Obj)}{σ:St}{H:Hp}{s:Shared}{Q:VK}{us:List Value}{vs:List V}(F:qw X.prog X.w X.K X.mg X.base CX k f fd ps sp)(hr:qI k X.A)(hb:Binds X.K fd ps ds)(hd:qD dvs ds)(hx:jo CX X E)
  (I:Inv X pins σ H s) (r:qD vs us) (h:sp (vs++dvs) H Q E):wpAny (model X.prog X.w) X.A (call (.ref f) us) (EP X pins σ Q) X.xe s:=by
 have r2:qD (vs++dvs) (us++ds):=r.append hd;have hl:(us++ds).length=ps.length:=by rw[<- r2.length];exact F.len _ _ _ _ h
 refine wpAny_call (codeAny_mono (F.run X.A X.stack s H ⟨us,[]⟩ (us++ds) (vs++dvs) Q E hr I.env0 (hb s us I.kIn hl) r2 h) fun r s' hq=>?_);cases r with
 |error e=>exact hx pins σ H s e s' I hq
 |ok fl=>
  cases fl with
  |ret u=>exact I.after hq
  |next=>exact False.elim hq
  |brk=>exact False.elim hq
  |cont=>exact False.elim hq
theorem qm4(F:qw X.prog X.w X.K X.mg X.base CX k f fd ps sp)(hr:qI k X.A)(hg:Gl X x)(hm:X.mg x=some (.ref f))(hk:ζ X.K (.ref f)=true)(hb:Binds X.K fd ps ds)(hd:qD dvs ds)(hx:jo CX X E)
  (ha:PA X (e::es) t) (hdb:(x==("__debug__":Str))=false:=by decide) (he:starEach (e::es) X.env=(false,eval e X.env)::starEach es X.env:=by rfl) (hpl:(backTo pos (starEach es X.env)).any (·.1)=false:=by rfl):
  PE X (.Call (.Name x p) (e::es) [] pos) (QY sp dvs E t):=by
 intro pins s σ H Q I h;refine wpAny_Call_Name_kw (Qu I hg hm ?_ hdb);refine Yb3 (h₀:=X.base) I.ok.mod.kin hk (thn (ha pos pins s σ H _ I h) fun us s1 ⟨vs,H1,I1,r,q⟩=>⟨I1.kIn,?_⟩) he hpl;exact qbY F hr hb hd hx I1 r q
theorem qm5{pl:Sem Bool}(he:PE X o ta)(c:Cls X.K C)(hm:qiQ X.K C m f)(F:qw X.prog X.w X.K X.mg X.base CX k f fd ps sp)(hr:qI k X.A)(hb:Binds X.K fd ps ds)(hd:qD dvs ds)(hx:jo CX X E)(ha:PA X (e::es) t)
  (hst:starEach (e::es) X.env=(false,eval e X.env)::starEach es X.env:=by rfl) (hpl:(backTo pos (starEach es X.env)).any (·.1)=false:=by rfl)
  (ht:eval (.Call (.Attribute o m apos) (e::es) [] pos) X.env=(do
   let ov <- eval o X.env
   standAt apos.atName
   let(f,first) <- holding [ov] (getMethod ov m pl)
   callWith pos f first (backTo pos (starEach (e::es) X.env)) (backToKw pos (keywordEach [] X.env))):=by rfl):
  PE X (.Call (.Attribute o m apos) (e::es) [] pos) (qdH C m sp dvs E ta t):=by
 intro pins s σ H Q I h;refine Ycy (pl:=pl) (thn (he pins s σ H _ I h) fun u s1 ⟨x,H1,I1,rx,a,dx,fs,ex,ea,l,q⟩=>?_) ht;subst ex;obtain rfl:u=Value.ref a:=rx;refine qdD I1 ea c hm l ?_;refine Yb3 (first:=[.ref a]) (h₀:=X.base) I.ok.mod.kin hm.kp (thn (ha pos pins s1 σ H1 _ I1 q) fun us s2 ⟨vs,H2,I2,r,q2⟩=>⟨I2.kIn,?_⟩) hst hpl;exact qbY (us:=.ref a::us) (vs:=.ref a::vs) F hr hb hd hx I2 (.cons rfl r) q2
theorem qlA{pl:Sem Bool}(he:PE X o ta)(c:Cls X.K C)(hm:qiQ X.K C m f)(F:qw X.prog X.w X.K X.mg X.base CX k f fd ps sp)(hr:qI k X.A)(hb:Binds X.K fd ps ds)(hd:qD dvs ds)(hx:jo CX X E)
  (ht:eval (.Call (.Attribute o m apos) [] [] pos) X.env=(do
   let ov <- eval o X.env
   standAt apos.atName
   let(f,first) <- holding [ov] (getMethod ov m pl)
   callWith pos f first (backTo pos (starEach [] X.env)) (backToKw pos (keywordEach [] X.env))):=by rfl):
  PE X (.Call (.Attribute o m apos) [] [] pos) (qdH C m sp dvs E ta jN):=by
 intro pins s σ H Q I h;refine Ycy (pl:=pl) (thn (he pins s σ H _ I h) fun u s1 ⟨x,H1,I1,rx,a,dx,fs,ex,ea,l,q⟩=>?_) ht;subst ex;obtain rfl:u=Value.ref a:=rx;refine qdD I1 ea c hm l ?_;exact YdK (first:=[.ref a]) I1.kIn hm.kp (qbY (us:=[.ref a]) (vs:=[.ref a]) F hr hb hd hx I1 (.cons rfl .nil) q)
structure Mk(K:γ)(C f:Addr):Prop where
 makes:Ycr K C=true
 init:δ K (.ref C) "__init__"=some (some (.ref f))
 fn:Ybj K (.ref f)=true
 kp:ζ K (.ref C)=true
theorem qlB{pins:List (Addr×Obj)}{σ:St}{H:Hp}{s:Shared}{Q:VK}{us:List Value}{vs:List V}(M:Mk X.K C f)(F:qw X.prog X.w X.K X.mg X.base CX k f fd ps sp)(hr:qI (k+1) X.A)(hb:Binds X.K fd ps ds)(hd:qD dvs ds)
  (hx:jo CX X E) (I:Inv X pins σ H s) (r:qD vs us)
  (h:∀x dx,H x=none->H dx=none->dx≠x->sp (.ref x::(vs++dvs)) (upd (upd H dx (.own x)) x (.ins C dx [])) (fun v H2=>v=.non/\Q (.ref x) H2) E):
  wpAny (model X.prog X.w) X.A (call (.ref C) us) (EP X pins σ Q) X.xe s:=by
 have hq:=h (s.heap.objs.size+1) s.heap.objs.size (I.hok.fresh (Nat.le_succ _)) (I.hok.fresh (ω _)) (Ybr (YbE _));have I2:=Inv.made (C:=C) I;have r2:qD (V.ref (s.heap.objs.size+1)::(vs++dvs)) (Value.ref (s.heap.objs.size+1)::(us++ds)):=.cons rfl (r.append hd);have hl:(Value.ref (s.heap.objs.size+1)::us++ds).length=ps.length:=by have e:=r2.length;rw[F.len _ _ _ _ hq]at e;exact e.symm
 refine wpAny_call (qly (f:=f) I.kIn M.makes M.init (beq_iff_eq.mp M.fn) (codeAny_mono (F.run _ X.stack _ _ ⟨Value.ref (s.heap.objs.size+1)::us,[]⟩ (Value.ref (s.heap.objs.size+1)::(us++ds)) _ _ E (hr.make C us [])
  (I2.env0.make C us []) (hb _ (Value.ref (s.heap.objs.size+1)::us) I2.kIn hl) r2 hq) fun r s' hq'=>?_))
 cases r with
 |error e=>exact hx pins σ _ _ e s' I2 hq'
 |ok fl=>
  cases fl with
  |ret u=>obtain⟨v,H',I3,rv,ev,q3⟩:=I2.after hq';subst ev;exact⟨rv,⟨V.ref (s.heap.objs.size+1),H',I3,rfl,q3⟩⟩
  |next=>exact False.elim hq'
  |brk=>exact False.elim hq'
  |cont=>exact False.elim hq'
theorem qm6(M:Mk X.K C f)(F:qw X.prog X.w X.K X.mg X.base CX k f fd ps sp)(hr:qI (k+1) X.A)(hg:Gl X x)(hm:X.mg x=some (.ref C))(hb:Binds X.K fd ps ds)(hd:qD dvs ds)(hx:jo CX X E)
  (ha:PA X (e::es) t) (hdb:(x==("__debug__":Str))=false:=by decide) (he:starEach (e::es) X.env=(false,eval e X.env)::starEach es X.env:=by rfl) (hpl:(backTo pos (starEach es X.env)).any (·.1)=false:=by rfl):
  PE X (.Call (.Name x p) (e::es) [] pos) (qmE C sp dvs E t):=by
 intro pins s σ H Q I h;refine wpAny_Call_Name_kw (Qu I hg hm ?_ hdb);refine Yb3 (h₀:=X.base) I.ok.mod.kin M.kp (thn (ha pos pins s σ H _ I h) fun us s1 ⟨vs,H1,I1,r,q⟩=>⟨I1.kIn,?_⟩) he hpl;exact qlB M F hr hb hd hx I1 r q
end
structure qm(N P:List Str)(sc:Scope):Prop where
 kind:sc.kind=.function
 co:sc.isCoroutine=false
 gen:sc.isGenerator=false
 nd:N.Nodup
 pre:N.take P.length=P
 par:∀x∈P,sc.names.lookup x=some .local\/sc.names.lookup x=some .cell
 nofree:∀y∈sc.names,y.2≠.free
theorem qe7{kindOf:Str->Option NameKind}{x:Str}:∀{binds:List (Str×Value)}{m:Str->Option Value},(∀v,(x,v)∉binds)->bindL kindOf binds m x=m x
 |[],_,_=>rfl
 |(n,v)::r,m,h=>by
  unfold bindL;rw[qe7 fun w hw=>h w (ρ _ hw)]
  split
  ·have:x≠n:=by rintro rfl;exact h v π
   simp[this]
  ·rfl
theorem qe8{kindOf:Str->Option NameKind}{x:Str}:∀{binds:List (Str×Value)}{m:Str->Option Value},(∀v,(x,v)∉binds)->bindC kindOf binds m x=m x
 |[],_,_=>rfl
 |(n,v)::r,m,h=>by
  unfold bindC;rw[qe8 fun w hw=>h w (ρ _ hw)]
  split
  ·rfl
  ·have:x≠n:=by rintro rfl;exact h v π
   simp[this]
theorem qbZ{kindOf:Str->Option NameKind}{x:Str}{v:Value}:∀{P:List Str}{vs:List Value}{i:Nat}{m:Str->Option Value},P.Nodup->P[i]?=some x->vs[i]?=some v->kindOf x=some .local ->
  bindL kindOf (P.zip vs) m x=some v
 |[],_,_,_,_,h,_,_=>by simp at h
 |_::_,[],_,_,_,_,h,_=>by simp at h
 |p::P,w::vs,0,m,nd,h1,h2,hk=>by simp at h1 h2;subst h1;subst h2;show bindL kindOf ((p,w)::P.zip vs) m p=_;unfold bindL;rw[qe7 fun v hv=>(Ybn.mp nd).1 (YcO hv).1,if_pos hk];simp
 |p::P,w::vs,i+1,m,nd,h1,h2,hk=>by show bindL kindOf ((p,w)::P.zip vs) m x=_;unfold bindL;exact qbZ (i:=i) (Ybn.mp nd).2 (by simpa using h1) (by simpa using h2) hk
theorem qb0{kindOf:Str->Option NameKind}{x:Str}{v:Value}:∀{P:List Str}{vs:List Value}{i:Nat}{m:Str->Option Value},P.Nodup->P[i]?=some x->vs[i]?=some v->kindOf x≠some .local ->
  bindC kindOf (P.zip vs) m x=some v
 |[],_,_,_,_,h,_,_=>by simp at h
 |_::_,[],_,_,_,_,h,_=>by simp at h
 |p::P,w::vs,0,m,nd,h1,h2,hk=>by simp at h1 h2;subst h1;subst h2;show bindC kindOf ((p,w)::P.zip vs) m p=_;unfold bindC;rw[qe8 fun v hv=>(Ybn.mp nd).1 (YcO hv).1,if_neg hk];simp
 |p::P,w::vs,i+1,m,nd,h1,h2,hk=>by show bindC kindOf ((p,w)::P.zip vs) m x=_;unfold bindC;exact qb0 (i:=i) (Ybn.mp nd).2 (by simpa using h1) (by simpa using h2) hk
noncomputable def start(N:List Str)(vs:List V):St:=vs.map some++YbL (N.length - vs.length) none
noncomputable def qQ(CX:CXT)(P:Program)(w:World)(K:γ)(mg:Str->Option Value)(base:Heap)(N:List Str)(qual:Str)(scope:Scope)(f:Addr)(cd:Value)(A:Around)(outer:List Env)(s:Shared)(H:Hp)(E:XK):Cx where
 prog:=P
 w:=w
 K:=K
 mg:=mg
 base:=base
 A:=A.deeper (envOfC qual scope s.heap.objs.size f cd)
 N:=N
 s_0:=s
 H_0:=H
 env:=envOfC qual scope s.heap.objs.size f cd
 outer:=outer
 stack:=envOfC qual scope s.heap.objs.size f cd::outer
 ex:=[]
 calm:=true
 fn:=fun _=>true
 pn:=[]
 xe:=fun e s'=>wpAny (model P w) (A.deeper (envOfC qual scope s.heap.objs.size f cd)) (leaving (envOfC qual scope s.heap.objs.size f cd) e) (fun _ s''=>CX outer H s E e s'') (fun e' s''=>CX outer H s E e' s'') s'
theorem qa7{sc:Scope}{n:Nat}{x:Str}(h:sc.names.lookup x=some .cell):∃c,(cellsFrom n sc.names []).lookup x=some c:=by have q:=YcU sc.names n [] (.inl h);exact Option.isSome_iff_exists.mp q
theorem qjZ{CX:CXT}{P:Program}{w:World}{K:γ}{mg:Str->Option Value}{base:Heap}{N ps:List Str}{qual:Str}{scope:Scope}{f:Addr}{cd:Value}{A:Around}{outer:List Env}{s s1:Shared}{H:Hp}{E:XK}{us:List Value}{vs:List V}
  (S:qm N ps scope) (hd:A.handled=none) (e0:qa6 P w K mg base A outer s H) (hl:vs.length=ps.length) (r:qD vs us)
  (x:InCallC s s.heap.objs.size (bindL (envOfC qual scope s.heap.objs.size f cd).kindOf (ps.zip us) fun _=>none) (cellsFrom (s.heap.objs.size+1) scope.names []) (bindC (envOfC qual scope s.heap.objs.size f cd).kindOf (ps.zip us) fun _=>none) s1):
  Inv (qQ CX P w K mg base N qual scope f cd A outer s H E) [] (start N vs) H s1:=by
 have hpl:ps.length<=N.length:=by have:=congrArg Ycs S.pre;rw[Ybz]at this;omega
 obtain⟨h1,tk,rfl,hk⟩:=x.done;have noA:∀b:Addr,b∉(qQ CX P w K mg base N qual scope f cd A outer s H E).ex:=fun b z=>absurd (show b∈([]:List Addr)from z) (by simp)
 refine⟨⟨e0.mod,S.kind,rfl,rfl,ω _,fun y z c h1 h2=>?_,fun y hy=>?_,fun y c _ h=>?_,fun _=>hd,Around.frames_deeper e0.frames,.inr ⟨rfl,rfl⟩,fun b z=>absurd z (noA b),e0.bs,e0.bsz,fun b _ _=>noA b,fun b z=>absurd z (noA b),e0.funs,e0.frf⟩,
  rfl,e0.bare,Un.kept hk,⟨_,x.toInCall.ns,fun i y v h1 h2 h3=>?_⟩,fun y c h=>⟨_,x.cell y c h⟩,e0.hok.fresh (ω _),fun y c h=>?_,fun p hp=>absurd (show p∈([]:List (Addr×Obj))from hp) (by simp),e0.hok.kept hk,?_⟩
 ·exact name_of_addr x.apart (PySem.mem_of_lookup h1) (PySem.mem_of_lookup h2)
 ·have hy:scope.names.lookup y=some .cell\/scope.names.lookup y=some .free:=hy;rcases hy with hy|hy
  ·exact qa7 hy
  ·exact absurd rfl (S.nofree _ (PySem.mem_of_lookup hy))
 ·exact Yb2 (x.above y c (PySem.mem_of_lookup h))
 ·have hi:i<vs.length:=by
   unfold start at h2;by_cases hi:i<vs.length
   ·exact hi
   ·rw[YcE (by simpa using hi)]at h2;rw[Yct]at h2
    split at h2<;>cases h2
  have ha:vs[i]?=some v:=by
   unfold start at h2;rw[Yb0 (by simpa using hi),Ω]at h2;cases e:vs[i]? with
   |none=>rw[e]at h2;cases h2
   |some a=>rw[e]at h2;cases h2;rfl
  obtain⟨u,hu,rv⟩:=r.get ha;have hp:ps[i]?=some y:=by rw[<- S.pre,Ydu (by omega)];exact h1
  have ndP:ps.Nodup:=by rw[<- S.pre];exact S.nd.sublist (List.take_sublist _ _)
  refine⟨u,rv,?_⟩;rcases S.par y (YbD hp)with k|k
  ·exact .inl ⟨k,qbZ ndP hp hu k⟩
  ·obtain⟨c,e⟩:=qa7 (n:=s.heap.objs.size+1) k;refine .inr ⟨.inl k,c,e,?_⟩;have q:=x.cell y c e;rw[qb0 ndP hp hu (by show scope.names.lookup y≠_;rw[k];decide)]at q;exact q
 ·exact e0.hok.fresh (Yb2 (x.above y c (PySem.mem_of_lookup h)))
 ·unfold start;show _=N.length;rw[ν,τ,Ycz];omega
theorem qiR{CX:CXT}{P:Program}{w:World}{K:γ}{mg:Str->Option Value}{base:Heap}{k:Nat}{f:Addr}{name qual:Str}{params:Arguments}{body:List Stmt}{scope:Scope}{dV kV doc pm cdv ct oc:Value}{an od:Option Addr}
  {osl:Array (Option Value)} {N ps:List Str} {sp:Sp} (lk:K.lookup f=some ⟨oc,od,.func (μ name qual params body scope dV kV doc pm an cdv ct),osl⟩) (hcd:ι K cdv qual=true) (S:qm N ps scope)
  (len:∀vs H Q E,sp vs H Q E->vs.length=ps.length)
  (hbody:∀(A:Around)(outer:List Env)(s:Shared)(H:Hp)(vs:List V)(Q:VK)(E:XK),qI k (A.deeper (envOfC qual scope s.heap.objs.size f cdv))->sp vs H Q E ->
   ∃t,PSs (qQ CX P w K mg base N qual scope f cdv A outer s H E) body t/\t {nx:=fun _ H'=>Q .non H',rt:=Q} (start N vs) H):
  qw P w K mg base CX (k+1) f (μ name qual params body scope dV kV doc pm an cdv ct) ps sp:=by
 refine⟨len,fun A outer s H args us vs Q E hr e0 hb r hsp=>?_⟩;have hl:=len _ _ _ _ hsp;have KX:K.In s.heap:=e0.mod.kin.keeps fun b o e=>(e0.bs b o e).1;have lim:s.heap.NoLimit:=e0.mod.nolimit.keeps fun b o e=>(e0.bs b o e).1
 have hkind:∀y∈ps.zip us,scope.names.lookup y.1=some .local\/(scope.names.lookup y.1=some .cell/\((cellsFrom (s.heap.objs.size+1) scope.names []).lookup y.1).isSome=true):=fun⟨n,v⟩ hy=>by
  rcases S.par n (YcO hy).1 with q|q
  ·exact .inl q
  ·exact .inr ⟨q,YcU _ _ _ (.inl q)⟩
 refine codeAny_call_function hr.depth (KX _ _ lk) rfl S.co S.gen rfl (YdR KX hcd) (hb _ _ _ _ ?_);refine wpAny_newFunctionEnv_cells S.kind hkind fun env he s1 x=>?_;subst he;refine⟨lim.keeps x.toInCall.keep,codeAny_func ?_⟩;obtain⟨t,ht,hq⟩:=hbody A outer s H vs Q E (hr.deeper _) hsp;have I:Inv (qQ CX P w K mg base N qual scope f cdv A outer s H E) [] (start N vs) H s1:=qjZ S hr.hd e0 hl r x;refine wpAny_mono (ht [] s1 (start N vs) H _ I hq) (fun fl s' hs=>?_) fun e s' hs=>hs
 have fin:∀{σ':St}{H':Hp}{v:V}{u:Value},Inv (qQ CX P w K mg base N qual scope f cdv A outer s H E) [] σ' H' s'->RelV v u->Q v H'->CE outer P w H s Q u s' :=
  fun{σ' H' v u} J rv q=>⟨v,H',J.os,J.bare,J.base,J.hok,rv,q⟩
 cases fl with
 |ret u=>obtain⟨v,σ',H',J,rv,q⟩:=hs;exact fin J rv q
 |next=>obtain⟨σ',H',J,q⟩:=hs;exact fin (v:=V.non) (u:=Value.none) J rfl q
 |brk=>obtain⟨_,_,_,q⟩:=hs;exact False.elim q
 |cont=>obtain⟨_,_,_,q⟩:=hs;exact False.elim q
section
variable{X:Cx}{x:Str}{p pos:Pos}{e:Expr}{es:List Expr}{t:TA}{id T:String}{r:List V->Hp->VK->Prop}
def tCB(r:List V->Hp->VK->Prop)(t:TA):TE:=fun σ H Q=>t σ H fun vs H1=>r vs H1 Q
theorem jc(hc:qcI X (.builtin id) r)(hg:Gl X x)(hm:X.mg x=none)(hv:bootBuiltins x=some (.builtin id))(ha:PA X (e::es) t)(hn:x≠"__name__":=by decide)(hdb:(x==("__debug__":Str))=false:=by decide)
  (he:starEach (e::es) X.env=(false,eval e X.env)::starEach es X.env:=by rfl) (hpl:(backTo pos (starEach es X.env)).any (·.1)=false:=by rfl):PE X (.Call (.Name x p) (e::es) [] pos) (tCB r t):=by
 intro pins s σ H Q I h;refine wpAny_Call_Name_kw (Zv I hg hm hv ?_ hn hdb);exact PyProof.Rows.callWith_builtin1 (thn (ha pos pins s σ H _ I h) fun us s1 ⟨vs,H1,I1,r1,q1⟩=>hc pins s1 σ H1 vs us Q I1 r1 q1) he hpl
theorem qj0(hc:qcI X (.type T) r)(hg:Gl X x)(hm:X.mg x=none)(hv:bootBuiltins x=some (.type T))(ha:PA X (e::es) t)(hn:x≠"__name__":=by decide)(hdb:(x==("__debug__":Str))=false:=by decide)
  (he:starEach (e::es) X.env=(false,eval e X.env)::starEach es X.env:=by rfl) (hpl:(backTo pos (starEach es X.env)).any (·.1)=false:=by rfl):PE X (.Call (.Name x p) (e::es) [] pos) (tCB r t):=by
 intro pins s σ H Q I h;refine wpAny_Call_Name_kw (Zv I hg hm hv ?_ hn hdb);exact YbT (thn (ha pos pins s σ H _ I h) fun us s1 ⟨vs,H1,I1,r1,q1⟩=>hc pins s1 σ H1 vs us Q I1 r1 q1) he hpl
end
end L2
namespace HT
open PySem PyProof.Rows
section
open PySem.SeqAt
open PySem.AutoSeq1 (wpAny_loadPart')
open PySem.MeetsSeq PySem.MeetsSeq2 PySem.MeetsSeq3
end
section
variable{prog:Program}{w:World}{A:Around}{E:Value->Shared->Prop}{s:Shared}
noncomputable def sIx(n d:Nat):Option Int->Nat
 |none=>d
 |some v=>if v<0 then(v+(n:Int)).toNat else min v.toNat n
theorem qgk(n d:Nat):sIx n d none=d:=rfl
theorem JW(n d k:Nat):sIx n d (some (k:Int))=min k n:=by show(if(k:Int)<0 then((k:Int)+(n:Int)).toNat else min (k:Int).toNat n)=min k n;rw[if_neg (by omega),Ydq]
theorem qj1(n d:Nat)(hd:d<=n)(o:Option Int):sIx n d o<=n:=by
 cases o with
 |none=>exact hd
 |some v=>
  show(if v<0 then(v+(n:Int)).toNat else min v.toNat n)<=n;by_cases hv:v<0
  ·rw[if_pos hv];omega
  ·rw[if_neg hv];exact Nat.min_le_right _ _
end
end HT
namespace L2
open PySem PySem.Spec PyProof.Rows
abbrev TO:=St->Hp->(Option Int->Hp->Prop)->Prop
def PO(X:Cx)(e:Option Expr)(t:TO):Prop :=
 ∀(pins:List (Addr×Obj))(s:Shared)(σ:St)(H:Hp)(Q:Option Int->Hp->Prop),Inv X pins σ H s->t σ H Q ->
  wpAny (model X.prog X.w) X.A (evalPart e X.env) (fun u s'=>∃o H',Inv X pins σ H' s'/\IsPart u o/\Q o H') X.xe s
def qm7:TO:=fun _ H Q=>Q none H
def qiS(t:TE):TO:=fun σ H Q=>t σ H fun x H1=>∃i,x=.int i/\Q (some i) H1
section
variable{X:Cx}{e:Expr}{te:TE}{lo hi:Option Expr}{tl th:TO}{pos p2:Pos}
theorem qcL:PO X none qm7:=by intro pins s σ H Q I h;rw[evalPart_none];exact Φ ⟨none,H,I,.none,h⟩
theorem Qv(h:PE X e te):PO X (some e) (qiS te):=by intro pins s σ H Q I hw;rw[evalPart_some];refine thn (h pins s σ H _ I hw) fun u s1 ⟨x,H1,I1,r1,q1⟩=>?_;obtain⟨i,rfl,q⟩:=q1;obtain⟨t,rfl⟩:=r1;exact⟨some i,H1,I1,.int i t,q⟩
def SlR(X:Cx)(r:V->Option Int->Option Int->Hp->VK->Prop):Prop :=
 ∀(pins:List (Addr×Obj))(s:Shared)(σ:St)(H:Hp)(x:V)(v vl vu:Value)(lo hi:Option Int)(sl:Addr)(Q:VK),Inv X pins σ H s->RelV x v->s.heap.IsSliceOf sl vl vu .none->IsPart vl lo->IsPart vu hi->r x lo hi H Q ->
  ∃T id,typeLookup (.type T) "__getitem__"=pure (some (.builtin id))/\s.TypeIs v T/\wpAny (model X.prog X.w) X.A (getItem v (.ref sl)) (EP X pins σ Q) X.xe s
def tSl(r:V->Option Int->Option Int->Hp->VK->Prop)(te:TE)(tl th:TO):TE:=fun σ H Q=>te σ H fun x H1=>tl σ H1 fun l H2=>th σ H2 fun u H3=>r x l u H3 Q
theorem ZJ{r:V->Option Int->Option Int->Hp->VK->Prop}(hr:SlR X r)(he:PE X e te)(hl:PO X lo tl)(hu:PO X hi th):PE X (.Subscript e (.Slice lo hi none p2) pos) (tSl r te tl th):=by intro pins s σ H Q I h;refine Subscript_ (thn (he pins s σ H _ I h) fun v s1 ⟨x,H1,I1,r1,q1⟩=>?_);refine wpAny_Slice (thn (hl pins s1 σ H1 _ I1 q1) fun vl s2 ⟨l,H2,I2,pl,q2⟩=>thn (hu pins s2 σ H2 _ I2 q2) fun vu s3 ⟨u,H3,I3,pu,q3⟩=>?_);rw[evalPart_none];refine Φ ?_;have I4:Inv X pins σ H3 {s3 with heap:=s3.heap.push {cls:=.type "slice",data:=.fields #[vl,vu,.none]}}:=I3.kept (t':=s3.toks) fun b ob q=>ψ _ q;obtain⟨T,id,hT,ht,hg⟩:=hr pins {s3 with heap:=s3.heap.push {cls:=.type "slice",data:=.fields #[vl,vu,.none]}} σ H3 x v vl vu l u s3.heap.objs.size Q I4 r1 (Heap.IsSliceOf.new ..) pl pu q3;show wpAny (model X.prog X.w) X.A (subscriptTail e (.Slice lo hi none p2) v (.ref s3.heap.objs.size)) (EP X pins σ Q) X.xe {s3 with heap:=s3.heap.push {cls:=.type "slice",data:=.fields #[vl,vu,.none]}};exact tail_any (ops:=[.ref s3.heap.objs.size,v]) ht hT hg (by with_unfolding_all rfl)
noncomputable def ZK(xs:List V)(lo hi:Option Int):List V:=(xs.drop (HT.sIx xs.length 0 lo)).take (HT.sIx xs.length xs.length hi - HT.sIx xs.length 0 lo)
theorem qhE(xs:List V)(lo hi:Option Int):(ZK xs lo hi).length<=xs.length:=by unfold ZK;rw[Ybz,YbF];omega
end
noncomputable def ixN(n:Nat)(i:Int):Option Nat:=if 0<=i then(if i<n then some i.toNat else none)else if -(n:Int)<=i then some (i+n).toNat else none
noncomputable def atI{α:Type}(xs:List α)(i:Int):Option α:=(ixN xs.length i).bind fun j=>xs[j]?
theorem qm8{n:Nat}{i:Int}{j:Nat}(h:ixN n i=some j):seqIndex? i n=some j/\j<n /\ -(n:Int)<=i/\i<n:=by
 unfold ixN at h;by_cases h0:0<=i
 ·rw[if_pos h0]at h;by_cases h1:i<n
  ·rw[if_pos h1]at h;have e:i.toNat=j:=Option.some.inj h;exact⟨by rw[seqIndex_of h0 h1,e],by omega,by omega,h1⟩
  ·rw[if_neg h1]at h;cases h
 ·rw[if_neg h0]at h;by_cases h1:-(n:Int)<=i
  ·rw[if_pos h1]at h;have e:(i+n).toNat=j:=Option.some.inj h;exact⟨by rw[seqIndex_neg (by omega) h1,e],by omega,h1,by omega⟩
  ·rw[if_neg h1]at h;cases h
theorem qm9{α:Type}{xs:List α}{i:Int}{v:α}(h:atI xs i=some v):∃j,seqIndex? i xs.length=some j/\xs[j]?=some v/\j<xs.length /\ -(xs.length:Int)<=i/\i<xs.length:=by
 unfold atI at h;cases e:ixN xs.length i with
 |none=>rw[e]at h;cases h
 |some j=>rw[e]at h;obtain⟨h1,h2,h3,h4⟩:=qm8 e;exact⟨j,h1,h,h2,h3,h4⟩
theorem jM{α:Type}{xs:List α}{j:Nat}{v:α}(h:xs[j]?=some v):atI xs (j:Int)=some v:=by
 have hj:j<xs.length:=(Δ.mp h).1;have e:ixN xs.length (j:Int)=some j:=by unfold ixN;rw[if_pos (by omega),if_pos (by omega)];simp
 unfold atI;rw[e];exact h
theorem Jh{α:Type}(xs:List α)(v:α):atI (xs++[v]) (-1)=some v:=by
 have hl:(xs++[v]).length=xs.length+1:=by simp
 have e:ixN (xs++[v]).length (-1)=some xs.length:=by unfold ixN;rw[hl,if_neg (by decide),if_pos (by omega)];congr 1;omega
 unfold atI;rw[e];show(xs++[v])[xs.length]?=some v;simp
def qcM(b:Expr):Prop:=∀o i,subscripted b false o i=operate [o,i] (getItem o i)
def IxR(X:Cx)(r:R2):Prop :=
 ∀(value slice:Expr)(pins:List (Addr×Obj))(s:Shared)(σ:St)(H:Hp)(x y:V)(v u:Value)(Q:VK),Inv X pins σ H s->RelV x v->RelV y u->r x y H Q ->
  subscripted slice false v u=operate [v,u] (getItem v u)->wpAny (model X.prog X.w) X.A (subscriptTail value slice v u) (EP X pins σ Q) X.xe s
def MtR(X:Cx)(id:String)(r:V->List V->Hp->VK->Prop):Prop :=
 ∀(pins:List (Addr×Obj))(s:Shared)(σ:St)(H:Hp)(x:V)(xs:List V)(v:Value)(us:List Value)(Q:VK),Inv X pins σ H s->RelV x v->qD xs us->r x xs H Q ->
  wpAny (model X.prog X.w) X.A (call (.builtin id) (v::us)) (EP X pins σ Q) X.xe s
section
variable{X:Cx}{a b:Expr}{ta tb:TE}{pos:Pos}
theorem jp{r:R2}(hr:IxR X r)(ha:PE X a ta)(hb:PE X b tb)(hs:qcM b):PE X (.Subscript a b pos) (tOp r ta tb):=by intro pins s σ H Q I h;exact Subscript_ (qlv ha hb I h fun v u s2 x y H2 I2 rx ry q=>hr a b pins s2 σ H2 x y v u Q I2 rx ry q (hs _ _))
def qpy(K:γ):R2:=fun x y H Q=>∃p xs i v,x=.ref p/\y=.int i/\SqL K H p xs/\atI xs i=some v/\Q v H
theorem zu:IxR X (qpy X.K):=by
 intro value slice pins s σ H x y v u Q I rx ry h hs;obtain⟨p,xs,i,z,rfl,rfl,hq,he,q⟩:=h;cases rx;obtain⟨t,rfl⟩:=ry;obtain⟨its,r,pl,hz⟩:=I.list hq;obtain⟨j,h1,h2,h3,h4,h5⟩:=qm9 he;obtain⟨w,ew,rw'⟩:=r.get h2;have hl:=r.length;have hn:=qdB;have fin:EP X pins σ Q w s:=⟨z,H,I,rw',q⟩;by_cases h0:0<=i
 ·have hj:i.toNat=j:=by
   rw[seqIndex_of h0 h5]at h1;exact Option.some.inj h1
  exact item_listR pl.isList h0 (by omega) (by rw[hj];simpa using ew) fin hs
 ·have hj:(i+(its.toArray.size:Int)).toNat=j:=by
   rw[seqIndex_neg (by omega) h4]at h1;rw[ύ,<- hl];exact Option.some.inj h1
  exact subscriptTail_builtinR (x:=w) pl.isList.typeIs slot_list_getitem.lookup
   (wpAny_getItem_list_neg (Q:=fun r s'=>r=w/\EP X pins σ Q r s') pl.isList (by omega) (by rw[ύ]<;>omega) (by omega) (by rw[hj];simpa using ew) ⟨rfl,fin⟩) hs
theorem qgl(lo hi:Option Int)(n:Nat):(sliceBounds lo hi none n).1=((HT.sIx n 0 lo:Nat):Int)/\(sliceBounds lo hi none n).2.1=((HT.sIx n n hi:Nat):Int)/\(sliceBounds lo hi none n).2.2=1:=by
 refine⟨?_,?_,rfl⟩
 ·cases lo with
  |none=>simp[sliceBounds,HT.sIx]
  |some i=>
   simp only[sliceBounds,HT.sIx,Option.getD_none,show(1:Int)>0 by decide,if_true];by_cases h:i<0
   ·simp only[h,if_true]<;>omega
   ·simp only[h,if_false]<;>omega
 ·cases hi with
  |none=>simp[sliceBounds,HT.sIx]
  |some i=>
   simp only[sliceBounds,HT.sIx,Option.getD_none,show(1:Int)>0 by decide,if_true];by_cases h:i<0
   ·simp only[h,if_true]<;>omega
   ·simp only[h,if_false]<;>omega
theorem qfL(its:List Value)(lo hi:Option Int):slicePick its.toArray lo hi none=((its.drop (HT.sIx its.length 0 lo)).take (HT.sIx its.length its.length hi - HT.sIx its.length 0 lo)).toArray:=by obtain⟨h1,h2,h3⟩:=qgl lo hi its.toArray.size;unfold slicePick;rw[h1,h2,h3];simp only[sliceRange_one,pick_run,ύ]<;>rfl
def qn9(K:γ):V->Option Int->Option Int->Hp->VK->Prop:=fun x lo hi H Q=>∃a xs,x=.ref a/\SqL K H a xs/\∀p,H p=none->Q (.ref p) (upd H p (.lst (ZK xs lo hi)))
theorem JX:SlR X (qn9 X.K):=by intro pins s σ H x v vl vu lo hi sl Q I rx hs pl pu h;obtain⟨a,xs,rfl,hx,q⟩:=h;cases rx;obtain⟨its,r,ht,hz⟩:=I.list hx;have hlen:=r.length;refine⟨"list",_,slot_list_getitem.lookup,ht.isList.typeIs,?_⟩;refine wpAny_getItem_list_slice ht.isList hs pl pu .none (by simp) ?_ (by rw[ύ]<;>omega);rw[qfL,<- hlen];refine⟨.ref s.heap.objs.size,_,I.laid (t':=s.toks) (o:=.lst (ZK xs lo hi)) (fun b ob q=>ψ _ q) (ω _) ?_,rfl,q _ (I.hok.fresh (ω _))⟩;exact⟨Ybx (qhE xs lo hi) hz,_,0,(r.drop (HT.sIx xs.length 0 lo)).take (HT.sIx xs.length xs.length hi - HT.sIx xs.length 0 lo),Ybk _ rfl⟩
noncomputable def QD:V->Bool
 | .non=>true
 | .bl _=>true
 | .int _=>true
 | .str _=>true
 |_=>false
noncomputable def eqV:V->V->Bool
 | .non,.non=>true
 | .bl a,.bl b=>a==b
 | .bl a,.int b=>(if a then 1 else 0)==b
 | .int a,.bl b=>a==(if b then 1 else 0)
 | .int a,.int b=>a==b
 | .str a,.str b=>a==b
 |_,_=>false
theorem qoa{A:Around}{s:Shared}{y x:V}{u v:Value}(ry:RelV y u)(rx:RelV x v)(fy:QD y=true)(fx:QD x=true):SeqAt.EqAt A s u v (eqV y x):=by
 cases y with
 |non=>
  cases ry;cases x with
  |non=>cases rx;exact SeqAt.EqAt.same _
  |bl b=>cases rx;exact SeqAt.EqAt.none_bool b
  |int b=>obtain⟨t,rfl⟩:=rx;exact SeqAt.EqAt.none_int b t
  |str b=>obtain⟨t,rfl⟩:=rx;exact SeqAt.EqAt.none_str b t
  |_=>exact absurd (show false=true from fx) ϋ
 |bl a=>
  cases ry;cases x with
  |non=>cases rx;exact SeqAt.EqAt.bool_none a
  |bl b=>cases rx;exact SeqAt.EqAt.bool_bool a b
  |int b=>obtain⟨t,rfl⟩:=rx;exact SeqAt.EqAt.bool_int a b t
  |str b=>obtain⟨t,rfl⟩:=rx;exact SeqAt.EqAt.bool_str a b t
  |_=>exact absurd (show false=true from fx) ϋ
 |int a=>
  obtain⟨t',rfl⟩:=ry;cases x with
  |non=>cases rx;exact SeqAt.EqAt.int_none a t'
  |bl b=>cases rx;exact SeqAt.EqAt.int_bool a t' b
  |int b=>obtain⟨t,rfl⟩:=rx;exact SeqAt.EqAt.int_int a t' b t
  |str b=>obtain⟨t,rfl⟩:=rx;exact SeqAt.EqAt.int_str a t' b t
  |_=>exact absurd (show false=true from fx) ϋ
 |str a=>
  obtain⟨t',rfl⟩:=ry;cases x with
  |non=>cases rx;exact SeqAt.EqAt.str_none a t'
  |bl b=>cases rx;exact SeqAt.EqAt.str_bool a t' b
  |int b=>obtain⟨t,rfl⟩:=rx;exact SeqAt.EqAt.str_int a t' b t
  |str b=>obtain⟨t,rfl⟩:=rx;exact SeqAt.EqAt.str_str a t' b t
  |_=>exact absurd (show false=true from fx) ϋ
 |_=>exact absurd (show false=true from fy) ϋ
noncomputable def eqU(x:V)(u:Value):Bool:=match u with
 | .none=>eqV .non x
 | .bool b=>eqV (.bl b) x
 | .int i _=>eqV (.int i) x
 | .str z _=>eqV (.str z) x
 |_=>false
theorem qj2{x y:V}{u:Value}(r:RelV y u)(f:QD y=true):eqU x u=eqV y x:=by
 cases y with
 |non=>cases r;rfl
 |bl b=>cases r;rfl
 |int i=>obtain⟨t,rfl⟩:=r;rfl
 |str z=>obtain⟨t,rfl⟩:=r;rfl
 |_=>exact absurd (show false=true from f) ϋ
theorem qaG{x:V}:∀{xs:List V}{us:List Value},qD xs us->xs.all QD=true->us.any (eqU x)=xs.any fun y=>eqV y x
 |_,_,.nil,_=>rfl
 |y::xs,u::us,.cons r t,f=>by rw[YdN,Ybm]at f;rw[Yb5,Yb5,qj2 r f.1,qaG t f.2]
theorem J5{A:Around}{s:Shared}{x:V}{v:Value}(rx:RelV x v)(fx:QD x=true):∀{xs:List V}{us:List Value},qD xs us->xs.all QD=true->∀u∈us,SeqAt.EqAt A s u v (eqU x u)
 |_,_,.nil,_=>fun u hu=>by cases hu
 |y::xs,u::us,.cons r t,f=>fun u' hu=>by
  rw[YdN,Ybm]at f;rcases Γ.mp hu with rfl|hu
  ·rw[qj2 r f.1];exact qoa r rx f.1 fx
  ·exact J5 rx fx t f.2 u' hu
noncomputable def inV(x:V)(xs:List V):Bool:=xs.any fun y=>eqV y x
def rIn(K:γ)(neg:Bool):R2:=fun x y H Q=>∃p xs,y=.ref p/\(SqL K H p xs\/SqT K H p xs)/\QD x=true/\xs.all QD=true/\Q (.bl (if neg then !inV x xs else inV x xs)) H
theorem ZM:OpR X (compareOp .In) (rIn X.K false):=by
 intro pins s σ H x y v u Q I rx ry h;obtain⟨p,xs,rfl,hq,fx,fs,q⟩:=h;cases ry;rcases hq with hq|hq
 ·obtain⟨its,r,pl,hz⟩:=I.list hq;refine SeqAt.in_listAt (eqU x) pl.isList (fun w hw=>J5 rx fx r fs w (by simpa using hw)) ⟨.bl _,H,I,rfl,?_⟩;rw[show its.toArray.any (eqU x)=its.any (eqU x) by simp,qaG r fs];exact q
 ·obtain⟨its,r,pl,hz⟩:=I.tuple hq;refine SeqAt.in_tupleAt (eqU x) pl (fun w hw=>J5 rx fx r fs w (by simpa using hw)) ⟨.bl _,H,I,rfl,?_⟩;rw[show its.toArray.any (eqU x)=its.any (eqU x) by simp,qaG r fs];exact q
theorem qgm:OpR X (compareOp .NotIn) (rIn X.K true):=by
 intro pins s σ H x y v u Q I rx ry h;obtain⟨p,xs,rfl,hq,fx,fs,q⟩:=h;cases ry;rcases hq with hq|hq
 ·obtain⟨its,r,pl,hz⟩:=I.list hq;refine SeqAt.notIn_listAt (eqU x) pl.isList (fun w hw=>J5 rx fx r fs w (by simpa using hw)) ⟨.bl _,H,I,rfl,?_⟩;rw[show its.toArray.any (eqU x)=its.any (eqU x) by simp,qaG r fs];exact q
 ·obtain⟨its,r,pl,hz⟩:=I.tuple hq;refine SeqAt.notIn_tupleAt (eqU x) pl (fun w hw=>J5 rx fx r fs w (by simpa using hw)) ⟨.bl _,H,I,rfl,?_⟩;rw[show its.toArray.any (eqU x)=its.any (eqU x) by simp,qaG r fs];exact q
theorem zD:qcI X (.builtin "len") (fun xs H Q=>∃p ys,xs=[.ref p]/\(SqL X.K H p ys\/SqT X.K H p ys)/\Q (.int ys.length) H):=by
 intro pins s σ H xs us Q I r h;obtain⟨p,ys,rfl,hq,q⟩:=h;obtain⟨u,rfl,rx⟩:=vals1 r;cases rx;have hn:=qdB;rcases hq with hq|hq
 ·obtain⟨its,r',pl,hz⟩:=I.list hq;have hlen:=r'.length;exact Calls.call_len_list pl.isList (by simp only[ύ]<;>omega) ⟨.int ys.length,H,I.tok _,⟨s.toks+1,by rw[ύ,hlen]⟩,q⟩
 ·obtain⟨its,r',pl,hz⟩:=I.tuple hq;have hlen:=r'.length;exact len_tuple pl (by simp only[ύ]<;>omega) ⟨.int ys.length,H,I.tok _,⟨s.toks+1,by rw[ύ,hlen]⟩,q⟩
theorem qb1:qcI X (.builtin "len") (fun xs H Q=>∃z,xs=[.str z]/\z.length<=Λ/\Q (.int z.length) H):=by intro pins s σ H xs us Q I r h;obtain⟨z,rfl,hz,q⟩:=h;obtain⟨u,rfl,t,rfl⟩:=vals1 r;have hn:=qdB;exact len_str (by omega) ⟨.int z.length,H,I.tok _,⟨_,rfl⟩,q⟩
theorem qfM:qcI X (.type "tuple") (fun xs H Q=>∃p ys,xs=[.ref p]/\((SqL X.K H p ys/\∀l,H l=none->Q (.ref l) (upd H l (.tup ys)))\/(SqT X.K H p ys/\Q (.ref p) H))):=by
 intro pins s σ H xs us Q I r h;obtain⟨p,ys,rfl,h⟩:=h;obtain⟨u,rfl,rx⟩:=vals1 r;cases rx;rcases h with⟨hq,q⟩|⟨hq,q⟩
 ·obtain⟨its,r',pl,hz⟩:=I.list hq;have hlen:=r'.length;refine call_tuple_list pl.isList (fun h' kp=>?_) (by simp only[ύ]<;>omega);have I1:Inv X pins σ H {s with heap:=h'}:=I.kept (t':=s.toks) kp
  have I2:Inv X pins σ (upd H h'.objs.size (.tup ys)) {s with heap:=h'.push {cls:=.type "tuple",data:=.seq its.toArray}} :=
   I1.laid (t':=s.toks) (fun b o e=>ψ _ e) (ω _) (show zo X.prog X.w _ _ _ (.tup ys)from⟨hz,its,r',IsTup.new _ _⟩)
  exact⟨.ref h'.objs.size,_,I2,rfl,q _ (I1.hok.fresh (ω _))⟩
 ·obtain⟨its,r',pl,hz⟩:=I.tuple hq;exact call_tuple_same pl ⟨.ref p,H,I,rfl,q⟩
def tyV(K:γ)(T:String)(x:V)(H:Hp):Prop:=match x with
 | .str _=>T="str"
 | .int _=>T="int"
 | .ref p=>(T="list"/\∃xs,SqL K H p xs)\/(T="tuple"/\∃o,K.lookup p=some o/\o.cls=.type "tuple"/\o.dict=none) \/
   (T="dict"/\((∃kvs,H p=some (.dK kvs))\/∃kvs,H p=some (.dT kvs)))\/(T="set"/\∃S n,H p=some (.set S n))
 |_=>False
theorem qj3{pins:List (Addr×Obj)}{σ:St}{H:Hp}{s:Shared}{T:String}{x:V}{v:Value}(I:Inv X pins σ H s)(r:RelV x v)(ty:tyV X.K T x H):
  s.TypeIs v T/\∀a,v=.ref a->∃ob,s.heap.get? a=some ob/\ob.dict=none:=by
 cases x with
 |str z=>obtain⟨t,rfl⟩:=r;cases (show T="str" from ty);exact⟨typeIs_str s z t,fun _ e=>nomatch e⟩
 |int i=>obtain⟨t,rfl⟩:=r;cases (show T="int" from ty);exact⟨typeIs_int s i t,fun _ e=>nomatch e⟩
 |ref p=>
  cases r;rcases ty with⟨rfl,xs,hq⟩|⟨rfl,o,hk,hc,hd⟩|⟨rfl,hk⟩|⟨rfl,S,n,hk⟩
  ·obtain⟨its,_,pl,_⟩:=I.list hq;refine⟨pl.isList.typeIs,fun a e=>?_⟩;cases e;obtain⟨o,n,e,c,hd,_⟩:=pl;exact⟨o,e,hd⟩
  ·refine⟨⟨o,I.kIn p o hk,hc⟩,fun a e=>?_⟩;cases e;exact⟨o,I.kIn _ o hk,hd⟩
  ·have z:∃o,s.heap.get? p=some o/\o.ExactDict:=by
    rcases hk with⟨kvs,hk⟩|⟨kvs,hk⟩
    ·obtain⟨_,_,_,_,o,_,_,e,ex,_⟩:=I.hok p _ hk;exact⟨o,e,ex⟩
    ·obtain⟨_,_,_,_,o,_,_,e,ex,_⟩:=I.hok p _ hk;exact⟨o,e,ex⟩
   obtain⟨o,e,ex⟩:=z;refine⟨⟨o,e,ex.1⟩,fun a e2=>?_⟩;cases e2;exact⟨o,e,ex.2.1⟩
  ·obtain⟨o,_,_,_,e,ex,_⟩:=I.hok p _ hk;refine⟨⟨o,e,ex.1⟩,fun a e2=>?_⟩;cases e2;exact⟨o,e,ex.2.1⟩
 |_=>exact False.elim ty
def qpz(K:γ)(T:String)(r:V->List V->Hp->VK->Prop)(to:TE):TE:=fun σ H Q=>to σ H fun x H1=>tyV K T x H1/\r x [] H1 Q
def tBM(K:γ)(T:String)(r:V->List V->Hp->VK->Prop)(to:TE)(t:TA):TE:=fun σ H Q=>to σ H fun x H1=>tyV K T x H1/\t σ H1 fun xs H2=>r x xs H2 Q
variable{o e:Expr}{es:List Expr}{to:TE}{t:TA}{name:Str}{apos cpos:Pos}{T id:String}{r:V->List V->Hp->VK->Prop}
theorem qb2(pa:PlainAttrs T)(slot:Slot T name id)(hty:typeOf (.builtin id)=pure (.type "method_descriptor"))(hm:MtR X id r)(ho:PE X o to)
  (hbase:attributeBase o name X.env (eval o X.env)=eval o X.env:=by rfl) (hline:(apos.endLine==cpos.line)=true:=by rfl):PE X (.Call (.Attribute o name apos) [] [] cpos) (qpz X.K T r to):=by
 intro pins s σ H Q I h;refine wpAny_Call_method0_late hbase hline (thn (ho pins s σ H _ I h) fun v s1 ⟨x,H1,I1,r1,ty,q1⟩=>?_);obtain⟨h1,h2⟩:=qj3 I1 r1 ty;exact⟨T,id,pa,slot,hty,h1,h2,Calls.callWith_builtin rfl (PySem.evalArgs_none (hm pins s1 σ H1 x [] v [] Q I1 r1 .nil q1))⟩
theorem zP(pa:PlainAttrs T)(slot:Slot T name id)(hty:typeOf (.builtin id)=pure (.type "method_descriptor"))(hm:MtR X id r)(ho:PE X o to)(ha:PA X (e::es) t)
  (hbase:attributeBase o name X.env (eval o X.env)=eval o X.env:=by rfl)
  (hfew:((backTo cpos (starEach (e::es) X.env)).all (fun x=>!x.1)&&(backToKw cpos (keywordEach [] X.env)).all (fun x=>x.1.isSome)
   && decide ((e::es).length+([]:List Keyword).length+(if([]:List Keyword).isEmpty then 0 else 1)<30))=true:=by rfl)
  (hline:(apos.endLine==cpos.line)=true:=by rfl) (hs:starEach (e::es) X.env=(false,eval e X.env)::starEach es X.env:=by rfl) (hplain:(backTo cpos (starEach es X.env)).any (·.1)=false:=by rfl):
  PE X (.Call (.Attribute o name apos) (e::es) [] cpos) (tBM X.K T r to t):=by
 intro pins s σ H Q I h;refine wpAny_Call_method_late hbase hfew hline rfl (thn (ho pins s σ H _ I h) fun v s1 ⟨x,H1,I1,r1,ty,q1⟩=>?_);obtain⟨h1,h2⟩:=qj3 I1 r1 ty;refine⟨T,id,pa,slot,hty,h1,h2,?_⟩;have hA:=ha cpos pins s1 σ H1 _ I1 q1;rw[hs]at hA ⊢;refine Calls.callWith_builtin (by show(false||(backTo cpos (starEach es X.env)).any (·.1))=false;rw[hplain]<;>rfl) (Calls.evalArgs_plain ?_);exact thn hA fun us s2 ⟨vs,H2,I2,r2,q2⟩=>hm pins s2 σ H2 x vs v us Q I2 r1 r2 q2
end
def MtM(X:Cx)(id:String)(r:V->List V->Hp->VK->Prop):Prop :=
 ∀(pins:List (Addr×Obj))(s:Shared)(σ:St)(H:Hp)(x:V)(xs:List V)(v:Value)(us:List Value)(Q:VK),Inv X pins σ H s->RelV x v->qD xs us->r x xs H Q ->
  wpAny (model X.prog X.w) X.A (call (.builtin id) (v::us)) (EP X pins σ Q) X.xe s
theorem qD.one:∀{x:V}{us:List Value},qD [x] us->∃u,us=[u]/\RelV x u
 |_,_,.cons r .nil=>⟨_,rfl,r⟩
theorem qD.zero:∀{us:List Value},qD [] us->us=[]
 |_,.nil=>rfl
theorem qD.dropLast {xs:List V} {us:List Value} (h:qD xs us):qD xs.dropLast us.dropLast:=by
 induction h with
 |nil=>exact .nil
 |cons r t ih=>
  cases t with
  |nil=>exact .nil
  |cons q t'=>exact .cons r ih
theorem qD.reverse {xs:List V} {us:List Value} (h:qD xs us):qD xs.reverse us.reverse:=by
 induction h with
 |nil=>exact .nil
 |cons r t ih=>rw[Ydr,Ydr];exact qD.append ih (.cons r .nil)
theorem qiT{α:Type}(l:List α):l.eraseIdx (l.length - 1)=l.dropLast:=by
 induction l with
 |nil=>rfl
 |cons a r ih=>
  cases r with
  |nil=>rfl
  |cons b r=>
   have e:(a::b::r).length - 1=((b::r).length - 1)+1:=by have h1:(a::b::r).length=r.length+2:=rfl;have h2:(b::r).length=r.length+1:=rfl;omega
   rw[e,List.eraseIdx_cons_succ,ih]
   all_goals rfl
section
variable{X:Cx}{pins:List (Addr×Obj)}{σ:St}{H:Hp}{s:Shared}{l b:Addr}{xs ys zs:List V}
theorem Inv.lset {its its':List Value} {n:Nat} {f:Array Value->Array Value} {t':Nat} (I:Inv X pins σ H s) (hH:H l=some (.lst xs))
  (e:s.heap.get? l=some {cls:=.type "list",data:=.seq its.toArray n}) (hf:f its.toArray=its'.toArray) (hv:qD ys its') (hz:ys.length<=Λ):
  Inv X pins σ (upd H l (.lst ys)) {s with heap:=s.heap.update l (Obj.mapSeq f),toks:=t'}:=by
 have q:=PySem.IsL.update e f;rw[hf]at q;refine I.write (x:=l) (e:=l) (by rw[hH];exact trivial) (.inl rfl) (fun b' u hb hu=>(Ybo s.heap (Obj.mapSeq f) (Ne.symm hb)).trans hu) ⟨_,q⟩ ?_;exact⟨hz,its',_,hv,q⟩
theorem Inv.lnew {its:List Value} {t':Nat} (I:Inv X pins σ H s) (hv:qD ys its) (hz:ys.length<=Λ):
  Inv X pins σ (upd H s.heap.objs.size (.lst ys)) {s with heap:=s.heap.push {cls:=.type "list",data:=.seq its.toArray},toks:=t'} :=
 I.laid (fun _ _ q=>ψ _ q) (ω _) ⟨hz,its,0,hv,Ybk _ rfl⟩
theorem Inv.fresh (I:Inv X pins σ H s):H s.heap.objs.size=none:=I.hok.fresh (ω _)
theorem Inv.lstM (I:Inv X pins σ H s) (hH:H l=some (.lst xs)):xs.length<=Λ/\∃(its:List Value)(n:Nat),qD xs its/\xs.length=its.length/\s.heap.get? l=some {cls:=.type "list",data:=.seq its.toArray n}:=by obtain⟨z,its,n,r,e⟩:=I.hok l _ hH;exact⟨z,its,n,r,r.length,e⟩
theorem qlC{n:Nat}(h:n<=Λ):Builtin.List.listTooLong n=false:=by unfold Builtin.List.listTooLong;exact decide_eq_false (by omega)
end
section
variable{X:Cx}
def qie:V->List V->Hp->VK->Prop:=fun x vs H Q=>∃l xs y,x=.ref l/\vs=[y]/\H l=some (.lst xs)/\xs.length<Λ/\Q .non (upd H l (.lst (xs++[y])))
theorem zq:MtM X "list.append" qie:=by intro pins s σ H x vs v us Q I rx rv h;obtain⟨l,xs,y,rfl,rfl,hH,hz,q⟩:=h;cases rx;obtain⟨u,rfl,ru⟩:=rv.one;obtain⟨z,its,n,r,hl,e⟩:=I.lstM hH;refine call_meets F.slot_list_append ⟨_,e,rfl⟩ F.entry_list_append (F.args_list_append_2 _ _) (PySem.list_append l its.toArray n u (by rw[ύ];omega)) ⟨e,?_⟩;refine⟨.non,_,I.lset (its':=its++[u]) hH e (by simp) (r.append (.cons ru .nil)) ?_,rfl,q⟩;rw[ν,Yco];omega
def qna:V->List V->Hp->VK->Prop:=fun x vs H Q=>∃l b xs zs,x=.ref l/\vs=[.ref b]/\H l=some (.lst xs)/\H b=some (.lst zs)/\xs.length+zs.length<=Λ/\Q .non (upd H l (.lst (xs++zs)))
theorem jU:MtM X "list.extend" qna:=by
 intro pins s σ H x vs v us Q I rx rv h;obtain⟨l,b,xs,zs,rfl,rfl,hH,hB,hz,q⟩:=h;cases rx;obtain⟨u,rfl,ru⟩:=rv.one;cases ru;obtain⟨z,its,n,r,hl,e⟩:=I.lstM hH;obtain⟨z2,its2,n2,r2,hl2,e2⟩:=I.lstM hB;have hsz:its.toArray.size+its2.toArray.size<=Λ:=by rw[ύ,ύ];omega
 have hlong:¬(!its.toArray.isEmpty&&Builtin.List.listTooLong (its.toArray.size+its2.toArray.size))=true:=by rw[qlC hsz,Bool.and_false];exact ϋ
 refine call_meets F.slot_list_extend ⟨_,e,rfl⟩ F.entry_list_extend (F.args_list_extend_2 _ _)
  (AutoSeq1.list_extend_list_list_0 l its.toArray n b its2.toArray n2 hlong (by rw[ύ];omega) (by omega)) ⟨e,e2,?_⟩
 refine⟨.non,_,I.lset (its':=its++its2) hH e (by simp) (r.append r2) ?_,rfl,q⟩;rw[ν];omega
def qpA:V->List V->Hp->VK->Prop:=fun x vs H Q=>∃l xs y,x=.ref l/\vs=[]/\H l=some (.lst xs)/\xs[xs.length - 1]?=some y/\Q y (upd H l (.lst xs.dropLast))
theorem qb3:MtM X "list.pop" qpA:=by
 intro pins s σ H x vs v us Q I rx rv h;obtain⟨l,xs,y,rfl,rfl,hH,hy,q⟩:=h;cases rx;have hus:=rv.zero;subst hus;obtain⟨z,its,n,r,hl,e⟩:=I.lstM hH;obtain⟨u,hu,ru⟩:=r.get hy;have hy':its.toArray[its.toArray.size - 1]?=some u:=by show its.toArray[its.length - 1]?=some u;rw[<- Array.getElem?_toList,<- hl];exact hu
 refine call_meets F.slot_list_pop ⟨_,e,rfl⟩ F.entry_list_pop (F.args_list_pop_1 _) (MeetsSeq.list_pop_last l its.toArray n u hy' (by rw[ύ];omega)) ⟨e,?_⟩;refine⟨y,_,I.lset (its':=its.dropLast) hH e ?_ r.dropLast ?_,ru,q⟩
 ·show its.toArray.eraseIdxIfInBounds (its.toArray.size - 1)=its.dropLast.toArray;rw[ύ,List.eraseIdxIfInBounds_toArray,qiT]
 ·rw[List.length_dropLast];omega
def qob:R2:=fun x y H Q=>∃l b xs zs,x=.ref l/\y=.ref b/\H l=some (.lst xs)/\H b=some (.lst zs)/\xs.length+zs.length<=Λ/\∀p,H p=none->Q (.ref p) (upd H p (.lst (xs++zs)))
theorem qb4:OpR X (binaryOp .Add) qob:=by
 intro pins s σ H x y v u Q I rx ry h;obtain⟨l,b,xs,zs,rfl,rfl,hH,hB,hz,q⟩:=h;cases rx;cases ry;obtain⟨z,its,n,r,hl,e⟩:=I.lstM hH;obtain⟨z2,its2,n2,r2,hl2,e2⟩:=I.lstM hB;refine PySem.P.add_list e e2 ?_ (by rw[ύ,ύ];omega);have ea:its.toArray++its2.toArray=(its++its2).toArray:=by simp
 rw[ea];exact⟨.ref _,_,I.lnew (t':=s.toks) (r.append r2) (by rw[ν];omega),rfl,q _ I.fresh⟩
end
section
variable{prog:Program}{w:World}{A:Around}{E:Value->Shared->Prop}{s:Shared}
set_option maxRecDepth 100000 in
end
theorem qD.ints:∀{ns:List Int}{us:List Value},qD (ns.map V.int) us->IntsAre us ns
 |[],us,h=>by rw[YcV]at h;cases h;exact IntsAre.nil
 |n::ns,us,h=>by
  rw[Ybp]at h;cases h with
  |cons r t=>obtain⟨k,rfl⟩:=r;exact IntsAre.cons n k (qD.ints t)
theorem qD.ref1 {a:Addr} {us:List Value} (r:qD [V.ref a] us):us=[Value.ref a]:=by
 cases r with
 |cons r t=>cases t;cases r;rfl
mutual
inductive Dp(K:γ)(H:Hp):V->PyData->Prop
 |non:Dp K H .non .none
 |bl (b:Bool):Dp K H (.bl b) (.bool b)
 |int (i:Int):Dp K H (.int i) (.int i)
 |str (x:Str):Dp K H (.str x) (.str x)
 |lst {a:Addr} {xs:List V} {ds:List PyData}:SqL K H a xs->qa8 K H xs ds->Dp K H (.ref a) (.list ds)
 |tup {a:Addr} {xs:List V} {ds:List PyData}:SqT K H a xs->qa8 K H xs ds->Dp K H (.ref a) (.tuple ds)
inductive qa8(K:γ)(H:Hp):List V->List PyData->Prop
 |nil:qa8 K H [] []
 |cons {v:V} {vs:List V} {d:PyData} {ds:List PyData}:Dp K H v d->qa8 K H vs ds->qa8 K H (v::vs) (d::ds)
end
section
variable{X:Cx}{pins:List (Addr×Obj)}{σ:St}{H:Hp}{s:Shared}
mutual
theorem Dp.reads (I:Inv X pins σ H s):∀(d:PyData)(v:V)(u:Value),Dp X.K H v d->RelV v u->∃as,Reads s.heap u d as
 | .none,_,_,h,r=>by cases h;cases r;exact⟨_,Reads.none⟩
 | .bool b,_,_,h,r=>by cases h;cases r;exact⟨_,Reads.bool b⟩
 | .int i,_,_,h,r=>by cases h;obtain⟨t,rfl⟩:=r;exact⟨_,Reads.int i t⟩
 | .str x,_,_,h,r=>by cases h;obtain⟨t,rfl⟩:=r;exact⟨_,Reads.str x t⟩
 | .list ds,_,_,h,r=>by
  cases h with
  |lst hs ha=>cases r;obtain⟨its,rv,⟨o,n,ho,hc,_,hd⟩,_⟩:=I.list hs;obtain⟨as,hr⟩:=Dp.readsAll I ds _ its ha rv;exact⟨_,Reads.list ho hc hd hr⟩
 | .tuple ds,_,_,h,r=>by
  cases h with
  |tup hs ha=>cases r;obtain⟨its,rv,⟨o,ho,hc,n,hd⟩,_⟩:=I.tuple hs;obtain⟨as,hr⟩:=Dp.readsAll I ds _ its ha rv;exact⟨_,Reads.tuple ho hc hd hr⟩
 | .dict _,_,_,h,_=>by cases h
theorem Dp.readsAll (I:Inv X pins σ H s):∀(ds:List PyData)(vs:List V)(us:List Value),qa8 X.K H vs ds->qD vs us->∃as,ReadsAll s.heap us ds as
 |[],_,_,h,r=>by cases h;cases r;exact⟨_,ReadsAll.nil⟩
 |d::ds,_,_,h,r=>by
  cases h with
  |cons h1 h2=>
   cases r with
   |cons r1 r2=>obtain⟨as,q1⟩:=Dp.reads I d _ _ h1 r1;obtain⟨bs,q2⟩:=Dp.readsAll I ds _ _ h2 r2;exact⟨_,ReadsAll.cons q1 q2⟩
end
end
section
variable{X:Cx}
def qoc(K:γ):R2:=fun x y H Q=>∃d e,Dp K H x d/\Dp K H y e/\SeqAt.shaped d=true/\SeqAt.shaped e=true/\Q (.bl (PyData.eqv d e)) H
theorem qj4(hu:X.A.units+64<cLine):OpR X (compareOp .Eq) (qoc X.K):=by intro pins s σ H x y v u Q I rx ry h;obtain⟨d,e,hd,he,sd,se,q⟩:=h;obtain⟨as,r1⟩:=Dp.reads I d x v hd rx;obtain⟨bs,r2⟩:=Dp.reads I e y u he ry;exact SeqAt.compareEq_shaped r1 r2 sd se hu ⟨.bl _,H,I,rfl,q⟩
end
abbrev qj5(h:Heap)(c:Addr)(v:Option Value):Prop:=h.IsCell c v
noncomputable def qpB(scope sc:Scope):Scope :={scope with names:=scope.names.map fun(n,k)=>if(k==.free&&sc.kind==.function&&sc.names.lookup n==some .cell)then(n,.cell)else(n,k)}
noncomputable def zF(cells:List (Str×Addr)):List (Str×NameKind)->List (Str×Addr)->List (Str×Addr)
 |[],acc=>acc
 |(n,k)::r,acc=>if k==.free then zF cells r ((n,(cells.lookup n).getD 0)::acc)else zF cells r acc
theorem qb5(env:Env)(f:Str×NameKind->List (Str×Addr)->Sem (ForInStep (List (Str×Addr))))
  (hf:∀n k c,f (n,k) c=if k==.free then(do let a <- cellOf env n;pure (.yield ((n,a)::c)))else pure (.yield c)):
  ∀(names:List (Str×NameKind))(acc:List (Str×Addr)),(∀y∈names,y.2=.free->∃c,env.cells.lookup y.1=some c)->forIn names acc f=pure (zF env.cells names acc)
 |[],acc,_=>by rw[Ydf];rfl
 |(n,k)::r,acc,h=>by
  rw[YdD,hf];have ih:=fun acc=>qb5 env f hf r acc fun y hy=>h y (ρ _ hy);unfold zF;by_cases hk:(k==NameKind.free)=true
  ·rw[if_pos hk,if_pos hk];obtain⟨c,hc⟩:=h (n,k) π (by simpa using hk);have e:cellOf env n=pure c:=by unfold cellOf;rw[hc]
   rw[e];have e2:(env.cells.lookup n).getD 0=c:=by rw[hc];rfl
   rw[e2];exact ih _
  ·rw[if_neg hk,if_neg hk];exact ih _
theorem qiU{scope:Scope}{env:Env}(h:∀y∈scope.names,y.2=.free->∃c,env.cells.lookup y.1=some c):closureFor scope env=pure (zF env.cells scope.names []):=by simp only[closureFor];rw[qb5 env _ (fun n k c=>rfl) scope.names [] h];rfl
theorem mem_lookup{α:Type}:∀{l:List (Str×α)}{n:Str}{c:α},(n,c)∈l->∃c',l.lookup n=some c'
 |(k,v)::r,n,c,h=>by
  rw[Ycd];cases hb:n==k with
  |true=>exact⟨_,rfl⟩
  |false=>
   rcases Γ.mp h with e|h
   ·cases e;simp at hb
   ·exact mem_lookup h
theorem Jv{cells:List (Str×Addr)}:∀{names:List (Str×NameKind)}{acc:List (Str×Addr)}{n:Str}{c:Addr},(n,c)∈zF cells names acc->(n,c)∈acc\/((n,.free)∈names/\c=(cells.lookup n).getD 0)
 |[],_,_,_,h=>.inl h
 |(m,k)::r,acc,n,c,h=>by
  unfold zF at h
  split at h
  ·rename_i hk;have hk:k=.free:=by simpa using hk
   rcases Jv h with h|⟨h1,h2⟩
   ·rcases Γ.mp h with e|h
    ·cases e;exact .inr ⟨hk▸π,rfl⟩
    ·exact .inl h
   ·exact .inr ⟨ρ _ h1,h2⟩
  ·rcases Jv h with h|⟨h1,h2⟩
   ·exact .inl h
   ·exact .inr ⟨ρ _ h1,h2⟩
theorem qar{cells:List (Str×Addr)}:∀{names:List (Str×NameKind)}{acc:List (Str×Addr)}{p:Str×Addr},p∈acc->p∈zF cells names acc
 |[],_,_,h=>h
 |(m,k)::r,acc,p,h=>by
  unfold zF
  split
  ·exact qar (ρ _ h)
  ·exact qar h
theorem qas{cells:List (Str×Addr)}:∀{names:List (Str×NameKind)}{acc:List (Str×Addr)}{n:Str},(n,.free)∈names->(n,(cells.lookup n).getD 0)∈zF cells names acc
 |(m,k)::r,acc,n,h=>by
  unfold zF;rcases Γ.mp h with e|h
  ·cases e;exact qar π
  ·split
   ·exact qas h
   ·exact qas h
theorem JG:∀{names:List (Str×NameKind)}{h:Heap}{acc:List (Str×Addr)}{x:Str}{c:Addr},(x,c)∈cellsFrom h.objs.size names acc ->
  (x,c)∈acc\/((x,.cell)∈names/\h.objs.size<=c/\qj5 (pushCells h names) c none)
 |[],_,_,_,_,h=>.inl h
 |(n,k)::r,h,acc,x,c,hm=>by
  unfold cellsFrom at hm;unfold pushCells
  split at hm
  ·rename_i hk;rw[if_pos hk];have hk:k=.cell:=by simpa using hk
   rw[<- YbM h {cls:=.type "cell",data:=.cell none}]at hm;rcases JG hm with hm|⟨h1,h2,h3⟩
   ·rcases Γ.mp hm with e|hm
    ·cases e;exact .inr ⟨hk▸π,ω _,_,pushCells_keeps r _ _ _ (Ybk _ rfl),rfl⟩
    ·exact .inl hm
   ·rw[YbM]at h2;exact .inr ⟨ρ _ h1,YcW h2,h3⟩
  ·rename_i hk;rw[if_neg hk];rcases JG hm with hm|⟨h1,h2,h3⟩
   ·exact .inl hm
   ·exact .inr ⟨ρ _ h1,h2,h3⟩
theorem qaj:∀{names:List (Str×NameKind)}{n:Nat}{acc:List (Str×Addr)}{p:Str×Addr},p∈acc->p∈cellsFrom n names acc
 |[],_,_,_,h=>h
 |(m,k)::r,n,acc,p,h=>by
  unfold cellsFrom
  split
  ·exact qaj (ρ _ h)
  ·exact qaj h
theorem qb6:∀{names:List (Str×NameKind)}{n:Nat}{acc:List (Str×Addr)}{x:Str},(x,.cell)∈names->∃c,(x,c)∈cellsFrom n names acc
 |(m,k)::r,n,acc,x,h=>by
  unfold cellsFrom;rcases Γ.mp h with e|h
  ·cases e;exact⟨n,qaj π⟩
  ·split
   ·exact qb6 h
   ·exact qb6 h
theorem qb7:∀{names:List (Str×NameKind)}{h:Heap}{acc:List (Str×Addr)}{x y:Str}{c:Addr},(∀p∈acc,p.2<h.objs.size)->(∀x y c,(x,c)∈acc->(y,c)∈acc->x=y) ->
  (x,c)∈cellsFrom h.objs.size names acc->(y,c)∈cellsFrom h.objs.size names acc->x=y
 |[],_,_,_,_,_,_,hi,h1,h2=>hi _ _ _ h1 h2
 |(n,k)::r,h,acc,x,y,c,hl,hi,h1,h2=>by
  unfold cellsFrom at h1 h2
  split at h1
  ·rename_i hk;rw[if_pos hk]at h2;rw[<- YbM h {cls:=.type "cell",data:=.cell none}]at h1 h2;refine qb7 (h:=h.push _) (fun p hp=>?_) (fun x y c a b=>?_) h1 h2
   ·rw[YbM];rcases Γ.mp hp with rfl|hp
    ·exact YbE _
    ·exact Yds (hl p hp)
   ·rcases Γ.mp a with e|a<;>rcases Γ.mp b with e'|b
    ·cases e;cases e';rfl
    ·cases e;exact absurd (hl _ b) (YbN _)
    ·cases e';exact absurd (hl _ a) (YbN _)
    ·exact hi _ _ _ a b
  ·rename_i hk;rw[if_neg hk]at h2;exact qb7 hl hi h1 h2
theorem qhF{M:Model}{A:Around}{E:Value->Shared->Prop}{s:Shared}{scope:Scope}{globals:Addr}{closure:List (Str×Addr)}{qual:Str}{func:Option Addr}{code:Value}{around:Env}{builtins:Addr}{Q:Env->Shared->Prop}
  (h:Q (newEnv scope s.heap.objs.size globals (cellsFrom (s.heap.objs.size+1) scope.names closure) qual func code (some around) builtins)
   {s with heap:=pushCells (s.heap.push {cls:=.type "dict",data:=.dict #[]}) scope.names}):
  wpAny M A (newFunctionEnv scope globals closure [] qual func code (some around) builtins) Q E s:=by
 simp only[newFunctionEnv,YdS,if_true];refine ε (wpAny_alloc ?_);refine ε (wpAny_layCells _ (fun n k c=>rfl) scope.names closure _ _ ?_);rw[show({s with heap:=s.heap.push {cls:=.type "dict",data:=.dict #[]}}:Shared).heap.objs.size=s.heap.objs.size+1 from YbM ..];rw[Ydf];exact ε (Φ (Φ h))
theorem qat{sc:Scope}:∀{names:List (Str×NameKind)}{x:Str}{k:NameKind},
  (names.map fun(n,k)=>if(k==NameKind.free&&sc.kind==.function&&sc.names.lookup n==some .cell)then(n,NameKind.cell)else(n,k)).lookup x=some k ->
  ∃k',names.lookup x=some k'/\(k=k'\/(k'=.free/\k=.cell))
 |[],_,_,h=>by simp at h
 |(n,k₀)::r,x,k,h=>by
  have ih:=@qat sc r x k;have h':YcD x ((if(k₀==NameKind.free&&sc.kind==.function&&sc.names.lookup n==some .cell)=true then(n,NameKind.cell)else(n,k₀))::(r.map _))=some k:=h;cases hx:x==n with
  |true=>
   simp only[Ycd,hx];by_cases hc:(k₀==NameKind.free&&sc.kind==.function&&sc.names.lookup n==some .cell)=true
   ·rw[if_pos hc]at h';simp only[Ycd,hx]at h';cases h';simp only[Ybm,beq_iff_eq]at hc;exact⟨k₀,rfl,.inr ⟨hc.1.1,rfl⟩⟩
   ·rw[if_neg hc]at h';simp only[Ycd,hx]at h';cases h';exact⟨_,rfl,.inl rfl⟩
  |false=>
   simp only[Ycd,hx];by_cases hc:(k₀==NameKind.free&&sc.kind==.function&&sc.names.lookup n==some .cell)=true
   ·rw[if_pos hc]at h';simp only[Ycd,hx]at h';exact ih h'
   ·rw[if_neg hc]at h';simp only[Ycd,hx]at h';exact ih h'
structure qdI(N:List Str)(sc scope:Scope)(own:List (Str×Nat)):Prop where
 kind:scope.kind=.function
 uniq:∀y∈scope.names,scope.names.lookup y.1=some y.2
 ix:∀p∈own,N[p.2]?=some p.1
 free:∀y∈scope.names,y.2=.free->sc.names.lookup y.1=some .cell\/sc.names.lookup y.1=some .free
 own:∀y∈scope.names,y.2=.local\/y.2=.cell->y.1∈own.map (·.1)\/y.1∉N
noncomputable def wipe(σ:St):List Nat->St
 |[]=>σ
 |v::vs=>(wipe σ vs).set v none
theorem qau(σ:St):∀vs:List Nat,(wipe σ vs).length=σ.length
 |[]=>rfl
 |v::vs=>by unfold wipe;rw[Yc3,qau σ vs]
theorem qb8{σ:St}{i:Nat}{x:V}:∀{vs:List Nat},(wipe σ vs)[i]?=some (some x)->σ[i]?=some (some x)/\i∉vs
 |[],h=>⟨h,by simp⟩
 |v::vs,h=>by
  unfold wipe at h;by_cases hi:v=i
  ·subst hi;by_cases hv:v<(wipe σ vs).length
   ·rw[Ycv hv]at h;cases h
   ·rw[YcY (by simpa using hv)]at h;cases h
  ·rw[Yc1 hi]at h;obtain⟨h1,h2⟩:=qb8 h;exact⟨h1,by simp only[Γ,not_or];exact⟨fun e=>hi e.symm,h2⟩⟩
abbrev Cx.blk (X:Cx) (s:Shared) (H:Hp) (scope:Scope) (cenv:Env) (fp:List Addr):Cx:={X with s_0:=s,H_0:=H,env:=cenv,outer:=X.stack,ex:=fp,fn:=fun x=>scope.names.lookup x==some .cell,pn:=[],xe:=fun _ _=>False}
section
variable{X:Cx}{pins:List (Addr×Obj)}{σ:St}{H:Hp}{s:Shared}
theorem qhG{scope:Scope}{own:List (Str×Nat)}{fp:List Addr}(I:Inv X pins σ H s)(ok:qdI X.N X.env.scope scope own)(hN:X.N.Nodup)(hfp:∀b∈fp,Q5 X pins H b/\b<s.heap.objs.size):
  Inv (X.blk s H scope (compEnvC scope (cellsFrom (s.heap.objs.size+1) scope.names (zF X.env.cells scope.names [])) s.heap.objs.size X.env) fp) [] (wipe σ (own.map (·.2))) H {s with heap:=pushCells (s.heap.push {cls:=.type "dict",data:=.dict #[]}) scope.names}:=by
 have hfree:∀y∈scope.names,y.2=.free->∃c,X.env.cells.lookup y.1=some c:=fun y hy e=>by
  rcases ok.free y hy e with k|k
  ·exact I.ok.has _ (.inl k)
  ·exact I.ok.has _ (.inr k)
 generalize hcenv:compEnvC scope (cellsFrom (s.heap.objs.size+1) scope.names (zF X.env.cells scope.names [])) s.heap.objs.size X.env=cenv;have kp:∀b o,s.heap.get? b=some o->(pushCells (s.heap.push {cls:=.type "dict",data:=.dict #[]}) scope.names).get? b=some o:=fun b o e=>pushCells_keeps _ _ _ _ (ψ _ e);have hL:cenv.locals=s.heap.objs.size:=by rw[<- hcenv];rfl
 have hcl:cenv.cells=cellsFrom (s.heap.objs.size+1) scope.names (zF X.env.cells scope.names []):=by rw[<- hcenv];rfl
 have hsc:cenv.scope=qpB scope X.env.scope:=by rw[<- hcenv];rfl
 rw[<- YbM s.heap {cls:=.type "dict",data:=.dict #[]}]at hcl
 have cm:∀{y c},(y,c)∈zF X.env.cells scope.names []->X.env.cells.lookup y=some c/\c<s.heap.objs.size:=fun{y c} hm=>by
  rcases Jv hm with hm|⟨h1,rfl⟩
  ·cases hm
  ·obtain⟨c,hc⟩:=hfree _ h1 rfl;rw[hc];obtain⟨w,z⟩:=I.cell _ _ hc;exact⟨rfl,z.lt⟩
 have mem:∀{y c},cenv.cells.lookup y=some c->(X.env.cells.lookup y=some c/\c<s.heap.objs.size)\/(s.heap.objs.size+1<=c/\qj5 (pushCells (s.heap.push {cls:=.type "dict",data:=.dict #[]}) scope.names) c none):=fun{y c} e=>by
  rw[hcl]at e;rcases JG (PySem.mem_of_lookup e)with hm|⟨_,h2,h3⟩
  ·exact .inl (cm hm)
  ·rw[YbM]at h2;exact .inr ⟨h2,h3⟩
 have look:∀{y},scope.names.lookup y=some .free->∃c,cenv.cells.lookup y=some c/\X.env.cells.lookup y=some c:=fun{y} hl=>by
  have hy:(y,NameKind.free)∈scope.names:=PySem.mem_of_lookup hl;obtain⟨c',e'⟩:=mem_lookup (qaj (names:=scope.names) (n:=(s.heap.push {cls:=.type "dict",data:=.dict #[]}).objs.size) (qas (cells:=X.env.cells) (acc:=[]) hy));rw[<- hcl]at e';refine⟨c',e',?_⟩;rw[hcl]at e';rcases JG (PySem.mem_of_lookup e')with hm|⟨h1,_,_⟩
  ·exact(cm hm).1
  ·have:=ok.uniq _ h1;rw[hl]at this;cases this
 have okB:(X.blk s H scope cenv fp).Ok:=by
  refine⟨I.ok.mod,by show cenv.scope.kind=_;rw[hsc];exact ok.kind,by show cenv.globals=_;rw[<- hcenv];exact I.ok.glob,by show cenv.builtins=_;rw[<- hcenv];exact I.ok.blt,by show s.heap.objs.size<=cenv.locals;rw[hL];exact ω _,
   fun y z c e1 e2=>?_,fun y hy=>?_,fun y c z e=>?_,I.ok.hd,I.ok.frames,.inl rfl,fun b hb=>⟨?_,fun y c e z=>?_⟩,I.bs,Ybx I.ok.bsz I.sz,fun b o e hb=>?_,fun b hb z=>?_,I.stack,I.stkFree⟩
  ·have e1:cenv.cells.lookup y=some c:=e1;have e2:cenv.cells.lookup z=some c:=e2;rw[hcl]at e1 e2;refine qb7 (fun p hp=>?_) (fun y z c a b=>I.ok.inj y z c (cm a).1 (cm b).1) (PySem.mem_of_lookup e1) (PySem.mem_of_lookup e2);rw[YbM];exact Yds (cm (y:=p.1) (c:=p.2) hp).2
  ·show ∃c,cenv.cells.lookup y=some c
   have key:∀k,cenv.kindOf y=some k->(k=.cell\/k=.free)->∃c,cenv.cells.lookup y=some c:=fun k hk hk'=>by
    unfold Env.kindOf at hk;rw[hsc]at hk;obtain⟨k',e,r⟩:=qat hk
    have:k'=.cell\/k'=.free:=by
     rcases r with rfl|⟨rfl,_⟩
     ·exact hk'
     ·exact .inr rfl
    rcases this with rfl|rfl
    ·obtain⟨c,hm⟩:=qb6 (n:=(s.heap.push {cls:=.type "dict",data:=.dict #[]}).objs.size) (acc:=zF X.env.cells scope.names []) (PySem.mem_of_lookup e);obtain⟨c',e'⟩:=mem_lookup hm;exact⟨c',by rw[hcl];exact e'⟩
    ·obtain⟨c,h1,_⟩:=look e;exact⟨c,h1⟩
   rcases hy with hy|hy
   ·exact key _ hy (.inl rfl)
   ·exact key _ hy (.inr rfl)
  ·have z:(scope.names.lookup y==some NameKind.cell)=true:=z;have z:scope.names.lookup y=some .cell:=by simpa using z
   have e:cenv.cells.lookup y=some c:=e;rw[hcl]at e;rcases JG (PySem.mem_of_lookup e)with hm|⟨_,h2,_⟩
   ·rcases Jv hm with hm|⟨h1,_⟩
    ·cases hm
    ·have q:=ok.uniq _ h1;rw[z]at q;cases q
   ·rw[YbM]at h2;exact YcW h2
  ·show b≠cenv.locals;rw[hL];exact Ybr (hfp b hb).2
  ·have e:cenv.cells.lookup y=some c:=e;rcases mem e with⟨h1,_⟩|⟨h1,_⟩
   ·exact(hfp b hb).1.2.2.2.2.1 y c h1 z
   ·have h2:s.heap.objs.size+1<=b:=by rw[<- z];exact h1
    exact absurd (Ybl (hfp b hb).2 (YcW h2)) (YbN _)
  ·rcases(hfp b hb).1.2.2.2.1 with z|z
   ·exact I.ok.noex b o e z
   ·exact absurd (Ybl (Ξ e) (Ybx I.ok.bsz z)) (YbN _)
  ·rcases Γ.mp (I.stkSub b z)with z|z
   ·exact(hfp b hb).1.2.1 z
   ·exact(hfp b hb).1.2.2.1 z
 refine⟨okB,rfl,I.bare,Un.kept kp,⟨fun _=>none,?_,fun i y av e1 e2 e3=>?_⟩,fun y c e=>?_,?_,fun y c e=>?_,fun p hp=>?_,I.hok.kept kp,by rw[qau];exact I.len⟩
 ·show Heap.Ns _ cenv.locals _;rw[hL];exact Heap.Ns.keeps (Heap.Ns.new ..) fun b o e=>pushCells_keeps _ _ _ _ e
 ·obtain⟨e2,hne⟩:=qb8 e2
  have hfr:scope.names.lookup y=some .free/\(cenv.kindOf y=some .cell\/cenv.kindOf y=some .free):=by
   have key:∀k,cenv.scope.names.lookup y=some k->k=.local\/k=.cell\/k=.free->scope.names.lookup y=some .free/\(cenv.kindOf y=some .cell\/cenv.kindOf y=some .free):=fun k hk hk'=>by
    have hk0:=hk;rw[hsc]at hk;obtain⟨k',e,r⟩:=qat hk
    have no:¬(k'=.local\/k'=.cell):=fun hh=>by
     rcases ok.own _ (PySem.mem_of_lookup e) hh with e'|e'
     ·obtain⟨p,hp,hpy⟩:=Yb7.mp e';have e3:=ok.ix p hp;have:p.1=y:=hpy;rw[this]at e3;exact hne (Yb7.mpr ⟨p,hp,qde hN e3 e1⟩)
     ·exact e' (YbD e1)
    rcases r with rfl|⟨rfl,rfl⟩
    ·rcases hk' with rfl|rfl|rfl
     ·exact absurd (.inl rfl) no
     ·exact absurd (.inr rfl) no
     ·exact⟨e,.inr hk0⟩
    ·exact⟨e,.inl hk0⟩
   have e3:Vis cenv.scope y:=e3;rcases e3 with e3|e3|e3
   ·exact key _ e3 (.inl rfl)
   ·exact key _ e3 (.inr (.inl rfl))
   ·exact key _ e3 (.inr (.inr rfl))
  obtain⟨m,hn,hl⟩:=I.loc;have hvis:Vis X.env.scope y:=(ok.free _ (PySem.mem_of_lookup hfr.1) rfl).elim (fun k=>.inr (.inl k)) (fun k=>.inr (.inr k));obtain⟨w,r,q⟩:=hl i y av e1 e2 hvis;refine⟨w,r,.inr ⟨hfr.2,?_⟩⟩;obtain⟨c,h1,h2⟩:=look hfr.1;rcases q with⟨k,_⟩|⟨_,c',e',z⟩
  ·have k:X.env.scope.names.lookup y=some .local:=k;rcases ok.free _ (PySem.mem_of_lookup hfr.1) rfl with k'|k'<;>rw[show X.env.scope.names.lookup y=_ from k']at k<;>cases k
  ·rw[h2]at e';cases e';exact⟨c,h1,z.keeps kp⟩
 ·have e:cenv.cells.lookup y=some c:=e;rcases mem e with⟨h1,_⟩|⟨_,z⟩
  ·obtain⟨w,z⟩:=I.cell y c h1;exact⟨w,z.keeps kp⟩
  ·exact⟨_,z⟩
 ·show H cenv.locals=none;rw[hL];exact I.hok.fresh (ω _)
 ·have e:cenv.cells.lookup y=some c:=e;rcases mem e with⟨h1,_⟩|⟨h1,_⟩
  ·exact I.freeC y c h1
  ·exact I.hok.fresh (YcW h1)
 ·exact absurd (show p∈([]:List (Addr×Obj))++[]from hp) (by simp)
theorem qod{E:Value->Shared->Prop}{D:Addr}{xs:List V}{y:V}{v:Value}{Q:Value->Shared->Prop}(I:Inv X pins σ H s)(hD:H D=some (.lst xs))(hz:xs.length<Λ)(r:RelV y v)
  (h:∀s',Inv X pins σ (upd H D (.lst (xs++[y]))) s'->Q .none s'):wpAny (model X.prog X.w) X.A (call (.builtin "list.append") [.ref D,v]) Q E s:=by
 obtain⟨hz',its,n,ri,e⟩:=I.hok D _ hD;have hl:=ri.length;refine append_at (hsz:=by rw[ύ];omega) e fun h' sb ho'=>?_;refine h {s with heap:=h'} (I.write (t':=s.toks) (by rw[hD];trivial) (.inl rfl) (fun b u hb q=>(sb.2 b hb).trans q) ⟨_,ho'⟩ ⟨by rw[ν];exact hz,its++[v],n+1,ri.append (.cons r .nil),?_⟩);rw[ho'];simp
def PTs(X:Cx)(ifs:List Expr)(t:TT):Prop :=
 ∀(pins:List (Addr×Obj))(s:Shared)(σ:St)(H:Hp)(Q:Bool->Hp->Prop),Inv X pins σ H s->t σ H Q ->
  wpAny (model X.prog X.w) X.A (forIn ifs true fun c r=>if r=true then do let ok <- isTrue c X.env (eval c X.env);pure (ForInStep.yield ok)else pure (ForInStep.yield r)) (TP X pins σ Q) X.xe s
def qlD:TT:=fun _ H Q=>Q true H
theorem qaH:PTs X [] qlD:=fun _ _ _ H _ I h=>wpAny_tests_nil ⟨H,I,h⟩
end
theorem qen{α:Type}{t:Sem α}{Q Q':α->Shared->Prop}{M:Model}{A:Around}{E:Value->Shared->Prop}{s:Shared}(h:wpAny M A t Q (fun _ _=>False) s)(hQ:∀a s,Q a s->Q' a s):wpAny M A t Q' E s:=wpAny_mono h hQ fun _ _ z=>False.elim z
theorem qgn{prog:Program}{w:World}{A:Around}{R:Result->Shared->Prop}{s:Shared}{elt target iter:Expr}{ifs:List Expr}{scope:Scope}{pos:Pos}{it acc:Value}{env:Env}(I:Nat->Shared->Prop)
  (turn:∀n s,I n s->wpAny (model prog w) A (pyNext it) (fun r s₁=>match r with
   |none=>R (.ok .next) s₁
   | some v=>wpAny (model prog w) A (letOwnedTupleGo target it v) (fun _ s₁'=>wpAny (model prog w) A (assign target env v) (fun _ s₂=>
     wpAny (model prog w) A (forIn ifs true fun c r=>if r=true then do let ok <- isTrue c env (eval c env);pure (ForInStep.yield ok)else pure (ForInStep.yield r)) (fun ok s₃=>
      if ok=true then wpAny (model prog w) A (eval elt env) (fun x s₄=>
       wpAny (model prog w) A (call (.builtin "list.append") [acc,x]) (fun _ s₅=>∃m,m<n/\I m s₅) (notedBy (model prog w) A env fun e s'=>R (.error e) s') s₄) (notedBy (model prog w) A env fun e s'=>R (.error e) s') s₃
      else ∃m,m<n/\I m s₃) (notedBy (model prog w) A env fun e s'=>R (.error e) s') s₂) (notedBy (model prog w) A env fun e s'=>R (.error e) s') s₁') (notedBy (model prog w) A env fun e s'=>R (.error e) s') s₁) (notedBy (model prog w) A env fun e s'=>R (.error e) s') s)
  (n:Nat) (h:I n s):
  codeAny (model prog w) A (.compLoop (.ListComp elt [⟨target,iter,ifs,0⟩] scope pos) 0 it acc env) R s:=by
 refine codeAny_loop rfl I (fun n s hI=>?_) n h;show wpAny _ A ((compTurn (.ListComp elt [⟨target,iter,ifs,0⟩] scope pos) 0 it acc env).onRaise (fun x=>do noteFrame x env;theTreesLotGoes x)) _ _ s;refine wpAny_noted ?_;rw[compTurn_list];refine ε (wpAny_standAt (ε (wpAny_mono (turn n s hI) (fun r s₁ h₁=>?_) fun _ _ h'=>h')));cases r with
 |none=>exact Φ h₁
 |some v=>
  refine ε (wpAny_mono h₁ (fun _ s₁' h₁'=>?_) fun _ _ h'=>h');refine ε (wpAny_mono h₁' (fun _ s₂ h₂=>ε (wpAny_mono h₂ (fun ok s₃ h₃=>?_) fun _ _ h'=>h')) fun _ _ h'=>h');cases ok with
  |false=>exact Φ ⟨rfl,h₃⟩
  |true=>exact ε (ε (wpAny_mono h₃ (fun x s₄ h₄=>ε (wpAny_mono h₄ (fun _ s₅ h₅=>Φ (Φ ⟨rfl,h₅⟩)) fun _ _ h'=>h')) fun _ _ h'=>h'))
section
variable{X:Cx}
def tLc(wi:TI)(g:TG)(tt:TT)(te:TE)(vs:List Nat):TE:=fun σ H Q=>wi σ H fun J H1=>∀D,H1 D=none->∃W:Nat->Nat->Hp->Prop,(∃m,W 0 m (upd H1 D (.lst [])))/\∀i m H,W i m H ->
 (J.stop i H/\Q (.ref D) H)\/(J.go i H/\∃Nx:Hp->Prop,(∀H',Nx H'->∃m',m'<m/\W (i+1) m' H')/\∀x H',J.yld i H x H'->g x (wipe σ vs) H' fun σ2 H2=>wipe σ2 vs=wipe σ vs/\tt σ2 H2 fun b H3=>
  if b=true then te σ2 H3 fun y H4=>∃acc,H4 D=some (.lst acc)/\acc.length<Λ/\Nx (upd H4 D (.lst (acc++[y])))else Nx H3)
theorem qif{pins:List (Addr×Obj)}{s:Shared}{σ:St}{H:Hp}{Q:VK}{elt tg iter:Expr}{ifs:List Expr}{scope:Scope}{own:List (Str×Nat)}{pos pos':Pos}{wi:TI}{g:TG}{tt:TT}{te:TE}{use:Option (Value->Sem Unit)}{Qf:Value->Shared->Prop}
  (hc:X.calm=true) (hN:X.N.Nodup) (I:Inv X pins σ H s) (hi:PI X tg iter wi) (ok:qdI X.N X.env.scope scope own)
  (hg:∀(s:Shared)(H:Hp)(C:Addr)(cl:List (Str×Addr))(fp:List Addr),PG (X.blk s H scope (compEnvC scope cl C X.env) fp) tg g) (ht:∀(s:Shared)(H:Hp)(C:Addr)(cl:List (Str×Addr))(fp:List Addr),PTs (X.blk s H scope (compEnvC scope cl C X.env) fp) ifs tt)
  (he:∀(s:Shared)(H:Hp)(C:Addr)(cl:List (Str×Addr))(fp:List Addr),PE (X.blk s H scope (compEnvC scope cl C X.env) fp) elt te) (hs:∀x,foldedSetIterable iter X.env x=pure x)
  (h:tLc wi g tt te (own.map (·.2)) σ H Q)
  (hRR:∀D C s' m H',Inv X pins σ H' s'->Q (.ref D) H'->s'.heap.Ns C m->Q5 X pins H' C->compPost (model X.prog X.w) X.A X.xe use Qf (.ref D) C (.ok .next) s'):
  wpAny (model X.prog X.w) X.A (comprehension (.ListComp elt [⟨tg,iter,ifs,0⟩] scope pos) scope X.env pos' (newList []) false (eval iter X.env) use) Qf X.xe s:=by
 have hfree:∀y∈scope.names,y.2=.free->∃c,X.env.cells.lookup y.1=some c:=fun y hy e=>by
  rcases ok.free y hy e with k|k
  ·exact I.ok.has _ (.inl k)
  ·exact I.ok.has _ (.inr k)
 refine wpAny_comprehension_free (use:=use) rfl hs (qiU hfree) ok.kind (fun y hy e=>by rw[ok.uniq y hy,e])
  (thn (hi pins s σ H _ I h) fun xv s1 hx=>thn hx fun itv s2 h2=>?_)
 obtain⟨it,fp,tn,J,H2,e,I2,T,st2,f2,q⟩:=h2;subst e;refine wpAny_newObj_type (qhF ?_) (by show 0<=Λ;decide);generalize hD:s2.heap.objs.size=D;have hDn:H2 D=none:=I2.hok.fresh (YcT hD);obtain⟨W,⟨m0,w0⟩,turn⟩:=q D hDn;generalize hs3:({s2 with heap:=s2.heap.push {cls:=.type "list",data:=.seq ([]:List Value).toArray}}:Shared)=s3;have I3:Inv X pins σ (upd H2 D (.lst [])) s3:=by rw[<- hs3];refine I2.laid (t':=s2.toks) (fun b o e=>ψ _ e) (YcT hD) ⟨ό _,[],0,.nil,?_⟩;rw[<- hD];exact Ybk _ rfl
 have h3:s3.heap=s2.heap.push {cls:=.type "list",data:=.seq ([]:List Value).toArray}:=by rw[<- hs3]
 have sz:∀b∈fp,b<s2.heap.objs.size:=fun b hb=>by obtain⟨o,e,_⟩:=T.obj _ _ st2 b hb;exact Ξ e
 have f3:∀b∈fp,Q5 X pins (upd H2 D (.lst [])) b/\b<s3.heap.objs.size:=fun b hb=>by have hlt:=sz b hb;refine⟨⟨?_,(f2 b hb).2⟩,by rw[h3,YbM];exact Yds hlt⟩;rw[qd (by rw[<- hD];exact Ybr hlt)];exact(f2 b hb).1
 have st3:tn 0 s3.heap:=T.keep _ _ _ st2 fun b _ o e=>by rw[h3];exact ψ _ e
 have I4:=qhG I3 ok hN f3;have pg:=hg s3 (upd H2 D (.lst [])) s3.heap.objs.size (cellsFrom (s3.heap.objs.size+1) scope.names (zF X.env.cells scope.names [])) fp;have pt:=ht s3 (upd H2 D (.lst [])) s3.heap.objs.size (cellsFrom (s3.heap.objs.size+1) scope.names (zF X.env.cells scope.names [])) fp;have pe:=he s3 (upd H2 D (.lst [])) s3.heap.objs.size (cellsFrom (s3.heap.objs.size+1) scope.names (zF X.env.cells scope.names [])) fp;show codeAny _ _ (.compStart (.ListComp elt [⟨tg,iter,ifs,0⟩] scope pos) 0 (.ref it) (.ref D) (compEnvC scope (cellsFrom (s3.heap.objs.size+1) scope.names (zF X.env.cells scope.names [])) s3.heap.objs.size X.env)) (compPost (model X.prog X.w) X.A X.xe use Qf (.ref D) s3.heap.objs.size) {s3 with heap:=pushCells (s3.heap.push {cls:=.type "dict",data:=.dict #[]}) scope.names};have nfp:∀b∈fp,(upd H2 D (.lst [])) b=none:=fun b hb=>(f3 b hb).1.1;generalize hce:compEnvC scope (cellsFrom (s3.heap.objs.size+1) scope.names (zF X.env.cells scope.names [])) s3.heap.objs.size X.env=ce at I4 pg pt pe ⊢;have cL:ce.locals=s3.heap.objs.size:=by subst hce;rfl
 generalize hH3:upd H2 D (.lst [])=H3 at I3 I4 pg pt pe w0 nfp f3;generalize hs4:({s3 with heap:=pushCells (s3.heap.push {cls:=.type "dict",data:=.dict #[]}) scope.names}:Shared)=s4 at I4 ⊢;have st4:tn 0 s4.heap:=T.keep _ _ _ st3 fun b _ o e=>by rw[<- hs4];exact pushCells_keeps _ _ _ _ (ψ _ e)
 have stat:∀{σ':St}{H':Hp}{s':Shared},Inv (X.blk s3 H3 scope ce fp) [] σ' H' s'->(∀b∈fp,H' b=none)->∀b∈fp,Q5 (X.blk s3 H3 scope ce fp) [] H' b:=fun{σ' H' s'} I' hn b hb=>⟨hn b hb,(I'.ok.exf b hb).1,I'.ok.exfs b hb,.inl hb,fun x c e=>(I'.ok.exf b hb).2 x c e,fun p hp=>absurd (show p∈([]:List (Addr×Obj))++[]from hp) (by simp)⟩
 have loop:codeAny (model X.prog X.w) X.A (.compLoop (.ListComp elt [⟨tg,iter,ifs,0⟩] scope pos) 0 (.ref it) (.ref D) ce) (compPost (model X.prog X.w) X.A X.xe use Qf (.ref D) s3.heap.objs.size) s4:=by
  refine qgn (fun n s'=>∃i H',Inv (X.blk s3 H3 scope ce fp) [] (wipe σ (own.map (·.2))) H' s'/\tn i s'.heap/\(∀b∈fp,H' b=none)/\W i n H') ?_ m0 ⟨0,H3,I4,st4,nfp,w0⟩;rintro n s5 ⟨i,H5,I5,st5,n5,w5⟩;rcases turn i n H5 w5 with⟨stop,qq⟩|⟨go,Nx,hNx,step⟩
  ·have td:=T.done (X.blk s3 H3 scope ce fp) rfl rfl rfl hc i [] s5 _ H5 (fun _ _=>False) I5 (stat I5 n5) st5 stop;refine qen td fun r s6 ⟨hr,I6⟩=>?_;subst hr;have I7:Inv X pins σ H5 s6:=I3.call' (ch:=fp) I6.os I6.base I6.hok I6.bare fun b hb=>⟨(f3 b hb).1.2.2.2.1,(f3 b hb).1.2.1,(f3 b hb).1.2.2.2.2.1,(f3 b hb).1.2.2.2.2.2⟩;have nC:H5 s3.heap.objs.size=none:=by have z:H5 ce.locals=none:=I6.free;rw[cL]at z;exact z
   obtain⟨m,hn,_⟩:=I6.loc;have hn:s6.heap.Ns ce.locals m:=hn;rw[cL]at hn;exact hRR D s3.heap.objs.size s6 m H5 I7 qq hn (I3.fpOk (ω _) nC)
  ·have ti:=T.item (X.blk s3 H3 scope ce fp) rfl rfl rfl hc i [] s5 _ H5 (fun _ _=>False) I5 (stat I5 n5) st5 go;refine qen ti fun r s6 ⟨u,hr,h6⟩=>?_;subst hr;refine qen h6 fun _ s7 ⟨x,H7,I7,r7,y7,st7,n7⟩=>?_;have I7':=I7.pinned (stat I7 n7) (T.obj _ _ st7);refine qen (pg _ s7 _ H7 x u _ I7' r7 (step x H7 y7)) fun _ s8 ⟨σ8,H8,I8,hw8,q8⟩=>?_;refine qen (pt _ s8 σ8 H8 _ I8 q8) fun b s9 ⟨H9,I9,q9⟩=>?_
   have fin:∀{s':Shared}{H':Hp},Inv (X.blk s3 H3 scope ce fp) ([]++qbW fp s7.heap) σ8 H' s'->Nx H'->∃m,m<n/\∃i H',Inv (X.blk s3 H3 scope ce fp) [] (wipe σ (own.map (·.2))) H' s'/\tn i s'.heap/\(∀b∈fp,H' b=none)/\W i m H':=fun{s' H'} I' nx=>by
    obtain⟨m',hm,w'⟩:=hNx H' nx
    have pin':∀b∈fp,∀o,s7.heap.get? b=some o->s'.heap.get? b=some o/\H' b=none:=fun b hb o e=>
     let z:=I'.pin (b,o) (Ybt _ (Ybt _ (qa4 hb e)))
     ⟨z.1,z.2.1⟩
    have hl:(wipe σ (own.map (·.2))).length=σ8.length:=by rw[<- hw8,qau]
    refine⟨m',hm,i+1,H',(I'.unpinned (pins:=[])).weak hl (fun j v e=>?_),T.keep _ _ _ st7 fun b hb o e=>(pin' b hb o e).1,fun b hb=>?_,w'⟩
    ·rw[<- hw8]at e;exact(qb8 e).1
    ·obtain⟨o,e,_⟩:=T.obj _ _ st7 b hb;exact(pin' b hb o e).2
   cases b with
   |false=>simp only[YbI,if_false]at q9 ⊢;exact fin I9 q9
   |true=>simp only[if_true]at q9 ⊢;refine qen (pe _ s9 σ8 H9 _ I9 q9) fun z s10 ⟨yv,H10,I10,r10,acc,hD10,hz10,nx⟩=>?_;exact qod (X:=X.blk s3 H3 scope ce fp) I10 hD10 hz10 r10 fun s11 I11=>fin I11 nx
 exact codeAny_compStart_list loop (T.self X.A 0 _ _ _ st4 loop)
theorem qf4{elt tg iter:Expr}{ifs:List Expr}{scope:Scope}{own:List (Str×Nat)}{pos:Pos}{wi:TI}{g:TG}{tt:TT}{te:TE}(hc:X.calm=true)(hN:X.N.Nodup)(hi:PI X tg iter wi)(ok:qdI X.N X.env.scope scope own)
  (hg:∀(s:Shared)(H:Hp)(C:Addr)(cl:List (Str×Addr))(fp:List Addr),PG (X.blk s H scope (compEnvC scope cl C X.env) fp) tg g) (ht:∀(s:Shared)(H:Hp)(C:Addr)(cl:List (Str×Addr))(fp:List Addr),PTs (X.blk s H scope (compEnvC scope cl C X.env) fp) ifs tt)
  (he:∀(s:Shared)(H:Hp)(C:Addr)(cl:List (Str×Addr))(fp:List Addr),PE (X.blk s H scope (compEnvC scope cl C X.env) fp) elt te) (hs:∀x,foldedSetIterable iter X.env x=pure x:=by intro _;rfl):
  PE X (.ListComp elt [⟨tg,iter,ifs,0⟩] scope pos) (tLc wi g tt te (own.map (·.2))):=by
 intro pins s σ H Q I h;rw[eval_ListComp];refine qif hc hN I hi ok hg ht he hs h fun D C s' m H' I' q hn f=>⟨m,hn,fun h'' sb=>?_⟩;obtain⟨f0,f1,f2,f3,f4,f5⟩:=f;exact⟨.ref D,H',I'.turned (t':=s'.toks) (fun b o hb e=>(sb.2 b hb).trans e) f0 f1 f3 f4 f5,rfl,q⟩
theorem qlE{i:Nat}{y:Str}{py:Pos}{elt tg iter:Expr}{ifs:List Expr}{scope:Scope}{own:List (Str×Nat)}{pos spos:Pos}{wi:TI}{g:TG}{tt:TT}{te:TE}(hc:X.calm=true)(hN:X.N.Nodup)(hy:X.N[i]?=some y)(hyl:X.env.scope.names.lookup y=some .local)
  (hsw:swapsWith (.ListComp elt [⟨tg,iter,ifs,0⟩] scope pos) (some (.Name y py)) spos.line X.env=pure true) (hi:PI X tg iter wi) (ok:qdI X.N X.env.scope scope own)
  (hg:∀(s:Shared)(H:Hp)(C:Addr)(cl:List (Str×Addr))(fp:List Addr),PG (X.blk s H scope (compEnvC scope cl C X.env) fp) tg g) (ht:∀(s:Shared)(H:Hp)(C:Addr)(cl:List (Str×Addr))(fp:List Addr),PTs (X.blk s H scope (compEnvC scope cl C X.env) fp) ifs tt)
  (he:∀(s:Shared)(H:Hp)(C:Addr)(cl:List (Str×Addr))(fp:List Addr),PE (X.blk s H scope (compEnvC scope cl C X.env) fp) elt te) (hs:∀x,foldedSetIterable iter X.env x=pure x:=by intro _;rfl):
  PS X (.Assign [.Name y py] (.ListComp elt [⟨tg,iter,ifs,0⟩] scope pos) spos) (qek (tLc wi g tt te (own.map (·.2))) (QX i)):=by
 intro pins s σ H D I h;rw[exec_Assign_Name_used _ _ _ _ hsw];refine ε (wpAny_standAt (ε ?_));show wpAny _ X.A (do let _ <- comprehension (.ListComp elt [⟨tg,iter,ifs,0⟩] scope pos) scope X.env (firstIterPos [⟨tg,iter,ifs,0⟩] pos) (newList []) false (eval iter X.env) (some (assign (.Name y py) X.env))) _ _ s;have h:tLc wi g tt te (own.map (·.2)) σ H (fun x H1=>QX i x σ H1 D.nx):=h;refine ε (thn (qif (Qf:=fun _ s'=>SP X pins D .next s') hc hN I hi ok hg ht he hs h fun L C s' m H' I' q hn f=>?_) fun _ s' hq=>Φ (Φ hq));show wpAny _ _ (assign (.Name y py) X.env (.ref L)) _ _ _;refine wpAny_assign_Name (qe4 (v:=V.ref L) I' hN hy (.inl hyl) rfl (fun s2 I2 ⟨a,sb,ha⟩=>?_) (.inr hyl));obtain⟨f0,f1,f2,f3,f4,f5⟩:=f
 have haC:C≠a:=by
  rcases ha with z|z
  ·rw[z];exact f1
  ·exact fun e=>f4 y a z e.symm
 refine⟨m,hn.sameBut sb haC,fun h3 sb3=>?_⟩;exact⟨_,H',I2.turned (t':=s2.toks) (fun b o hb e=>(sb3.2 b hb).trans e) f0 f1 f3 f4 f5,q⟩
theorem qnb{elt:Expr}{gs:List Comprehension}{scope:Scope}{pos py:Pos}{y:Str}{l:Nat}{env:Env}(hk:env.scope.kind=.function)(hy:env.scope.names.lookup y=some .local)(hl:(py.line==pos.line)=true)
  (ha:(scope.names.any fun(n,k)=>n==y&&(k==.local||k==.cell))=false):swapsWith (.ListComp elt gs scope pos) (some (.Name y py)) l env=pure true:=by
 have ky:env.kindOf y=some .local:=hy;have hb:env.blockKind=.function:=by unfold Env.blockKind;rw[hk];rfl
 unfold swapsWith;simp only[hb,ky,ha,Expr.pos,hl];rfl
end
theorem qig{K:γ}{a:Addr}{xs:List V}{g:TG}{tt:TT}{te:TE}{vs:List Nat}{σ:St}{H1:Hp}{D:Addr}{Qd:Hp->Prop}(Pv:Nat->Hp->Prop)(h0:Pv 0 (upd H1 D (.lst [])))(hl:∀i H,i<=xs.length->Pv i H->SqL K H a xs)
  (hs:∀i x H,xs[i]?=some x->Pv i H->g x (wipe σ vs) H fun σ2 H2=>wipe σ2 vs=wipe σ vs/\tt σ2 H2 fun b H3=>
   if b=true then te σ2 H3 fun y H4=>∃acc,H4 D=some (.lst acc)/\acc.length<Λ/\Pv (i+1) (upd H4 D (.lst (acc++[y])))else Pv (i+1) H3) (hd:∀H,Pv xs.length H->Qd H):
  ∃W:Nat->Nat->Hp->Prop,(∃m,W 0 m (upd H1 D (.lst [])))/\∀i m H,W i m H ->
   ((Itl K a).stop i H/\Qd H)\/((Itl K a).go i H/\∃Nx:Hp->Prop,(∀H',Nx H'->∃m',m'<m/\W (i+1) m' H')/\∀x H',(Itl K a).yld i H x H'->g x (wipe σ vs) H' fun σ2 H2=>wipe σ2 vs=wipe σ vs/\tt σ2 H2 fun b H3=>
    if b=true then te σ2 H3 fun y H4=>∃acc,H4 D=some (.lst acc)/\acc.length<Λ/\Nx (upd H4 D (.lst (acc++[y])))else Nx H3):=by
 refine⟨fun i m H=>m=xs.length - i/\i<=xs.length/\Pv i H,⟨xs.length,by simp,ό _,h0⟩,?_⟩;rintro i m H ⟨rfl,hi,p⟩;have q:=hl i H hi p;by_cases hlt:i<xs.length
 ·refine .inr ⟨⟨xs,xs[i],q,by simp[hlt]⟩,Pv (i+1),fun H' p'=>⟨xs.length - (i+1),by omega,rfl,hlt,p'⟩,fun x H' y=>?_⟩;obtain⟨e,y⟩:=y;subst e;exact hs i x _ (y xs q) p
 ·have e:i=xs.length:=by omega
  subst e;exact .inl ⟨⟨xs,q,ω _⟩,hd H p⟩
noncomputable def qoe(N:List Str)(sc scope:Scope)(own:List (Str×Nat)):Bool :=
 (match scope.kind with | .function=>true|_=>false)&&(scope.names.all fun y=>decide (scope.names.lookup y.1=some y.2))&&(own.all fun p=>decide (N[p.2]?=some p.1)) &&
  (scope.names.all fun y=>match y.2 with
   | .free=>(match sc.names.lookup y.1 with|some .cell=>true|some .free=>true|_=>false)
   | .local=>decide (y.1∈own.map (·.1))||decide (y.1∉N)
   | .cell=>decide (y.1∈own.map (·.1))||decide (y.1∉N)
   | _=>true)
theorem J6{N:List Str}{sc scope:Scope}{own:List (Str×Nat)}(h:qoe N sc scope own=true):qdI N sc scope own:=by
 unfold qoe at h;simp only[Ybm,YcH,decide_eq_true_eq]at h;obtain⟨⟨⟨h1,h2⟩,h3⟩,h4⟩:=h;refine⟨?_,h2,h3,fun y hy e=>?_,fun y hy e=>?_⟩
 ·split at h1
  ·assumption
  ·cases h1
 ·have q:=h4 y hy;simp only[e]at q
  split at q<;>first|exact .inl (by assumption)|exact .inr (by assumption)|cases q
 ·have q:=h4 y hy;rcases e with e|e<;>(simp only[e,YcP,decide_eq_true_eq]at q;exact q)
section
variable{κ:Type}[DecidableEq κ]
noncomputable def zB(kvs:List (κ×V))(k:κ):Option V:=(kvs.find? fun kv=>decide (kv.1=k)).map (·.2)
noncomputable def putK(kvs:List (κ×V))(k:κ)(v:V):List (κ×V) :=if(kvs.any fun kv=>decide (kv.1=k))=true then kvs.map (fun kv=>if kv.1=k then(kv.1,v)else kv)else kvs++[(k,v)]
theorem J7{p:κ×V}{r:List (κ×V)}{k:κ}(e:p.1=k):zB (p::r) k=some p.2:=by simp[zB,Yci,e]
theorem J8{p:κ×V}{r:List (κ×V)}{k:κ}(e:¬p.1=k):zB (p::r) k=zB r k:=by simp[zB,Yci,e]
theorem qdh(k:κ):∀kvs:List (κ×V),(kvs.any fun kv=>decide (kv.1=k))=(zB kvs k).isSome
 |[]=>rfl
 |p::r=>by
  rw[Yb5];by_cases e:p.1=k
  ·simp only[J7 e,decide_eq_true e,Bool.true_or,YdS]
  ·rw[J8 e,decide_eq_false e,YdM];exact qdh k r
theorem qc5(kvs:List (κ×V))(k:κ)(v:V):(putK kvs k v).length<=kvs.length+1:=by
 unfold putK
 split
 ·rw[τ];omega
 ·rw[ν,ξ,Ψ];omega
theorem qlF{kvs:List (κ×V)}{k:κ}(v:V)(h:zB kvs k=none):putK kvs k v=kvs++[(k,v)]:=by unfold putK;rw[qdh,h];exact if_neg (by decide)
theorem j6.isSome_eq {o:Option V} {u:Option Value} (r:j6 o u):o.isSome=u.isSome:=by
 cases o with
 |none=>cases u with
  |none=>rfl
  |some _=>exact(show False from r).elim
 |some _=>cases u with
  |none=>exact(show False from r).elim
  |some _=>rfl
theorem j6.getD {o:Option V} {u:Option Value} {d:V} {d':Value} (r:j6 o u) (rd:RelV d d'):RelV (o.getD d) (u.getD d'):=by
 cases o with
 |none=>cases u with
  |none=>exact rd
  |some _=>exact(show False from r).elim
 |some _=>cases u with
  |none=>exact(show False from r).elim
  |some _=>exact r
theorem KV.val {kvs:List (κ×V)} {vs:List (κ×Value)} (r:KV kvs vs) (k:κ):j6 (zB kvs k) (valueAt vs k):=by
 unfold KV at r
 induction r with
 |nil=>exact True.intro
 | @cons p q ps qs h t ih=>
  obtain⟨h1,h2⟩:=h;by_cases e:p.1=k
  ·have e':q.1=k:=h1.symm.trans e;have b:valueAt (q::qs) k=some q.2:=by simp[valueAt,Yci,e']
   rw[J7 e,b];exact h2
  ·have e':¬q.1=k:=fun z=>e (h1.trans z);have b:valueAt (q::qs) k=valueAt qs k:=by simp[valueAt,Yci,e']
   rw[J8 e,b];exact ih
theorem KV.any {kvs:List (κ×V)} {vs:List (κ×Value)} (r:KV kvs vs) (k:κ):(kvs.any fun kv=>decide (kv.1=k))=vs.any fun kv=>decide (kv.1=k):=by
 unfold KV at r
 induction r with
 |nil=>rfl
 |cons h t ih=>rw[Yb5,Yb5,ih,h.1]
theorem KV.repl {kvs:List (κ×V)} {vs:List (κ×Value)} (r:KV kvs vs) (k:κ) {y:V} {u:Value} (ry:RelV y u):
  KV (kvs.map fun kv=>if kv.1=k then(kv.1,y)else kv) (vs.map fun kv=>if kv.1=k then(kv.1,u)else kv):=by
 unfold KV at r ⊢
 induction r with
 |nil=>exact .nil
 | @cons p q ps qs h t ih=>
  rw[Ybp,Ybp];refine .cons ?_ ih;obtain⟨h1,h2⟩:=h;by_cases e:p.1=k
  ·rw[if_pos e,if_pos (h1.symm.trans e)];exact⟨h1,ry⟩
  ·rw[if_neg e,if_neg (fun z=>e (h1.trans z))];exact⟨h1,h2⟩
theorem KV.put {kvs:List (κ×V)} {vs:List (κ×Value)} (r:KV kvs vs) (k:κ) {y:V} {u:Value} (ry:RelV y u):KV (putK kvs k y) (stored vs k u):=by
 unfold putK stored;rw[r.any k];by_cases e:(vs.any fun kv=>decide (kv.1=k))=true
 ·rw[if_pos e,if_pos e];exact r.repl k ry
 ·rw[if_neg e,if_neg e];exact Paired.snoc r ⟨rfl,ry⟩
theorem KV.length {kvs:List (κ×V)} {vs:List (κ×Value)} (r:KV kvs vs):kvs.length=vs.length:=Paired.length r
end
theorem qa9{P:Program}{w:World}{k:Key}{u:Value}(r:RelV (kV k) u):(zZ P w).is k u=true:=by
 cases k with
 |inl i=>obtain⟨t,e⟩:=(show ∃t,u=Value.int i t from r);subst e;exact qhC P w i t
 |inr x=>obtain⟨t,e⟩:=(show ∃t,u=Value.str x t from r);subst e;exact qhD P w x t
theorem qe9{P:Program}{w:World}:∀{ks:List Key}{us:List Value},qD (ks.map kV) us->ItemsAre (zZ P w) ks us
 |[],_,r=>by rw[YcV]at r;cases r;exact .nil
 |k::ks,_,r=>by
  rw[Ybp]at r;cases r with
  |cons h t=>exact .cons (qa9 h) (qe9 t)
abbrev KT(H:Hp):List (List Key×V)->List (List Key×Addr×Value)->Prop:=Paired fun p q=>p.1=q.1/\H q.2.1=some (.tup (p.1.map kV))/\RelV p.2 q.2.2
theorem KT.val {H:Hp} {kvs:List (List Key×V)} {xs:List (List Key×Addr×Value)} (r:KT H kvs xs) (k:List Key):j6 (zB kvs k) ((atKey xs k).map (·.2)):=by
 induction r with
 |nil=>exact True.intro
 | @cons p q ps qs h t ih=>
  obtain⟨h1,_,h2⟩:=h;by_cases e:p.1=k
  ·have e':q.1=k:=h1.symm.trans e;have b:atKey (q::qs) k=some q.2:=by simp[atKey,Yci,e']
   rw[J7 e,b];exact h2
  ·have e':¬q.1=k:=fun z=>e (h1.trans z);have b:atKey (q::qs) k=atKey qs k:=by simp[atKey,Yci,e']
   rw[J8 e,b];exact ih
theorem KT.repl {H:Hp} {kvs:List (List Key×V)} {xs:List (List Key×Addr×Value)} (r:KT H kvs xs) (k:List Key) {y:V} {u:Value} (ry:RelV y u):
  KT H (kvs.map fun kv=>if kv.1=k then(kv.1,y)else kv) (xs.map (putAt k u)):=by
 induction r with
 |nil=>exact .nil
 | @cons p q ps qs h t ih=>
  rw[Ybp,Ybp];refine .cons ?_ ih;obtain⟨h1,h2,h3⟩:=h;unfold putAt;by_cases e:p.1=k
  ·rw[if_pos e,if_pos (h1.symm.trans e)];exact⟨h1,h2,ry⟩
  ·rw[if_neg e,if_neg (fun z=>e (h1.trans z))];exact⟨h1,h2,h3⟩
theorem KT.put {H:Hp} {kvs:List (List Key×V)} {xs:List (List Key×Addr×Value)} (r:KT H kvs xs) (k:List Key) {b:Addr} {y:V} {u:Value} (hb:H b=some (.tup (k.map kV))) (ry:RelV y u):
  KT H (putK kvs k y) (storedH xs k b u):=by
 have e:(kvs.any fun kv=>decide (kv.1=k))=(atKey xs k).isSome:=by rw[qdh,(r.val k).isSome_eq,Option.isSome_map]
 unfold putK storedH;rw[e];by_cases q:(atKey xs k).isSome=true
 ·rw[if_pos q,if_pos q];exact r.repl k ry
 ·rw[if_neg q,if_neg q];exact Paired.snoc r ⟨rfl,hb,ry⟩
theorem KT.keeps {H H':Hp} {kvs:List (List Key×V)} {xs:List (List Key×Addr×Value)} (r:KT H kvs xs) (ht:∀b ys,H b=some (.tup ys)->H' b=some (.tup ys)):KT H' kvs xs :=Paired.mapP r fun _ _ z=>⟨z.1,ht _ _ z.2.1,z.2.2⟩
section
variable{P:Program}{w:World}{H:Hp}{h:Heap}{a:Addr}
theorem qmF{u:HO}(ok:HOk P w H h)(e:Rd H a u):zo P w H h a u:=e.ok ok
theorem qmG{kvs:List (Key×V)}(ok:HOk P w H h)(e:Rd H a (.dK kvs)):kvs.length<=Λ/\(a==sysModules)=false/\∃vs,KV kvs vs/\h.DictOf (zZ P w) a vs :=show zo P w H h a (.dK kvs)from qmF ok e
theorem qo9{kvs:List (Key×V)}(ok:HOk P w H h)(e:H a=some (.dK kvs)):kvs.length<=Λ/\(a==sysModules)=false/\∃vs,KV kvs vs/\h.DictOf (zZ P w) a vs:=qmG ok (.inl e)
theorem qgo{ks:List Key}(ok:HOk P w H h)(e:H a=some (.tup (ks.map kV))):(tupleKind (zZ P w)).is h ks a:=by obtain⟨_,its,r,o,h1,h2,n,h3⟩:=(show zo P w H h a (.tup (ks.map kV))from ok a _ e);exact⟨o,its.toArray,n,h1,h2,h3,by simpa using qe9 r⟩
theorem qmH{kvs:List (List Key×V)}(ok:HOk P w H h)(e:Rd H a (.dT kvs)):kvs.length<=Λ/\(a==sysModules)=false /\
  ∃xs,KT H kvs xs/\h.DictOfH (tupleKind (zZ P w)) a xs:=by
 obtain⟨z,y,xs,r,o,es,ep,h1,h2,h3,h4,h5⟩:=(show zo P w H h a (.dT kvs)from qmF ok e);refine⟨z,y,xs,r,o,es,ep,h1,h2,h3,h4,fun x hx=>?_,h5⟩
 have all:∀{l:List (List Key×V)}{m:List (List Key×Addr×Value)},KT H l m->∀x∈m,(tupleKind (zZ P w)).is h x.1 x.2.1:=by
  intro l m q
  induction q with
  |nil=>intro x hx;exact nomatch hx
  | @cons p q ps qs hq t ih=>
   intro x hx;rcases Γ.mp hx with e|hx
   ·subst e;exact qgo ok (by rw[<- hq.1];exact hq.2.1)
   ·exact ih x hx
 exact all r x hx
theorem qpa{kvs:List (List Key×V)}(ok:HOk P w H h)(e:H a=some (.dT kvs)):kvs.length<=Λ/\(a==sysModules)=false /\
  ∃xs,KT H kvs xs/\h.DictOfH (tupleKind (zZ P w)) a xs:=qmH ok (.inl e)
end
def qgp(H:Hp)(a:Addr)(y:V)(r:Option V):Prop :=(∃kvs k,Rd H a (.dK kvs)/\y=kV k/\r=zB kvs k)\/∃kvs k b,Rd H a (.dT kvs)/\y=.ref b/\H b=some (.tup (k.map kV))/\r=zB kvs k
def qgq(H:Hp)(a:Addr)(y v:V)(H':Hp):Prop :=
 (∃kvs k,H a=some (.dK kvs)/\y=kV k/\kvs.length<Λ/\H'=upd H a (.dK (putK kvs k v))) \/
 ∃kvs k b,H a=some (.dT kvs)/\y=.ref b/\H b=some (.tup (k.map kV))/\kvs.length<Λ/\H'=upd H a (.dT (putK kvs k v))
theorem qgp.t {H:Hp} {a b:Addr} {kvs:List (List Key×V)} {k:List Key} (e:H a=some (.dT kvs)) (eb:H b=some (.tup (k.map kV))):qgp H a (.ref b) (zB kvs k):=.inr ⟨kvs,k,b,.inl e,rfl,eb,rfl⟩
theorem qgq.t {H:Hp} {a b:Addr} {kvs:List (List Key×V)} {k:List Key} {v:V} (e:H a=some (.dT kvs)) (eb:H b=some (.tup (k.map kV))) (hl:kvs.length<Λ):
  qgq H a (.ref b) v (upd H a (.dT (putK kvs k v))):=.inr ⟨kvs,k,b,e,rfl,eb,hl,rfl⟩
section
variable{X:Cx}{pins:List (Addr×Obj)}{σ:St}{H:Hp}{s:Shared}{a:Addr}{y v:V}{u r:Value}{o:Option V}{A:Around}{E:Value->Shared->Prop}
theorem Inv.big (I:Inv X pins σ H s):sysModules<s.heap.objs.size:=by have h:η<s.heap.objs.size:=(I.mod.glob.keeps I.bk).lt;exact YdX (by decide) h
theorem qpC{Q:Value->Shared->Prop}(hu:A.units+1<cLine)(I:Inv X pins σ H s)(g:qgp H a y o)(ry:RelV y u)(h:∀s',Inv X pins σ H s'->Q (.bool o.isSome) s'):
  wpAny (model X.prog X.w) A (compareOp .In u (.ref a)) Q E s:=by
 rcases g with⟨kvs,k,e,ey,l⟩|⟨kvs,k,b,e,ey,eb,l⟩
 ·subst ey;obtain⟨z,hd,vs,rel,dd⟩:=qmG I.hok e;refine wpAny_in_of (qa9 ry) hd dd.mapOf ?_;rw[<- (rel.val k).isSome_eq,<- l];exact h _ (I.tok _)
 ·subst ey;cases (show u=Value.ref b from ry);obtain⟨z,hd,xs,rel,dd⟩:=qmH I.hok e;refine wpAny_in_heap (tupleKind_room_in1 hu) (qgo I.hok eb) hd dd ?_;have q:=(rel.val k).isSome_eq;rw[Option.isSome_map]at q;rw[<- q,<- l];exact h _ (I.tok _)
theorem qih{h':Heap}{t':Nat}{ob:HO}(I:Inv X pins σ H s)(mu:Mut (H a))(hs:Ycu a s.heap h')(he:∃q,h'.get? a=some q)(new:zo X.prog X.w (upd H a ob) h' a ob):
  Inv X pins σ (upd H a ob) {s with heap:=h',toks:=t'} :=
 I.write (x:=a) (e:=a) mu (.inl rfl) (fun b q hb z=>(hs.2 b hb).trans z) he new
theorem qof{P:Program}{w:World}{H':Hp}{h':Heap}{kvs:List (Key×V)}{vs:List (Key×Value)}(z:kvs.length<=Λ)(hd:(a==sysModules)=false)(rel:KV kvs vs)(dd:h'.DictOf (zZ P w) a vs):
  zo P w H' h' a (.dK kvs):=⟨z,hd,vs,rel,dd⟩
theorem qj6{H':Hp}{Q:Unit->Shared->Prop}(hu:A.units+1<cLine)(I:Inv X pins σ H s)(g:qgq H a y v H')(ry:RelV y u)(rv:RelV v r)(h:∀s',Inv X pins σ H' s'->Q () s'):
  wpAny (model X.prog X.w) A (setItem (.ref a) u r) Q E s:=by
 rcases g with⟨kvs,k,e,ey,l,eH⟩|⟨kvs,k,b,e,ey,eb,l,eH⟩
 ·subst ey eH;obtain⟨z,hd,vs,rel,dd⟩:=qo9 I.hok e;have hz:vs.length<=Λ:=by rw[<- rel.length];exact z
  have hl:(putK kvs k v).length<=Λ:=by have:=qc5 kvs k v;omega
  refine wpAny_setItem_pairs (hsz:=hz) (qa9 ry) dd fun h' dd' hs=>h _ ?_;have he:∃q,h'.get? a=some q:=let⟨q,_,_,hq,_⟩:=dd';⟨q,hq⟩
  exact qih I (by rw[e];exact True.intro) hs he (qof hl hd (rel.put k rv) dd')
 ·subst ey eH;cases (show u=Value.ref b from ry);obtain⟨z,hd,xs,rel,dd⟩:=qpa I.hok e;have hz:xs.length<=Λ:=by rw[<- Paired.length rel];exact z
  have hl:(putK kvs k v).length<=Λ:=by have:=qc5 kvs k v;omega
  refine wpAny_setItem_heap (hsz:=hz) (tupleKind_room_in1 hu) (qgo I.hok eb) dd fun h' dd' hs=>h _ ?_;obtain⟨q,es,ep,hq,h2,h3,h4,_,h5⟩:=dd';refine qih I (by rw[e];exact True.intro) hs ⟨q,hq⟩ ⟨hl,hd,_,(rel.put k eb rv).keeps fun c ys ec=>?_,q,es,ep,hq,h2,h3,h4,h5⟩;rw[qd (qcH ec e (fun z=>nomatch z))];exact ec
end
def qog(i:Expr):Prop:=∀ov iv,subscripted i false ov iv=operate [ov,iv] (getItem ov iv)
theorem qnc{prog:Program}{w:World}{A:Around}{E:Value->Shared->Prop}{s:Shared}{env:Env}{value slice:Expr}{pos:Pos}{T id:String}{Q:Value->Shared->Prop}
  (hl:typeLookup (.type T) "__getitem__"=pure (some (.builtin id))) (hs:qog slice)
  (h:wpAny (model prog w) A (eval value env) (fun o s₁=>wpAny (model prog w) A (eval slice env) (fun i s₂=>s₂.TypeIs o T/\wpAny (model prog w) A (getItem o i) Q E s₂) E s₁) E s):
  wpAny (model prog w) A (eval (.Subscript value slice pos) env) Q E s:=by
 refine Subscript_ (wpAny_mono h (fun o s₁ h₁=>wpAny_mono h₁ (fun i s₂ h₂=>?_) fun _ _ x=>x) fun _ _ x=>x);obtain⟨hT,h₂⟩:=h₂;unfold subscriptTail;refine ε ?_;rw[getitemInPython_of_ne hT.not_modules];refine ε (wpAny_specialOf hT hl ?_);have fin:wpAny (model prog w) A (subscripted slice false o i) (fun r s₃=>wpAny (model prog w) A (letTemporaryGo value o r >>= fun _=>pure r) Q E s₃) E s₂:=by rw[hs o i];exact wpAny_operating (wpAny_mono h₂ (fun r s₃ h₃=>ε (wpAny_letTemporaryGo (Φ h₃))) fun _ _ x=>x)
 first
  |exact Φ (ε fin)
  |exact ε (Φ (ε fin))
  |exact ε fin
def qpD(ty td:TE):TE:=fun σ H Q=>ty σ H fun y H1=>td σ H1 fun x H2=>∃a o,x=.ref a/\qgp H2 a y o/\Q (.bl o.isSome) H2
def qpb(td ty tv:TE):TS:=fun D σ H=>tv σ H fun v H1=>td σ H1 fun x H2=>ty σ H2 fun y H3=>∃a H4,x=.ref a/\qgq H3 a y v H4/\D.nx σ H4
section
variable{X:Cx}{o i e value:Expr}{pos pos' tpos:Pos}{td ty tv:TE}
theorem qoh(hu:X.A.units+1<cLine)(hi:PE X i ty)(ho:PE X o td):PC X .In i o (qpD ty td):=by intro pins s σ H Q I h;refine thn (hi pins s σ H _ I h) fun iv s1 ⟨y,H1,I1,ry,q1⟩=>thn (ho pins s1 σ H1 _ I1 q1) fun u s2 ⟨x,H2,I2,rx,a,ov,ex,g,q2⟩=>?_;subst ex;obtain rfl:u=Value.ref a:=rx;exact qpC hu I2 g ry fun s3 I3=>⟨.bl ov.isSome,H2,I3,rfl,q2⟩
theorem qnd(hu:X.A.units+1<cLine)(ho:PE X o td)(hi:PE X i ty)(hv:PE X value tv)(hs:swapsWith value (some (.Subscript o i pos')) pos.line X.env=pure false):
  PS X (.Assign [.Subscript o i pos'] value pos) (qpb td ty tv):=by
 intro pins s σ H D I h;refine wpAny_Assign_Subscript (thn (hv pins s σ H _ I h) fun r s1 ⟨v,H1,I1,rv,q1⟩=>thn (ho pins s1 σ H1 _ I1 q1) fun u s2 ⟨x,H2,I2,rx,q2⟩=>thn (hi pins s2 σ H2 _ I2 q2) fun iv s3 ⟨y,H3,I3,ry,a,H4,ex,g,q3⟩=>?_) hs;subst ex;obtain rfl:u=Value.ref a:=rx;exact qj6 hu I3 g ry rv fun s4 I4=>⟨σ,H4,I4,q3⟩
end
theorem qlG{P:Program}{w:World}{H:Hp}(h:Heap)(hb:sysModules<h.objs.size):zo P w H (h.push {cls:=.type "dict",data:=.dict #[]}) h.objs.size (.dT []) :=⟨ό _,beq_eq_false_iff_ne.mpr (Ne.symm (Ybr hb)),[],.nil,_,#[],0,Ybk _ rfl,⟨rfl,rfl,rfl⟩,rfl,rfl,List.nodup_nil⟩
def qoi:TE:=fun _ H Q=>∀p,H p=none->Q (.ref p) (upd H p (.dT []))
section
variable{X:Cx}{pos:Pos}
theorem qlH:PE X (.Dict [] [] pos) qoi:=fun pins s σ H Q I h=>wpAny_Dict_empty ⟨.ref s.heap.objs.size,_,I.laid (a:=s.heap.objs.size) (o:=.dT []) (t':=s.toks) (fun _ _ q=>ψ _ q) (ω _) (qlG s.heap I.big),rfl,h _ (I.hok.fresh (ω _))⟩
end
structure M1(X:Cx)(o:Expr)(m:Str)(apos:Pos)(e:Expr)(cpos:Pos):Prop where
 base:attributeBase o m X.env (eval o X.env)=eval o X.env
 few:((backTo cpos (starEach [e] X.env)).all (fun x=>!x.1)&&(backToKw cpos (keywordEach [] X.env)).all (fun x=>x.1.isSome)
  && decide (([e]:List Expr).length+([]:List Keyword).length+(if([]:List Keyword).isEmpty then 0 else 1)<30))=true
 line:(apos.endLine==cpos.line)=true
 trees:backTo cpos (starEach [e] X.env)=[(false,eval e X.env)]
structure M2(X:Cx)(o:Expr)(m:Str)(apos:Pos)(e f:Expr)(cpos:Pos):Prop where
 base:attributeBase o m X.env (eval o X.env)=eval o X.env
 few:((backTo cpos (starEach [e,f] X.env)).all (fun x=>!x.1)&&(backToKw cpos (keywordEach [] X.env)).all (fun x=>x.1.isSome)
  && decide (([e,f]:List Expr).length+([]:List Keyword).length+(if([]:List Keyword).isEmpty then 0 else 1)<30))=true
 line:(apos.endLine==cpos.line)=true
 trees:backTo cpos (starEach [e,f] X.env)=[(false,eval e X.env),(false,eval f X.env)]
theorem qeo:bootBuiltins "reversed"=some (.type "reversed"):=by decide +kernel
section
variable{X:Cx}{pins:List (Addr×Obj)}{σ:St}{H:Hp}{s:Shared}{h':Heap}
theorem Inv.turnedL {t':Nat} {ch:List Addr} (I:Inv X pins σ H s) (k:∀b o,b∉ch->s.heap.get? b=some o->h'.get? b=some o) (hf:∀b∈ch,Q5 X pins H b):Inv X pins σ H {s with heap:=h',toks:=t'}:=by
 have nit:∀b u,H b=some u->b∉ch:=fun b u e z=>by have q:=(hf b z).1;rw[q]at e;cases e
 refine I.step (g':=s.gens) (d':=s.drawn) (ch:=ch) (fun b hb=>⟨(hf b hb).2.2.2.1,(hf b hb).2.1,(hf b hb).2.2.2.2.1,(hf b hb).2.2.2.2.2⟩) (fun b o _ _ hc e _=>k b o hc e) (fun b o _ _ hc e _=>⟨o.slots,k b o hc e⟩)
  (fun _ _ _ _ n=>n) (fun b o hc e=>⟨o,k b o hc e⟩) (fun _ _ e=>e) (fun _ _ _ e=>e) (fun b ps e=>⟨#[],by rw[e];simp⟩) (fun m hm=>?_) (fun b u e=>?_) I.bare
 ·obtain⟨o,es,ep,ho,r⟩:=hm;exact⟨o,es,ep,k _ o (fun z=>(hf _ z).2.1 rfl) ho,r⟩
 ·refine(I.hok b u e).stay (fun c v hc q=>k c v ?_ q) (fun _ q=>q) fun _ _ q=>q;rcases hc with z|z
  ·rw[z];exact nit b u e
  ·exact nit c _ z
theorem Inv.turnedNew {t':Nat} {ch:List Addr} {T:Addr} {ob:HO} (I:Inv X pins σ H s) (k:∀b o,b∉ch->s.heap.get? b=some o->h'.get? b=some o) (hf:∀b∈ch,Q5 X pins H b) (hT:s.heap.objs.size<=T)
  (new:zo X.prog X.w (upd H T ob) h' T ob):Inv X pins σ (upd H T ob) {s with heap:=h',toks:=t'}:=by
 have hn:H T=none:=I.hok.fresh hT;have nit:∀b u,H b=some u->b∉ch:=fun b u e z=>by have q:=(hf b z).1;rw[q]at e;cases e
 refine I.step (g':=s.gens) (d':=s.drawn) (ch:=ch) (fun b hb=>⟨(hf b hb).2.2.2.1,(hf b hb).2.1,(hf b hb).2.2.2.2.1,(hf b hb).2.2.2.2.2⟩) (fun b o _ _ hc e _=>k b o hc e) (fun b o _ _ hc e _=>⟨o.slots,k b o hc e⟩)
  (fun b o _ e n=>?_) (fun b o hc e=>⟨o,k b o hc e⟩) (fun b xs e=>?_) (fun b o u e=>?_) (fun b ps e=>⟨#[],?_⟩) (fun m hm=>?_) (fun b u e=>?_) I.bare
 ·rw[qd (Ybr (Ybl (Ξ e) hT))];exact n
 ·rw[qd (qg e hn)];exact e
 ·rw[qd (qg e hn)];exact e
 ·rw[qd (qg e hn),e];simp
 ·obtain⟨o,es,ep,ho,r⟩:=hm;exact⟨o,es,ep,k _ o (fun z=>(hf _ z).2.1 rfl) ho,r⟩
 ·by_cases hb:b=T
  ·subst hb;rw[qc]at e;cases e;exact new
  ·rw[qd hb]at e;refine(I.hok b u e).stay (fun c v hc q=>k c v ?_ q) (fun c q=>by rw[qd (qg q hn)];exact q) fun c xs q=>by rw[qd (qg q hn)];exact q
   rcases hc with z|z
   ·rw[z];exact nit b u e
   ·exact nit c _ z
end
section
variable{X:Cx}
theorem qgr{tg:Expr}{pins:List (Addr×Obj)}{σ:St}{H:Hp}{s:Shared}{R:It->Hp->Prop}{J:It}{tn:Nat->Heap->Prop}{tk:Nat}(I:Inv X pins σ H s)(o:Obj)
  (T:Turn X.prog X.w X.K tg J [s.heap.objs.size] s.heap.objs.size tn) (st:tn 0 (s.heap.push o)) (q:R J H):PIE X pins σ tg R (.ref s.heap.objs.size) {s with heap:=s.heap.push o,toks:=tk}:=by
 refine⟨s.heap.objs.size,[s.heap.objs.size],tn,J,H,rfl,I.kept fun b ob e=>ψ _ e,T,st,fun b hb=>?_,q⟩;have e:b=s.heap.objs.size:=by simpa using hb
 subst e;exact I.fpOk (ω _) (I.hok.fresh (ω _))
end
noncomputable def Itv(K:γ)(a:Addr)(n:Nat):It :=⟨fun i H=>i<n/\∃(xs:List V)(x:V),SqL K H a xs/\xs[n - 1 - i]?=some x,fun i H x H'=>H'=H/\∀xs,SqL K H a xs->xs[n - 1 - i]?=some x,fun i _=>n<=i⟩
theorem qlI{P:Program}{w:World}{K:γ}{tg:Expr}(a it:Addr)(n:Nat):Turn P w K tg (Itv K a n) [it] it (fun i h=>i<=n/\h.IsRevIter it a ((n:Int) - 1 - (i:Nat))) where
 mem:=by simp
 obj:=fun i h st b hb=>by
  have e:b=it:=by simpa using hb
  subst e;obtain⟨_,o,e,c,d⟩:=st;exact⟨o,e,fun v z=>by rw[d]at z;cases z⟩
 keep:=fun i h h' st k=>⟨st.1,st.2.at fun o e=>k it (by simp) o e⟩
 item:=by
  intro X hP hw hK hc i pins s σ H E I hf st hg;subst hP hw hK;obtain⟨hin,xs,x,hq,hx⟩:=hg;obtain⟨its,rv,p,hz⟩:=I.list hq;obtain⟨u,hu,ru⟩:=rv.get hx;obtain⟨f0,f1,f2,f3,f4,f5⟩:=hf it (by simp);obtain⟨_,hit⟩:=st;have e1:(n:Int) - 1 - ((i:Nat):Int)=((n - 1 - i:Nat):Int):=by omega
  rw[e1]at hit;refine wpAny_pyNext_rev_item hit p.isList (x:=u) (by simpa using hu) fun h' st' sb=>?_;have e2:((n - 1 - i:Nat):Int) - 1=(n:Int) - 1 - ((i+1:Nat):Int):=by omega
  rw[e2]at st';have I1:Inv X pins σ H {s with heap:=h'}:=I.turned (t':=s.toks) (fun b o hb e=>(sb.2 b hb).trans e) f0 f1 f3 f4 f5;obtain⟨o,e,c,d⟩:=id st';exact⟨u,rfl,qf2 (s:={s with heap:=h'}) e c d (by decide) ⟨x,H,I1,ru,⟨rfl,fun ys hy=>by rw[I.list_inj hy hq];exact hx⟩,⟨hin,st'⟩,fun b hb=>(hf b hb).1⟩⟩
 done:=by
  intro X hP hw hK hc i pins s σ H E I hf st hg;subst hP hw hK;obtain⟨f0,f1,f2,f3,f4,f5⟩:=hf it (by simp);obtain⟨hin,hit⟩:=st;have hge:n<=i:=hg;have e1:(n:Int) - 1 - ((i:Nat):Int) = -1:=by omega
  rw[e1]at hit;exact wpAny_pyNext_rev_end (I.ok.hd hc) hit fun h' eb=>⟨rfl,I.turned (t':=s.toks) (fun b o hb e=>eb b o hb e) f0 f1 f3 f4 f5⟩
 self:=fun A i s Q E st h=>wpAny_pyIter_revIter st.2 h
def qpE(K:γ)(ta:TA):TI:=fun σ H R=>ta σ H fun vs H1=>∃(a:Addr)(xs:List V),vs=[.ref a]/\SqL K H1 a xs/\R (Itv K a xs.length) H1
section
variable{X:Cx}{tg:Expr}
theorem qhH{e:Expr}{ta:TA}{p pos:Pos}(hg:Gl X "reversed")(hm:X.mg "reversed"=none)(ha:PA X [e] ta)(hs:starEach [e] X.env=[(false,eval e X.env)]:=by rfl):PI X tg (.Call (.Name "reversed" p) [e] [] pos) (qpE X.K ta):=by
 intro pins s σ H R I h;refine Call_ (Zv I hg hm qeo (YbT (thn (ha pos pins s σ H _ I h) fun us s1 ⟨vs,H1,I1,r1,q1⟩=>?_) hs rfl));obtain⟨a,xs,e,hq,q⟩:=q1;subst e;cases r1 with
 |cons r rr=>
  cases rr;cases r;obtain⟨its,rv,p',hz⟩:=I1.list hq;have hl:=rv.length;have e1:((its.toArray.size:Nat):Int) - 1=(xs.length:Int) - 1 - ((0:Nat):Int):=by simp only[ύ];omega
  refine call_reversed_list p'.isList (wpAny_pyIter_revIter (l:=a) (i:=((its.toArray.size:Nat):Int) - 1) ⟨_,Ybk _ rfl,rfl,rfl⟩ ?_);refine qgr (tk:=s1.toks) I1 _ (qlI a _ xs.length) ⟨ό _,?_⟩ q;rw[<- e1];exact⟨_,Ybk _ rfl,rfl,rfl⟩
end
noncomputable def Its(x:Str):It:=⟨fun i _=>i<x.cps.size,fun i H v H'=>H'=H/\∃c,x.cps[i]?=some c/\v=.str ⟨#[c]⟩,fun i _=>x.cps.size<=i⟩
theorem qgs{P:Program}{w:World}{K:γ}{tg:Expr}(it:Addr)(x:Str)(t:Tok)(ty:String)(hty:ty="str_ascii_iterator"\/ty="str_iterator"):
  Turn P w K tg (Its x) [it] it (fun i h=>h.IsStrIter it ty x t i) where
 mem:=by simp
 obj:=fun i h st b hb=>by
  have e:b=it:=by simpa using hb
  subst e;obtain⟨o,e,c,d⟩:=st;exact⟨o,e,fun v z=>by rw[d]at z;cases z⟩
 keep:=fun i h h' st k=>let⟨o,ho,r⟩:=st;⟨o,k it (by simp) o ho,r⟩
 item:=by
  intro X hP hw hK hc i pins s σ H E I hf st hg;subst hP hw hK;obtain⟨f0,f1,f2,f3,f4,f5⟩:=hf it (by simp)
  have W:Walks X.prog X.w X.A it [it] [it] x.cps.size (SignAt x) (fun i h=>h.IsStrIter it ty x t i):=by
   rcases hty with e|e
   ·rw[e];exact Walks.strAscii (I.ok.hd hc) it x t
   ·rw[e];exact Walks.strWide (I.ok.hd hc) it x t
  have hno:["enumerate","zip","dict_itemiterator","dict_reverseitemiterator","odict_iterator","itertools.zip_longest","itertools.pairwise"].contains ty=false:=by
   rcases hty with e|e
   ·rw[e];decide
   ·rw[e];decide
  refine W.item i s _ _ hg st fun v h' tk hv st' kk=>?_;obtain⟨c,u,hcx,rfl⟩:=hv;have I1:Inv X pins σ H {s with heap:=h',toks:=tk}:=I.turned (fun b o hb e=>kk b o (by simpa using hb) e) f0 f1 f3 f4 f5;obtain⟨oi,e,cc,dd⟩:=id st';exact⟨_,rfl,qf2 (s:={s with heap:=h',toks:=tk}) e cc dd hno ⟨.str ⟨#[c]⟩,H,I1,⟨u,rfl⟩,⟨rfl,c,hcx,rfl⟩,st',fun b hb=>(hf b hb).1⟩⟩
 done:=by
  intro X hP hw hK hc i pins s σ H E I hf st hg;subst hP hw hK;obtain⟨f0,f1,f2,f3,f4,f5⟩:=hf it (by simp);have hx:x.cps[i]?=none:=Array.getElem?_eq_none hg;rcases hty with e|e
  ·rw[e]at st;exact wpAny_pyNext_ascii_end (I.ok.hd hc) st hx fun h' eb=>⟨rfl,I.turned (t':=s.toks) (fun b o hb e=>eb b o hb e) f0 f1 f3 f4 f5⟩
  ·rw[e]at st;exact wpAny_pyNext_wide_end (I.ok.hd hc) st hx fun h' eb=>⟨rfl,I.turned (t':=s.toks) (fun b o hb e=>eb b o hb e) f0 f1 f3 f4 f5⟩
 self:=fun A i s Q E st h=>by
  rcases hty with e|e
  ·rw[e]at st;exact wpAny_pyIter_striter_ascii st h
  ·rw[e]at st;exact wpAny_pyIter_striter_wide st h
def qpF(te:TE):TI:=fun σ H R=>te σ H fun v H1=>∃x,v=.str x/\R (Its x) H1
theorem qoj{X:Cx}{tg e:Expr}{te:TE}(he:PE X e te):PI X tg e (qpF te):=by
 intro pins s σ H R I h;refine thn (he pins s σ H _ I h) fun v s1 ⟨y,H1,I1,r1,x,ex,q⟩=>?_;subst ex;obtain⟨t,rfl⟩:=r1;cases ha:x.cps.all (· < 128)
 ·exact wpAny_pyIter_wide ha (qgr (tk:=s1.toks) I1 _ (qgs _ x t "str_iterator" (.inr rfl)) ⟨_,Ybk _ rfl,rfl,rfl⟩ q)
 ·exact wpAny_pyIter_ascii ha (qgr (tk:=s1.toks) I1 _ (qgs _ x t "str_ascii_iterator" (.inl rfl)) ⟨_,Ybk _ rfl,rfl,rfl⟩ q)
noncomputable def Ite(K:γ)(a:Addr):It :=⟨fun i H=>∃(xs:List V)(x:V),SqL K H a xs/\xs[i]?=some x,fun i H v H'=>∃T x,v=.ref T/\H T=none/\H'=upd H T (.tup [.int (i:Nat),x])/\∀xs,SqL K H a xs->xs[i]?=some x,fun i H=>∃xs:List V,SqL K H a xs/\xs.length<=i⟩
theorem qj7{P:Program}{w:World}{K:γ}{elts:List Expr}{kk:Nat}{tpos:Pos}(a e it:Addr):
  Turn P w K (.Tuple elts kk tpos) (Ite K a) [e,it] e (fun i h=>(∃old,IsEnum h e it ((i:Nat):Int) old)/\h.IsListIter it a i/\e≠it) where
 mem:=by simp
 obj:=fun i h st b hb=>by
  obtain⟨⟨old,he⟩,⟨o,ho,hc,hd⟩,_⟩:=st;have e':b=e\/b=it:=by simpa using hb
  rcases e' with z|z
  ·rw[z];exact⟨_,he,fun v q=>nomatch q⟩
  ·rw[z];exact⟨o,ho,fun v q=>by rw[hd]at q;cases q⟩
 keep:=fun i h h' st k=>let⟨⟨old,he⟩,hi,hne⟩:=st;⟨⟨old,k e (by simp) _ he⟩,hi.at fun o q=>k it (by simp) o q,hne⟩
 item:=by
  intro X hP hw hK hc i pins s σ H E I hf st hg;subst hP hw hK;obtain⟨⟨old,he⟩,hit,hne⟩:=st;obtain⟨xs,x,hq,hx⟩:=hg;obtain⟨its,rv,p,hz⟩:=I.list hq;obtain⟨u,hu,ru⟩:=rv.get hx;have hel:e<s.heap.objs.size:=Ξ he;have hil:it<s.heap.objs.size:=by obtain⟨_,q,_⟩:=hit;exact Ξ q
  refine wpAny_pyNext_enum_item he hit p.isList (x:=u) (by simpa using hu) hne fun h' ho hit' hT hsz hk=>?_;refine⟨_,rfl,wpAny_letOwnedTupleGo_enum (s:={s with heap:=h',toks:=s.toks+1}) ho fun h'' he' sb=>?_⟩;have hT2:h''.get? s.heap.objs.size=some {cls:=.type "tuple",data:=.seq #[.int i s.toks,u]}:=(sb.2 _ (YcS hel)).trans hT
  have new:zo X.prog X.w (upd H s.heap.objs.size (.tup [.int (i:Nat),x])) h'' s.heap.objs.size (.tup [.int (i:Nat),x]) :=
   ⟨by show 2<=Λ;decide,[.int i s.toks,u],.cons ⟨_,rfl⟩ (.cons ru .nil),⟨_,hT2,rfl,_,rfl⟩⟩
  have I1:Inv X pins σ (upd H s.heap.objs.size (.tup [.int (i:Nat),x])) {s with heap:=h'',toks:=s.toks+1} :=
   I.turnedNew (ch:=[e,it]) (fun b ob hb q=>(sb.2 b (fun z=>hb (by simp[z]))).trans (hk b ob (fun z=>hb (by simp[z])) (fun z=>hb (by simp[z])) q)) hf (ω _) new
  refine⟨.ref s.heap.objs.size,_,I1,rfl,⟨_,x,rfl,I.hok.fresh (ω _),rfl,fun ys hy=>by rw[I.list_inj hy hq];exact hx⟩,⟨⟨u,?_⟩,hit'.at fun o q=>(sb.2 it (Ne.symm hne)).trans q,hne⟩,fun b hb=>?_⟩
  ·have e1:((i+1:Nat):Int)=(i:Int)+1:=by omega
   rw[e1];exact he'
  ·have hb':b<s.heap.objs.size:=by
    have e':b=e\/b=it:=by simpa using hb
    rcases e' with z|z
    ·rw[z];exact hel
    ·rw[z];exact hil
   rw[qd (Ybr hb')];exact(hf b hb).1
 done:=by intro X hP hw hK hc i pins s σ H E I hf st hg;subst hP hw hK;obtain⟨⟨old,he⟩,hit,hne⟩:=st;obtain⟨xs,hq,hx⟩:=hg;obtain⟨its,rv,p,hz⟩:=I.list hq;obtain⟨f0,f1,f2,f3,f4,f5⟩:=hf it (by simp);have hl:=rv.length;exact wpAny_pyNext_enum_end (I.ok.hd hc) he hit p.isList (by simp;omega) fun h' eb=>⟨rfl,I.turned (t':=s.toks) (fun b o hb q=>eb b o hb q) f0 f1 f3 f4 f5⟩
 self:=fun A i s Q E st h=>let⟨⟨_,he⟩,_⟩:=st;wpAny_pyIter_enum he h
def qpc(K:γ)(ta:TA):TI:=fun σ H R=>ta σ H fun vs H1=>∃a xs,vs=[.ref a]/\SqL K H1 a xs/\R (Ite K a) H1
theorem qne{X:Cx}{e:Expr}{ta:TA}{p pos tpos:Pos}{elts:List Expr}{kk:Nat}(hg:Gl X "enumerate")(hm:X.mg "enumerate"=none)(ha:PA X [e] ta)(hs:starEach [e] X.env=[(false,eval e X.env)]:=by rfl):
  PI X (.Tuple elts kk tpos) (.Call (.Name "enumerate" p) [e] [] pos) (qpc X.K ta):=by
 intro pins s σ H R I h;refine Call_ (Zv I hg hm boot_enumerate (YbT (thn (ha pos pins s σ H _ I h) fun us s1 ⟨vs,H1,I1,r1,q1⟩=>?_) hs rfl));obtain⟨a,xs,ex,hq,q⟩:=q1;subst ex;cases r1 with
 |cons r rr=>
  cases rr;cases r;obtain⟨its,rv,p',hz⟩:=I1.list hq;refine call_enumerate_list p'.isList fun h' he hit hsz hk=>wpAny_pyIter_enum he ?_;have I2:Inv X pins σ H1 {s1 with heap:=h'}:=I1.kept (t':=s1.toks) hk;refine⟨s1.heap.objs.size+1,[s1.heap.objs.size+1,s1.heap.objs.size],_,_,H1,rfl,I2,qj7 a (s1.heap.objs.size+1) s1.heap.objs.size,⟨⟨.none,he⟩,hit,Nat.succ_ne_self _⟩,fun b hb=>?_,q⟩;have e':b=s1.heap.objs.size+1\/b=s1.heap.objs.size:=by simpa using hb
  have hle:s1.heap.objs.size<=b:=by
   rcases e' with z|z
   ·rw[z];exact YbY _ _
   ·rw[z];exact ω _
  exact I1.fpOk hle (I1.hok.fresh hle)
theorem qfa:bootBuiltins "zip"=some (.type "zip"):=by decide +kernel
noncomputable def Itz(K:γ)(a b:Addr):It :=
 ⟨fun i H=>∃(xs ys:List V)(x y:V),SqL K H a xs/\SqL K H b ys/\xs[i]?=some x/\ys[i]?=some y,
  fun i H v H'=>∃T x y,v=.ref T/\H T=none/\H'=upd H T (.tup [x,y])/\(∀xs,SqL K H a xs->xs[i]?=some x)/\∀ys,SqL K H b ys->ys[i]?=some y,
  fun i H=>∃xs ys:List V,SqL K H a xs/\SqL K H b ys/\(xs.length<=i\/ys.length<=i)⟩
theorem qlJ{P:Program}{w:World}{K:γ}{elts:List Expr}{kk:Nat}{tpos:Pos}{a b z TI TO i1 i2:Addr}(D:ZipApart z TI TO i1 i2 a b):
  Turn P w K (.Tuple elts kk tpos) (Itz K a b) [z,TI,TO,i1,i2] z (fun i h=>IsZip h z TI TO .none/\IsPair h TI (.ref i1) (.ref i2)/\(∃x y,IsPair h TO x y)/\h.IsListIter i1 a i/\h.IsListIter i2 b i) where
 mem:=by simp
 obj:=fun i h st c hc=>by
  obtain⟨hz,hTI,⟨x,y,hTO⟩,⟨o1,e1,_,d1⟩,⟨o2,e2,_,d2⟩⟩:=st;have e':c=z\/c=TI\/c=TO\/c=i1\/c=i2:=by simpa using hc
  rcases e' with q|q|q|q|q
  ·rw[q];exact⟨_,hz,fun v q=>nomatch q⟩
  ·rw[q];exact⟨_,hTI,fun v q=>nomatch q⟩
  ·rw[q];exact⟨_,hTO,fun v q=>nomatch q⟩
  ·rw[q];exact⟨o1,e1,fun v q=>by rw[d1]at q;cases q⟩
  ·rw[q];exact⟨o2,e2,fun v q=>by rw[d2]at q;cases q⟩
 keep:=fun i h h' st k=>by obtain⟨hz,hTI,⟨x,y,hTO⟩,h1,h2⟩:=st;exact⟨k z (by simp) _ hz,k TI (by simp) _ hTI,⟨x,y,k TO (by simp) _ hTO⟩,h1.at fun o q=>k i1 (by simp) o q,h2.at fun o q=>k i2 (by simp) o q⟩
 item:=by
  intro X hP hw hK hc i pins s σ H E I hf st hg;subst hP hw hK;obtain⟨hz,hTI,⟨x0,y0,hTO⟩,h1,h2⟩:=st;obtain⟨xs,ys,x,y,hqx,hqy,hx,hy⟩:=hg;obtain⟨its,rv,p,_⟩:=I.list hqx;obtain⟨its2,rv2,p2,_⟩:=I.list hqy;obtain⟨u,hu,ru⟩:=rv.get hx;obtain⟨u2,hu2,ru2⟩:=rv2.get hy;have hzl:z<s.heap.objs.size:=Ξ hz;refine wpAny_pyNext_zip_item D hz hTI hTO h1 h2 p.isList p2.isList (x:=u) (y:=u2) (by simpa using hu) (by simpa using hu2) fun h' z' TO' h1' h2' hT hsz hk=>?_;refine⟨_,rfl,wpAny_letOwnedTupleGo_zip (s:={s with heap:=h'}) z' fun h'' z'' sb=>?_⟩;have hT2:h''.get? s.heap.objs.size=some {cls:=.type "tuple",data:=.seq #[u,u2]}:=(sb.2 _ (YcS hzl)).trans hT
  have new:zo X.prog X.w (upd H s.heap.objs.size (.tup [x,y])) h'' s.heap.objs.size (.tup [x,y]) :=
   ⟨by show 2<=Λ;decide,[u,u2],.cons ru (.cons ru2 .nil),⟨_,hT2,rfl,_,rfl⟩⟩
  have I1:Inv X pins σ (upd H s.heap.objs.size (.tup [x,y])) {s with heap:=h''} :=
   I.turnedNew (t':=s.toks) (ch:=[z,TI,TO,i1,i2]) (fun c o hb q=>(sb.2 c (fun q'=>hb (by simp[q']))).trans (hk c o (fun q'=>hb (by simp[q'])) (fun q'=>hb (by simp[q'])) (fun q'=>hb (by simp[q'])) (fun q'=>hb (by simp[q'])) q)) hf (ω _) new
  refine⟨.ref s.heap.objs.size,_,I1,rfl,⟨_,x,y,rfl,I.hok.fresh (ω _),rfl,fun l hl=>by rw[I.list_inj hl hqx];exact hx,fun l hl=>by rw[I.list_inj hl hqy];exact hy⟩,⟨z'',?_,⟨u,u2,?_⟩,?_,?_⟩,fun c hcm=>?_⟩
  ·exact(sb.2 _ D.TIz).trans (hk _ _ D.TIz D.TITO D.TIi1 D.TIi2 hTI)
  ·exact(sb.2 _ D.TOz).trans TO'
  ·exact h1'.at fun o q=>(sb.2 _ D.i1z).trans q
  ·exact h2'.at fun o q=>(sb.2 _ D.i2z).trans q
  ·have hlt:c<s.heap.objs.size:=by
    have e':c=z\/c=TI\/c=TO\/c=i1\/c=i2:=by simpa using hcm
    rcases e' with q|q|q|q|q
    ·rw[q];exact hzl
    ·rw[q];exact Ξ hTI
    ·rw[q];exact Ξ hTO
    ·rw[q];obtain⟨_,e1,_⟩:=h1;exact Ξ e1
    ·rw[q];obtain⟨_,e2,_⟩:=h2;exact Ξ e2
   rw[qd (Ybr hlt)];exact(hf c hcm).1
 done:=by
  intro X hP hw hK hc i pins s σ H E I hf st hg;subst hP hw hK;obtain⟨hz,hTI,⟨x0,y0,hTO⟩,h1,h2⟩:=st;obtain⟨xs,ys,hqx,hqy,hend⟩:=hg;obtain⟨its,rv,p,_⟩:=I.list hqx;obtain⟨its2,rv2,p2,_⟩:=I.list hqy;have l1:=rv.length;have l2:=rv2.length
  have he:its.toArray[i]?=none\/its2.toArray[i]?=none:=by
   rcases hend with q|q
   ·exact .inl (by simp;omega)
   ·exact .inr (by simp;omega)
  exact wpAny_pyNext_zip_end (I.ok.hd hc) D hz hTI hTO h1 h2 p.isList p2.isList he fun h' hk=>⟨rfl,I.turnedL (t':=s.toks) (ch:=[z,TI,TO,i1,i2]) (fun c o hb q=>
   hk c o (fun q'=>hb (by simp[q'])) (fun q'=>hb (by simp[q'])) (fun q'=>hb (by simp[q'])) (fun q'=>hb (by simp[q'])) q) hf⟩
 self:=fun A i s Q E st h=>wpAny_pyIter_zip st.1 h
def qpG(K:γ)(ta:TA):TI:=fun σ H R=>ta σ H fun vs H1=>∃a b xs ys,vs=[.ref a,.ref b]/\SqL K H1 a xs/\SqL K H1 b ys/\R (Itz K a b) H1
theorem qok{X:Cx}{e e2:Expr}{ta:TA}{p pos tpos:Pos}{elts:List Expr}{kk:Nat}(hg:Gl X "zip")(hm:X.mg "zip"=none)(ha:PA X [e,e2] ta)
  (hs:starEach [e,e2] X.env=(false,eval e X.env)::starEach [e2] X.env:=by rfl) (hpl:(backTo pos (starEach [e2] X.env)).any (·.1)=false:=by rfl):
  PI X (.Tuple elts kk tpos) (.Call (.Name "zip" p) [e,e2] [] pos) (qpG X.K ta):=by
 intro pins s σ H R I h;refine Call_ (Zv I hg hm qfa (YbT (thn (ha pos pins s σ H _ I h) fun us s1 ⟨vs,H1,I1,r1,q1⟩=>?_) hs hpl));obtain⟨a,b,xs,ys,ex,hqx,hqy,q⟩:=q1;subst ex;cases r1 with
 |cons r rr=>
  cases rr with
  |cons r' rr=>
   cases rr;cases r;cases r';obtain⟨its,rv,p1,_⟩:=I1.list hqx;obtain⟨its2,rv2,p2,_⟩:=I1.list hqy;have la:a<s1.heap.objs.size:=p1.lt;have lb:b<s1.heap.objs.size:=p2.lt;refine call_zip_2 p1.isList p2.isList fun h' hz hTI hTO h1 h2 hsz hk=>wpAny_pyIter_zip hz ?_;have I2:Inv X pins σ H1 {s1 with heap:=h'}:=I1.kept (t':=s1.toks) hk;refine⟨s1.heap.objs.size+4,[s1.heap.objs.size+4,s1.heap.objs.size+2,s1.heap.objs.size+3,s1.heap.objs.size,s1.heap.objs.size+1],_,_,H1,rfl,I2,qlJ (YdY s1.heap.objs.size a b la lb),⟨hz,hTI,⟨_,_,hTO⟩,h1,h2⟩,fun c hcm=>?_,q⟩;have e':c=s1.heap.objs.size+4\/c=s1.heap.objs.size+2\/c=s1.heap.objs.size+3\/c=s1.heap.objs.size\/c=s1.heap.objs.size+1:=by simpa using hcm
   have hle:s1.heap.objs.size<=c:=by
    rcases e' with z|z|z|z|z
    ·rw[z];exact YbY _ _
    ·rw[z];exact YbY _ _
    ·rw[z];exact YbY _ _
    ·rw[z];exact ω _
    ·rw[z];exact YbY _ _
   exact I1.fpOk hle (I1.hok.fresh hle)
theorem qfb:∀l:List (Str×Tok),qD ((l.map (·.1)).map V.str) (strValues l)
 |[]=>.nil
 |p::r=>.cons ⟨p.2,rfl⟩ (qfb r)
def qdi(ys:List Str):Hp->VK->Prop:=fun H Q=>∀p,H p=none->Q (.ref p) (upd H p (.lst (ys.map V.str)))
section
variable{X:Cx}{pins:List (Addr×Obj)}{σ:St}{H:Hp}{s:Shared}{Q:VK}
theorem qfc{l:List (Str×Tok)}{ys:List Str}{k:Nat}(I:Inv X pins σ H s)(e:l.map (·.1)=ys)(hz:ys.length<=Λ)(h:qdi ys H Q):
  EP X pins σ Q (.ref s.heap.objs.size) {s with toks:=k,heap:=s.heap.push {cls:=.type "list",data:=.seq (strValues l).toArray}}:=by
 have hp:=I.hok.fresh (ω _);refine⟨.ref s.heap.objs.size,upd H s.heap.objs.size (.lst (ys.map V.str)),I.laid (fun b u q=>ψ _ q) (ω _) ⟨by rw[τ];exact hz,strValues l,_,?_,Ybk _ rfl⟩,rfl,h _ hp⟩;rw[<- e];exact qfb l
end
section
variable{X:Cx}
theorem qlK(x:Str):(Txt.words x).length<=x.length+1:=by have e1:=StrLaws.words_weight x;omega
theorem qlL:MtR X "str.split" (fun x xs H Q=>∃a,x=.str a/\xs=[]/\a.length+2<=Λ/\qdi (Txt.words a) H Q):=by
 intro pins s σ H x xs v us Q I rx rs h;obtain⟨a,rfl,rfl,hz,h⟩:=h;obtain⟨t,rfl⟩:=rx;cases rs;have hl:(Txt.words a).length<=Λ:=Ybx (qlK a) (by omega);have hn:(Builtin.Str.spaceWords a (a.length+1)).length<=Λ:=by have e1:=(StrLaws.sw_weight a).1;have e2:=StrLaws.len_le_wsum (Builtin.Str.spaceWords a (a.length+1));omega
 refine call_meets F.slot_str_split (typeIs_str _ _ _) F.entry_str_split (F.args_str_split_1 _) (meets_str_split_space a t (by omega) hn) ?_;cases hw:Builtin.Str.spaceWords a (a.length+1)==[(0,a.length)]
 ·simp only[YbI,if_false];rw[strsFrom_eq];exact qfc (ys:=Txt.words a) I ((numbered_texts _ _).trans (if_neg (ne_true_of_eq_false hw)).symm) hl h
 ·simp only[if_true];exact qfc (l:=[(a,t)]) (ys:=Txt.words a) (k:=s.toks) I (if_pos hw).symm hl h
theorem mt1 {id:String} {g:Str->Str->V} (rule:∀(a b:Str)(t u:Tok)(s:Shared)(Q:Value->Shared->Prop),(∀(v:Value)(k:Nat),RelV (g a b) v->Q v {s with toks:=k}) ->
  wpAny (model X.prog X.w) X.A (call (.builtin id) [.str a t,.str b u]) Q X.xe s):MtR X id (fun x xs H Q=>∃a b,x=.str a/\xs=[.str b]/\Q (g a b) H):=by
 intro pins s σ H x xs v us Q I rx rs h;obtain⟨a,b,rfl,rfl,h⟩:=h;obtain⟨t,rfl⟩:=rx;cases rs with
 |cons r1 rs=>cases rs;obtain⟨u,rfl⟩:=r1;exact rule a b t u s _ fun v k r=>⟨g a b,H,I.tok k,r,h⟩
theorem qfN:MtR X "str.startswith" (fun x xs H Q=>∃a b,x=.str a/\xs=[.str b]/\Q (.bl (Txt.startswith a b)) H) :=mt1 (g:=fun a b=>.bl (Txt.startswith a b)) fun _ _ _ _ s _ h=>PySem.SC.startswith (h _ s.toks rfl)
end
section
variable{X:Cx}{o e:Expr}{to te:TE}
def tM0(r:V->List V->Hp->VK->Prop)(to:TE):TE:=fun σ H Q=>to σ H fun x H1=>(∃a,x=.str a)/\r x [] H1 Q
def tM1(r:V->List V->Hp->VK->Prop)(to te:TE):TE:=fun σ H Q=>to σ H fun x H1=>(∃a,x=.str a)/\te σ H1 fun y H2=>r x [y] H2 Q
theorem qpd{id:String}{name:Str}{apos pos:Pos}{r:V->List V->Hp->VK->Prop}(slot:Slot "str" name id)(ty:typeOf (.builtin id)=pure (.type "method_descriptor"))(rule:MtR X id r)(ho:PE X o to)
  (hbase:attributeBase o name X.env (eval o X.env)=eval o X.env:=by rfl) (hline:(apos.endLine==pos.line)=true:=by rfl):PE X (.Call (.Attribute o name apos) [] [] pos) (tM0 r to):=by
 intro pins s σ H Q I h;refine PySem.Call_method0 hbase hline (thn (ho pins s σ H _ I h) fun v s1 ⟨x,H1,I1,r1,q1⟩=>?_);obtain⟨⟨a,rfl⟩,q1⟩:=q1;obtain⟨t,rfl⟩:=_root_.id r1;exact⟨"str",_,F.plainAttrs_str,slot,ty,typeIs_str _ _ _,(fun _ e=>nomatch e),Calls.callWith_builtin rfl (PySem.evalArgs_none (rule pins s1 σ H1 _ [] _ [] Q I1 r1 .nil q1))⟩
theorem qpe{id:String}{name:Str}{apos pos:Pos}{r:V->List V->Hp->VK->Prop}(slot:Slot "str" name id)(ty:typeOf (.builtin id)=pure (.type "method_descriptor"))(rule:MtR X id r)(ho:PE X o to)(he:PE X e te)
  (hs:starEach [e] X.env=[(false,eval e X.env)]:=by rfl) (hbase:attributeBase o name X.env (eval o X.env)=eval o X.env:=by rfl) (hline:(apos.endLine==pos.line)=true:=by rfl):
  PE X (.Call (.Attribute o name apos) [e] [] pos) (tM1 r to te):=by
 intro pins s σ H Q I h;refine PySem.Call_method1 hbase hs hline (thn (ho pins s σ H _ I h) fun v s1 ⟨x,H1,I1,r1,q1⟩=>?_);obtain⟨⟨a,rfl⟩,q1⟩:=q1;obtain⟨t,rfl⟩:=_root_.id r1;refine⟨"str",_,F.plainAttrs_str,slot,ty,typeIs_str _ _ _,(fun _ e=>nomatch e),Calls.callWith_builtin rfl (Calls.evalArgs_plain (Calls.spliced_cons ?_))⟩;exact thn (he pins s1 σ H1 _ I1 q1) fun u s2 ⟨y,H2,I2,r2,q2⟩=>Calls.spliced_nil (rule pins s2 σ H2 _ [y] _ [u] Q I2 r1 (.cons r2 .nil) q2)
theorem qlM{apos pos:Pos}(ho:PE X o to)(hbase:attributeBase o "split" X.env (eval o X.env)=eval o X.env:=by rfl)(hline:(apos.endLine==pos.line)=true:=by rfl):
  PE X (.Call (.Attribute o "split" apos) [] [] pos) (tM0 (fun x xs H Q=>∃a,x=.str a/\xs=[]/\a.length+2<=Λ/\qdi (Txt.words a) H Q) to) :=
 qpd F.slot_str_split F.type_str_split qlL ho hbase hline
end
theorem IsPart.raw {v:Value} {o:Option Int} (p:IsPart v o):∃l:Option (Int×Tok),v=partValue l/\l.map (·.1)=o:=by
 cases p with
 |none=>exact⟨none,rfl,rfl⟩
 |int i t=>exact⟨some (i,t),rfl,rfl⟩
noncomputable def qdJ(n d:Nat):Option Int->Int
 |none=>(d:Int)
 |some i=>max 0 (min (if i<0 then i+(n:Int)else i) (n:Int))
theorem qgt(n d:Nat)(o:Option Int):qdJ n d o=((HT.sIx n d o:Nat):Int):=by
 cases o with
 |none=>rfl
 |some v=>
  show max (0:Int) (min (if v<0 then v+(n:Int)else v) (n:Int))=(((if v<0 then(v+(n:Int)).toNat else min v.toNat n):Nat):Int);by_cases hv:v<0
  ·simp only[if_pos hv];omega
  ·simp only[if_neg hv];omega
theorem qj8(a b:Option Int)(n:Nat):Builtin.Str.strSliceIndices a b 1 n=sliceRange (qdJ n 0 a) (qdJ n n b) 1:=by
 have h1:((1:Int)>0)=True:=by simp
 cases a<;>cases b<;>first
  |rfl
  |(simp only[Builtin.Str.strSliceIndices,qdJ,h1,if_true];rfl)
  |simp[Builtin.Str.strSliceIndices,qdJ]
theorem qpH(a b:Option Int)(n:Nat):Builtin.Str.strSliceIndices a b 1 n=(Ydc (HT.sIx n n b - HT.sIx n 0 a)).map (fun k=>HT.sIx n 0 a+k):=by
 rw[qj8,qgt,qgt];generalize HT.sIx n 0 a=p;generalize HT.sIx n n b=q;simp only[sliceRange,show((1:Int)>0)=True from by simp,if_true];by_cases hlt:(p:Int)<q
 ·have e3:(((q:Int) - p+1 - 1) / 1).toNat=q - p:=by first|omega|(simp;done)|(simp;omega)
  simp only[hlt,if_true,e3];refine YcM fun k _=>?_;omega
 ·have:q - p=0:=by omega
  simp[hlt,this]
noncomputable def qgu(z:Str)(lo hi:Option Int):Str :=⟨((z.cps.toList.drop (HT.sIx z.length 0 lo)).take (HT.sIx z.length z.length hi - HT.sIx z.length 0 lo)).toArray⟩
theorem qbE(z:Str)(lo hi:Option Int):PySem.StrLaws.sliceText z lo hi=qgu z lo hi:=by
 have h1:HT.sIx z.length 0 lo<=z.length:=HT.qj1 _ _ (ό _) _;have h2:HT.sIx z.length z.length hi<=z.length:=HT.qj1 _ _ (ω _) _;have hp:HT.sIx z.length 0 lo<=max (HT.sIx z.length 0 lo) (HT.sIx z.length z.length hi):=Nat.le_max_left _ _;have hq:max (HT.sIx z.length 0 lo) (HT.sIx z.length z.length hi)<=z.length:=Nat.max_le.mpr ⟨h1,h2⟩;have hd:max (HT.sIx z.length 0 lo) (HT.sIx z.length z.length hi) - HT.sIx z.length 0 lo=HT.sIx z.length z.length hi - HT.sIx z.length 0 lo:=by omega
 have e:Builtin.Str.strSliceIndices lo hi 1 z.length =
   Builtin.Str.strSliceIndices (some ((HT.sIx z.length 0 lo:Nat):Int)) (some ((max (HT.sIx z.length 0 lo) (HT.sIx z.length z.length hi):Nat):Int)) 1 z.length:=by
  rw[PySem.StrLaws.strSliceIndices_plain hp hq,hd,qpH]
 have e2:PySem.StrLaws.sliceText z lo hi =
   PySem.StrLaws.sliceText z (some ((HT.sIx z.length 0 lo:Nat):Int)) (some ((max (HT.sIx z.length 0 lo) (HT.sIx z.length z.length hi):Nat):Int)):=by
  unfold PySem.StrLaws.sliceText;rw[e]
 rw[e2,PySem.StrLaws.sliceText_nat z hp hq,hd];rfl
theorem qhI(z:Str)(lo hi:Option Int):(qgu z lo hi).length<=z.length:=by show(((z.cps.toList.drop (HT.sIx z.length 0 lo)).take (HT.sIx z.length z.length hi - HT.sIx z.length 0 lo)).toArray).size<=z.cps.size;rw[ύ,Ybz,YbF,Yck];omega
def qpI:V->Option Int->Option Int->Hp->VK->Prop:=fun x lo hi H Q=>∃z,x=.str z/\z.length<=Λ/\Q (.str (qgu z lo hi)) H
theorem qol{X:Cx}:SlR X qpI:=by
 intro pins s σ H x v vl vu lo hi sl Q I rx hs pl pu h;obtain⟨z,rfl,hz,q⟩:=h;obtain⟨t,rfl⟩:=rx;obtain⟨os,hos,hcs,hds⟩:=hs;obtain⟨l,rfl,rfl⟩:=IsPart.raw pl;obtain⟨u,rfl,rfl⟩:=IsPart.raw pu;refine⟨"str",_,F.slot_str_getitem.lookup,typeIs_str _ _ _,?_⟩;refine wpAny_getItem_str_slice (l:=l) (u:=u) (st:=none) ⟨os,hos,hcs,hds⟩ rfl ?_;have hl:(PySem.StrLaws.sliceText z (l.map (·.1)) (u.map (·.1))).length<=Λ:=by rw[qbE];exact Ybx (qhI z _ _) hz
 rw[<- qbE]at q;unfold PySem.StrLaws.sliceText at q hl
 show Made.post (if((1:Int)==1&&(Builtin.Str.strSliceIndices (l.map (·.1)) (u.map (·.1)) 1 z.length).length==z.length)=true then Made.val (.str z t)
  else Made.str ⟨((Builtin.Str.strSliceIndices (l.map (·.1)) (u.map (·.1)) 1 z.length).filterMap (z.cps[·]?)).toArray⟩) (EP X pins σ Q) s
 by_cases c:((1:Int)==1&&(Builtin.Str.strSliceIndices (l.map (·.1)) (u.map (·.1)) 1 z.length).length==z.length)=true
 ·rw[if_pos c]at q ⊢;exact⟨.str z,H,I,⟨t,rfl⟩,q⟩
 ·rw[if_neg c]at q hl ⊢;exact⟨hl,.str _,H,I.tok _,⟨_,rfl⟩,q⟩
noncomputable def inClass(s:Stmt)(j:Nat):Stmt:=match s with
 | .ClassDef _ _ _ body _ _ _ _ _ _ _=>body.getD j (.Pass ⟨0,0,0,0⟩)
 |_=>.Pass ⟨0,0,0,0⟩
noncomputable def ql(s:Stmt):Arguments:=match s with
 | .FunctionDef _ a _ _ _ _ _ _ _ _=>a
 |_=>{posonlyargs:=[],args:=[],vararg:=none,kwonlyargs:=[],kw_defaults:=[],kwarg:=none,defaults:=[]}
noncomputable def qk(s:Stmt):List Stmt:=match s with
 | .FunctionDef _ _ b _ _ _ _ _ _ _=>b
 |_=>[]
noncomputable def qe(s:Stmt):Scope:=match s with
 | .FunctionDef _ _ _ _ _ _ sc _ _ _=>sc
 |_=>{kind:=.function,names:=[],isGenerator:=false,isCoroutine:=false}
abbrev CX0:CXT:=fun _ _ _ _ _ _=>False
abbrev E0:XK:=fun _ _ _=>False
theorem qO{X:Cx}:jo CX0 X E0:=fun _ _ _ _ _ _ _ h=>h.elim
structure Fun(K:γ)(x qual:Str)(st:Stmt)(f:Addr)(fd:FuncData):Prop where
 ex:∃(oc:Value)(od:Option Addr)(kV doc pm:Value)(an:Option Addr)(cdv ct:Value)(osl:Array (Option Value)),
  fd=μ x qual (ql st) (qk st) (qe st) .none kV doc pm an cdv ct/\K.lookup f=some ⟨oc,od,.func fd,osl⟩/\ι K cdv qual=true
 kp:ζ K (.ref f)=true
section
variable{P:Program}{w:World}{K:γ}{mg:Str->Option Value}{base:Heap}
theorem Fun.ok {x qual:Str} {st:Stmt} {f:Addr} {fd:FuncData} {N ps:List Str} {k:Nat} {sp:Sp} (F:Fun K x qual st f fd) (S:qm N ps (qe st)) (len:∀vs H Q E,sp vs H Q E->vs.length=ps.length)
  (hbody:∀(cdv:Value)(A:Around)(outer:List Env)(s:Shared)(H:Hp)(vs:List V)(Q:VK)(E:XK),qI k (A.deeper (envOfC qual (qe st) s.heap.objs.size f cdv))->sp vs H Q E ->
   ∃t,PSs (qQ CX0 P w K mg base N qual (qe st) f cdv A outer s H E).nox (qk st) t/\t {nx:=fun _ H'=>Q .non H',rt:=Q} (start N vs) H):qw P w K mg base CX0 (k+1) f fd ps sp:=by
 obtain⟨oc,od,kV,doc,pm,an,cdv,ct,osl,rfl,lk,hcd⟩:=F.ex;refine qiR lk hcd S len fun A outer s H vs Q E hr hsp=>?_;obtain⟨t,h,q⟩:=hbody cdv A outer s H vs Q E hr hsp;exact⟨t,h.nox,q⟩
theorem Fun.binds {x qual:Str} {st:Stmt} {f:Addr} {fd:FuncData} {ps:List Str} (F:Fun K x qual st f fd)
  (h:∀(kV doc pm:Value)(an:Option Addr)(cdv ct:Value)(us:List Value),us.length=ps.length->bindArgs (μ x qual (ql st) (qk st) (qe st) .none kV doc pm an cdv ct) ⟨us,[]⟩=pure (ps.zip us)):Binds K fd ps []:=by
 obtain⟨oc,od,kV,doc,pm,an,cdv,ct,osl,rfl,lk,hcd⟩:=F.ex;exact .all (h kV doc pm an cdv ct)
theorem qt{x qual:Str}{st:Stmt}{f:Addr}{oc:Value}{od an:Option Addr}{osl:Array (Option Value)}{kV doc pm cdv ct:Value}(l:K.lookup f=some ⟨oc,od,.func (μ x qual (ql st) (qk st) (qe st) .none kV doc pm an cdv ct),osl⟩)
  (c:ι K cdv qual=true) (k:ζ K (.ref f)=true):Fun K x qual st f (μ x qual (ql st) (qk st) (qe st) .none kV doc pm an cdv ct):=⟨⟨oc,od,kV,doc,pm,an,cdv,ct,osl,rfl,l,c⟩,k⟩
end
theorem qpf{A:Around}{k:Nat}(hr:qI k A):A.units+1<cLine:=Ycn (Nat.add_le_add_left (by decide:1<=64) _) hr.units
theorem Q7{n:Nat}(h:n<=1000):n<Λ:=Ycn h (by decide)
section
variable{X:Cx}
theorem pv(i:Nat){x:Str}{pos:Pos}(hN:X.N[i]?=some x:=by rfl)(hv:Vis X.env.scope x:=by first|exact Or.inl rfl|exact Or.inr (Or.inl rfl)|exact Or.inr (Or.inr rfl))(hd:(x==("__debug__":Str))=false:=by decide)
  (hcd:(x==("__classdict__":Str))=false:=by decide):PE X (.Name x pos) (zt i):=qgd hN hv hd hcd
end
theorem zz{A B:Prop}(h:B):if false=true then A else B:=by rw[if_neg ϋ];exact h
theorem zT{A B:Prop}(h:A):if true=true then A else B:=by rw[if_pos rfl];exact h
theorem zR{c A B:Prop}[Decidable c](h1:c->A)(h2:¬c->B):if c then A else B:=by
 by_cases h:c
 ·rw[if_pos h];exact h1 h
 ·rw[if_neg h];exact h2 h
def qB(H H':Hp):Prop:=∀b o,H b=some o->H' b=some o
theorem qB.refl (H:Hp):qB H H:=fun _ _ h=>h
theorem qB.trans {H H1 H2:Hp} (a:qB H H1) (b:qB H1 H2):qB H H2:=fun c o h=>b c o (a c o h)
theorem qB.free {H H':Hp} (e:qB H H') {l:Addr} (h:H' l=Option.none):H l=Option.none:=by
 cases q:H l with
 |none=>rfl
 |some o=>rw[e l o q]at h;cases h
theorem qB.seq {K:γ} {H H':Hp} {a:Addr} {xs:List V} (e:qB H H') (h:SqL K H a xs):SqL K H' a xs:=by
 rcases h with(h|⟨o,h⟩)|h
 ·exact .inl (.inl (e _ _ h))
 ·exact .inl (.inr ⟨o,e _ _ h⟩)
 ·exact .inr h
end L2
end
section
namespace L2
open PySem PySem.Spec PyProof.Rows
open LX (Fly)
noncomputable def XOb(e C:Addr)(vs:Array Value)(dx:Option Addr):HO:=.ext fun h=>∃sl,h.get? e=some ⟨.ref C,dx,.fields vs,sl⟩
noncomputable def XDi(dx:Addr)(fs:List (Str×V)):HO:=.ext fun h=>∃mA,h.Ns1 dx mA/\(∀f,j6 (fs.lookup f) (mA f))/\PySem.Within mA (fs.map (·.1))
theorem qaI{P:Program}{w:World}{H:Hp}{h:Heap}{e C:Addr}{vs:Array Value}{dx:Option Addr}{sl:Array (Option Value)}(q:h.get? e=some ⟨.ref C,dx,.fields vs,sl⟩):zo P w H h e (XOb e C vs dx):=⟨⟨sl,q⟩,⟨_,q⟩,fun _ _ ⟨sl,z⟩ k=>⟨sl,k _ z⟩⟩
theorem qj9{P:Program}{w:World}{H:Hp}{h:Heap}{dx:Addr}{fs:List (Str×V)}{mA:Str->Option Value}(n:h.Ns1 dx mA)(r:∀f,j6 (fs.lookup f) (mA f))(wi:PySem.Within mA (fs.map (·.1))):zo P w H h dx (XDi dx fs):=by obtain⟨o,es,ep,ho,c⟩:=id n;refine⟨⟨mA,n,r,wi⟩,⟨o,ho⟩,fun h1 h2 z k=>?_⟩;obtain⟨mB,⟨o1,es1,ep1,ho1,c1⟩,r1,w1⟩:=z;exact⟨mB,⟨o1,es1,ep1,k _ ho1,c1⟩,r1,w1⟩
theorem HOk.xob {P:Program} {w:World} {H:Hp} {h:Heap} {e C:Addr} {vs:Array Value} {dx:Option Addr} (x:HOk P w H h) (q:H e=some (XOb e C vs dx)):∃sl,h.get? e=some ⟨.ref C,dx,.fields vs,sl⟩:=(x _ _ q).1
theorem HOk.xdi {P:Program} {w:World} {H:Hp} {h:Heap} {dx:Addr} {fs:List (Str×V)} (x:HOk P w H h) (q:H dx=some (XDi dx fs)):∃mA,h.Ns1 dx mA/\(∀f,j6 (fs.lookup f) (mA f))/\PySem.Within mA (fs.map (·.1)):=(x _ _ q).1
noncomputable def jO(H:Hp)(a:Addr):Hp:=fun b=>if b=a then none else H b
theorem zK{H:Hp}{a b:Addr}(h:b≠a):jO H a b=H b:=by unfold jO;rw[if_neg h]
theorem Q8{H:Hp}{a:Addr}:jO H a a=none:=by unfold jO;rw[if_pos rfl]
def zc(cz:Prop)(P:Program)(w:World):CXT:=fun outer H s E e s'=>∃(a C dx:Addr)(H':Hp)(B:Heap),e=.ref a/\s'.os=s.os/\AllBare s'.gens/\Un (frs outer) [] H H' s.heap s'.heap/\HOk P w H' s'.heap/\Fly cz B outer a C dx .none s'.heap /\
 (∀b o,s.heap.get? b=some o->b∉frs outer->∃o',B.get? b=some o')/\(∀b u,H' b=some u->∃o',B.get? b=some o')/\H' a=none/\E (.ref C) (some dx) H'
abbrev CXR(P:Program)(w:World):CXT:=zc True P w
theorem qf5{fs:List Addr}{H H':Hp}{h h1 h2 B:Heap}(u:Un fs [] H H' h h1)(s1:B.StaysIn h1)(s2:B.StaysIn h2)(hB:∀b o,h.get? b=some o->b∉fs->∃o',B.get? b=some o')(up:h1.UpToSlots h2)
  (hf:∀b∈fs,∀o,h1.get? b=some o->∀vs,o.data≠.fields vs):Un fs [] H H' h h2 where
 keep:=fun b o q n hb hx=>by obtain⟨o',e⟩:=hB b o q hb;have e1:=s1 b o' e;rw[u.keep b o q n hb hx]at e1;cases e1;exact s2 b _ e
 slot:=fun b o q n hb hx=>by obtain⟨sl,e⟩:=u.slot b o q n hb hx;obtain⟨sl2,e2⟩:=up b _ e (hf b hb _ e);exact⟨sl2,e2⟩
 free:=u.free
 there:=fun b o q hx=>by
  by_cases hb:b∈fs
  ·obtain⟨o1,e1⟩:=u.there b o q hx;obtain⟨sl2,e2⟩:=up b _ e1 (hf b hb _ e1);exact⟨_,e2⟩
  ·obtain⟨o',e⟩:=hB b o q hb;exact⟨o',s2 b o' e⟩
 tups:=u.tups
 frzs:=u.frzs
 tbls:=u.tbls
theorem qb9{P:Program}{w:World}{H:Hp}{h1 h2 B:Heap}(x:HOk P w H h1)(s1:B.StaysIn h1)(s2:B.StaysIn h2)(hB:∀b u,H b=some u->∃o',B.get? b=some o'):HOk P w H h2:=fun a o e=>
 (x a o e).stay (fun c u hc q=>by
  have hc':∃o',B.get? c=some o':=by
   rcases hc with rfl|hc
   ·exact hB _ _ e
   ·exact hB _ _ hc
  obtain⟨o',eo⟩:=hc';have:=s1 c o' eo;rw[q]at this;cases this
  exact s2 c _ eo) (fun _ q=>q) fun _ _ q=>q
theorem Ql{h base:Heap}{l:List Env}(hl:h.FunFrames base l):∀b∈frs l,∀o,h.get? b=some o->∀vs,o.data≠.fields vs:=fun b hb o q=>by obtain⟨_,o',ho',hn⟩:=hl.mem hb;rw[q]at ho';cases ho';exact hn
section
variable{P:Program}{w:World}{K:γ}{mg:Str->Option Value}{base:Heap}{N:List Str}{qual:Str}{scope:Scope}{f:Addr}{cd:Value}{A:Around}{outer:List Env}{s:Shared}{H:Hp}{E:XK}
theorem j7{cz:Prop}:jo (zc cz P w) (qQ (zc cz P w) P w K mg base N qual scope f cd A outer s H E) E:=by
 intro pins σ H1 s1 e s2 I hx;obtain⟨a,C,dx,H',B,rfl,hos,hb,un,hok,fly,c1,c2,hn,hE⟩:=hx;have J:=I.call' (ch:=[]) hos un hok hb (fun b z=>absurd z (by simp))
 have c1':∀b o,s.heap.get? b=some o->b∉frs outer->∃o',B.get? b=some o':=fun b o q hb=>by
  obtain⟨o1,q1⟩:=I.base.there b o q (by simp[qQ]);refine c1 b o1 q1 fun hm=>?_;rcases Γ.mp (I.stkSub b hm)with z|z
  ·have lt:=Ξ q;rw[z]at lt;exact absurd lt (YbN _)
  ·exact hb z
 show wpAny (model P w) (A.deeper (envOfC qual scope s.heap.objs.size f cd)) (leaving (envOfC qual scope s.heap.objs.size f cd) (.ref a)) (fun _ s''=>zc cz P w outer H s E (.ref a) s'') (fun e' s''=>zc cz P w outer H s E e' s'') s2;refine LX.qiI (env:=envOfC qual scope s.heap.objs.size f cd) (outer:=outer) (L:=s.heap.objs.size) J.ok.frames rfl fly fun h' fly' up=>?_;have u1:Un (frs outer) [] H H' s.heap s2.heap:=J.base;exact⟨a,C,dx,H',B,rfl,J.os,J.bare,qf5 u1 fly.st fly'.st c1' up (Ql (fly.ff.2.2)),qb9 J.hok fly.st fly'.st c2,fly',c1',c2,hn,hE⟩
theorem qav{h b B:Heap}:∀{l:List Env},h.FunFrames b l->(∀a∈frs l,B.get? a=none)->h.FunFrames B l
 |[],_,_=>trivial
 | env::r,⟨hk,⟨L,o,hf,hn,ho,hd⟩,hr⟩,hB=>⟨hk,⟨L,o,hf,hB L (by unfold frs;rw[YbR,hf];exact π),ho,hd⟩,qav hr fun a ha=>hB a (by
  unfold frs;rw[YbR,hf]
  exact ρ _ ha)⟩
theorem qnf{cz:Prop}{pins:List (Addr×Obj)}{σ:St}{H1:Hp}{s1:Shared}{a C dx:Addr}{vs:Array Value}
  (I:Inv (qQ (zc cz P w) P w K mg base N qual scope f cd A outer s H E) pins σ H1 s1) (ha:H1 a=some (XOb a C vs (some dx))) (hv:vs[1]?=some .none) (hz:cz->vs[2]?=some .none) (hnew:s.heap.objs.size<=a) (hE:E (.ref C) (some dx) (jO H1 a)):
  (qQ (zc cz P w) P w K mg base N qual scope f cd A outer s H E).xe (.ref a) s1:=by
 obtain⟨sl,hob⟩:=I.hok.xob ha;have nfr:∀b∈frs (qQ (zc cz P w) P w K mg base N qual scope f cd A outer s H E).stack,b≠a:=fun b hb z=>by have:=I.stkFree b hb;rw[z,ha]at this;cases this
 let l:=a::frs (qQ (zc cz P w) P w K mg base N qual scope f cd A outer s H E).stack
 let B:=YdA s1.heap l
 have stB:B.StaysIn s1.heap:=fun b o q=>Ydd l q
 have inB:∀b o,s1.heap.get? b=some o->b≠a->b∉frs (qQ (zc cz P w) P w K mg base N qual scope f cd A outer s H E).stack->B.get? b=some o:=fun b o q h1 h2=>Yc5 l q (by
  intro z;rcases Γ.mp z with z|z
  ·exact h1 z
  ·exact h2 z)
 have c1':∀b o,s.heap.get? b=some o->b∉frs outer->∃o',B.get? b=some o':=fun b o q hb=>by
  obtain⟨o1,q1⟩:=I.base.there b o q (by simp[qQ]);refine⟨o1,inB b o1 q1 (Ybr (Ybl (Ξ q) hnew)) fun hm=>?_⟩;rcases Γ.mp (I.stkSub b hm)with z|z
  ·have lt:=Ξ q;rw[z]at lt;exact absurd lt (YbN _)
  ·exact hb z
 have c2:∀b u,jO H1 a b=some u->∃o',B.get? b=some o':=fun b u q=>by
  have hba:b≠a:=fun z=>by subst z;rw[Q8]at q;cases q
  rw[zK hba]at q
  obtain⟨o,ho⟩:∃o,s1.heap.get? b=some o:=by
   have lt:=I.hok.lt q;cases hq:s1.heap.get? b with
   |some o=>exact⟨o,rfl⟩
   |none=>
    exfalso;have x:=I.hok b u q;cases u with
    |lst xs=>obtain⟨_,_,_,_,e⟩:=x;rw[hq]at e;cases e
    |tup xs=>obtain⟨_,_,_,ob,e,_⟩:=x;rw[hq]at e;cases e
    |dK kvs=>obtain⟨_,_,_,_,o,_,_,e,_⟩:=x;rw[hq]at e;cases e
    |dT kvs=>obtain⟨_,_,_,_,o,_,_,e,_⟩:=x;rw[hq]at e;cases e
    |set S n=>obtain⟨o,_,_,_,e,_⟩:=x;rw[hq]at e;cases e
    |ins C dx fs=>obtain⟨_,_,_,e,_⟩:=x;rw[hq]at e;cases e
    |own y=>obtain⟨_,e⟩:=x;rw[hq]at e;cases e
    |xd fs=>obtain⟨_,⟨_,_,_,e,_⟩,_⟩:=x;rw[hq]at e;cases e
    |rng lo hi=>obtain⟨_,_,_,e⟩:=x;rw[hq]at e;cases e
    |frz ob u=>obtain⟨e,_⟩:=x;rw[hq]at e;cases e
    |tbl ps=>have e:s1.heap.get? b=some _:=x;rw[hq]at e;cases e
    |met f y=>have e:s1.heap.get? b=some _:=x;rw[hq]at e;cases e
    |ext φ=>obtain⟨_,⟨_,e⟩,_⟩:=x;rw[hq]at e;cases e
  exact⟨o,inB b o ho hba fun hm=>by rw[I.stkFree b hm]at q;cases q⟩
 have ok1:HOk P w (jO H1 a) s1.heap:=fun b u q=>by
  have hba:b≠a:=fun z=>by subst z;rw[Q8]at q;cases q
  rw[zK hba]at q;refine(I.hok b u q).stay (fun c v _ z=>z) (fun c z=>?_) fun c xs z=>?_
  ·rw[zK (fun y=>by subst y;rw[ha]at z;cases z)];exact z
  ·rw[zK (fun y=>by subst y;rw[ha]at z;cases z)];exact z
 have un1:Un (frs outer) [] H (jO H1 a) s.heap s1.heap:=by
  have u0:Un (frs outer) [] H H1 s.heap s1.heap:=I.base;refine⟨u0.keep,u0.slot,fun b o q n hx=>?_,u0.there,fun b xs q=>?_,fun b o u q=>?_,fun b ps q=>?_⟩
  ·rw[zK (Ybr (Ybl (Ξ q) hnew))];exact u0.free b o q n hx
  ·have z:=u0.tups b xs q;rw[zK (fun y=>by subst y;rw[ha]at z;cases z)];exact z
  ·have z:=u0.frzs b o u q;rw[zK (fun y=>by subst y;rw[ha]at z;cases z)];exact z
  ·obtain⟨m,z⟩:=u0.tbls b ps q;exact⟨m,by rw[zK (fun y=>by subst y;rw[ha]at z;cases z)];exact z⟩
 have noB:B.get? a=none:=Yce l π;have ffB:s1.heap.FunFrames B (envOfC qual scope s.heap.objs.size f cd::outer):=qav I.stack fun b hb=>Yce l (ρ _ hb);show wpAny (model P w) (A.deeper (envOfC qual scope s.heap.objs.size f cd)) (leaving (envOfC qual scope s.heap.objs.size f cd) (.ref a)) (fun _ s''=>zc cz P w outer H s E (.ref a) s'') (fun e' s''=>zc cz P w outer H s E e' s'') s1;refine LX.qhz (env:=envOfC qual scope s.heap.objs.size f cd) (outer:=outer) (L:=s.heap.objs.size) (C:=C) (dx:=dx) (vs:=vs) I.ok.frames ffB rfl hob rfl rfl rfl hv hz stB noB fun h' fly' up=>?_;exact⟨a,C,dx,jO H1 a,B,rfl,I.os,I.bare,qf5 un1 stB fly'.st c1' up (Ql ffB.2.2),qb9 ok1 stB fly'.st c2,fly',c1',c2,Q8,hE⟩
end
end L2
end
section
namespace L2
open PySem PySem.Spec PyProof.Rows
open LX (Fly Under XC Qt)
noncomputable def ZC(K:γ)(C:Addr):Bool:=match K.lookup C with
 | some ⟨.type ty,_,.cls cd,sl⟩=>ty=="type"&&Qt cd.mro&&cd.hasDict&&!cd.hasDel&&cd.mro.head?==some (.ref C)&&(match sl.toList with
  |[_,_,_,_,k4,_]=>k4==some (.builtin "Exception.__new__")
  | _=>false)
 |_=>false
theorem qba:∀{l:List Value},Qt l=true->Under l
 |[.type a,.type b,.type c],e=>by simp only[Qt,Ybm,beq_iff_eq]at e;obtain⟨⟨rfl,rfl⟩,rfl⟩:=e;exact⟨by decide,by decide,by decide,by decide⟩
 | .ref c::r,e=>by have u:=qba (l:=r) e;exact⟨by rw[Ybw,u.b1];exact Ycl _,by rw[Ybw,u.b2];exact Ycl _,by rw[Ybw,u.b3];rfl,by rw[Ybw,u.b4];rfl⟩
structure jq(K:γ)(C:Addr):Prop where
 obj:ZC K C=true
 sa:δ K (.ref C) "__setattr__"=some (some (.builtin "object.__setattr__"))
 ga:δ K (.ref C) "__getattribute__"=some (some (.builtin "BaseException.__getattribute__"))
 gh:δ K (.ref C) "__getattr__"=some none
theorem jq.out {K:γ} {C:Addr} (c:jq K C):∃(cd:ClassData)(bm:List Value),YcN K C=some cd/\Qt cd.mro=true/\cd.hasDict=true/\cd.mro=.ref C::bm/\Qt bm=true/\∃nm q N bs hdct sn sub ab col dd k0 k1 k2 k3 k5,
  K.lookup C=some (excClassObj nm q C N bs bm hdct sn sub ab col dd k0 k1 k2 k3 k5 "Exception.__new__"):=by
 have e:=c.obj;unfold ZC at e
 split at e
 ·rename_i ty od cd sl ho;simp only[Ybm,Bool.not_eq_true',beq_iff_eq]at e;obtain⟨⟨⟨⟨⟨e1,e2⟩,e3⟩,e4⟩,e5⟩,e6⟩:=e;subst e1;obtain⟨sl⟩:=sl;dsimp only at e6
  split at e6
  ·rename_i k0 k1 k2 k3 k4 k5;have e6:=beq_iff_eq.mp e6;subst e6;obtain⟨nm,bs,mro,ns,q,hd,sn,sub,ab,col,del⟩:=cd;cases mro with
   |nil=>cases e5
   |cons m bm=>have e5:m=.ref C:=Option.some.inj e5;subst e5;have e4:del=false:=e4;subst e4;exact⟨_,bm,by unfold YcN;rw[ho],e2,e3,rfl,e2,nm,q,ns,bs,hd,sn,sub,ab,col,od,k0,k1,k2,k3,k5,ho⟩
  ·cases e6
 ·cases e
section
variable{X:Cx}{pins:List (Addr×Obj)}{σ:St}{H:Hp}{s:Shared}{e C:Addr}{f:Str}{A:Around}{E:Value->Shared->Prop}{vs:Array Value}
theorem qlN{y:V}{u:Value}{Q:Unit->Shared->Prop}(I:Inv X pins σ H s)(he:H e=some (XOb e C vs none))(c:jq X.K C)(n:qv X.K C f)(ry:RelV y u)
  (h:∀dx s',H dx=none->dx≠e->Inv X pins σ (upd (upd H dx (XDi dx [(f,y)])) e (XOb e C vs (some dx))) s'->Q () s'):wpAny (model X.prog X.w) A (setAttr (.ref e) f u) Q E s:=by
 obtain⟨cd,bm,hc,hm,hd,_⟩:=c.out;obtain⟨sl,ho⟩:=I.hok.xob he;refine LX.qnS I.kIn ho hc hm hd c.sa n fun h' tk q1 q2 q3=>h s.heap.objs.size _ (I.hok.fresh (ω _)) (YcS (Ξ ho)) ?_;have hn:H s.heap.objs.size=none:=I.hok.fresh (ω _);have nde:s.heap.objs.size≠e:=YcS (Ξ ho)
 have e1:zo X.prog X.w (upd (upd H s.heap.objs.size (XDi s.heap.objs.size [(f,y)])) e (XOb e C vs (some s.heap.objs.size))) h' s.heap.objs.size (XDi s.heap.objs.size [(f,y)]):=by
  refine qj9 q2 (fun g=>?_) fun g hg=>?_
  ·show j6 (([(f,y)]:List (Str×V)).lookup g) (if g=f then some u else none);rw[Ycd];by_cases z:g=f
   ·subst z;rw[if_pos rfl,beq_self_eq_true];exact ry
   ·rw[if_neg z,beq_eq_false_iff_ne.mpr z];exact True.intro
  ·by_cases z:g=f
   ·subst z;exact π
   ·exact absurd (if_neg z) hg
 have un:Un X.fs [] H (upd (upd H s.heap.objs.size (XDi s.heap.objs.size [(f,y)])) e (XOb e C vs (some s.heap.objs.size))) s.heap h':=by
  have lt:∀b o,s.heap.get? b=some o->b≠s.heap.objs.size:=fun b o q=>Ybr (Ξ q);have ne:∀b,H b=none->b≠e:=fun b q z=>by subst z;rw[he]at q;cases q
  have nx:∀b u,H b=some u->(∀φ,u≠.ext φ)->b≠e:=fun b u q hu z=>by subst z;rw[he]at q;cases q;exact hu _ rfl
  refine⟨fun b o q n1 _ _=>q3 b o (ne b n1) q,fun b o q n1 _ _=>⟨o.slots,q3 b o (ne b n1) q⟩,fun b o q n1 _=>?_,fun b o q _=>?_,fun b xs q=>?_,fun b o w' q=>?_,fun b ps q=>⟨#[],?_⟩⟩
  ·rw[qd (ne b n1),qd (lt b o q)];exact n1
  ·by_cases z:b=e
   ·subst z;exact⟨_,q1⟩
   ·exact⟨o,q3 b o z q⟩
  ·rw[qd (nx b _ q (fun φ z=>by cases z)),qd (qg q hn)];exact q
  ·rw[qd (nx b _ q (fun φ z=>by cases z)),qd (qg q hn)];exact q
  ·rw[qd (nx b _ q (fun φ z=>by cases z)),qd (qg q hn),q];simp
 refine I.un un fun b w' q=>?_;by_cases z:b=e
 ·subst z;rw[qc]at q;cases q;exact qaI q1
 ·rw[qd z]at q;by_cases z2:b=s.heap.objs.size
  ·subst z2;rw[qc]at q;cases q;exact e1
  ·rw[qd z2]at q;refine(I.hok b w' q).stay (fun c u' hc' r=>q3 c u' ?_ r) (fun c r=>?_) fun c xs r=>?_
   ·rcases hc' with rfl|hc'
    ·exact z
    ·intro y';subst y';rw[he]at hc';cases hc'
   ·rw[qd (fun y'=>by subst y';rw[he]at r;cases r),qd (qg r hn)];exact r
   ·rw[qd (fun y'=>by subst y';rw[he]at r;cases r),qd (qg r hn)];exact r
theorem qlO{y:V}{u:Value}{dx:Addr}{fs:List (Str×V)}{Q:Unit->Shared->Prop}(I:Inv X pins σ H s)(he:H e=some (XOb e C vs (some dx)))(hdx:H dx=some (XDi dx fs))(hl:fs.length<1000)(c:jq X.K C)(n:qv X.K C f)(ry:RelV y u)
  (h:∀s',Inv X pins σ (upd H dx (XDi dx (zd f y fs))) s'->Q () s'):wpAny (model X.prog X.w) A (setAttr (.ref e) f u) Q E s:=by
 obtain⟨cd,bm,hc,hm,hd,_⟩:=c.out;obtain⟨sl,ho⟩:=I.hok.xob he;obtain⟨mA,hn,r,wi⟩:=I.hok.xdi hdx;refine LX.qnT I.kIn ho hn wi (by rw[τ];omega) hc hm hd c.sa n fun h' tk q1 q2=>h _ ?_;refine I.write (x:=dx) (e:=dx) (by rw[hdx];exact True.intro) (.inl rfl) (fun b o hb q=>(q2.2 b hb).trans q) (let⟨o,_,_,z,_⟩:=q1;⟨o,z⟩) ?_;refine qj9 q1 (fun g=>?_) fun g hg=>?_
 ·show j6 ((zd f y fs).lookup g) (if g=f then some u else mA g);rw[qap];by_cases z:g=f
  ·rw[if_pos z,if_pos z];exact ry
  ·rw[if_neg z,if_neg z];exact r g
 ·by_cases z:g=f
  ·rw[z];exact(JF f y fs).1
  ·refine(JF f y fs).2 g (wi g fun q=>hg ?_);show(if g=f then some u else mA g)=none;rw[if_neg z];exact q
theorem qng{b:Bool}{v:V}{dx:Addr}{fs:List (Str×V)}{Q:Value->Shared->Prop}(I:Inv X pins σ H s)(he:H e=some (XOb e C vs (some dx)))(hdx:H dx=some (XDi dx fs))(c:jq X.K C)(n:qv X.K C f)(l:fs.lookup f=some v)
  (h:∀u s',Inv X pins σ H s'->RelV v u->Q u s'):wpAny (model X.prog X.w) A (getAttr (.ref e) f b) Q E s:=by
 obtain⟨cd,bm,hc,hm,hd,em,hbm,_⟩:=c.out;obtain⟨sl,ho⟩:=I.hok.xob he;obtain⟨mA,hn,r,wi⟩:=I.hok.xdi hdx;obtain⟨u,hu,ru⟩:=j6.some_of (v:=v) (o:=mA f) (by rw[<- l];exact r f);obtain⟨od,hod,hlook⟩:=qe5 hn;have J:PySem.W.InstAt s.heap e ⟨.ref C,some dx,.fields vs,sl⟩ C (some od):=⟨ho,rfl,rfl,hod⟩;refine LX.qo4 I.kIn J c.ga c.gh ?_ (YdJ (by show(YcN X.K C).any _=true;rw[hc];exact hd) n rfl (by rw[hlook,hu])) (qe6 ru) (h u _ (I.tok _) ru);unfold Ydt;rw[hc,Option.bind_some,if_neg (by rw[LX.qia hm];decide),(qba hm).b2]
end
def qom(K:γ)(ta tv:TE)(f:Str):TS:=fun D σ H=>tv σ H fun y H1=>ta σ H1 fun x H2=>∃e C vs,x=.ref e/\H2 e=some (XOb e C vs none)/\jq K C/\qv K C f /\
 ∀dx,H2 dx=none->dx≠e->D.nx σ (upd (upd H2 dx (XDi dx [(f,y)])) e (XOb e C vs (some dx)))
def qon(K:γ)(ta tv:TE)(f:Str):TS:=fun D σ H=>tv σ H fun y H1=>ta σ H1 fun x H2=>∃e C vs dx fs,x=.ref e/\H2 e=some (XOb e C vs (some dx))/\H2 dx=some (XDi dx fs)/\fs.length<1000/\jq K C/\qv K C f /\
 D.nx σ (upd H2 dx (XDi dx (zd f y fs)))
def qiV(K:γ)(ta:TE)(f:Str):TE:=fun σ H Q=>ta σ H fun x H1=>∃e C vs dx fs v,x=.ref e/\H1 e=some (XOb e C vs (some dx))/\H1 dx=some (XDi dx fs)/\jq K C/\qv K C f/\fs.lookup f=some v/\Q v H1
section
variable{X:Cx}{o e value:Expr}{f:Str}{pos pos':Pos}{ta tv:TE}
theorem qgv(ha:PE X o ta)(hv:PE X value tv)(hs:swapsWith value (some (.Attribute o f pos')) pos.line X.env=pure false):PS X (.Assign [.Attribute o f pos'] value pos) (qom X.K ta tv f):=by intro pins s σ H D I h;refine plainObj_wpAny_Assign_Attribute (thn (hv pins s σ H _ I h) fun u s1 ⟨y,H1,I1,ry,q⟩=>thn (ha pins s1 σ H1 _ I1 q) fun ov s2 ⟨x,H2,I2,rx,a,C,vs,ex,ea,c,n,q2⟩=>?_) hs;subst ex;obtain rfl:ov=Value.ref a:=rx;exact qlN I2 ea c n ry fun dx s3 z1 z2 I3=>⟨σ,_,I3,q2 dx z1 z2⟩
theorem qgw(ha:PE X o ta)(hv:PE X value tv)(hs:swapsWith value (some (.Attribute o f pos')) pos.line X.env=pure false):PS X (.Assign [.Attribute o f pos'] value pos) (qon X.K ta tv f):=by intro pins s σ H D I h;refine plainObj_wpAny_Assign_Attribute (thn (hv pins s σ H _ I h) fun u s1 ⟨y,H1,I1,ry,q⟩=>thn (ha pins s1 σ H1 _ I1 q) fun ov s2 ⟨x,H2,I2,rx,a,C,vs,dx,fs,ex,ea,ed,hl,c,n,q2⟩=>?_) hs;subst ex;obtain rfl:ov=Value.ref a:=rx;exact qlO I2 ea ed hl c n ry fun s3 I3=>⟨σ,_,I3,q2⟩
theorem qep(he:PE X e ta)(hb:attributeBase e f X.env (eval e X.env)=eval e X.env):PE X (.Attribute e f pos) (qiV X.K ta f):=by intro pins s σ H Q I h;refine qid hb (thn (he pins s σ H _ I h) fun u s1 ⟨x,H1,I1,rx,a,C,vs,dx,fs,v,ex,ea,ed,c,n,l,q⟩=>?_);subst ex;obtain rfl:u=Value.ref a:=rx;exact qng I1 ea ed c n l fun u' s2 I2 ru=>⟨v,H1,I2,ru,q⟩
end
end L2
end
section
namespace L2
open PySem PySem.Spec PyProof.Rows
open LX (Fly Under XC Qt)
structure qf6(K:γ)(C:Addr)(m:Str)(f:Addr):Prop where
 ga:YcC K (.ref C) "__getattribute__"=some (some (.builtin "type.__getattribute__"))
 rd:PySem.W.readsIn K C (.type "type")=true
 at_:PySem.W.findCls K (.ref C) (.type "type") m=some (.val (.ref f))
 kp:ζ K (.ref f)=true
section
variable{X:Cx}{CX:CXT}{k:Nat}{f C:Addr}{fd:FuncData}{ps:List Str}{sp:Sp}{dvs:List V}{ds:List Value}{E:XK}{x m:Str}{p pos apos:Pos}{e:Expr}{es:List Expr}{t:TA}
theorem qiW{pl:Sem Bool}(hg:Gl X x)(hm:X.mg x=some (.ref C))(c:qf6 X.K C m f)(F:qw X.prog X.w X.K X.mg X.base CX k f fd ps sp)(hr:qI k X.A)(hb:Binds X.K fd ps ds)(hd:qD dvs ds)(hx:jo CX X E)(ha:PA X (e::es) t)
  (hdb:(x==("__debug__":Str))=false:=by decide)
  (hst:starEach (e::es) X.env=(false,eval e X.env)::starEach es X.env:=by rfl) (hpl:(backTo pos (starEach es X.env)).any (·.1)=false:=by rfl)
  (ht:eval (.Call (.Attribute (.Name x p) m apos) (e::es) [] pos) X.env=(do
   let ov <- eval (.Name x p) X.env
   standAt apos.atName
   let(f,first) <- holding [ov] (getMethod ov m pl)
   callWith pos f first (backTo pos (starEach (e::es) X.env)) (backToKw pos (keywordEach [] X.env))):=by rfl):
  PE X (.Call (.Attribute (.Name x p) m apos) (e::es) [] pos) (QY sp dvs E t):=by
 intro pins s σ H Q I h;refine Ycy (pl:=pl) (Qu I hg hm ?_ hdb) ht;refine YdT I.kIn c.ga (YdZ I.kIn c.rd c.at_ rfl ?_);refine Yb3 (first:=[]) (h₀:=X.base) I.ok.mod.kin c.kp (thn (ha pos pins _ σ H _ (I.tok _) h) fun us s2 ⟨vs,H2,I2,r,q2⟩=>⟨I2.kIn,?_⟩) hst hpl;exact qbY F hr hb hd hx I2 r q2
end
noncomputable abbrev xv(t:Addr):Array Value:=#[.ref t,.none,.none,.none,.bool false,.none]
def qca(C:Addr)(sp:Sp)(E:XK)(t:TA):TS:=fun _ σ H=>t σ H fun vs H1=>vs.length<=1000/\∀a ta,H1 a=none->sp (.ref a::vs) (upd H1 a (XOb a C (xv ta) none)) (fun v H2=>v=.non/\∃dx,H2 a=some (XOb a C (xv ta) (some dx))/\E (.ref C) (some dx) (jO H2 a)) E0
structure XMk(K:γ)(C f:Addr):Prop where
 cls:jq K C
 init:δ K (.ref C) "__init__"=some (some (.ref f))
 fn:Ybj K (.ref f)=true
 kp:ζ K (.ref C)=true
theorem jq.xc {K:γ} {C:Addr} (c:jq K C):∃nm q N bs bm hdct sn sub ab col dd k0 k1 k2 k3 k5,Under bm/\Qt bm=true/\∀h,K.In h->XC h nm q C N bs bm hdct sn sub ab col dd k0 k1 k2 k3 k5:=by obtain⟨cd,bm,_,_,_,_,hbm,nm,q,N,bs,hdct,sn,sub,ab,col,dd,k0,k1,k2,k3,k5,lk⟩:=c.out;exact⟨nm,q,N,bs,bm,hdct,sn,sub,ab,col,dd,k0,k1,k2,k3,k5,qba hbm,hbm,fun h X=>X _ _ lk⟩
theorem qmI{K:γ}{f:Addr}(h:Ybj K (.ref f)=true):∃o,K.lookup f=some o/\o.cls=.type "function":=by have e:PySem.W.typeIn K (.ref f)=some (.type "function"):=beq_iff_eq.mp h;obtain⟨o,ho,hc⟩:=Ybu.mp e;exact⟨o,ho,hc⟩
section
variable{P:Program}{w:World}{K:γ}{mg:Str->Option Value}{base:Heap}{N:List Str}{qual:Str}{scope:Scope}{f:Addr}{cd:Value}{A:Around}{outer:List Env}{s0:Shared}{H0:Hp}{E:XK}
variable{k:Nat}{fI C:Addr}{fd:FuncData}{ps:List Str}{sp:Sp}{x:Str}{np cpos pos:Pos}{es:List Expr}{t:TA}
theorem qfd{cz:Prop}{pins:List (Addr×Obj)}{σ:St}{H:Hp}{s:Shared}{us:List Value}{vs:List V}
  (M:XMk K C fI) (F:qw P w K mg base CX0 k fI fd ps sp) (hr:qI (k+1) (qQ (zc cz P w) P w K mg base N qual scope f cd A outer s0 H0 E).A) (hb:Binds K fd ps [])
  (I:Inv (qQ (zc cz P w) P w K mg base N qual scope f cd A outer s0 H0 E) pins σ H s) (r:qD vs us) (hl:vs.length<=1000)
  (h:∀a ta,H a=none->sp (.ref a::vs) (upd H a (XOb a C (xv ta) none)) (fun v H2=>v=.non/\∃dx,H2 a=some (XOb a C (xv ta) (some dx))/\E (.ref C) (some dx) (jO H2 a)) E0):
  wpAny (model P w) (qQ (zc cz P w) P w K mg base N qual scope f cd A outer s0 H0 E).A (call (.ref C) us)
   (fun v s1=>∃(a ta dx:Addr)(H2:Hp),v=.ref a/\Inv (qQ (zc cz P w) P w K mg base N qual scope f cd A outer s0 H0 E) pins σ H2 s1/\s0.heap.objs.size<=a/\H2 a=some (XOb a C (xv ta) (some dx))/\E (.ref C) (some dx) (jO H2 a))
   (qQ (zc cz P w) P w K mg base N qual scope f cd A outer s0 H0 E).xe s:=by
 obtain⟨nm,q,N',bs,bm,hdct,sn,sub,ab,col,dd,k0,k1,k2,k3,k5,U,_,hC⟩:=M.cls.xc;obtain⟨oI,hoI,hcI⟩:=qmI M.fn;have KX:K.In s.heap:=I.kIn;obtain⟨hh,g,d,tk,os⟩:=s;refine LX.x_call U (hC _ KX) (Yc2 KX M.init) (KX _ _ hoI) hcI (by rw[<- r.length,sizeLine_eq];omega) fun h' a hsz hm=>?_;obtain⟨ta,ht,_,_⟩:=hm.there;have hq:=h a ta (I.hok.fresh hsz);have I2:Inv (qQ (zc cz P w) P w K mg base N qual scope f cd A outer s0 H0 E) pins σ (upd H a (XOb a C (xv ta) none)) ⟨h',g,d,tk,os⟩:=I.laid (t':=tk) hm.keeps hsz (qaI ht);have r2:qD (V.ref a::vs) (Value.ref a::us):=.cons rfl r;have hl2:(Value.ref a::us++[]).length=ps.length:=by rw[Ybs,<- r2.length];exact F.len _ _ _ _ hq
 refine wpAny_call (codeAny_mono (F.run _ _ _ _ ⟨Value.ref a::us,[]⟩ (Value.ref a::us) _ _ _ (hr.make C us []) (I2.env0.make C us []) ?_ r2 hq) fun res s' hq'=>?_)
 ·have:=hb ⟨h',g,d,tk,os⟩ (Value.ref a::us) I2.kIn hl2;rw[Ybs]at this;exact this
 ·cases res with
  |error e=>exact False.elim hq'
  |ok fl=>
   cases fl with
   |ret u=>obtain⟨v,H',I3,rv,ev,dx,z1,z2⟩:=I2.after hq';subst ev;exact⟨rv,a,ta,dx,H',rfl,I3,Ybx I.sz hsz,z1,z2⟩
   |next=>exact False.elim hq'
   |brk=>exact False.elim hq'
   |cont=>exact False.elim hq'
theorem qfe{cz:Prop}{pins:List (Addr×Obj)}{σ:St}{s:Shared}{xe:Sem Value}{D:Flow->Shared->Prop}{env:Env}(M:XMk K C fI)(hh:(qQ (zc cz P w) P w K mg base N qual scope f cd A outer s0 H0 E).A.handled=none)
  (h:wpAny (model P w) (qQ (zc cz P w) P w K mg base N qual scope f cd A outer s0 H0 E).A xe
   (fun v s1=>∃(a ta dx:Addr)(H2:Hp),v=.ref a/\Inv (qQ (zc cz P w) P w K mg base N qual scope f cd A outer s0 H0 E) pins σ H2 s1/\s0.heap.objs.size<=a/\H2 a=some (XOb a C (xv ta) (some dx))/\E (.ref C) (some dx) (jO H2 a))
   (qQ (zc cz P w) P w K mg base N qual scope f cd A outer s0 H0 E).xe s):
  wpAny (model P w) (qQ (zc cz P w) P w K mg base N qual scope f cd A outer s0 H0 E).A (raiseStmt env (some xe) none) D (qQ (zc cz P w) P w K mg base N qual scope f cd A outer s0 H0 E).xe s:=by
 obtain⟨nm,q,N',bs,bm,hdct,sn,sub,ab,col,dd,k0,k1,k2,k3,k5,U,_,hC⟩:=M.cls.xc;refine LX.x_raise (C:=C) (nm:=nm) (q:=q) (N:=N') (bs:=bs) (hdct:=hdct) (sn:=sn) (sub:=sub) (ab:=ab) (col:=col) (dd:=dd) (k0:=k0) (k1:=k1) (k2:=k2) (k3:=k3) (k5:=k5) U hh (thn h fun v s1 ⟨a,ta,dx,H2,ev,I2,hsz,z1,z2⟩=>?_);obtain⟨sl,ho⟩:=I2.hok.xob z1;exact⟨a,ta,some dx,sl,ev,hC _ I2.kIn,ho,qnf I2 z1 rfl (fun _=>rfl) hsz z2⟩
theorem qlP{cz:Prop}{e:Expr}(M:XMk K C fI)(F:qw P w K mg base CX0 k fI fd ps sp)(hr:qI (k+1) (qQ (zc cz P w) P w K mg base N qual scope f cd A outer s0 H0 E).A)(hb:Binds K fd ps [])
  (hg:Gl (qQ (zc cz P w) P w K mg base N qual scope f cd A outer s0 H0 E) x) (hm:mg x=some (.ref C)) (ha:PA (qQ (zc cz P w) P w K mg base N qual scope f cd A outer s0 H0 E) (e::es) t)
  (hdb:(x==("__debug__":Str))=false:=by decide)
  (he:starEach (e::es) (qQ (zc cz P w) P w K mg base N qual scope f cd A outer s0 H0 E).env=(false,eval e (qQ (zc cz P w) P w K mg base N qual scope f cd A outer s0 H0 E).env)::starEach es (qQ (zc cz P w) P w K mg base N qual scope f cd A outer s0 H0 E).env:=by rfl)
  (hpl:(backTo cpos (starEach es (qQ (zc cz P w) P w K mg base N qual scope f cd A outer s0 H0 E).env)).any (·.1)=false:=by rfl):
  PS (qQ (zc cz P w) P w K mg base N qual scope f cd A outer s0 H0 E) (.Raise (some (.Call (.Name x np) (e::es) [] cpos)) none pos) (qca C sp E t):=by
 intro pins s σ H D I h;rw[arm_exec_Raise];refine ε (wpAny_standAt ?_);show wpAny _ _ (raiseStmt _ (some (do let v <- eval (.Call (.Name x np) (e::es) [] cpos) (qQ (zc cz P w) P w K mg base N qual scope f cd A outer s0 H0 E).env;standAt pos;pure v)) none) _ _ _;refine qfe (pins:=pins) (σ:=σ) M hr.hd (ε (thn ?_ fun v s1 z=>ε (wpAny_standAt (Φ z))));refine wpAny_Call_Name_kw (Qu I hg hm ?_ hdb);refine Yb3 (h₀:=base) I.ok.mod.kin M.kp (thn (ha cpos pins s σ H _ I h) fun us s1 ⟨vs,H1,I1,r,q1,q2⟩=>⟨I1.kIn,?_⟩) he hpl;exact qfd M F hr hb I1 r q1 q2
theorem qka{cz:Prop}(M:XMk K C fI)(F:qw P w K mg base CX0 k fI fd ps sp)(hr:qI (k+1) (qQ (zc cz P w) P w K mg base N qual scope f cd A outer s0 H0 E).A)(hb:Binds K fd ps [])
  (hg:Gl (qQ (zc cz P w) P w K mg base N qual scope f cd A outer s0 H0 E) x) (hm:mg x=some (.ref C)) (hdb:(x==("__debug__":Str))=false:=by decide):
  PS (qQ (zc cz P w) P w K mg base N qual scope f cd A outer s0 H0 E) (.Raise (some (.Call (.Name x np) [] [] cpos)) none pos) (qca C sp E jN):=by
 intro pins s σ H D I h;obtain⟨h1,h2⟩:=h;rw[arm_exec_Raise];refine ε (wpAny_standAt ?_);show wpAny _ _ (raiseStmt _ (some (do let v <- eval (.Call (.Name x np) [] [] cpos) (qQ (zc cz P w) P w K mg base N qual scope f cd A outer s0 H0 E).env;standAt pos;pure v)) none) _ _ _;refine qfe (pins:=pins) (σ:=σ) M hr.hd (ε (thn ?_ fun v s1 z=>ε (wpAny_standAt (Φ z))));refine wpAny_Call_Name_kw (Qu I hg hm ?_ hdb);exact YdK I.kIn M.kp (qfd (us:=[]) M F hr hb I .nil h1 h2)
end
end L2
end
section
namespace L2
open PySem PySem.Spec PyProof.Rows
open LX (Fly Under XC Qt)
abbrev Cx.tr (X:Cx) (E:Value->Shared->Prop) (pn:List (Addr×Obj)):Cx:={X with xe:=E,pn:=pn}
abbrev Cx.sut (X:Cx) (e:Addr):Cx:={X with A:=X.A.mark (some (.ref e)),calm:=false,xe:=fun _ _=>False}
section
variable{X:Cx}{pins:List (Addr×Obj)}{σ:St}{H:Hp}{s:Shared}
theorem Cx.Ok.tr (ok:X.Ok) (E:Value->Shared->Prop) (pn:List (Addr×Obj)):(X.tr E pn).Ok :=⟨ok.mod,ok.kind,ok.glob,ok.blt,ok.above,ok.inj,ok.has,ok.cab,ok.hd,ok.frames,ok.stk,ok.exf,ok.bs,ok.bsz,ok.noex,ok.exfs,ok.funs,ok.frf⟩
theorem Cx.Ok.untr {E:Value->Shared->Prop} {pn:List (Addr×Obj)} (ok:(X.tr E pn).Ok):X.Ok :=⟨ok.mod,ok.kind,ok.glob,ok.blt,ok.above,ok.inj,ok.has,ok.cab,ok.hd,ok.frames,ok.stk,ok.exf,ok.bs,ok.bsz,ok.noex,ok.exfs,ok.funs,ok.frf⟩
theorem Inv.tr (I:Inv X pins σ H s) (E:Value->Shared->Prop):Inv (X.tr E (X.pn++pins)) [] σ H s:=⟨I.ok.tr _ _,I.os,I.bare,I.base,I.loc,I.cell,I.free,I.freeC,by rw[Ybs];exact I.pin,I.hok,I.len⟩
theorem Inv.untr {E:Value->Shared->Prop} {more:List (Addr×Obj)} (I:Inv (X.tr E (X.pn++pins)) more σ H s):Inv X pins σ H s:=⟨I.ok.untr,I.os,I.bare,I.base,I.loc,I.cell,I.free,I.freeC,fun p hp=>I.pin p (YbC _ hp),I.hok,I.len⟩
theorem SP.untr {E:Value->Shared->Prop} {D:Ends} {f:Flow} {s':Shared} (h:SP (X.tr E (X.pn++pins)) [] D f s'):SP X pins D f s':=by
 cases f with
 |next=>obtain⟨σ',H',I,q⟩:=h;exact⟨σ',H',I.untr,q⟩
 |brk=>obtain⟨σ',H',I,q⟩:=h;exact⟨σ',H',I.untr,q⟩
 |cont=>obtain⟨σ',H',I,q⟩:=h;exact⟨σ',H',I.untr,q⟩
 |ret u=>obtain⟨v,σ',H',I,r,q⟩:=h;exact⟨v,σ',H',I.untr,r,q⟩
theorem Inv.sut (I:Inv X pins σ H s) (e:Addr):Inv (X.sut e) pins σ H s :=
 ⟨⟨I.ok.mod,I.ok.kind,I.ok.glob,I.ok.blt,I.ok.above,I.ok.inj,I.ok.has,I.ok.cab,fun z=>(by cases z),I.ok.frames,I.ok.stk,I.ok.exf,I.ok.bs,I.ok.bsz,I.ok.noex,I.ok.exfs,I.ok.funs,I.ok.frf⟩,
  I.os,I.bare,I.base,I.loc,I.cell,I.free,I.freeC,I.pin,I.hok,I.len⟩
theorem Inv.unsut {e:Addr} (hd:X.calm=true->X.A.handled=none) (I:Inv (X.sut e) pins σ H s):Inv X pins σ H s :=
 ⟨⟨I.ok.mod,I.ok.kind,I.ok.glob,I.ok.blt,I.ok.above,I.ok.inj,I.ok.has,I.ok.cab,hd,I.ok.frames,I.ok.stk,I.ok.exf,I.ok.bs,I.ok.bsz,I.ok.noex,I.ok.exfs,I.ok.funs,I.ok.frf⟩,
  I.os,I.bare,I.base,I.loc,I.cell,I.free,I.freeC,I.pin,I.hok,I.len⟩
theorem Inv.track {a:Addr} {o:HO} (I:Inv X pins σ H s) (hn:H a=none) (h0:X.s_0.heap.get? a=none) (hL:a≠X.env.locals) (hc:∀x c,X.env.cells.lookup x=some c->c≠a) (hp:∀p∈X.pn++pins,p.1≠a)
  (new:zo X.prog X.w (upd H a o) s.heap a o):Inv X pins σ (upd H a o) s:=by
 refine⟨I.ok,I.os,I.bare,⟨I.base.keep,I.base.slot,fun b ob q n hx=>?_,I.base.there,fun b xs q=>?_,fun b ob u q=>?_,fun b ps q=>?_⟩,I.loc,I.cell,?_,fun x c q=>?_,fun p z=>?_,fun b u q=>?_,I.len⟩
 ·rw[qd (fun z=>by subst z;rw[h0]at q;cases q)];exact I.base.free b ob q n hx
 ·have z:=I.base.tups b xs q;rw[qd (qg z hn)];exact z
 ·have z:=I.base.frzs b ob u q;rw[qd (qg z hn)];exact z
 ·obtain⟨m,z⟩:=I.base.tbls b ps q;exact⟨m,by rw[qd (qg z hn)];exact z⟩
 ·rw[qd (Ne.symm hL)];exact I.free
 ·rw[qd (hc x c q)];exact I.freeC x c q
 ·obtain⟨e1,e2,e3⟩:=I.pin p z;exact⟨e1,by rw[qd (hp p z)];exact e2,e3⟩
 ·by_cases z:b=a
  ·subst z;rw[qc]at q;cases q;exact new
  ·rw[qd z]at q;refine(I.hok b u q).stay (fun c v _ r=>r) (fun c r=>?_) fun c xs r=>?_
   ·rw[qd (qg r hn)];exact r
   ·rw[qd (qg r hn)];exact r
end
def subB(K:γ)(C S:Addr):Prop:=∃cd,YcN K C=some cd/\cd.mro.contains (.ref S)=true
def qpJ(K:γ)(S:Addr)(i len:Nat)(tb:XK->TS)(ts:TS):TS:=fun D σ H=>tb (fun c dx H'=>∃C d,c=.ref C/\dx=some d/\jq K C/\subB K C S /\
 ∀a xs,H' a=none->ts {nx:=fun _ _=>False,rt:=D.rt} ((YbL len none).set i (some (.ref a))) (upd H' a (XOb a C xs (some d)))) D σ H
theorem qbb{X:Cx}{pins:List (Addr×Obj)}{σ:St}{H:Hp}{s:Shared}(I:Inv X pins σ H s):Inv X pins (YbL X.N.length none) H s:=I.weak (by rw[Ycz,I.len]) fun i v e=>by
 rw[Yct]at e
 split at e<;>cases e
theorem Inv.gone {X:Cx} {pins:List (Addr×Obj)} {H:Hp} {s:Shared} {h':Heap} {m':Str->Option Value} {t':Nat} (I:Inv X pins (YbL X.N.length none) H s) (hn:h'.Ns X.env.locals m') (sb:Ycu X.env.locals s.heap h'):
  Inv X pins (YbL X.N.length none) H {s with heap:=h',toks:=t'}:=by
 have k:∀b o,b≠X.env.locals->s.heap.get? b=some o->h'.get? b=some o:=fun b o z e=>(sb.2 b z).trans e;have nL:∀b o,X.s_0.heap.get? b=some o->b≠X.env.locals:=fun b o e=>Ybr (Ybl (Ξ e) I.ok.above);refine⟨I.ok,I.os,I.bare,⟨fun b o e n hb hx=>k b o (nL b o e) (I.base.keep b o e n hb hx),fun b o e n hb hx=>?_,I.base.free,fun b o e hx=>?_,I.base.tups,I.base.frzs,I.base.tbls⟩,⟨m',hn,fun i x v _ e _=>?_⟩,fun x c e=>?_,I.free,I.freeC,fun p hp=>?_,fun b u e=>?_,I.len⟩
 ·obtain⟨sl,q⟩:=I.base.slot b o e n hb hx;exact⟨sl,k b _ (nL b o e) q⟩
 ·obtain⟨o',q⟩:=I.base.there b o e hx;exact⟨o',k b _ (nL b o e) q⟩
 ·rw[Yct]at e
  split at e<;>cases e
 ·obtain⟨v,o,ho,hd⟩:=I.cell x c e;exact⟨v,o,k c o (I.cne x c e) ho,hd⟩
 ·obtain⟨e1,e2,e3,e4⟩:=I.pin p hp;exact⟨k _ _ e3 e1,e2,e3,e4⟩
 ·have nb:∀c u',H c=some u'->c≠X.env.locals:=fun c u' q z=>by subst z;rw[I.free]at q;cases q
  refine(I.hok b u e).stay (fun c v hc r=>k c v ?_ r) (fun _ q=>q) fun _ _ q=>q;rcases hc with rfl|hc
  ·exact nb _ _ e
  ·exact nb _ _ hc
theorem qoo{cz:Prop}{X:Cx}{rx n:Str}{i:Nat}{S:Addr}{body:List Stmt}{b0:Stmt}{suite:List Stmt}{tb:XK->TS}{ts:TS}{np hpos pos:Pos}(hex:X.ex=[])(hst:X.stack=X.env::X.outer)(hfr:X.env.frame=some X.env.locals)
  (hN:X.N.Nodup) (hi:X.N[i]?=some n) (hl:X.env.scope.names.lookup n=some .local) (hg:Gl X rx) (hm:X.mg rx=some (.ref S)) (cS:jq X.K S)
  (hb:∀(xe:Value->Shared->Prop)(pn:List (Addr×Obj))(E1:XK),jo (zc cz X.prog X.w) (X.tr xe pn) E1->PSs (X.tr xe pn) body (tb E1)) (hs:∀e,PSs (X.sut e) (b0::suite) ts) (hdb:(rx==("__debug__":Str))=false:=by decide):
  PS X (.Try body [.ExceptHandler (some (.Name rx np)) (some n) (b0::suite) hpos] [] [] pos) (qpJ X.K S i X.N.length tb ts):=by
 intro pins s σ H D I h;refine wpAny_Try_except ?_
 let xe:Value->Shared->Prop:=fun e s1=>wpAny (model X.prog X.w) X.A (noteFrame e X.env) (fun _ s2=>wpAny (model X.prog X.w) X.A (setFlight e none) (fun _ s3=>
  wpAny (model X.prog X.w) X.A (handleBy e X.env [.ExceptHandler (some (.Name rx np)) (some n) (b0::suite) hpos]) (SP X pins D) X.xe s3) X.xe s2) X.xe s1
 refine wpAny_mono (hb xe (X.pn++pins) _ ?_ [] s σ H D (I.tr xe) h) (fun f s1 q=>?_) fun e s1 q=>q
 ·intro pins' σ1 H1 s1 e s2 I1 hx;obtain⟨a,C,dx,H',B,rfl,hos,hbare,un,hok,fly,c1,c2,hna,C',d',eC,ed,cC,sC,suit⟩:=hx;cases eC;cases ed;have fly:Fly cz B (X.env::X.outer) a C dx .none s2.heap:=by rw[<- hst];exact fly
  have frs_eq:frs X.stack=frs (X.env::X.outer):=by rw[hst]
  show wpAny (model X.prog X.w) X.A (noteFrame (.ref a) X.env) _ _ s2;have Afr:X.A.frames=some (X.env::X.outer):=by rw[<- hst];exact I.ok.frames
  have nof:∀b∈frs X.stack,∀o,s2.heap.get? b=some o->∀vs,o.data≠.fields vs:=by rw[frs_eq];exact Ql fly.ff
  have at_:∀h2,Fly cz B (X.env::X.outer) a C dx .none h2->s2.heap.UpToSlots h2->Inv X pins σ1 H' {s2 with heap:=h2}:=fun h2 fly2 up=>(I1.call' (s':={s2 with heap:=h2}) (ch:=[]) hos (qf5 un fly.st fly2.st c1 up nof) (qb9 hok fly.st fly2.st c2) hbare fun b z=>absurd z (by simp)).untr;refine wpAny_mono (LX.qe2 (Q:=fun _ s3=>∃h2,s3={s2 with heap:=h2}/\Fly cz B (X.env::X.outer) a C dx .none h2/\s2.heap.UpToSlots h2) (E:=X.xe) Afr hfr fly fun h2 f2 u2=>⟨h2,rfl,f2,u2⟩) (fun _ s3 z=>?_) fun _ _ z=>z;refine thn z fun _ s4 ⟨h2,e4,fly2,up2⟩=>?_;subst e4;have J2:=at_ h2 fly2 up2;obtain⟨oe,vs,T,oT,tsr,⟨hoe,hcl,hdi,hda,_,_⟩,_⟩:=fly2.tr;obtain⟨nmS,qS,NS,bsS,bmS,hdS,snS,subS,abS,colS,ddS,j0,j1,j2,j3,j5,US,_,hS⟩:=cS.xc;obtain⟨cdC,bmC,hcdC,_,_,emC,_,nmC,qC,NC,bsC,hdC,snC,subC,abC,colC,ddC,k0,k1,k2,k3,k5,lkC⟩:=cC.out;refine wpAny_handleBy_cons (codeAny_handlers_test (Qu (X:=X.sut a) (J2.sut a) hg hm ?_ hdb)) (by intro q;cases q);obtain⟨hp,g,dd,tk,os⟩:=s2;refine LX.qe3 US (J2.kIn _ _ lkC) (hS _ J2.kIn) ?_ hoe hcl ?_
  ·obtain⟨cd,e1,e2⟩:=sC;rw[hcdC]at e1;cases e1;rw[emC]at e2;exact e2
  show codeAny _ _ _ _ _;refine codeAny_handlers_suite_as (LX.Zf (s:=⟨h2,g,dd,tk,os⟩) fly2 fun h3 fly3 up3=>?_);have J3:Inv X pins σ1 H' ⟨h3,g,dd,tk,os⟩:=at_ h3 fly3 (up2.trans up3);obtain⟨oe,vs,T,oT,tsr,⟨hoe,hcl,hdi,hda,_,_⟩,_⟩:=fly3.tr;obtain⟨oec,oed,oedt,oes⟩:=oe;cases hcl;cases hdi;cases hda
  have notIn:∀b o,s1.heap.get? b=some o->b≠a:=fun b o q z=>by
   subst z;by_cases hb:b∈frs X.stack
   ·obtain⟨ob,qb⟩:∃ob,hp.get? b=some ob:=un.there b o q (by simp);obtain⟨oe2,vs2,_,_,_,⟨z1,_,_,z4,_,_⟩,_⟩:=fly.tr;exact nof b hb oe2 z1 vs2 z4
   ·obtain⟨o',eo⟩:=c1 b o q hb;rw[fly.nw]at eo;cases eo
  have K3:Inv X pins (YbL X.N.length none) (upd H' a (XOb a C vs (some dx))) ⟨h3,g,dd,tk,os⟩:=by
   refine(qbb J3).track hna ?_ ?_ ?_ ?_ (qaI hoe)
   ·cases q0:X.s_0.heap.get? a with
    |none=>rfl
    |some o=>obtain⟨o1,q1⟩:=I1.base.there a o q0 (by show a∉X.ex;rw[hex];simp);exact absurd rfl (notIn a o1 q1)
   ·intro z;obtain⟨m,⟨o,_,_,ho,_⟩,_⟩:=I1.loc;exact notIn _ o ho z.symm
   ·intro x c q z;obtain⟨v,o,ho,_⟩:=I1.cell x c q;exact notIn _ o ho z
   ·intro p hp' z;exact notIn _ _ (I1.pin p (YbC _ hp')).1 z
  have rdy:=suit a vs hna;refine J1 (X:=X.sut a) (K3.sut a) hN hi (.inl hl) (v:=V.ref a) rfl (fun s5 I5=>?_) (.inr hl);refine wpAny_mono (hs a pins s5 _ _ _ I5 rdy) (fun f s6 q=>?_) fun _ _ z=>z.elim;show wpAny (model X.prog X.w) X.A (do bindName X.env n .none;unbindBehindTheSuite X.env n hpos) (fun _ s7=>SP X pins D f s7) X.xe s6;cases f with
  |next=>obtain⟨_,_,_,z⟩:=q;exact z.elim
  |brk=>obtain⟨_,_,_,z⟩:=q;exact z.elim
  |cont=>obtain⟨_,_,_,z⟩:=q;exact z.elim
  |ret u=>obtain⟨v,σ6,H6,I6,rv,q6⟩:=q;have I6':Inv X pins (YbL X.N.length none) H6 s6:=qbb (I6.unsut I.ok.hd);obtain⟨m,hn,_⟩:=id I6'.loc;refine wpAny_nameGoes (m:=m) hl hn (by rw[I.ok.kind];rfl) fun h7 m7 hn7 sb7=>⟨v,YbL X.N.length none,H6,?_,rv,q6⟩;exact I6'.gone hn7 sb7
 ·cases f with
  |next=>exact wpAny_execs_nil q.untr
  |ret v=>exact q.untr
  |brk=>exact q.untr
  |cont=>exact q.untr
end L2
end
section
namespace LX
open PySem PySem.Spec PyProof.Rows
theorem qfO:entryFor table "proto.unchain"=some Builtin.«proto.unchain»:=entryFor_of_tree (by kernel_rfl)
section
variable{prog:Program}{w:World}{A:Around}{E:Value->Shared->Prop}{s:Shared}{env:Env}
theorem qgx{e a:Addr}{oa:Obj}{vs:Array Value}{Q:Value->Shared->Prop}(ha:s.heap.get? a=some oa)(hd:oa.data=.fields vs)(hz:vs[2]?=some .none)(hq:Q .none s):
  wpAny (model prog w) A (runValue (.builtin "proto.unchain" ⟨[.ref e,.ref a,.ref a,.bool false],[]⟩)) Q E s:=by
 refine wpAny_runValue (codeAny_builtin qfO ?_);unfold Builtin.«proto.unchain»;refine ε (wpAny_field ha hd hz ?_);rw[if_pos (by decide)];exact Φ hq
variable{nm q:Str}{C N:Addr}{bs bm:List Value}{hdct:Bool}{sn:List Str}{sub:List Value}{ab:Bool}{col:Option Bool}{dd:Option Addr}{k0 k1 k2 k3 k5:Option Value}
variable{nm' q':Str}{C' N':Addr}{bs' bm':List Value}{hdct':Bool}{sn':List Str}{sub':List Value}{ab':Bool}{col':Option Bool}{dd':Option Addr}{j0 j1 j2 j3 j5:Option Value}
theorem qhJ{a:Addr}{x c:Sem Value}{Q:Flow->Shared->Prop}(U:Under bm)(U':Under bm')(hh:A.handled=some (.ref a))
  (h:wpAny (model prog w) A x (fun v s1=>wpAny (model prog w) A c (fun cv s2=>∃(e t:Addr)(dx:Option Addr)(sl:Array (Option Value))(oa:Obj)(vs:Array Value),v=.ref e/\cv=.ref a/\e≠a /\
   XC s2.heap nm q C N bs bm hdct sn sub ab col dd k0 k1 k2 k3 k5/\XC s2.heap nm' q' C' N' bs' bm' hdct' sn' sub' ab' col' dd' j0 j1 j2 j3 j5 /\
   s2.heap.get? e=some {cls:=.ref C,dict:=dx,data:=.fields #[.ref t,.none,.none,.none,.bool false,.none],slots:=sl}/\s2.heap.get? a=some oa/\oa.cls=.ref C'/\oa.data=.fields vs/\vs[2]?=some .none /\
   ∀h',h'.get? e=some {cls:=.ref C,dict:=dx,data:=.fields #[.ref t,.none,.ref a,.ref a,.bool true,.none],slots:=sl}->(∀b,b≠e->h'.get? b=s2.heap.get? b)->h'.objs.size=s2.heap.objs.size->E (.ref e) {s2 with heap:=h'}) E s1) E s):
  wpAny (model prog w) A (raiseStmt env (some x) (some c)) Q E s:=by
 have cB:(Value.ref C::bm).contains (.type "BaseException")=true:=by rw[Ybw,U.b2];exact Ycl _
 have cB':(Value.ref C'::bm').contains (.type "BaseException")=true:=by rw[Ybw,U'.b2];exact Ycl _
 unfold raiseStmt;refine ε (wpAny_mono h (fun v s1 z=>?_) fun _ _ x=>x);refine ε (wpAny_holding (wpAny_mono z (fun cv s2 z=>?_) fun _ _ x=>x));obtain⟨e,t,dx,sl,oa,vs,rfl,rfl,hne,hC,hC',he,ha,hca,hda,hz,hE⟩:=z;obtain⟨hp,g,d,tk,os⟩:=s2;have ha':hp.get? a=some oa:=ha
 repeat (first
  |with_reducible refine wpAny_loadPart_at he ?_
  |with_reducible refine wpAny_loadPart_at hC ?_
  |(with_reducible refine wpAny_isSubtype_exc hC ?_;rw[cB])
  | wp_step)
 rw[hca];refine wpAny_isSubtype_exc hC' ?_;rw[cB'];have eC:e≠C:=fun z=>by subst z;have q:=hC.symm.trans he;cases q
 have step:∀{h0:Heap}{vs0:Array Value}{i:Nat}{x:Value},h0.get? e=some ⟨.ref C,dx,.fields vs0,sl⟩->(h0.update e (Obj.mapFields (·.setIfInBounds i x))).get? e=some ⟨.ref C,dx,.fields (vs0.setIfInBounds i x),sl⟩:=fun{h0 vs0 i x} q=>YbG _ q rfl;have oth:∀{h0:Heap}{i:Nat}{x:Value}{b:Addr},b≠e->(h0.update e (Obj.mapFields (·.setIfInBounds i x))).get? b=h0.get? b:=fun{h0 i x b} z=>Ybo _ _ (Ne.symm z);have siz:∀{h0:Heap}{i:Nat}{x:Value},(h0.update e (Obj.mapFields (·.setIfInBounds i x))).objs.size=h0.objs.size:=fun{h0 i x}=>by simp[Heap.update]
 rw[if_pos rfl];refine Φ ?_;refine ε (wpAny_setField he rfl (by show 3<6;decide) ?_);have he1:=step (i:=3) (x:=.ref a) he;have o1:∀b,b≠e->(hp.update e (Obj.mapFields (·.setIfInBounds 3 (.ref a)))).get? b=hp.get? b:=fun b z=>oth z;have z1:=siz (h0:=hp) (i:=3) (x:=.ref a);generalize hp.update e (Obj.mapFields (·.setIfInBounds 3 (.ref a)))=h1 at he1 o1 z1 ⊢;refine ε (wpAny_setField he1 rfl (by show 4<6;decide) ?_);have he2:=step (i:=4) (x:=.bool true) he1;have o2:∀b,b≠e->(h1.update e (Obj.mapFields (·.setIfInBounds 4 (.bool true)))).get? b=hp.get? b:=fun b z=>(oth z).trans (o1 b z);have z2:=(siz (h0:=h1) (i:=4) (x:=.bool true)).trans z1;generalize h1.update e (Obj.mapFields (·.setIfInBounds 4 (.bool true)))=h2 at he2 o2 z2 ⊢;have hC2:XC h2 nm q C N bs bm hdct sn sub ab col dd k0 k1 k2 k3 k5:=(o2 C (Ne.symm eC)).trans hC
 repeat (first
  |with_reducible refine wpAny_loadPart_at he2 ?_
  |with_reducible refine wpAny_loadPart_at hC2 ?_
  | wp_step)
 have ha2:h2.get? a=some oa:=(o2 a (Ne.symm hne)).trans ha';have t1:(Value.ref a != Value.ref e)=true:=by simp;exact Ne.symm hne
 unfold raiseNew;refine ε (wpAny_handled ?_);rw[hh];show wpAny _ _ (if(Value.ref a != Value.ref e)=true then(do let _ <- holding [Value.ref e] (runValue (.builtin "proto.unchain" ⟨[.ref e,.ref a,.ref a,.bool false],[]⟩));let _ <- updateField e 2 (.ref a);throw (.ref e))else throw (.ref e)) _ _ _;rw[if_pos t1];refine ε (wpAny_holding (qgx ha2 hda hz ?_));have he3:=step (i:=2) (x:=.ref a) he2;have o3:∀b,b≠e->(h2.update e (Obj.mapFields (·.setIfInBounds 2 (.ref a)))).get? b=hp.get? b:=fun b z=>(oth z).trans (o2 b z);have z3:=(siz (h0:=h2) (i:=2) (x:=.ref a)).trans z2;refine ε (show wpAny _ _ (setField (.ref e) 2 (.ref a)) _ _ _ from wpAny_setField he2 rfl (by show 2<6;decide) (wpAny_throw ?_));exact hE _ he3 o3 z3
end
end LX
end
section
namespace L2
open PySem PySem.Spec PyProof.Rows
open LX (Fly Under XC Qt)
abbrev Cx.un (X:Cx):Cx:={X with calm:=false}
structure Qs(k:Nat)(A:Around):Prop where
 dp:A.depth+3 * k+5<recursionLimit
 un:A.units+16 * k+200<cLine
theorem Qs.deeper {k:Nat} {A:Around} (r:Qs (k+1) A) (env:Env):Qs k (A.deeper env) :=⟨by have:=r.dp;show A.depth+1+3 * k+5<_;omega,by have:=r.un;show A.units+3+16 * k+200<_;omega⟩
theorem Qs.make {k:Nat} {A:Around} (r:Qs (k+1) A) (C:Addr) (us:List Value) (kw:List (Str×Value)):Qs k (A.under (.builtin "type.__call__" ⟨.ref C::us,kw⟩)) :=⟨by have:=r.dp;rw[qdF];omega,by have:=r.un;rw[qdG];omega⟩
theorem Qs.depth {k:Nat} {A:Around} (r:Qs k A):A.depth<recursionLimit:=by have:=r.dp;omega
theorem qI.mark {k:Nat} {A:Around} (r:qI k A) (h:Option Value):Qs k (A.mark h):=⟨r.dp,r.un⟩
structure Jw(P:Program)(w:World)(K:γ)(mg:Str->Option Value)(base:Heap)(CX:CXT)(k:Nat)(f:Addr)(fd:FuncData)(ps:List Str)(sp:Sp):Prop where
 len:∀vs H Q E,sp vs H Q E->vs.length=ps.length
 run:∀(A:Around)(outer:List Env)(s:Shared)(H:Hp)(args:Args)(us:List Value)(vs:List V)(Q:VK)(E:XK),Qs k A->qa6 P w K mg base A outer s H->BindsTo s fd args (ps.zip us)->qD vs us->sp vs H Q E ->
  codeAny (model P w) A (.call (.ref f) args) (CR CX outer P w H s Q E) s
theorem qiX{CX:CXT}{P:Program}{w:World}{K:γ}{mg:Str->Option Value}{base:Heap}{N ps:List Str}{qual:Str}{scope:Scope}{f:Addr}{cd:Value}{A:Around}{outer:List Env}{s s1:Shared}{H:Hp}{E:XK}{us:List Value}{vs:List V}
  (S:qm N ps scope) (e0:qa6 P w K mg base A outer s H) (hl:vs.length=ps.length) (r:qD vs us)
  (x:InCallC s s.heap.objs.size (bindL (envOfC qual scope s.heap.objs.size f cd).kindOf (ps.zip us) fun _=>none) (cellsFrom (s.heap.objs.size+1) scope.names []) (bindC (envOfC qual scope s.heap.objs.size f cd).kindOf (ps.zip us) fun _=>none) s1):
  Inv (qQ CX P w K mg base N qual scope f cd A outer s H E).un [] (start N vs) H s1:=by
 have hpl:ps.length<=N.length:=by have:=congrArg Ycs S.pre;rw[Ybz]at this;omega
 obtain⟨h1,tk,rfl,hk⟩:=x.done;have noA:∀b:Addr,b∉(qQ CX P w K mg base N qual scope f cd A outer s H E).un.ex:=fun b z=>absurd (show b∈([]:List Addr)from z) (by simp)
 refine⟨⟨e0.mod,S.kind,rfl,rfl,ω _,fun y z c h1 h2=>?_,fun y hy=>?_,fun y c _ h=>?_,fun z=>absurd z ϋ,Around.frames_deeper e0.frames,.inr ⟨rfl,rfl⟩,fun b z=>absurd z (noA b),e0.bs,e0.bsz,fun b _ _=>noA b,fun b z=>absurd z (noA b),e0.funs,e0.frf⟩,
  rfl,e0.bare,Un.kept hk,⟨_,x.toInCall.ns,fun i y v h1 h2 h3=>?_⟩,fun y c h=>⟨_,x.cell y c h⟩,e0.hok.fresh (ω _),fun y c h=>?_,fun p hp=>absurd (show p∈([]:List (Addr×Obj))from hp) (by simp),e0.hok.kept hk,?_⟩
 ·exact name_of_addr x.apart (PySem.mem_of_lookup h1) (PySem.mem_of_lookup h2)
 ·have hy:scope.names.lookup y=some .cell\/scope.names.lookup y=some .free:=hy;rcases hy with hy|hy
  ·exact qa7 hy
  ·exact absurd rfl (S.nofree _ (PySem.mem_of_lookup hy))
 ·exact Yb2 (x.above y c (PySem.mem_of_lookup h))
 ·have hi:i<vs.length:=by
   unfold start at h2;by_cases hi:i<vs.length
   ·exact hi
   ·rw[YcE (by simpa using hi)]at h2;rw[Yct]at h2
    split at h2<;>cases h2
  have ha:vs[i]?=some v:=by
   unfold start at h2;rw[Yb0 (by simpa using hi),Ω]at h2;cases e:vs[i]? with
   |none=>rw[e]at h2;cases h2
   |some a=>rw[e]at h2;cases h2;rfl
  obtain⟨u,hu,rv⟩:=r.get ha;have hp:ps[i]?=some y:=by rw[<- S.pre,Ydu (by omega)];exact h1
  have ndP:ps.Nodup:=by rw[<- S.pre];exact S.nd.sublist (List.take_sublist _ _)
  refine⟨u,rv,?_⟩;rcases S.par y (YbD hp)with k|k
  ·exact .inl ⟨k,qbZ ndP hp hu k⟩
  ·obtain⟨c,e⟩:=qa7 (n:=s.heap.objs.size+1) k;refine .inr ⟨.inl k,c,e,?_⟩;have q:=x.cell y c e;rw[qb0 ndP hp hu (by show scope.names.lookup y≠_;rw[k];decide)]at q;exact q
 ·exact e0.hok.fresh (Yb2 (x.above y c (PySem.mem_of_lookup h)))
 ·unfold start;show _=N.length;rw[ν,τ,Ycz];omega
theorem qop{CX:CXT}{P:Program}{w:World}{K:γ}{mg:Str->Option Value}{base:Heap}{k:Nat}{f:Addr}{name qual:Str}{params:Arguments}{body:List Stmt}{scope:Scope}{dV kV doc pm cdv ct oc:Value}{an od:Option Addr}
  {osl:Array (Option Value)} {N ps:List Str} {sp:Sp} (lk:K.lookup f=some ⟨oc,od,.func (μ name qual params body scope dV kV doc pm an cdv ct),osl⟩) (hcd:ι K cdv qual=true) (S:qm N ps scope)
  (len:∀vs H Q E,sp vs H Q E->vs.length=ps.length)
  (hbody:∀(A:Around)(outer:List Env)(s:Shared)(H:Hp)(vs:List V)(Q:VK)(E:XK),Qs k (A.deeper (envOfC qual scope s.heap.objs.size f cdv))->sp vs H Q E ->
   ∃t,PSs (qQ CX P w K mg base N qual scope f cdv A outer s H E).un body t/\t {nx:=fun _ H'=>Q .non H',rt:=Q} (start N vs) H):
  Jw P w K mg base CX (k+1) f (μ name qual params body scope dV kV doc pm an cdv ct) ps sp:=by
 refine⟨len,fun A outer s H args us vs Q E hr e0 hb r hsp=>?_⟩;have hl:=len _ _ _ _ hsp;have KX:K.In s.heap:=e0.mod.kin.keeps fun b o e=>(e0.bs b o e).1;have lim:s.heap.NoLimit:=e0.mod.nolimit.keeps fun b o e=>(e0.bs b o e).1
 have hkind:∀y∈ps.zip us,scope.names.lookup y.1=some .local\/(scope.names.lookup y.1=some .cell/\((cellsFrom (s.heap.objs.size+1) scope.names []).lookup y.1).isSome=true):=fun⟨n,v⟩ hy=>by
  rcases S.par n (YcO hy).1 with q|q
  ·exact .inl q
  ·exact .inr ⟨q,YcU _ _ _ (.inl q)⟩
 refine codeAny_call_function hr.depth (KX _ _ lk) rfl S.co S.gen rfl (YdR KX hcd) (hb _ _ _ _ ?_);refine wpAny_newFunctionEnv_cells S.kind hkind fun env he s1 x=>?_;subst he;refine⟨lim.keeps x.toInCall.keep,codeAny_func ?_⟩;obtain⟨t,ht,hq⟩:=hbody A outer s H vs Q E (hr.deeper _) hsp;have I:Inv (qQ CX P w K mg base N qual scope f cdv A outer s H E).un [] (start N vs) H s1:=qiX S e0 hl r x;refine wpAny_mono (ht [] s1 (start N vs) H _ I hq) (fun fl s' hs=>?_) fun e s' hs=>hs
 have fin:∀{σ':St}{H':Hp}{v:V}{u:Value},Inv (qQ CX P w K mg base N qual scope f cdv A outer s H E).un [] σ' H' s'->RelV v u->Q v H'->CE outer P w H s Q u s' :=
  fun{σ' H' v u} J rv q=>⟨v,H',J.os,J.bare,J.base,J.hok,rv,q⟩
 cases fl with
 |ret u=>obtain⟨v,σ',H',J,rv,q⟩:=hs;exact fin J rv q
 |next=>obtain⟨σ',H',J,q⟩:=hs;exact fin (v:=V.non) (u:=Value.none) J rfl q
 |brk=>obtain⟨_,_,_,q⟩:=hs;exact False.elim q
 |cont=>obtain⟨_,_,_,q⟩:=hs;exact False.elim q
section
variable{P:Program}{w:World}{K:γ}{mg:Str->Option Value}{base:Heap}
theorem Fun.okU {x qual:Str} {st:Stmt} {f:Addr} {fd:FuncData} {N ps:List Str} {k:Nat} {sp:Sp} (F:Fun K x qual st f fd) (S:qm N ps (qe st)) (len:∀vs H Q E,sp vs H Q E->vs.length=ps.length)
  (hbody:∀(cdv:Value)(A:Around)(outer:List Env)(s:Shared)(H:Hp)(vs:List V)(Q:VK)(E:XK),Qs k (A.deeper (envOfC qual (qe st) s.heap.objs.size f cdv))->sp vs H Q E ->
   ∃t,PSs (qQ CX0 P w K mg base N qual (qe st) f cdv A outer s H E).un.nox (qk st) t/\t {nx:=fun _ H'=>Q .non H',rt:=Q} (start N vs) H):Jw P w K mg base CX0 (k+1) f fd ps sp:=by
 obtain⟨oc,od,kV,doc,pm,an,cdv,ct,osl,rfl,lk,hcd⟩:=F.ex;refine qop lk hcd S len fun A outer s H vs Q E hr hsp=>?_;obtain⟨t,h,q⟩:=hbody cdv A outer s H vs Q E hr hsp;exact⟨t,h.nox,q⟩
end
section
variable{X:Cx}{CX:CXT}{k:Nat}{f C:Addr}{fd:FuncData}{ps:List Str}{sp:Sp}{dvs:List V}{ds:List Value}{E:XK}{x m:Str}{p pos apos:Pos}{e:Expr}{es:List Expr}{t:TA}
theorem qnh{pins:List (Addr×Obj)}{σ:St}{H:Hp}{s:Shared}{Q:VK}{us:List Value}{vs:List V}(F:Jw X.prog X.w X.K X.mg X.base CX k f fd ps sp)(hr:Qs k X.A)(hb:Binds X.K fd ps ds)(hd:qD dvs ds)(hx:jo CX X E)
  (I:Inv X pins σ H s) (r:qD vs us) (h:sp (vs++dvs) H Q E):wpAny (model X.prog X.w) X.A (call (.ref f) us) (EP X pins σ Q) X.xe s:=by
 have r2:qD (vs++dvs) (us++ds):=r.append hd;have hl:(us++ds).length=ps.length:=by rw[<- r2.length];exact F.len _ _ _ _ h
 refine wpAny_call (codeAny_mono (F.run X.A X.stack s H ⟨us,[]⟩ (us++ds) (vs++dvs) Q E hr I.env0 (hb s us I.kIn hl) r2 h) fun r s' hq=>?_);cases r with
 |error e=>exact hx pins σ H s e s' I hq
 |ok fl=>
  cases fl with
  |ret u=>exact I.after hq
  |next=>exact False.elim hq
  |brk=>exact False.elim hq
  |cont=>exact False.elim hq
theorem qhK{pl:Sem Bool}(hg:Gl X x)(hm:X.mg x=some (.ref C))(c:qf6 X.K C m f)(F:Jw X.prog X.w X.K X.mg X.base CX k f fd ps sp)(hr:Qs k X.A)(hb:Binds X.K fd ps ds)(hd:qD dvs ds)(hx:jo CX X E)(ha:PA X (e::es) t)
  (hdb:(x==("__debug__":Str))=false:=by decide)
  (hst:starEach (e::es) X.env=(false,eval e X.env)::starEach es X.env:=by rfl) (hpl:(backTo pos (starEach es X.env)).any (·.1)=false:=by rfl)
  (ht:eval (.Call (.Attribute (.Name x p) m apos) (e::es) [] pos) X.env=(do
   let ov <- eval (.Name x p) X.env
   standAt apos.atName
   let(f,first) <- holding [ov] (getMethod ov m pl)
   callWith pos f first (backTo pos (starEach (e::es) X.env)) (backToKw pos (keywordEach [] X.env))):=by rfl):
  PE X (.Call (.Attribute (.Name x p) m apos) (e::es) [] pos) (QY sp dvs E t):=by
 intro pins s σ H Q I h;refine Ycy (pl:=pl) (Qu I hg hm ?_ hdb) ht;refine YdT I.kIn c.ga (YdZ I.kIn c.rd c.at_ rfl ?_);refine Yb3 (first:=[]) (h₀:=X.base) I.ok.mod.kin c.kp (thn (ha pos pins _ σ H _ (I.tok _) h) fun us s2 ⟨vs,H2,I2,r,q2⟩=>⟨I2.kIn,?_⟩) hst hpl;exact qnh F hr hb hd hx I2 r q2
theorem qiY{fI:Addr}{pins:List (Addr×Obj)}{σ:St}{H:Hp}{s:Shared}{us:List Value}{vs:List V}{Qe:Addr->Addr->Addr->Hp->Prop}
  (M:XMk X.K C fI) (F:Jw X.prog X.w X.K X.mg X.base CX0 k fI fd ps sp) (hr:Qs (k+1) X.A) (hb:Binds X.K fd ps [])
  (I:Inv X pins σ H s) (r:qD vs us) (hl:vs.length<=1000)
  (h:∀a ta,H a=none->sp (.ref a::vs) (upd H a (XOb a C (xv ta) none)) (fun v H2=>v=.non/\∃dx,H2 a=some (XOb a C (xv ta) (some dx))/\Qe a ta dx H2) E0):
  wpAny (model X.prog X.w) X.A (call (.ref C) us)
   (fun v s1=>∃(a ta dx:Addr)(H2:Hp),v=.ref a/\Inv X pins σ H2 s1/\s.heap.objs.size<=a/\H a=none/\H2 a=some (XOb a C (xv ta) (some dx))/\Qe a ta dx H2) X.xe s:=by
 obtain⟨nm,q,N',bs,bm,hdct,sn,sub,ab,col,dd,k0,k1,k2,k3,k5,U,_,hC⟩:=M.cls.xc;obtain⟨oI,hoI,hcI⟩:=qmI M.fn;have KX:X.K.In s.heap:=I.kIn;obtain⟨hh,g,d,tk,os⟩:=s;refine LX.x_call U (hC _ KX) (Yc2 KX M.init) (KX _ _ hoI) hcI (by rw[<- r.length,sizeLine_eq];omega) fun h' a hsz hm=>?_;obtain⟨ta,ht,_,_⟩:=hm.there;have hfr:=I.hok.fresh hsz;have hq:=h a ta hfr;have I2:Inv X pins σ (upd H a (XOb a C (xv ta) none)) ⟨h',g,d,tk,os⟩:=I.laid (t':=tk) hm.keeps hsz (qaI ht);have r2:qD (V.ref a::vs) (Value.ref a::us):=.cons rfl r;have hl2:(Value.ref a::us++[]).length=ps.length:=by rw[Ybs,<- r2.length];exact F.len _ _ _ _ hq
 refine wpAny_call (codeAny_mono (F.run _ _ _ _ ⟨Value.ref a::us,[]⟩ (Value.ref a::us) _ _ _ (hr.make C us []) (I2.env0.make C us []) ?_ r2 hq) fun res s' hq'=>?_)
 ·have:=hb ⟨h',g,d,tk,os⟩ (Value.ref a::us) I2.kIn hl2;rw[Ybs]at this;exact this
 ·cases res with
  |error e=>exact False.elim hq'
  |ok fl=>
   cases fl with
   |ret u=>obtain⟨v,H',I3,rv,ev,dx,z1,z2⟩:=I2.after hq';subst ev;exact⟨rv,a,ta,dx,H',rfl,I3,hsz,hfr,z1,z2⟩
   |next=>exact False.elim hq'
   |brk=>exact False.elim hq'
   |cont=>exact False.elim hq'
end
end L2
end
section
namespace LX
open PySem PySem.Spec PyProof.Rows
section
variable{M:Model}{A:Around}{E:Value->Shared->Prop}{s:Shared}{B:Heap}{env:Env}{outer:List Env}{L e C dx:Addr}{Q:Unit->Shared->Prop}{cz:Prop}
theorem qdK{l:List Env}(hf:env.frame=some L)(F:Fly cz B l e C dx (rawInt L) s.heap)(h:Q () s):wpAny M A (noteFrame (.ref e) env) Q E s:=by
 obtain⟨hst,hnw,hl,oe,vs,T,oT,ts,⟨he,hc,hdx,hd,h1,hz⟩,⟨hnT,hTe⟩,hT,hdT,h3⟩:=F;unfold noteFrame;simp only[hf];refine ε (wpAny_field he hd h1 ?_);have t1:(Value.ref T != Value.none)=true:=by simp
 rw[if_pos t1];refine ε (wpAny_field hT hdT h3 ?_);rw[if_pos (by simp)];exact Φ h
theorem qff{l:List Env}{fl:Value}(F:Fly cz B l e C dx fl s.heap)(h:∀h',Fly cz B l e C dx (rawInt L) h'->s.heap.UpToSlots h'->Q () {s with heap:=h'}):wpAny M A (setFlight (.ref e) (some L)) Q E s:=by
 obtain⟨hst,hnw,hl,oe,vs,T,oT,ts,⟨he,hc,hdx,hd,h1,hz⟩,⟨hnT,hTe⟩,hT,hdT,h3⟩:=F;have h3s:3<ts.size:=(YbU.mp h3).1;have oth:∀b,b≠T->(s.heap.update T (Obj.mapFields (·.setIfInBounds 3 ((some L:Option Addr).elim Value.none fun f=>rawInt f)))).get? b=s.heap.get? b:=fun b z=>Ybo _ _ (Ne.symm z);have rec_ne:∀b o,s.heap.get? b=some o->(∀ws,o.data≠.fields ws)->b≠T:=by intro b o q hnf z;subst z;obtain rfl:oT=o:=Option.some.inj (hT.symm.trans q);exact hnf ts hdT
 unfold setFlight;refine ε (wpAny_field he hd h1 ?_);have t1:(Value.ref T != Value.none)=true:=by simp
 rw[if_pos t1];refine wpAny_setField hT hdT h3s (h _ ⟨fun b o q=>(oth b fun z=>by subst z;rw[hnT]at q;cases q).trans (hst b o q),hnw,hl.of_keeps fun b o q hnf=>⟨o,(oth b (rec_ne b o q hnf)).trans q,rfl⟩,?_⟩ fun b o q hnf=>⟨o.slots,(oth b (rec_ne b o q hnf)).trans q⟩);exact⟨oe,vs,T,_,_,⟨(oth e (Ne.symm hTe)).trans he,hc,hdx,hd,h1,hz⟩,⟨hnT,hTe⟩,YbG _ hT (Obj.isFreed_of_fields (Obj.data_mapFields hdT _)),Obj.data_mapFields hdT _,by simp[h3s]⟩
end
theorem qdL{h h' B:Heap}(k:∀b o,h.get? b=some o->(∀vs,o.data≠.fields vs)->∃o',h'.get? b=some o'/\∀vs,o'.data≠.fields vs):∀{l:List Env},h.FunFrames B l->h'.FunFrames B l
 |[],_=>trivial
 |env::r,⟨hk,⟨L,o,hf,hn,ho,hd⟩,hr⟩=>by obtain⟨o',h1,h2⟩:=k L o ho hd;exact⟨hk,⟨L,o',hf,hn,h1,h2⟩,qdL k hr⟩
end LX
namespace L2
open PySem PySem.Spec PyProof.Rows
open LX (Fly)
theorem qoq{fs:List Addr}{H H':Hp}{h h1 h2 B:Heap}(u:Un fs [] H H' h h1)(s1:B.StaysIn h1)(s2:B.StaysIn h2)(hB:∀b o,h.get? b=some o->b∉fs->∃o',B.get? b=some o')
  (up:∀b∈fs,∀o,h1.get? b=some o->(∀vs,o.data≠.fields vs)->∃sl,h2.get? b=some {o with slots:=sl}) (hf:∀b∈fs,∀o,h1.get? b=some o->∀vs,o.data≠.fields vs):Un fs [] H H' h h2 where
 keep:=fun b o q n hb hx=>by obtain⟨o',e⟩:=hB b o q hb;have e1:=s1 b o' e;rw[u.keep b o q n hb hx]at e1;cases e1;exact s2 b _ e
 slot:=fun b o q n hb hx=>by obtain⟨sl,e⟩:=u.slot b o q n hb hx;obtain⟨sl2,e2⟩:=up b hb _ e (hf b hb _ e);exact⟨sl2,e2⟩
 free:=u.free
 there:=fun b o q hx=>by
  by_cases hb:b∈fs
  ·obtain⟨o1,e1⟩:=u.there b o q hx;obtain⟨sl2,e2⟩:=up b hb _ e1 (hf b hb _ e1);exact⟨_,e2⟩
  ·obtain⟨o',e⟩:=hB b o q hb;exact⟨o',s2 b o' e⟩
 tups:=u.tups
 frzs:=u.frzs
 tbls:=u.tbls
section
variable{P:Program}{w:World}{K:γ}{mg:Str->Option Value}{base:Heap}{N:List Str}{qual:Str}{scope:Scope}{f:Addr}{cd:Value}{A:Around}{outer:List Env}{s:Shared}{H:Hp}{E:XK}
theorem qni{cz:Prop}{pins:List (Addr×Obj)}{σ:St}{H1:Hp}{s1:Shared}{a C dx:Addr}{vs:Array Value}{n:Str}{pos:Pos}{hm:Option Value}{Ex1 Ex2:Value->Shared->Prop}
  (I:Inv (qQ (zc cz P w) P w K mg base N qual scope f cd A outer s H E) pins σ H1 s1) (ha:H1 a=some (XOb a C vs (some dx))) (hv:vs[1]?=some .none) (hz:cz->vs[2]?=some .none) (hnew:s.heap.objs.size<=a) (hE:E (.ref C) (some dx) (jO H1 a))
  (hln:scope.names.lookup n=some .local):
  wpAny (model P w) ((A.deeper (envOfC qual scope s.heap.objs.size f cd)).mark hm) (noteFrame (.ref a) (envOfC qual scope s.heap.objs.size f cd)) (fun _ s3=>
   wpAny (model P w) ((A.deeper (envOfC qual scope s.heap.objs.size f cd)).mark hm) (do bindName (envOfC qual scope s.heap.objs.size f cd) n .none;unbindBehindTheSuite (envOfC qual scope s.heap.objs.size f cd) n pos) (fun _ s4=>
    wpAny (model P w) ((A.deeper (envOfC qual scope s.heap.objs.size f cd)).mark hm) (passOn "try.except-as" (.ref a) (envOfC qual scope s.heap.objs.size f cd):Sem Flow) (fun _ _=>False)
     (notedBy (model P w) ((A.deeper (envOfC qual scope s.heap.objs.size f cd)).mark hm) (envOfC qual scope s.heap.objs.size f cd) fun x s'=>cameBackBy (model P w) (A.deeper (envOfC qual scope s.heap.objs.size f cd)) (envOfC qual scope s.heap.objs.size f cd) (qQ (zc cz P w) P w K mg base N qual scope f cd A outer s H E).xe x s') s4) Ex2 s3) Ex1 s1:=by
 obtain⟨sl,hob⟩:=I.hok.xob ha;have nfr:∀b∈frs (qQ (zc cz P w) P w K mg base N qual scope f cd A outer s H E).stack,b≠a:=fun b hb z=>by have:=I.stkFree b hb;rw[z,ha]at this;cases this
 let l:=a::frs (qQ (zc cz P w) P w K mg base N qual scope f cd A outer s H E).stack
 let B:=YdA s1.heap l
 have stB:B.StaysIn s1.heap:=fun b o q=>Ydd l q
 have inB:∀b o,s1.heap.get? b=some o->b≠a->b∉frs (qQ (zc cz P w) P w K mg base N qual scope f cd A outer s H E).stack->B.get? b=some o:=fun b o q h1 h2=>Yc5 l q (by
  intro z;rcases Γ.mp z with z|z
  ·exact h1 z
  ·exact h2 z)
 have c1':∀b o,s.heap.get? b=some o->b∉frs outer->∃o',B.get? b=some o':=fun b o q hb=>by
  obtain⟨o1,q1⟩:=I.base.there b o q (by simp[qQ]);refine⟨o1,inB b o1 q1 (Ybr (Ybl (Ξ q) hnew)) fun hm=>?_⟩;rcases Γ.mp (I.stkSub b hm)with z|z
  ·have lt:=Ξ q;rw[z]at lt;exact absurd lt (YbN _)
  ·exact hb z
 have c2:∀b u,jO H1 a b=some u->∃o',B.get? b=some o':=fun b u q=>by
  have hba:b≠a:=fun z=>by subst z;rw[Q8]at q;cases q
  rw[zK hba]at q
  obtain⟨o,ho⟩:∃o,s1.heap.get? b=some o:=by
   have lt:=I.hok.lt q;cases hq:s1.heap.get? b with
   |some o=>exact⟨o,rfl⟩
   |none=>
    exfalso;have x:=I.hok b u q;cases u with
    |lst xs=>obtain⟨_,_,_,_,e⟩:=x;rw[hq]at e;cases e
    |tup xs=>obtain⟨_,_,_,ob,e,_⟩:=x;rw[hq]at e;cases e
    |dK kvs=>obtain⟨_,_,_,_,o,_,_,e,_⟩:=x;rw[hq]at e;cases e
    |dT kvs=>obtain⟨_,_,_,_,o,_,_,e,_⟩:=x;rw[hq]at e;cases e
    |set S n=>obtain⟨o,_,_,_,e,_⟩:=x;rw[hq]at e;cases e
    |ins C dx fs=>obtain⟨_,_,_,e,_⟩:=x;rw[hq]at e;cases e
    |own y=>obtain⟨_,e⟩:=x;rw[hq]at e;cases e
    |xd fs=>obtain⟨_,⟨_,_,_,e,_⟩,_⟩:=x;rw[hq]at e;cases e
    |rng lo hi=>obtain⟨_,_,_,e⟩:=x;rw[hq]at e;cases e
    |frz ob u=>obtain⟨e,_⟩:=x;rw[hq]at e;cases e
    |tbl ps=>have e:s1.heap.get? b=some _:=x;rw[hq]at e;cases e
    |met f y=>have e:s1.heap.get? b=some _:=x;rw[hq]at e;cases e
    |ext φ=>obtain⟨_,⟨_,e⟩,_⟩:=x;rw[hq]at e;cases e
  exact⟨o,inB b o ho hba fun hm=>by rw[I.stkFree b hm]at q;cases q⟩
 have ok1:HOk P w (jO H1 a) s1.heap:=fun b u q=>by
  have hba:b≠a:=fun z=>by subst z;rw[Q8]at q;cases q
  rw[zK hba]at q;refine(I.hok b u q).stay (fun c v _ z=>z) (fun c z=>?_) fun c xs z=>?_
  ·rw[zK (fun y=>by subst y;rw[ha]at z;cases z)];exact z
  ·rw[zK (fun y=>by subst y;rw[ha]at z;cases z)];exact z
 have un1:Un (frs outer) [] H (jO H1 a) s.heap s1.heap:=by
  have u0:Un (frs outer) [] H H1 s.heap s1.heap:=I.base;refine⟨u0.keep,u0.slot,fun b o q n hx=>?_,u0.there,fun b xs q=>?_,fun b o u q=>?_,fun b ps q=>?_⟩
  ·rw[zK (Ybr (Ybl (Ξ q) hnew))];exact u0.free b o q n hx
  ·have z:=u0.tups b xs q;rw[zK (fun y=>by subst y;rw[ha]at z;cases z)];exact z
  ·have z:=u0.frzs b o u q;rw[zK (fun y=>by subst y;rw[ha]at z;cases z)];exact z
  ·obtain⟨m,z⟩:=u0.tbls b ps q;exact⟨m,by rw[zK (fun y=>by subst y;rw[ha]at z;cases z)];exact z⟩
 have noB:B.get? a=none:=Yce l π;have ffB:s1.heap.FunFrames B (envOfC qual scope s.heap.objs.size f cd::outer):=qav I.stack fun b hb=>Yce l (ρ _ hb);have Lne:∀b∈frs outer,b≠s.heap.objs.size:=fun b hb z=>by obtain⟨_,o,ho,_⟩:=(show s.heap.FunFrames base outer from I.ok.funs).mem hb;have hlt:=Ξ ho;rw[z]at hlt;exact absurd hlt (YbN _)
 have LB:B.get? s.heap.objs.size=none:=Yce l (ρ _ (by show s.heap.objs.size∈frs (envOfC qual scope s.heap.objs.size f cd::outer);unfold frs;rw[YbR];exact π));have aL:a≠s.heap.objs.size:=fun z=>by have:=I.free;rw[show(qQ (zc cz P w) P w K mg base N qual scope f cd A outer s H E).env.locals=s.heap.objs.size from rfl,<- z,ha]at this;cases this
 refine LX.qdx (cz:=cz) (env:=envOfC qual scope s.heap.objs.size f cd) (outer:=outer) (L:=s.heap.objs.size) (C:=C) (dx:=dx) (vs:=vs) I.ok.frames ffB rfl hob rfl rfl rfl hv hz stB noB fun h1 N1=>?_;obtain⟨m,hn,_⟩:=id I.loc;have hn1:h1.Ns s.heap.objs.size m:=by obtain⟨o,es,ep,ho,hd,r1,r2⟩:=hn;obtain⟨sl',e'⟩:=N1.up _ o ho (by rw[hd];intro vs z;cases z);exact⟨_,es,ep,e',hd,r1,r2⟩
 refine wpAny_nameGoes (m:=m) hln hn1 (by rw[show(envOfC qual scope s.heap.objs.size f cd).scope.kind=scope.kind from rfl,show scope.kind=.function from I.ok.kind];rfl) fun h2 m2 hn2 sb=>?_;have stB2:B.StaysIn h2:=fun b o q=>(sb.2 b fun z=>by rw[z]at q;rw[show B.get? (envOfC qual scope s.heap.objs.size f cd).locals=none from LB]at q;cases q).trans (N1.st b o q);obtain⟨o2,es2,ep2,ho2,hd2,_,_⟩:=id hn2
 have ff2:h2.FunFrames B (envOfC qual scope s.heap.objs.size f cd::outer):=LX.qdL (fun b o q hnf=>by
  by_cases hb:b=s.heap.objs.size
  ·subst hb;exact⟨o2,ho2,fun vs z=>by rw[hd2]at z;cases z⟩
  ·exact⟨o,(sb.2 b hb).trans q,hnf⟩) N1.ff
 have fly2:Fly cz B (envOfC qual scope s.heap.objs.size f cd::outer) a C dx (rawInt s.heap.objs.size) h2:=by
  obtain⟨oe,vs',T,oT,ts,⟨he,hc,hdx,hd,hh1,hhz⟩,⟨hnT,hTe⟩,hT,hdT,h3⟩:=N1.tr;have TL:T≠s.heap.objs.size:=fun z=>by subst z;obtain⟨o1,es1,ep1,ho1,hd1,_,_⟩:=hn1;rw[hT]at ho1;cases ho1;rw[hdT]at hd1;cases hd1
  exact⟨stB2,noB,ff2,oe,vs',T,oT,ts,⟨(sb.2 a aL).trans he,hc,hdx,hd,hh1,hhz⟩,⟨hnT,hTe⟩,(sb.2 T TL).trans hT,hdT,h3⟩
 obtain⟨oe,vs',T,oT,ts,⟨he,hc,hdx,hd,hh1,hhz⟩,⟨hnT,hTe⟩,hT,hdT,h3⟩:=fly2.tr;unfold PySem.passOn;refine ε (wpAny_field (s:={s1 with heap:=h2,toks:=s1.toks+1}) he hd hh1 ?_);rw[if_neg (by simp)];refine ε (LX.qff (s:={s1 with heap:=h2,toks:=s1.toks+1}) (L:=s.heap.objs.size) fly2 fun h3 fly3 up3=>wpAny_throw ?_);refine LX.qdK (s:={s1 with heap:=h3,toks:=s1.toks+1}) (L:=s.heap.objs.size) rfl fly3 ?_;obtain⟨oe',vs'',T',oT',ts',⟨he',_,_,hd',hh1',_⟩,_⟩:=fly3.tr;unfold cameBackBy;refine ε (wpAny_field (s:={s1 with heap:=h3,toks:=s1.toks+1}) he' hd' hh1' ?_);rw[if_neg (by simp)];refine LX.qff (s:={s1 with heap:=h3,toks:=s1.toks+1}) (L:=s.heap.objs.size) fly3 fun h3' fly3' up3'=>?_;show wpAny (model P w) (A.deeper (envOfC qual scope s.heap.objs.size f cd)) (leaving (envOfC qual scope s.heap.objs.size f cd) (.ref a)) (fun _ s''=>zc cz P w outer H s E (.ref a) s'') (fun e' s''=>zc cz P w outer H s E e' s'') {s1 with heap:=h3',toks:=s1.toks+1};unfold leaving;refine ε (LX.qdK (s:={s1 with heap:=h3',toks:=s1.toks+1}) (L:=s.heap.objs.size) rfl fly3' ?_);refine LX.Zf (s:={s1 with heap:=h3',toks:=s1.toks+1}) fly3' fun h4 fly4 up4=>?_;have upf:∀b∈frs outer,∀o,s1.heap.get? b=some o->(∀vs,o.data≠.fields vs)->∃sl,h4.get? b=some {o with slots:=sl}:=fun b hb o q hnf=>by obtain⟨sl1,q1⟩:=N1.up b o q hnf;have q2:=(sb.2 b (Lne b hb)).trans q1;obtain⟨sl2,q3⟩:=up3 b _ q2 hnf;obtain⟨sl3,q4⟩:=up3' b _ q3 hnf;obtain⟨sl4,q5⟩:=up4 b _ q4 hnf;exact⟨sl4,q5⟩
 exact⟨a,C,dx,jO H1 a,B,rfl,I.os,I.bare,qoq un1 stB fly4.st c1' upf (Ql ffB.2.2),qb9 ok1 stB fly4.st c2,LX.qdd fly4,c1',c2,Q8,hE⟩
end
end L2
end
section
namespace L2
open PySem PySem.Spec PyProof.Rows
open LX (Fly Under XC Qt)
theorem qnj{X:Cx}{pins:List (Addr×Obj)}{σ:St}{H:Hp}{s:Shared}{e C:Addr}{vs vs':Array Value}{d:Option Addr}{sl:Array (Option Value)}{h':Heap}(I:Inv X pins σ H s)(he:H e=some (XOb e C vs d))(q1:h'.get? e=some ⟨.ref C,d,.fields vs',sl⟩)(q3:∀b,b≠e->h'.get? b=s.heap.get? b):
  Inv X pins σ (upd H e (XOb e C vs' d)) {s with heap:=h'}:=by
 have un:Un X.fs [] H (upd H e (XOb e C vs' d)) s.heap h':=by
  have ne:∀b,H b=none->b≠e:=fun b q z=>by subst z;rw[he]at q;cases q
  have nx:∀b u,H b=some u->(∀φ,u≠.ext φ)->b≠e:=fun b u q hu z=>by subst z;rw[he]at q;cases q;exact hu _ rfl
  refine⟨fun b o q n1 _ _=>(q3 b (ne b n1)).trans q,fun b o q n1 _ _=>⟨o.slots,(q3 b (ne b n1)).trans q⟩,fun b o q n1 _=>?_,fun b o q _=>?_,fun b xs q=>?_,fun b o w' q=>?_,fun b ps q=>⟨#[],?_⟩⟩
  ·rw[qd (ne b n1)];exact n1
  ·by_cases z:b=e
   ·subst z;exact⟨_,q1⟩
   ·exact⟨o,(q3 b z).trans q⟩
  ·rw[qd (nx b _ q (fun φ z=>by cases z))];exact q
  ·rw[qd (nx b _ q (fun φ z=>by cases z))];exact q
  ·rw[qd (nx b _ q (fun φ z=>by cases z)),q];simp
 refine I.un (t':=s.toks) un fun b w' q=>?_;by_cases z:b=e
 ·subst z;rw[qc]at q;cases q;exact qaI q1
 ·rw[qd z]at q;refine(I.hok b w' q).stay (fun c u' hc' r=>(q3 c ?_).trans r) (fun c r=>?_) fun c xs r=>?_
  ·rcases hc' with rfl|hc'
   ·exact z
   ·intro y';subst y';rw[he]at hc';cases hc'
  ·rw[qd (fun y'=>by subst y';rw[he]at r;cases r)];exact r
  ·rw[qd (fun y'=>by subst y';rw[he]at r;cases r)];exact r
theorem qnk{H:Hp}{a:Addr}{o:HO}:jO (upd H a o) a=jO H a:=by
 funext b;by_cases h:b=a
 ·subst h;rw[Q8,Q8]
 ·rw[zK h,zK h,qd h]
section
variable{P:Program}{w:World}{K:γ}{mg:Str->Option Value}{base:Heap}{N:List Str}{qual:Str}{scope:Scope}{f0:Addr}{cd:Value}{A:Around}{outer:List Env}{s0:Shared}{H0:Hp}{E:XK}
def qpg(K:γ)(S C2:Addr)(spI:Sp)(E:XK)(tb:XK->TS):TS:=fun D σ H=>tb (fun c dx H'=>∃C d,c=.ref C/\dx=some d/\jq K C/\subB K C S /\
 ∀a xs e ta,H' a=none->e≠a->H' e=none->spI [.ref e,.ref a] (upd (upd H' a (XOb a C xs (some d))) e (XOb e C2 (xv ta) none)) (fun v H2=>v=.non/\∃dx2,H2 e=some (XOb e C2 (xv ta) (some dx2))/\H2 a=some (XOb a C xs (some d))/\E (.ref C2) (some dx2) (jO H2 e)) E0) D σ H
theorem qiZ{X:Cx}(hX:X=qQ (zc False P w) P w K mg base N qual scope f0 cd A outer s0 H0 E){rx n x:Str}{i k:Nat}{S C2 fI:Addr}{fdI:FuncData}{psI:List Str}{spI:Sp}{body:List Stmt}{tb:XK->TS}{np np2 np3 cp cpos rpos hpos pos:Pos}
  (hN:X.N.Nodup) (hi:X.N[i]?=some n) (hl:X.env.scope.names.lookup n=some .local) (hg:Gl X rx) (hm:X.mg rx=some (.ref S)) (cS:jq X.K S)
  (hb:∀(xe:Value->Shared->Prop)(pn:List (Addr×Obj))(E1:XK),jo (zc True X.prog X.w) (X.tr xe pn) E1->PSs (X.tr xe pn) body (tb E1))
  (M2:XMk X.K C2 fI) (F:Jw X.prog X.w X.K X.mg X.base CX0 k fI fdI psI spI) (hr:qI (k+1) X.A) (hbI:Binds X.K fdI psI []) (hgx:Gl X x) (hmx:X.mg x=some (.ref C2))
  (hdb:(rx==("__debug__":Str))=false:=by decide) (hdx:(x==("__debug__":Str))=false:=by decide) (hdn:(n==("__debug__":Str))=false:=by decide) (hcn:(n==("__classdict__":Str))=false:=by decide)
  (he:starEach [.Name n np3] X.env=(false,eval (.Name n np3) X.env)::starEach [] X.env:=by rfl):
  PS X (.Try body [.ExceptHandler (some (.Name rx np)) (some n) [.Raise (some (.Call (.Name x np2) [.Name n np3] [] cpos)) (some (.Name n cp)) rpos] hpos] [] [] pos) (qpg X.K S C2 spI E tb):=by
 have hex:X.ex=[]:=by rw[hX];rfl
 have hst:X.stack=X.env::X.outer:=by rw[hX];rfl
 have hfr:X.env.frame=some X.env.locals:=by rw[hX];rfl
 intro pins s σ H D I h;refine wpAny_Try_except ?_
 let xe:Value->Shared->Prop:=fun e s1=>wpAny (model X.prog X.w) X.A (noteFrame e X.env) (fun _ s2=>wpAny (model X.prog X.w) X.A (setFlight e none) (fun _ s3=>
  wpAny (model X.prog X.w) X.A (handleBy e X.env [.ExceptHandler (some (.Name rx np)) (some n) [.Raise (some (.Call (.Name x np2) [.Name n np3] [] cpos)) (some (.Name n cp)) rpos] hpos]) (SP X pins D) X.xe s3) X.xe s2) X.xe s1
 refine wpAny_mono (hb xe (X.pn++pins) _ ?_ [] s σ H D (I.tr xe) h) (fun f s1 q=>?_) fun e s1 q=>q
 ·intro pins' σ1 H1 s1 e s2 I1 hx;obtain⟨a,C,dx,H',B,rfl,hos,hbare,un,hok,fly,c1,c2,hna,C',d',eC,ed,cC,sC,suit⟩:=hx;cases eC;cases ed;have fly:Fly True B (X.env::X.outer) a C dx .none s2.heap:=by rw[<- hst];exact fly
  have frs_eq:frs X.stack=frs (X.env::X.outer):=by rw[hst]
  show wpAny (model X.prog X.w) X.A (noteFrame (.ref a) X.env) _ _ s2;have Afr:X.A.frames=some (X.env::X.outer):=by rw[<- hst];exact I.ok.frames
  have nof:∀b∈frs X.stack,∀o,s2.heap.get? b=some o->∀vs,o.data≠.fields vs:=by rw[frs_eq];exact Ql fly.ff
  have at_:∀h2,Fly True B (X.env::X.outer) a C dx .none h2->s2.heap.UpToSlots h2->Inv X pins σ1 H' {s2 with heap:=h2}:=fun h2 fly2 up=>(I1.call' (s':={s2 with heap:=h2}) (ch:=[]) hos (qf5 un fly.st fly2.st c1 up nof) (qb9 hok fly.st fly2.st c2) hbare fun b z=>absurd z (by simp)).untr;refine wpAny_mono (LX.qe2 (Q:=fun _ s3=>∃h2,s3={s2 with heap:=h2}/\Fly True B (X.env::X.outer) a C dx .none h2/\s2.heap.UpToSlots h2) (E:=X.xe) Afr hfr fly fun h2 f2 u2=>⟨h2,rfl,f2,u2⟩) (fun _ s3 z=>?_) fun _ _ z=>z;refine thn z fun _ s4 ⟨h2,e4,fly2,up2⟩=>?_;subst e4;have J2:=at_ h2 fly2 up2;obtain⟨oe,vs,T,oT,tsr,⟨hoe,hcl,hdi,hda,_,_⟩,_⟩:=fly2.tr;obtain⟨nmS,qS,NS,bsS,bmS,hdS,snS,subS,abS,colS,ddS,j0,j1,j2,j3,j5,US,_,hS⟩:=cS.xc;obtain⟨cdC,bmC,hcdC,_,_,emC,_,nmC,qC,NC,bsC,hdC,snC,subC,abC,colC,ddC,k0,k1,k2,k3,k5,lkC⟩:=cC.out;refine wpAny_handleBy_cons (codeAny_handlers_test (Qu (X:=X.sut a) (J2.sut a) hg hm ?_ hdb)) (by intro q;cases q);obtain⟨hp,g,dd,tk,os⟩:=s2;refine LX.qe3 US (J2.kIn _ _ lkC) (hS _ J2.kIn) ?_ hoe hcl ?_
  ·obtain⟨cd,e1,e2⟩:=sC;rw[hcdC]at e1;cases e1;rw[emC]at e2;exact e2
  show codeAny _ _ _ _ _;refine codeAny_handlers_suite_as (LX.Zf (s:=⟨h2,g,dd,tk,os⟩) fly2 fun h3 fly3 up3=>?_);have J3:Inv X pins σ1 H' ⟨h3,g,dd,tk,os⟩:=at_ h3 fly3 (up2.trans up3);obtain⟨oe,vs,T,oT,tsr,⟨hoe,hcl,hdi,hda,_,hz3⟩,_⟩:=fly3.tr;obtain⟨oec,oed,oedt,oes⟩:=oe;cases hcl;cases hdi;cases hda
  have notIn:∀b o,s1.heap.get? b=some o->b≠a:=fun b o q z=>by
   subst z;by_cases hb:b∈frs X.stack
   ·obtain⟨ob,qb⟩:∃ob,hp.get? b=some ob:=un.there b o q (by simp);obtain⟨oe2,vs2,_,_,_,⟨z1,_,_,z4,_,_⟩,_⟩:=fly.tr;exact nof b hb oe2 z1 vs2 z4
   ·obtain⟨o',eo⟩:=c1 b o q hb;rw[fly.nw]at eo;cases eo
  have K3:Inv X pins (YbL X.N.length none) (upd H' a (XOb a C vs (some dx))) ⟨h3,g,dd,tk,os⟩:=by
   refine(qbb J3).track hna ?_ ?_ ?_ ?_ (qaI hoe)
   ·cases q0:X.s_0.heap.get? a with
    |none=>rfl
    |some o=>obtain⟨o1,q1⟩:=I1.base.there a o q0 (by show a∉X.ex;rw[hex];simp);exact absurd rfl (notIn a o1 q1)
   ·intro z;obtain⟨m,⟨o,_,_,ho,_⟩,_⟩:=I1.loc;exact notIn _ o ho z.symm
   ·intro x c q z;obtain⟨v,o,ho,_⟩:=I1.cell x c q;exact notIn _ o ho z
   ·intro p hp' z;exact notIn _ _ (I1.pin p (YbC _ hp')).1 z
  refine J1 (X:=X.sut a) (K3.sut a) hN hi (.inl hl) (v:=V.ref a) rfl (fun s5 I5=>?_) (.inr hl);have hil:i<X.N.length:=(Δ.mp hi).1;have hσ:((YbL X.N.length (none:Option V)).set i (some (V.ref a)))[i]?=some (some (V.ref a)):=by rw[Ycv (by rw[Ycz];exact hil)]
  have vis:Vis (X.sut a).env.scope n:=.inl hl;refine wpAny_execs_cons ?_;rw[arm_exec_Raise];refine ε (wpAny_standAt ?_);obtain⟨nm2,q2,N2,bs2,bm2,hd2,sn2,sub2,ab2,col2,dd2,l0,l1,l2,l3,l5,U2,_,hC2⟩:=M2.cls.xc;obtain⟨nm3,q3,N3,bs3,bm3,hd3,sn3,sub3,ab3,col3,dd3,m0,m1,m2,m3,m5,U3,_,hC3⟩:=cC.xc;refine LX.qhJ (a:=a) (C:=C2) (C':=C) (nm:=nm2) (q:=q2) (N:=N2) (bs:=bs2) (hdct:=hd2) (sn:=sn2) (sub:=sub2) (ab:=ab2) (col:=col2) (dd:=dd2) (k0:=l0) (k1:=l1) (k2:=l2) (k3:=l3) (k5:=l5) (nm':=nm3) (q':=q3) (N':=N3) (bs':=bs3) (hdct':=hd3) (sn':=sn3) (sub':=sub3) (ab':=ab3) (col':=col3) (dd':=dd3) (j0:=m0) (j1:=m1) (j2:=m2) (j3:=m3) (j5:=m5) U2 U3 rfl ?_;refine ε (wpAny_mono (E:=(X.sut a).xe) (Q:=fun v s6=>∃(e ta dx2:Addr)(H2:Hp),v=.ref e/\Inv (X.sut a) pins ((YbL X.N.length none).set i (some (V.ref a))) H2 s6/\X.s_0.heap.objs.size<=e/\upd H' a (XOb a C vs (some dx)) e=none/\H2 e=some (XOb e C2 (xv ta) (some dx2))/\H2 a=some (XOb a C vs (some dx))/\E (.ref C2) (some dx2) (jO H2 e)) ?_ (fun v s6 z=>ε (wpAny_standAt (Φ ?_))) fun _ _ z=>z.elim)
  ·refine wpAny_Call_Name_kw (Qu (X:=X.sut a) I5 hgx hmx ?_ hdx);refine Yb3 (h₀:=X.base) I5.ok.mod.kin M2.kp (thn ((qa (qgd (X:=X.sut a) hi vis hdn hcn) qh he) cpos pins s5 _ _ (fun vs' H6=>vs'=[V.ref a]/\H6=upd H' a (XOb a C vs (some dx))) I5 ⟨_,hσ,rfl,rfl⟩) fun us s6 ⟨vs',H6,I6,r,e1,e2⟩=>⟨I6.kIn,?_⟩) he rfl;subst e1 e2;refine wpAny_mono (qiY (X:=X.sut a) (Qe:=fun e ta dx2 H2=>H2 a=some (XOb a C vs (some dx))/\E (.ref C2) (some dx2) (jO H2 e)) M2 F (hr.mark _) hbI I6 r (by show 1<=1000;decide) fun e ta hen=>?_) (fun v s7 ⟨e,ta,dx2,H2,ev,I7,hsz,hen,z1,z2,z3⟩=>⟨e,ta,dx2,H2,ev,I7,?_,hen,z1,z2,z3⟩) fun _ _ z=>z
   ·have hea:e≠a:=fun z=>by rw[z,qc]at hen;cases hen
    exact suit a vs e ta hna hea (by rw[qd hea]at hen;exact hen)
   ·exact Ybx I6.sz hsz
  obtain⟨e,ta,dx2,H2,rfl,I6,hsz,hen,z1,z2,z3⟩:=z;have hea:e≠a:=fun z=>by rw[z,qc]at hen;cases hen
  refine ε (wpAny_mono (E:=(X.sut a).xe) ((qgd (X:=X.sut a) hi vis hdn hcn) pins s6 _ _ (fun v' H6=>v'=V.ref a/\H6=H2) I6 ⟨_,hσ,rfl,rfl⟩) (fun cv s7 ⟨v',H6,I7,rv,e1,e2⟩=>ε (wpAny_standAt (Φ ?_))) fun _ _ z=>z.elim);subst e1 e2;obtain rfl:cv=Value.ref a:=rv;obtain⟨sl,ho⟩:=I7.hok.xob z1;obtain⟨sla,hoa⟩:=I7.hok.xob z2;refine⟨e,ta,some dx2,sl,_,vs,rfl,rfl,hea,hC2 _ I7.kIn,hC3 _ I7.kIn,ho,hoa,rfl,rfl,hz3 True.intro,fun h' g1 g2 g3=>?_⟩;have I8:=qnj (I7.unsut I.ok.hd) z1 g1 g2;subst hX;exact qni (cz:=False) I8 qc rfl (fun z=>z.elim) hsz (by rw[qnk];exact z3) hl
 ·cases f with
  |next=>exact wpAny_execs_nil q.untr
  |ret v=>exact q.untr
  |brk=>exact q.untr
  |cont=>exact q.untr
end
end L2
end
section
namespace L2
open PySem PySem.Spec PyProof.Rows
abbrev Z3(h:Heap)(z TI TO T:Addr)(f:Bool):Prop :=h.get? z=some {cls:=.type "zip",dict:=none,data:=.fields #[rawInt T,.bool f,.bool false,.ref TI,.ref TO],slots:=#[]}
section
variable{prog:Program}{w:World}{A:Around}{E:Value->Shared->Prop}{s:Shared}
theorem alive{a:Addr}{o:Obj}{Q:Option Obj->Shared->Prop}(ho:s.heap.get? a=some o)(h:Q (some o) s):wpAny (model prog w) A (loadIfAlive a) Q E s:=by
 have h':Q (s.heap.get? a) s:=by rw[ho];exact h
 exact fun _ _ _=>h'
theorem qgy{z TI TO T:Addr}{f:Bool}{oT:Obj}{Q:Bool->Shared->Prop}(hz:Z3 s.heap z TI TO T f)(hT:s.heap.get? T=some oT)(hQ:∀h',Z3 h' z TI TO T true->Ycu z s.heap h'->Q false {s with heap:=h'}):
  wpAny (model prog w) A (Builtin.SmallTypes.ownedTupleIsFree (.ref z)) Q E s:=by
 unfold Builtin.SmallTypes.ownedTupleIsFree;refine ε (wpAny_field hz rfl (x:=rawInt T) rfl ?_);show wpAny _ _ (loadIfAlive ((T:Int).toNat) >>= _) _ _ _;rw[Ydq];refine ε (alive hT ?_);simp only[Option.isNone_some,YbI,if_false];refine ε (wpAny_field hz rfl (x:=.bool f) rfl ?_);cases f with
 |true=>rw[if_neg (show ¬((Value.bool true != Value.bool true)=true)from ϋ)];exact Φ (hQ s.heap hz (Ycu.refl _ _))
 |false=>rw[if_pos (show(Value.bool false != Value.bool true)=true from rfl)];refine ε (wpAny_setField_rec hz (by simp) fun h₃ he₃ hs₃=>?_);exact Φ (hQ h₃ he₃ hs₃)
theorem qgz{z TI TO i1 i2 l1 l2 T:Addr}{f:Bool}{oT:Obj}{k1 k2:Nat}{xs ys:Array Value}{x y:Value}{Q:Value->Shared->Prop}(D:ZipApart z TI TO i1 i2 l1 l2)
  (hz:Z3 s.heap z TI TO T f) (hT:s.heap.get? T=some oT) (hTI:IsPair s.heap TI (.ref i1) (.ref i2))
  (h1:s.heap.IsListIter i1 l1 k1) (h2:s.heap.IsListIter i2 l2 k2) (hl1:s.heap.IsList l1 xs) (hl2:s.heap.IsList l2 ys) (hx:xs[k1]?=some x) (hy:ys[k2]?=some y)
  (hQ:∀h',Z3 h' z TI TO T true->h'.IsListIter i1 l1 (k1+1)->h'.IsListIter i2 l2 (k2+1)->IsPair h' s.heap.objs.size x y->h'.objs.size=s.heap.objs.size+1 ->
   (∀c o,c≠z->c≠i1->c≠i2->s.heap.get? c=some o->h'.get? c=some o)->Q (.ref s.heap.objs.size) {s with heap:=h'}):
  wpAny (model prog w) A (Builtin.«zip.__next__» ⟨[.ref z],[]⟩) (fun fin s'=>∃v,fin=.done (.ret v)/\Q v s') E s:=by
 show wpAny _ _ (field (.ref z) 2 >>= _) _ _ _;refine ε (wpAny_field hz rfl (x:=.bool false) rfl ?_);show wpAny _ _ (field (.ref z) 3 >>= _) _ _ _;refine ε (wpAny_field hz rfl (x:=.ref TI) rfl ?_);refine ε (wpAny_seqItems hTI rfl ?_);show wpAny _ _ (Builtin.SmallTypes.ownedTupleIsFree (.ref z) >>= _) _ _ _;refine ε (qgy hz hT fun h₁ hz₁ hs₁=>?_);simp only[YbI,if_false];rw[<- Array.forIn_toList];simp only[YdD,Ydf];refine ε ?_;refine ε (ε (wpAny_holding ?_));show wpAny _ _ (Builtin.SmallTypes.nextOf (.ref i1) >>= _) _ _ _;refine ε (wpAny_nextOf_list_item (h1.extBut hs₁.extBut D.i1z) (hl1.extBut hs₁.extBut D.l1z) hx fun h₂ h1₂ hs₂=>Φ ?_);refine Φ ?_;refine ε (ε (wpAny_holding ?_));show wpAny _ _ (Builtin.SmallTypes.nextOf (.ref i2) >>= _) _ _ _;refine ε (wpAny_nextOf_list_item ((h2.extBut hs₁.extBut D.i2z).extBut hs₂.extBut D.i12.symm) ((hl2.extBut hs₁.extBut D.l2z).extBut hs₂.extBut D.l2i1) hy fun h₃ h2₃ hs₃=>Φ ?_);refine Φ (Φ ?_);show wpAny _ _ (newTuple [x,y] >>= _) _ _ _;refine ε (wpAny_newTuple ?_);refine Φ ⟨_,rfl,?_⟩;have hsz:h₃.objs.size=s.heap.objs.size:=by rw[hs₃.1];exact hs₂.1.trans hs₁.1
 show Q (.ref h₃.objs.size) {s with heap:=h₃.push {cls:=.type "tuple",data:=.seq #[x,y]}};have up:∀c o,c≠i1->c≠i2->h₁.get? c=some o->(h₃.push {cls:=.type "tuple",data:=.seq #[x,y]}).get? c=some o:=fun c o c2 c3 e=>ψ _ (hs₃.extBut _ _ c3 (hs₂.extBut _ _ c2 e));have hT₃:IsPair (h₃.push {cls:=.type "tuple",data:=.seq #[x,y]}) h₃.objs.size x y:=Ybk _ rfl;have hz₃:(h₃.push {cls:=.type "tuple",data:=.seq #[x,y]}).objs.size=h₃.objs.size+1:=YbM ..;rw[hsz]at hT₃ hz₃ ⊢;exact hQ _ (up _ _ D.i1z.symm D.i2z.symm hz₁) ((h1₂.extBut hs₃.extBut D.i12).at fun o e=>ψ _ e) (h2₃.at fun o e=>ψ _ e) hT₃ hz₃ fun c o c1 c2 c3 e=>up c o c2 c3 (hs₁.extBut _ _ c1 e)
theorem qhL{z TI TO i1 i2 l1 l2 T:Addr}{f:Bool}{oT:Obj}{k1:Nat}{xs:Array Value}{Q:Fin->Shared->Prop}(hh:A.handled=none)(D:ZipApart z TI TO i1 i2 l1 l2)
  (hz:Z3 s.heap z TI TO T f) (hT:s.heap.get? T=some oT) (hTI:IsPair s.heap TI (.ref i1) (.ref i2)) (h1:s.heap.IsListIter i1 l1 k1) (hl1:s.heap.IsList l1 xs) (hx:xs[k1]?=none)
  (hE:∀h' e,(∀c o,c≠z->c≠i1->s.heap.get? c=some o->h'.get? c=some o)->(∃o,h'.get? e=some o/\o.cls=.type "StopIteration")->E (.ref e) {s with heap:=h'}):
  wpAny (model prog w) A (Builtin.«zip.__next__» ⟨[.ref z],[]⟩) Q E s:=by
 show wpAny _ _ (field (.ref z) 2 >>= _) _ _ _;refine ε (wpAny_field hz rfl (x:=.bool false) rfl ?_);show wpAny _ _ (field (.ref z) 3 >>= _) _ _ _;refine ε (wpAny_field hz rfl (x:=.ref TI) rfl ?_);refine ε (wpAny_seqItems hTI rfl ?_);show wpAny _ _ (Builtin.SmallTypes.ownedTupleIsFree (.ref z) >>= _) _ _ _;refine ε (qgy hz hT fun h₁ hz₁ hs₁=>?_);simp only[YbI,if_false];rw[<- Array.forIn_toList];simp only[YdD,Ydf];refine ε ?_;refine ε (ε (wpAny_holding ?_));show wpAny _ _ (Builtin.SmallTypes.nextOf (.ref i1) >>= _) _ _ _;refine ε (wpAny_nextOf_list_end hh (h1.extBut hs₁.extBut D.i1z) (hl1.extBut hs₁.extBut D.l1z) hx fun h₂ e hs₂ he=>?_);exact hE h₂ e (fun c o c1 c2 x=>hs₂ _ _ c2 (hs₁.extBut _ _ c1 x)) he
theorem qfP{z TI TO i1 i2 l1 l2 T:Addr}{f:Bool}{oT:Obj}{k1 k2:Nat}{xs ys:Array Value}{x y:Value}{Q:Option Value->Shared->Prop}(D:ZipApart z TI TO i1 i2 l1 l2)
  (hz:Z3 s.heap z TI TO T f) (hT:s.heap.get? T=some oT) (hTI:IsPair s.heap TI (.ref i1) (.ref i2))
  (h1:s.heap.IsListIter i1 l1 k1) (h2:s.heap.IsListIter i2 l2 k2) (hl1:s.heap.IsList l1 xs) (hl2:s.heap.IsList l2 ys) (hx:xs[k1]?=some x) (hy:ys[k2]?=some y)
  (hQ:∀h',Z3 h' z TI TO T true->h'.IsListIter i1 l1 (k1+1)->h'.IsListIter i2 l2 (k2+1)->IsPair h' s.heap.objs.size x y->h'.objs.size=s.heap.objs.size+1 ->
   (∀c o,c≠z->c≠i1->c≠i2->s.heap.get? c=some o->h'.get? c=some o)->Q (some (.ref s.heap.objs.size)) {s with heap:=h'}):
  wpAny (model prog w) A (pyNext (.ref z)) Q E s:=by
 have hTy:s.TypeIs (.ref z) "zip":=⟨_,hz,rfl⟩;unfold pyNext
 exact ε (wpAny_attempt (wpAny_callSpecial?_slot (name:=Str.ofString "__next__") hTy F.slot_zip_next
  (wpAny_call_entry F.slot_zip_next hTy F.entry_zip_next (qgz D hz hT hTI h1 h2 hl1 hl2 hx hy fun h' a1 a2 a3 a4 a5 a6=>Φ (hQ h' a1 a2 a3 a4 a5 a6)) (F.args_zip_next_1 _))))
theorem qgA{z TI TO i1 i2 l1 l2 T:Addr}{f:Bool}{oT:Obj}{k1:Nat}{xs:Array Value}{Q:Option Value->Shared->Prop}(hh:A.handled=none)(D:ZipApart z TI TO i1 i2 l1 l2)
  (hz:Z3 s.heap z TI TO T f) (hT:s.heap.get? T=some oT) (hTI:IsPair s.heap TI (.ref i1) (.ref i2)) (h1:s.heap.IsListIter i1 l1 k1) (hl1:s.heap.IsList l1 xs) (hx:xs[k1]?=none)
  (hQ:∀h',(∀c o,c≠z->c≠i1->s.heap.get? c=some o->h'.get? c=some o)->Q none {s with heap:=h'}):wpAny (model prog w) A (pyNext (.ref z)) Q E s:=by
 have hTy:s.TypeIs (.ref z) "zip":=⟨_,hz,rfl⟩;unfold pyNext
 refine ε (wpAny_attempt (wpAny_callSpecial?_slot (name:=Str.ofString "__next__") hTy F.slot_zip_next
  (wpAny_call_entry F.slot_zip_next hTy F.entry_zip_next (qhL hh D hz hT hTI h1 hl1 hx fun h' e hk he=>?_) (F.args_zip_next_1 _))))
 obtain⟨o,ho,hc⟩:=he;refine ε (wpAny_isInstance (T:= "StopIteration") (b:=true) ⟨o,ho,hc⟩ isSubtype_stop ?_);exact Φ (hQ _ hk)
theorem qkb:typeLookup (.type "zip") "__len__"=pure none:=by rw[typeLookup_type,builtinLookup_eq_fast];kernel_rfl
theorem qi0:typeLookup (.type "zip") "__length_hint__"=pure none:=by rw[typeLookup_type,builtinLookup_eq_fast];kernel_rfl
theorem qlQ{z:Addr}(hT:s.TypeIs (.ref z) "zip"){Q:Bool->Shared->Prop}(h:Q true s):wpAny (model prog w) A (Builtin.List.listLengthHint (.ref z)) Q E s:=by unfold Builtin.List.listLengthHint;refine ε (wpAny_specialOf hT qkb ?_);show wpAny _ A (specialOf (Value.ref z) (Str.ofString "__length_hint__") >>= _) _ _ _;refine ε (wpAny_specialOf hT qi0 ?_);exact Φ h
end
section
variable{X:Cx}{pins:List (Addr×Obj)}{σ:St}{a b z TI TO i1 i2:Addr}{xs ys:List V}
def tups(H:Hp)(as:List Addr)(ps:List (V×V)):Prop:=Paired (fun p (q:V×V)=>H p=some (.tup [q.1,q.2])) as ps
structure ZSt(H:Hp)(h:Heap)(z TI TO i1 i2 a b:Addr)(i:Nat):Prop where
 ti:IsPair h TI (.ref i1) (.ref i2)
 to:∃x y,IsPair h TO x y
 c1:h.IsListIter i1 a i
 c2:h.IsListIter i2 b i
 z:IsZip h z TI TO .none\/∃T f p q,Z3 h z TI TO T f/\H T=some (.tup [p,q])
theorem qlR{A:Around}{E:Value->Shared->Prop}{H:Hp}{s:Shared}{i:Nat}{x y:V}{Q:Option Value->Shared->Prop}(D:ZipApart z TI TO i1 i2 a b)(I:Inv X pins σ H s)(hf:∀c∈[z,TI,TO,i1,i2],Q5 X pins H c)
  (st:ZSt H s.heap z TI TO i1 i2 a b i) (hqx:SqL X.K H a xs) (hqy:SqL X.K H b ys) (hx:xs[i]?=some x) (hy:ys[i]?=some y)
  (hQ:∀h',Inv X pins σ (upd H s.heap.objs.size (.tup [x,y])) {s with heap:=h'}->ZSt (upd H s.heap.objs.size (.tup [x,y])) h' z TI TO i1 i2 a b (i+1)->Q (some (.ref s.heap.objs.size)) {s with heap:=h'}):
  wpAny (model X.prog X.w) A (pyNext (.ref z)) Q E s:=by
 obtain⟨hTI,⟨x0,y0,hTO⟩,h1,h2,hz⟩:=st;obtain⟨its,rv,p,_⟩:=I.list hqx;obtain⟨its2,rv2,p2,_⟩:=I.list hqy;obtain⟨u,hu,ru⟩:=rv.get hx;obtain⟨u2,hu2,ru2⟩:=rv2.get hy;have hzl:z<s.heap.objs.size:=by rcases hz with q|⟨_,_,_,_,q,_⟩<;>exact Ξ q
 have fin:∀h',IsPair h' s.heap.objs.size u u2->(∀c o,c≠z->c≠TO->c≠i1->c≠i2->s.heap.get? c=some o->h'.get? c=some o)->Inv X pins σ (upd H s.heap.objs.size (.tup [x,y])) {s with heap:=h'}:=fun h' hT hk=>
  I.turnedNew (t':=s.toks) (ch:=[z,TI,TO,i1,i2]) (fun c o hb q=>hk c o (fun q'=>hb (by simp[q'])) (fun q'=>hb (by simp[q'])) (fun q'=>hb (by simp[q'])) (fun q'=>hb (by simp[q'])) q) hf (ω _)
   ⟨by show 2<=Λ;decide,[u,u2],.cons ru (.cons ru2 .nil),⟨_,hT,rfl,_,rfl⟩⟩
 rcases hz with hz|⟨T,f,p0,q0,hz,hT0⟩
 ·refine wpAny_pyNext_zip_item D hz hTI hTO h1 h2 p.isList p2.isList (x:=u) (y:=u2) (by simpa using hu) (by simpa using hu2) fun h' z' TO' h1' h2' hT hsz hk=>?_;exact hQ h' (fin h' hT hk) ⟨hk _ _ D.TIz D.TITO D.TIi1 D.TIi2 hTI,⟨_,_,TO'⟩,h1',h2',.inr ⟨_,false,x,y,z',qc⟩⟩
 ·obtain⟨_,its3,_,oT,eT,_⟩:=I.hok T _ hT0;refine qfP D hz eT hTI h1 h2 p.isList p2.isList (x:=u) (y:=u2) (by simpa using hu) (by simpa using hu2) fun h' z' h1' h2' hT hsz hk=>?_;refine hQ h' (fin h' hT fun c o c1 _ c3 c4 e=>hk c o c1 c3 c4 e) ⟨hk _ _ D.TIz D.TIi1 D.TIi2 hTI,⟨_,_,hk _ _ D.TOz D.TOi1 D.TOi2 hTO⟩,h1',h2',.inr ⟨T,true,p0,q0,z',?_⟩⟩;rw[qd (Ybr (Ξ eT))];exact hT0
theorem qlS{A:Around}{E:Value->Shared->Prop}{H:Hp}{s:Shared}{i:Nat}{Q:Option Value->Shared->Prop}(hh:A.handled=none)(D:ZipApart z TI TO i1 i2 a b)(I:Inv X pins σ H s)(hf:∀c∈[z,TI,TO,i1,i2],Q5 X pins H c)
  (st:ZSt H s.heap z TI TO i1 i2 a b i) (hqx:SqL X.K H a xs) (hqy:SqL X.K H b ys) (hx:xs.length<=i) (hQ:∀h',Inv X pins σ H {s with heap:=h'}->Q none {s with heap:=h'}):
  wpAny (model X.prog X.w) A (pyNext (.ref z)) Q E s:=by
 obtain⟨hTI,⟨x0,y0,hTO⟩,h1,h2,hz⟩:=st;obtain⟨its,rv,p,_⟩:=I.list hqx;obtain⟨its2,rv2,p2,_⟩:=I.list hqy;have l1:=rv.length;have he:its.toArray[i]?=none:=by simp;omega
 have fin:∀h',(∀c o,c≠z->c≠TO->c≠i1->c≠i2->s.heap.get? c=some o->h'.get? c=some o)->Inv X pins σ H {s with heap:=h'}:=fun h' hk=>I.turnedL (t':=s.toks) (ch:=[z,TI,TO,i1,i2]) (fun c o hb q=>hk c o (fun q'=>hb (by simp[q'])) (fun q'=>hb (by simp[q'])) (fun q'=>hb (by simp[q'])) (fun q'=>hb (by simp[q'])) q) hf;rcases hz with hz|⟨T,f,p0,q0,hz,hT0⟩
 ·exact wpAny_pyNext_zip_end hh D hz hTI hTO h1 h2 p.isList p2.isList (.inl he) fun h' hk=>hQ h' (fin h' hk)
 ·obtain⟨_,its3,_,oT,eT,_⟩:=I.hok T _ hT0;exact qgA hh D hz eT hTI h1 p.isList he fun h' hk=>hQ h' (fin h' fun c o c1 _ c3 _ e=>hk c o c1 c3 e)
end
end L2
end
section
section
namespace L2
open PySem PySem.Spec PyProof.Rows
open PySem.W (WData Codec OpenSpec Well WellAll ReadsW ReadsAllW)
mutual
inductive Dw(K:γ)(H:Hp):V->WData->Prop
 |non:Dw K H .non .none
 |bl (b:Bool):Dw K H (.bl b) (.bool b)
 |int (i:Int):Dw K H (.int i) (.int i)
 |str (x:Str):Dw K H (.str x) (.str x)
 |byt (b:Array UInt8):Dw K H (.byt b) (.bytes b.toList)
 |lst {a:Addr} {xs:List V} {ds:List WData}:SqL K H a xs->ZD K H xs ds->Dw K H (.ref a) (.list ds)
 |tup {a:Addr} {xs:List V} {ds:List WData}:SqT K H a xs->ZD K H xs ds->Dw K H (.ref a) (.tuple ds)
inductive ZD(K:γ)(H:Hp):List V->List WData->Prop
 |nil:ZD K H [] []
 |cons {v:V} {vs:List V} {d:WData} {ds:List WData}:Dw K H v d->ZD K H vs ds->ZD K H (v::vs) (d::ds)
end
theorem qii{K:γ}{H:Hp}:∀ns:List Int,ZD K H (ns.map V.int) (ns.map WData.int)
 |[]=>.nil
 |n::r=>.cons (.int n) (qii r)
theorem qcN{K:γ}{H:Hp}:∀(ns:List Int)(xs:List V),ZD K H xs (ns.map WData.int)->xs=ns.map V.int
 |[],xs,h=>by cases h;rfl
 |n::r,xs,h=>by
  cases h with
  |cons h1 h2=>cases h1;rw[qcN r _ h2]<;>rfl
section
variable{P:Program}{w:World}{K:γ}{H:Hp}{h:Heap}{R:PySem.W.WRecords}{cl:Str->Option Addr}
theorem qor{a:Addr}{xs:List V}(hok:HOk P w H h)(KX:K.In h)(q:SqL K H a xs):∃(its:List Value)(o:Obj)(n:Nat),qD xs its/\h.get? a=some o/\o.cls=.type "list"/\o.data=.seq its.toArray n:=by
 rcases q with q|⟨o,its,n,e,hc,_,hd,_,hv⟩
 ·obtain⟨_,its,n,hv,e⟩:=(show zo P w H h a (.lst xs)from q.ok hok);exact⟨its,_,n,hv,e,rfl,rfl⟩
 ·exact⟨its.toList,o,n,hv,KX _ _ e,hc,by simp[hd]⟩
theorem qos{a:Addr}{xs:List V}(hok:HOk P w H h)(KX:K.In h)(q:SqT K H a xs):∃(its:List Value)(o:Obj)(n:Nat),qD xs its/\h.get? a=some o/\o.cls=.type "tuple"/\o.data=.seq its.toArray n:=by
 rcases q with q|⟨o,its,n,e,hc,hd,_,hv⟩
 ·obtain⟨_,its,hv,o,e,hc,n,hd⟩:=(show zo P w H h a (.tup xs)from q.ok hok);exact⟨its,o,n,hv,e,hc,hd⟩
 ·exact⟨its.toList,o,n,hv,KX _ _ e,hc,by simp[hd]⟩
mutual
theorem Dw.reads (hok:HOk P w H h) (KX:K.In h):∀(d:WData)(v:V)(u:Value),Dw K H v d->RelV v u->∃as,ReadsW R cl h u d as
 | .none,_,_,x,r=>by cases x;cases r;exact⟨_,ReadsW.none⟩
 | .bool b,_,_,x,r=>by cases x;cases r;exact⟨_,ReadsW.bool b⟩
 | .int i,_,_,x,r=>by cases x;obtain⟨t,rfl⟩:=r;exact⟨_,ReadsW.int i t⟩
 | .str s,_,_,x,r=>by cases x;obtain⟨t,rfl⟩:=r;exact⟨_,ReadsW.str s t⟩
 | .bytes b,_,_,x,r=>by cases x;obtain⟨t,rfl⟩:=r;exact⟨_,ReadsW.bytes _ t⟩
 | .list ds,_,_,x,r=>by
  cases x with
  |lst hs ha=>cases r;obtain⟨its,o,n,rv,ho,hc,hd⟩:=qor hok KX hs;obtain⟨as,hr⟩:=Dw.readsAll hok KX ds _ its ha rv;exact⟨_,ReadsW.list ho hc hd hr⟩
 | .tuple ds,_,_,x,r=>by
  cases x with
  |tup hs ha=>cases r;obtain⟨its,o,n,rv,ho,hc,hd⟩:=qos hok KX hs;obtain⟨as,hr⟩:=Dw.readsAll hok KX ds _ its ha rv;exact⟨_,ReadsW.tuple ho hc hd hr⟩
 | .float _,_,_,x,_=>by cases x
 | .dict _,_,_,x,_=>by cases x
 | .bytearray _,_,_,x,_=>by cases x
 | .set _,_,_,x,_=>by cases x
 | .frozenset _,_,_,x,_=>by cases x
 | .obj _ _,_,_,x,_=>by cases x
theorem Dw.readsAll (hok:HOk P w H h) (KX:K.In h):∀(ds:List WData)(vs:List V)(us:List Value),ZD K H vs ds->qD vs us->∃as,ReadsAllW R cl h us ds as
 |[],_,_,x,r=>by cases x;cases r;exact⟨_,ReadsAllW.nil⟩
 |d::ds,_,_,x,r=>by
  cases x with
  |cons h1 h2=>
   cases r with
   |cons r1 r2=>obtain⟨as,q1⟩:=Dw.reads hok KX d _ _ h1 r1;obtain⟨bs,q2⟩:=Dw.readsAll hok KX ds _ _ h2 r2;exact⟨_,ReadsAllW.cons q1 q2⟩
end
end
mutual
noncomputable def plW:WData->Bool
 | .none=>true
 | .bool _=>true
 | .int _=>true
 | .str _=>true
 | .bytes _=>true
 | .list xs=>JM xs
 | .tuple xs=>JM xs
 |_=>false
noncomputable def JM:List WData->Bool
 |[]=>true
 |x::r=>plW x&&JM r
end
theorem qgB{α:Type}{f:α->WData}(h:∀a,plW (f a)=true):∀l:List α,JM (l.map f)=true
 |[]=>rfl
 |x::r=>by show(plW (f x)&&JM (r.map f))=true;rw[h x,qgB h r]<;>rfl
theorem JH:∀(c:Codec)(a:c.denote),plW (c.enc a)=true
 | .unit,_=>rfl
 | .bool,_=>rfl
 | .int _ _,_=>rfl
 | .nat _ _,_=>rfl
 | .u8,_=>rfl
 | .bytes _ _,_=>rfl
 | .text _ _ _ _,_=>rfl
 | .list _ _ c,a=>qgB (fun x=>JH c x) a
 | .pair c d,a=>by show(plW (c.enc a.1)&&(plW (d.enc a.2)&&true))=true;rw[JH c a.1,JH d a.2]<;>rfl
 | .triple c d e,a=>by show(plW (c.enc a.1)&&(plW (d.enc a.2.1)&&(plW (e.enc a.2.2)&&true)))=true;rw[JH c a.1,JH d a.2.1,JH e a.2.2]<;>rfl
 | .option c,none=>rfl
 | .option c,some x=>JH c x
theorem qfg:∀(cs:List Codec)(a:Codec.denoteAll cs),JM (Codec.encAll cs a)=true
 |[],_=>rfl
 |c::cs,a=>by show(plW (c.enc a.1)&&JM (Codec.encAll cs a.2))=true;rw[JH c a.1,qfg cs a.2]<;>rfl
theorem qbc:∀{xs:List WData}{d:WData},d∈xs->d.weight<=WData.weightAll xs
 |[],d,h=>absurd h (by simp)
 |x::r,d,h=>by
  show d.weight<=x.weight+1+WData.weightAll r;rcases Γ.mp h with e|m
  ·rw[e];omega
  ·have z:=qbc m;omega
noncomputable def toV:Value->V
 | .none=>.non
 | .bool b=>.bl b
 | .int i _=>.int i
 | .str x _=>.str x
 | .bytes b _=>.byt b
 | .ref a=>.ref a
 |_=>.non
def OkU(A:List Addr):Value->Prop
 | .none=>True
 | .bool _=>True
 | .int _ _=>True
 | .str _ _=>True
 | .bytes _ _=>True
 | .ref a=>a∈A
 |_=>False
theorem OkU.mono {A B:List Addr} (h:∀a∈A,a∈B):∀{u:Value},OkU A u->OkU B u:=fun{u} x=>by
 cases u with
 |ref a=>exact h a x
 |none=>trivial
 |bool b=>trivial
 |int i t=>trivial
 |str s t=>trivial
 |bytes b t=>trivial
 |_=>exact False.elim x
theorem qlT{A:List Addr}{u:Value}(x:OkU A u):RelV (toV u) u:=by
 cases u with
 |ref a=>rfl
 |none=>rfl
 |bool b=>rfl
 |int i t=>exact⟨t,rfl⟩
 |str s t=>exact⟨t,rfl⟩
 |bytes b t=>exact⟨t,rfl⟩
 |_=>exact False.elim x
theorem Ji{A:List Addr}:∀{vs:List Value},(∀u∈vs,OkU A u)->qD (vs.map toV) vs
 |[],_=>.nil
 |u::r,h=>.cons (qlT (h u (π ..))) (Ji fun x hx=>h x (ρ _ hx))
def ZE(h:Heap)(A:List Addr)(a:Addr):Prop:=∃vs:List Value,vs.length<=Λ/\(∀u∈vs,OkU A u) /\
 (h.get? a=some {cls:=.type "list",data:=.seq vs.toArray}\/h.get? a=some {cls:=.type "tuple",data:=.seq vs.toArray})
theorem ZE.mono {h:Heap} {A B:List Addr} {a:Addr} (k:∀a∈A,a∈B) (x:ZE h A a):ZE h B a:=by obtain⟨vs,h1,h2,h3⟩:=x;exact⟨vs,h1,fun u hu=>(h2 u hu).mono k,h3⟩
theorem Jx{P:Params}{h:Heap}:∀{vs:List Value}{ds:List WData},WellAll P h vs ds->vs.length=ds.length
 |_,_,.nil=>rfl
 |_,_,.cons _ b=>by show _+1=_+1;rw[Jx b]
theorem qfh{P:Params}{h:Heap}{v:Value}{ds:List WData}(x:Well P h v (.list ds)):∃(a:Addr)(vs:List Value),v=.ref a/\h.get? a=some {cls:=.type "list",data:=.seq vs.toArray}/\WellAll P h vs ds:=by
 cases x with
 |list ho hall=>exact⟨_,_,rfl,ho,hall⟩
theorem qdM{P:Params}{h:Heap}{v:Value}{ds:List WData}(x:Well P h v (.tuple ds)):∃(a:Addr)(vs:List Value),v=.ref a/\h.get? a=some {cls:=.type "tuple",data:=.seq vs.toArray}/\WellAll P h vs ds:=by
 cases x with
 |tuple ho hall=>exact⟨_,_,rfl,ho,hall⟩
theorem qfi{P:Params}{h:Heap}{us:List Value}{d:WData}{ds:List WData}(x:WellAll P h us (d::ds)):∃(v:Value)(vs:List Value),us=v::vs/\Well P h v d/\WellAll P h vs ds:=by
 cases x with
 |cons a b=>exact⟨_,_,rfl,a,b⟩
theorem qij{n:Nat}(h:n<=1048576):n<=Λ:=Ybx h (by decide)
section
variable{P:Params}{h:Heap}
mutual
theorem qlU:∀(d:WData)(v:Value),Well P h v d->plW d=true->d.weight<=1048576->∃A:List Addr,OkU A v/\∀a∈A,ZE h A a
 | .none,_,x,_,_=>by cases x;exact⟨[],trivial,fun a m=>absurd m (by simp)⟩
 | .bool b,_,x,_,_=>by cases x;exact⟨[],trivial,fun a m=>absurd m (by simp)⟩
 | .int i,_,x,_,_=>by cases x;exact⟨[],trivial,fun a m=>absurd m (by simp)⟩
 | .str s,_,x,_,_=>by cases x;exact⟨[],trivial,fun a m=>absurd m (by simp)⟩
 | .bytes b,_,x,_,_=>by cases x;exact⟨[],trivial,fun a m=>absurd m (by simp)⟩
 | .list ds,_,x,p,z=>by
  obtain⟨a,vs,rfl,ho,hall⟩:=qfh x;have z2:WData.weightAll ds<=1048576:=z;obtain⟨A,h1,h2⟩:=qbd ds _ hall p fun d hd=>Ybx (qbc hd) z2;have k:∀b∈A,b∈a::A:=fun b hb=>ρ _ hb;refine⟨a::A,π ..,fun b hb=>?_⟩;rcases Γ.mp hb with e|m
  ·rw[e];exact⟨vs,qij (by rw[Jx hall];exact Ybx (Yc4 ds) z2),fun u hu=>(h1 u hu).mono k,.inl ho⟩
  ·exact(h2 b m).mono k
 | .tuple ds,_,x,p,z=>by
  obtain⟨a,vs,rfl,ho,hall⟩:=qdM x;have z2:WData.weightAll ds<=1048576:=z;obtain⟨A,h1,h2⟩:=qbd ds _ hall p fun d hd=>Ybx (qbc hd) z2;have k:∀b∈A,b∈a::A:=fun b hb=>ρ _ hb;refine⟨a::A,π ..,fun b hb=>?_⟩;rcases Γ.mp hb with e|m
  ·rw[e];exact⟨vs,qij (by rw[Jx hall];exact Ybx (Yc4 ds) z2),fun u hu=>(h1 u hu).mono k,.inr ho⟩
  ·exact(h2 b m).mono k
 | .float _,_,_,p,_=>YbH (show false=true from p)
 | .dict _,_,_,p,_=>YbH (show false=true from p)
 | .bytearray _,_,_,p,_=>YbH (show false=true from p)
 | .set _,_,_,p,_=>YbH (show false=true from p)
 | .frozenset _,_,_,p,_=>YbH (show false=true from p)
 | .obj _ _,_,_,p,_=>YbH (show false=true from p)
theorem qbd:∀(ds:List WData)(vs:List Value),WellAll P h vs ds->JM ds=true->(∀d∈ds,d.weight<=1048576)->∃A:List Addr,(∀u∈vs,OkU A u)/\∀a∈A,ZE h A a
 |[],_,x,_,_=>by cases x;exact⟨[],fun u m=>absurd m (by simp),fun a m=>absurd m (by simp)⟩
 |d::ds,_,x,p,z=>by
  obtain⟨v,vs,rfl,x1,x2⟩:=qfi x;have q:plW d=true/\JM ds=true:=YdI.mp p;obtain⟨A,a1,a2⟩:=qlU d v x1 q.1 (z d (π ..));obtain⟨B,b1,b2⟩:=qbd ds vs x2 q.2 fun e he=>z e (ρ _ he);have kA:∀b∈A,b∈A++B:=fun b hb=>YbK.mpr (.inl hb);have kB:∀b∈B,b∈A++B:=fun b hb=>YbK.mpr (.inr hb);refine⟨A++B,fun u hu=>?_,fun b hb=>?_⟩
  ·rcases Γ.mp hu with e|m
   ·rw[e];exact a1.mono kA
   ·exact(b1 u m).mono kB
  ·rcases YbK.mp hb with m|m
   ·exact(a2 b m).mono kA
   ·exact(b2 b m).mono kB
end
end
noncomputable def qi1(o:Obj):Option HO:=match o.data with
 | .seq vs _=>if(o.cls==Value.type "list")=true then some (.frz o (.lst (vs.toList.map toV)))else some (.frz o (.tup (vs.toList.map toV)))
 |_=>none
noncomputable def QE(K:γ)(h:Heap)(A:List Addr):Hp:=fun b=>if b∈A then(if(K.lookup b).isNone=true then(h.get? b).bind qi1 else none)else none
def qdN(H:Hp):Prop:=∀b,H b=none\/∃o u,H b=some (.frz o u)
theorem qgC(vs:List Value):qi1 {cls:=.type "list",data:=.seq vs.toArray}=some (.frz {cls:=.type "list",data:=.seq vs.toArray} (.lst (vs.map toV))):=by show(if(Value.type "list"==Value.type "list")=true then some (HO.frz {cls:=.type "list",data:=.seq vs.toArray} (.lst (vs.toArray.toList.map toV)))else some (HO.frz {cls:=.type "list",data:=.seq vs.toArray} (.tup (vs.toArray.toList.map toV))))=_;rw[if_pos (beq_self_eq_true _)]
theorem qgD(vs:List Value):qi1 {cls:=.type "tuple",data:=.seq vs.toArray}=some (.frz {cls:=.type "tuple",data:=.seq vs.toArray} (.tup (vs.map toV))):=by show(if(Value.type "tuple"==Value.type "list")=true then some (HO.frz {cls:=.type "tuple",data:=.seq vs.toArray} (.lst (vs.toArray.toList.map toV)))else some (HO.frz {cls:=.type "tuple",data:=.seq vs.toArray} (.tup (vs.toArray.toList.map toV))))=_;rw[if_neg (by decide)]
section
variable{P:Program}{w:World}{K:γ}{h:Heap}{A:List Addr}
theorem qcO{b:Addr}{o:Obj}(hb:b∈A)(hk:K.lookup b=none)(e:h.get? b=some o):QE K h A b=qi1 o:=by unfold QE;rw[if_pos hb,hk,if_pos (show(none:Option Obj).isNone=true from rfl),e]<;>rfl
theorem qnl{b:Addr}{u:HO}(q:QE K h A b=some u):b∈A/\K.lookup b=none:=by
 unfold QE at q;by_cases hb:b∈A
 ·rw[if_pos hb]at q;cases hk:K.lookup b with
  |none=>exact⟨hb,rfl⟩
  |some o=>rw[hk,if_neg (by simp)]at q;cases q
 ·rw[if_neg hb]at q;cases q
theorem qcP(ar:∀a∈A,ZE h A a){b:Addr}{u:HO}(q:QE K h A b=some u):K.lookup b=none/\∃vs:List Value,vs.length<=Λ/\(∀u∈vs,OkU A u) /\
  ((h.get? b=some {cls:=.type "list",data:=.seq vs.toArray}/\u=.frz {cls:=.type "list",data:=.seq vs.toArray} (.lst (vs.map toV))) \/
   (h.get? b=some {cls:=.type "tuple",data:=.seq vs.toArray}/\u=.frz {cls:=.type "tuple",data:=.seq vs.toArray} (.tup (vs.map toV)))):=by
 obtain⟨hb,hk⟩:=qnl q;obtain⟨vs,h1,h2,h3⟩:=ar b hb;refine⟨hk,vs,h1,h2,?_⟩;rcases h3 with e|e
 ·rw[qcO hb hk e,qgC]at q;exact .inl ⟨e,(Option.some.inj q).symm⟩
 ·rw[qcO hb hk e,qgD]at q;exact .inr ⟨e,(Option.some.inj q).symm⟩
theorem qkc(ar:∀a∈A,ZE h A a):qdN (QE K h A):=fun b=>by
 cases q:QE K h A b with
 |none=>exact .inl rfl
 |some u=>
  obtain⟨_,vs,_,_,⟨_,e⟩|⟨_,e⟩⟩:=qcP ar q
  ·exact .inr ⟨_,_,by rw[e]⟩
  ·exact .inr ⟨_,_,by rw[e]⟩
theorem qnm(ar:∀a∈A,ZE h A a):HOk P w (QE K h A) h:=fun b u q=>by
 obtain⟨_,vs,h1,h2,⟨e,rfl⟩|⟨e,rfl⟩⟩:=qcP ar q
 ·exact⟨e,by rw[τ];exact h1,vs,_,Ji h2,e⟩
 ·exact⟨e,by rw[τ];exact h1,vs,Ji h2,_,e,rfl,_,rfl⟩
theorem qcQ{c c':Value}{vs us:List Value}(e:(some {cls:=c,data:=.seq vs.toArray}:Option Obj)=some {cls:=c',data:=.seq us.toArray}):c=c'/\vs=us:=by
 have e1:=Option.some.inj e;have e2:c=c':=congrArg Obj.cls e1;have e3:Data.seq vs.toArray=Data.seq us.toArray:=congrArg Obj.data e1;injection e3 with e4
 refine⟨e2,?_⟩;have e5:=congrArg YdU e4;simpa using e5
theorem qpK(KX:K.In h)(ar:∀a∈A,ZE h A a){a:Addr}{vs:List Value}(ha:a∈A)(e:h.get? a=some {cls:=.type "list",data:=.seq vs.toArray}):(∀u∈vs,OkU A u)/\SqL K (QE K h A) a (vs.map toV):=by
 obtain⟨us,h1,h2,h3⟩:=ar a ha
 have hu:us=vs:=by
  rcases h3 with q|q
  ·rw[e]at q;exact(qcQ q).2.symm
  ·rw[e]at q;exact absurd (Value.type.inj (qcQ q).1) (by decide)
 subst hu;refine⟨h2,?_⟩;cases hk:K.lookup a with
 |none=>exact .inl (.inr ⟨_,by rw[qcO ha hk e,qgC]⟩)
 |some o=>have e2:=KX a o hk;rw[e]at e2;obtain rfl:=Option.some.inj e2;exact .inr ⟨_,us.toArray,_,hk,rfl,rfl,rfl,by rw[ύ];exact h1,by simpa using Ji h2⟩
theorem qpL(KX:K.In h)(ar:∀a∈A,ZE h A a){a:Addr}{vs:List Value}(ha:a∈A)(e:h.get? a=some {cls:=.type "tuple",data:=.seq vs.toArray}):(∀u∈vs,OkU A u)/\SqT K (QE K h A) a (vs.map toV):=by
 obtain⟨us,h1,h2,h3⟩:=ar a ha
 have hu:us=vs:=by
  rcases h3 with q|q
  ·rw[e]at q;exact absurd (Value.type.inj (qcQ q).1) (by decide)
  ·rw[e]at q;exact(qcQ q).2.symm
 subst hu;refine⟨h2,?_⟩;cases hk:K.lookup a with
 |none=>exact .inl (.inr ⟨_,by rw[qcO ha hk e,qgD]⟩)
 |some o=>have e2:=KX a o hk;rw[e]at e2;obtain rfl:=Option.some.inj e2;exact .inr ⟨_,us.toArray,_,hk,rfl,rfl,by rw[ύ];exact h1,by simpa using Ji h2⟩
mutual
theorem qot{Pm:Params}(KX:K.In h)(ar:∀a∈A,ZE h A a):∀(d:WData)(v:Value),Well Pm h v d->plW d=true->OkU A v->Dw K (QE K h A) (toV v) d
 | .none,_,x,_,_=>by cases x;exact .non
 | .bool b,_,x,_,_=>by cases x;exact .bl b
 | .int i,_,x,_,_=>by cases x;exact .int i
 | .str s,_,x,_,_=>by cases x;exact .str s
 | .bytes b,_,x,_,_=>by cases x;have z:=Dw.byt (K:=K) (H:=QE K h A) b.toArray;exact z
 | .list ds,_,x,p,hu=>by obtain⟨a,vs,rfl,ho,hall⟩:=qfh x;obtain⟨h2,hs⟩:=qpK KX ar hu ho;exact .lst hs (qdO KX ar ds _ hall p h2)
 | .tuple ds,_,x,p,hu=>by obtain⟨a,vs,rfl,ho,hall⟩:=qdM x;obtain⟨h2,hs⟩:=qpL KX ar hu ho;exact .tup hs (qdO KX ar ds _ hall p h2)
 | .float _,_,_,p,_=>YbH (show false=true from p)
 | .dict _,_,_,p,_=>YbH (show false=true from p)
 | .bytearray _,_,_,p,_=>YbH (show false=true from p)
 | .set _,_,_,p,_=>YbH (show false=true from p)
 | .frozenset _,_,_,p,_=>YbH (show false=true from p)
 | .obj _ _,_,_,p,_=>YbH (show false=true from p)
theorem qdO{Pm:Params}(KX:K.In h)(ar:∀a∈A,ZE h A a):∀(ds:List WData)(vs:List Value),WellAll Pm h vs ds->JM ds=true->(∀u∈vs,OkU A u)->ZD K (QE K h A) (vs.map toV) ds
 |[],_,x,_,_=>by cases x;exact .nil
 |d::ds,_,x,p,hu=>by obtain⟨v,vs,rfl,x1,x2⟩:=qfi x;have q:plW d=true/\JM ds=true:=YdI.mp p;exact .cons (qot KX ar d v x1 q.1 (hu _ (π ..))) (qdO KX ar ds vs x2 q.2 fun u m=>hu u (ρ _ m))
end
end
theorem qkd{P:Program}{w:World}{K:γ}{mg mb:Str->Option Value}{CX:CXT}{k:Nat}{fa:Addr}{fd:FuncData}{ps:List Str}{sp:Sp}{s₁:Shared}{vals:List Value}{ds:List WData}{R:PySem.W.WRecords}{cl:Str->Option Addr}{d0:WData}
  (KX:K.In s₁.heap) (hns:s₁.heap.Ns η mg) (hb:s₁.heap.Ns builtinsNs mb) (hbb:∀x:Str,x≠"__name__"->mb x=bootBuiltins x) (hlim:s₁.heap.NoLimit) (hg:s₁.gens = #[])
  (hwl:WellAll w.params s₁.heap vals ds) (hpl:JM ds=true) (hwt:∀d∈ds,d.weight<=1048576) (hr:qI k callerA)
  (F:∀base:Heap,K.In base->base.Ns η mg->qw P w K mg base CX k fa fd ps sp) (hbind:∀(s:Shared)(us:List Value),us.length=ps.length->BindsTo s fd ⟨us,[]⟩ (ps.zip us)) (hlen:ds.length=ps.length)
  (hsp:∀(H:Hp)(xs:List V),qdN H->ZD K H xs ds->sp xs H (fun v H'=>Dw K H' v d0) fun _ _ _=>False)
  (hCX:∀H e s',CX [] H s₁ (fun _ _ _=>False) e s'->False):
  codeAny (model P w) callerA (.call (.ref fa) ⟨vals,[]⟩) (fun r s'=>∃u as,r=.ok (.ret u)/\ReadsW R cl s'.heap u d0 as/\OldK s₁.heap s'.heap/\s'.os=s₁.os/\AllBare s'.gens) s₁:=by
 obtain⟨A,ho,ar⟩:=qbd ds vals hwl hpl hwt;have hO:qdN (QE K s₁.heap A):=qkc ar;have hok:HOk P w (QE K s₁.heap A) s₁.heap:=qnm ar;have hS:=qdO KX ar ds vals hwl hpl ho;have hV:=Ji ho;have hK:∀b u,QE K s₁.heap A b=some u->K.lookup b=none:=fun b u q=>(qcP ar q).1
 have noA:∀{b:Addr}{o:Obj}{es:Array DictEntry}{ep:Nat},s₁.heap.get? b=some o->o.data=.dict es ep->QE K s₁.heap A b=none:=fun{b o es ep} e d=>by
  cases q:QE K s₁.heap A b with
  |none=>rfl
  |some u=>
   obtain⟨_,vs,_,_,⟨e2,_⟩|⟨e2,_⟩⟩:=qcP ar q
   ·rw[e2]at e;cases e;have d':Data.seq vs.toArray _=Data.dict es ep:=d;cases d'
   ·rw[e2]at e;cases e;have d':Data.seq vs.toArray _=Data.dict es ep:=d;cases d'
 generalize QE K s₁.heap A=H at hO hok hS hK noA;have base_of:∀{b:Addr}{o:Obj},s₁.heap.get? b=some o->H b=none->(qa0 s₁.heap H).get? b=some o:=fun e n=>qls e n;have nsK:∀{b:Addr}{m:Str->Option Value},s₁.heap.Ns b m->(qa0 s₁.heap H).Ns b m:=fun{b m} ⟨o,es,ep,e,d,r⟩=>⟨o,es,ep,base_of e (noA e d),d,r⟩
 have nK:∀b o,K.lookup b=some o->H b=none:=fun b o e=>by
  cases q:H b with
  |none=>rfl
  |some u=>rw[hK b u q]at e;cases e
 have hKb:K.In (qa0 s₁.heap H):=fun b o e=>base_of (KX b o e) (nK b o e);have hM:Mod K mg (qa0 s₁.heap H):=⟨hKb,nsK hns,⟨mb,nsK hb,hbb⟩,let⟨mc,h1,h2⟩:=hlim;⟨mc,nsK h1,h2⟩⟩;have e0:qa6 P w K mg (qa0 s₁.heap H) callerA [] s₁ H:=⟨rfl,hM,fun b o e=>qmY e,YcT (qjQ _ _),trivial,fun b hb=>absurd (show b∈([]:List Addr)from hb) (by simp),hok,.of_eq hg⟩;have hl:vals.length=ps.length:=by rw[Jx hwl];exact hlen
 refine codeAny_mono ((F _ hKb (nsK hns)).run callerA [] s₁ H ⟨vals,[]⟩ vals (vals.map toV) _ _ hr e0 (hbind s₁ vals hl) hV (hsp H _ hO hS)) fun r s' x=>?_;cases r with
 |error e=>exact(hCX H e s' x).elim
 |ok fl=>
  cases fl with
  |next=>exact False.elim x
  |brk=>exact False.elim x
  |cont=>exact False.elim x
  |ret u=>
   obtain⟨v,H',os,bare,un,hok',r',q⟩:=x
   have kept:∀b o,s₁.heap.get? b=some o->s'.heap.get? b=some o:=fun b o e=>by
    cases q2:H b with
    |none=>exact un.keep b o e q2 (by intro z;exact absurd (show b∈([]:List Addr)from z) (by simp)) (by simp)
    |some u2=>
     rcases hO b with z|⟨ob,u3,z⟩
     ·rw[q2]at z;cases z
     ·have z2:=un.frzs b ob _ z;obtain⟨e1,_⟩:=hok b _ z;obtain⟨e2,_⟩:=hok' b _ z2;rw[e]at e1;cases e1;exact e2
   have KX':K.In s'.heap:=fun b o e=>kept b o (KX b o e);obtain⟨as,hrd⟩:=Dw.reads (R:=R) (cl:=cl) hok' KX' d0 v u q r';exact⟨u,as,rfl,hrd,OldK.of_keep kept,os,bare⟩
theorem qeq{ds:List WData}(h:WData.layableAll ds=true):∀d∈ds,d.weight<=1048576:=fun d hd=>(PySem.W.layableW_iff.mp (YcH.mp h d hd)).2.2
theorem qdP:∀(cs:List Codec)(a:Codec.denoteAll cs),(Codec.encAll cs a).length=cs.length
 |[],_=>rfl
 |c::cs,a=>by show(Codec.encAll cs a.2).length+1=cs.length+1;rw[qdP cs a.2]
theorem qke{r:OpenSpec}{k:Nat}{q:Program}{loose:List Str}{XP:(Str->Option Value)->Heap->Prop}{YP:World->Heap->Prop}{d:DefRec}{K:Params->γ}{CX:World->CXT}{ps:List Str}{sp:World->Sp}
  (hwell:r.wellSaid=true) (hdf:d.params.defaults=[]) (hlen:r.args.length=ps.length) (hr:qI k callerA)
  (hY:∀(w:World)(h:Heap),YP w h->(K w.params).In h)
  (F:∀(w:World)(mg:Str->Option Value)(fa:Addr)(h:Heap),YP w h->(K w.params).In h->h.Ns η mg->mg d.name=some (.ref fa) ->
   ∃fd:FuncData,(∀(s:Shared)(us:List Value),us.length=ps.length->BindsTo s fd ⟨us,[]⟩ (ps.zip us)) /\
    ∀base:Heap,(K w.params).In base->base.Ns η mg->qw r.prog w (K w.params) mg base (CX w) k fa fd ps (sp w))
  (hsp:∀(w:World)(H:Hp)(xs:List V)(a:Codec.denoteAll r.args),qdN H->Codec.withinAll r.args a=true->Codec.app r.args r.asked a=true->ZD (K w.params) H xs (Codec.encAll r.args a) ->
   sp w xs H (fun v H'=>Dw (K w.params) H' v (r.ret.enc (Codec.app r.args r.f a))) fun _ _ _=>False)
  (hCX:∀(w:World)(H:Hp)(s:Shared)(e:Value)(s':Shared),CX w [] H s (fun _ _ _=>False) e s'->False):
  PySem.W.WalkOS q loose XP YP r d [] (fun f vs=>PySem.call f vs):=by
 intro w s_0 s₁ mg mb G Y fa o pm cd doc dV kV ho hd hcd hD hmg hg args vals as hpre hlay hrd hwl hlo;obtain⟨a,e1,e2⟩:=PySem.W.os_pre_some hpre;obtain⟨e3,hwi⟩:=Codec.encAll_of_decAll r.args args a e1;subst e3;have KX:=hY w _ Y;obtain⟨fd,hb,hF⟩:=F w mg fa _ Y KX G.T.g hmg
 refine PySem.W.enter_call (codeAny_mono (qkd (R:=[]) (cl:=classAt s_0.heap) (d0:=r.ret.enc (Codec.app r.args r.f a)) KX G.T.g G.T.b G.T.builtins G.T.nolimit hg hwl (qfg _ _) (qeq hlay) hr hF hb (by rw[qdP];exact hlen)
  (fun H xs hO hS=>hsp w H xs a hO hwi e2 hS) fun H e s'=>hCX w H s₁ e s') fun r' s' hq=>?_)
 obtain⟨u,as',rfl,h1,h2,h3,h4⟩:=hq;exact⟨.inl ⟨u,_,as',rfl,fun _=>rfl,h1,(OpenSpec.post_iff hwell hwi _ _).mpr rfl,fun z=>YbH (show false=true from z)⟩,h2,h3,h4⟩
theorem qi2{r:OpenSpec}{k:Nat}{q:Program}{loose:List Str}{XP:(Str->Option Value)->Heap->Prop}{YP:World->Heap->Prop}{d:DefRec}{K:Params->γ}{CX:CXT}{ps:List Str}{sp:γ->Sp}
  (hwell:r.wellSaid=true) (hdf:d.params.defaults=[]) (hlen:r.args.length=ps.length) (hr:qI k callerA)
  (hY:∀(w:World)(h:Heap),YP w h->(K w.params).In h)
  (F:∀(w:World)(mg:Str->Option Value)(fa:Addr)(h:Heap),YP w h->(K w.params).In h->h.Ns η mg->mg d.name=some (.ref fa) ->
   ∃fd:FuncData,(∀(s:Shared)(us:List Value),us.length=ps.length->BindsTo s fd ⟨us,[]⟩ (ps.zip us)) /\
    ∀base:Heap,(K w.params).In base->base.Ns η mg->qw r.prog w (K w.params) mg base CX k fa fd ps (sp (K w.params)))
  (hsp:∀(K:γ)(H:Hp)(xs:List V)(a:Codec.denoteAll r.args),qdN H->Codec.withinAll r.args a=true->Codec.app r.args r.asked a=true->ZD K H xs (Codec.encAll r.args a) ->
   sp K xs H (fun v H'=>Dw K H' v (r.ret.enc (Codec.app r.args r.f a))) fun _ _ _=>False)
  (hCX:∀(H:Hp)(s:Shared)(e:Value)(s':Shared),CX [] H s (fun _ _ _=>False) e s'->False):
  PySem.W.WalkOS q loose XP YP r d [] (fun f vs=>PySem.call f vs) :=
 qke (K:=K) (CX:=fun _=>CX) (sp:=fun w=>sp (K w.params)) hwell hdf hlen hr hY F (fun w H xs a h1 h2 h3 h4=>hsp (K w.params) H xs a h1 h2 h3 h4) fun _ H s e s'=>hCX H s e s'
end L2
end
end
section
set_option autoImplicit false
namespace RM
open Vastoa
noncomputable def kd:Tok->Tok
 | .name _=>.name []
 | .num _=>.num []
 | .piece _=>.piece []
 |t=>t
noncomputable def held:Tok->Text
 | .name x=>x
 | .num x=>x
 | .piece x=>x
 | .word x=>x
 |_=>[]
inductive Part where
 |EXPR|FORM|FUNCTION|FIELDS|PARAMS|GIVEN|MPARAMS|BINDS|BOUND|OR|MOR|AND|MAND|NOT|CMP|MCMP|UPD|MUPD|JOIN|MJOIN
 |SUM|MSUM|PROD|MPROD|NEG|APP|ARGS|ARG|SEL|DOTS|MDOTS|DFLT|ATOM|PIECES|LIST|MLIST
deriving DecidableEq
inductive Act where
 |begin|take|label|fresh|enter|leave
 |fin (k:Kind)
deriving DecidableEq
inductive Sym where
 |p (x:Part)
 |t (k:Tok)
 |a (x:Act)
deriving DecidableEq
noncomputable abbrev jm:Tok:=.name []
noncomputable abbrev qgE:Tok:=.num []
noncomputable abbrev J9:Tok:=.piece []
noncomputable abbrev qf7:Tok:=.sign [46,46]
open Part Act Sym in
noncomputable def qH(x:Part)(k:Tok):List Sym:=match x with
 |EXPR=>[a enter,p FORM,a leave]
 |FORM=>
  if k=.word wFn then [t (.word wFn),p FUNCTION]
  else if k=.word wLet then [t (.word wLet),a begin,t jm,p BOUND,p BINDS,t (.word wIn),p EXPR,a (fin .letIn)]
  else if k=.word wIf then [t (.word wIf),a begin,p EXPR,t (.word wThen),p EXPR,t (.word wElse),p EXPR,a (fin .cond)]
  else if k=.word wMust then [t (.word wMust),a begin,p EXPR,t sSemi,p EXPR,a (fin .must)]
  else [p OR]
 |FUNCTION=>
  if k=jm then [t jm,a begin,a label,t sColon,p EXPR,a (fin .fn)]
  else [t sBrace,a begin,p FIELDS]
 |FIELDS=>if k=sUnbrace then [t sUnbrace,t sColon,p EXPR,a (fin .fields)]else [p PARAMS]
 |PARAMS=>
  if k=qf7 then [t qf7,t sUnbrace,t sColon,p EXPR,a (fin .openFields)]
  else [t jm,a fresh,a begin,a label,p GIVEN,a (fin .param),p MPARAMS]
 |GIVEN=>if k=sAsk then [t sAsk,p EXPR]else []
 |MPARAMS=>if k=sComma then [t sComma,p PARAMS]else [t sUnbrace,t sColon,p EXPR,a (fin .fields)]
 |BINDS=>if k=jm then [t jm,p BOUND,p BINDS]else []
 |BOUND=>[a fresh,a label,t sIs,p EXPR,t sSemi]
 |OR=>[p AND,p MOR]
 |MOR=>if k=.word wOr then [t (.word wOr),a take,p AND,a (fin (.op .or)),p MOR]else []
 |AND=>[p NOT,p MAND]
 |MAND=>if k=.word wAnd then [t (.word wAnd),a take,p NOT,a (fin (.op .and)),p MAND]else []
 |NOT=>if k=.word wNot then [t (.word wNot),a begin,p NOT,a (fin .not)]else [p CMP]
 |CMP=>[p UPD,p MCMP]
 |MCMP=>
  if k=.sign [61,61]then [t (.sign [61,61]),a take,p UPD,a (fin (.op .eq))]
  else if k=.sign [33,61]then [t (.sign [33,61]),a take,p UPD,a (fin (.op .ne))]
  else if k=.sign [60]then [t (.sign [60]),a take,p UPD,a (fin (.op .lt))]
  else if k=.sign [60,61]then [t (.sign [60,61]),a take,p UPD,a (fin (.op .le))]
  else if k=.word wHas then [t (.word wHas),a take,t jm,a label,a (fin .has)]
  else []
 |UPD=>[p JOIN,p MUPD]
 |MUPD=>if k=.sign [47,47]then [t (.sign [47,47]),a take,p UPD,a (fin (.op .upd))]else []
 |JOIN=>[p SUM,p MJOIN]
 |MJOIN=>if k=.sign [43,43]then [t (.sign [43,43]),a take,p JOIN,a (fin (.op .join))]else []
 |SUM=>[p PROD,p MSUM]
 |MSUM=>
  if k=.sign [43]then [t (.sign [43]),a take,p PROD,a (fin (.op .add)),p MSUM]
  else if k=sMinus then [t sMinus,a take,p PROD,a (fin (.op .sub)),p MSUM]
  else []
 |PROD=>[p NEG,p MPROD]
 |MPROD=>if k=.sign [42]then [t (.sign [42]),a take,p NEG,a (fin (.op .mul)),p MPROD]else []
 |NEG=>if k=sMinus then [t sMinus,a begin,p NEG,a (fin .neg)]else [p APP]
 |APP=>[p SEL,p ARGS]
 |ARGS=>if begins k then [p ARG,p ARGS]else []
 |ARG=>[a take,p SEL,a (fin .app)]
 |SEL=>[p ATOM,p DOTS]
 |DOTS=>if k=sDot then [t sDot,a take,t jm,a label,p MDOTS,p DFLT,a (fin .get)]else []
 |MDOTS=>if k=sDot then [t sDot,t jm,a label,p MDOTS]else []
 |DFLT=>if k=sAsk then [t sAsk,p ATOM]else []
 |ATOM=>
  if k=jm then [t jm,a begin,a label,a (fin .name)]
  else if k=qgE then [t qgE,a begin,a label,a (fin .num)]
  else if k=.word wTrue then [t (.word wTrue),a begin,a (fin .yes)]
  else if k=.word wFalse then [t (.word wFalse),a begin,a (fin .no)]
  else if k=.word wNone then [t (.word wNone),a begin,a (fin .none)]
  else if k=.quote then [t .quote,a begin,p PIECES,t .unquote,a (fin .text)]
  else if k=.sign [40]then [t (.sign [40]),p EXPR,t sClose]
  else if k=.sign [91]then [t (.sign [91]),a begin,p LIST,a (fin .list)]
  else if k=sBrace then [t sBrace,a begin,p BINDS,t sUnbrace,a (fin .record)]
  else [t (.word wRec),t sBrace,a begin,p BINDS,t sUnbrace,a (fin .recur)]
 |PIECES=>
  if k=J9 then [t J9,a begin,a label,a (fin .piece),p PIECES]
  else if k=.hole then [t .hole,p EXPR,t .unhole,p PIECES]
  else []
 |LIST=>if k=sListClose then [t sListClose]else [p EXPR,p MLIST,t sListClose]
 |MLIST=>if k=sComma then [t sComma,p EXPR,p MLIST]else []
structure Bg where
 first:Nat
 labels:List Text
 names:List Text
structure MS where
 ts:Marks
 pv:Mark
 lv:Nat
 W:List Sym
 B:List Tree
 G:List Bg
noncomputable def qbe(x:Act)(ts:Marks)(pv:Mark)(lv:Nat)(W:List Sym)(B:List Tree)(G:List Bg):Option (Except Fault MS):=match x with
 | .begin=>some (.ok ⟨ts,pv,lv,W,B,⟨B.length,[],[]⟩::G⟩)
 | .take=>if B.length=0 then none else some (.ok ⟨ts,pv,lv,W,B,⟨B.length - 1,[],[]⟩::G⟩)
 | .label=>match G with
  |[]=>none
  |g::r=>some (.ok ⟨ts,pv,lv,W,B,⟨g.first,g.labels++[held pv.tok],g.names⟩::r⟩)
 | .fresh=>match G with
  |[]=>none
  |g::r=>if held pv.tok∈g.names then some (.error ⟨5,pv.place⟩)else some (.ok ⟨ts,pv,lv,W,B,⟨g.first,g.labels,g.names++[held pv.tok]⟩::r⟩)
 | .enter=>match ts with
  |[]=>none
  |m::_=>if lv=40 then some (.error ⟨4,m.place⟩)else some (.ok ⟨ts,pv,lv+1,W,B,G⟩)
 | .leave=>if lv=0 then none else some (.ok ⟨ts,pv,lv - 1,W,B,G⟩)
 | .fin k=>match G with
  |[]=>none
  |g::r=>if g.first<=B.length then some (.ok ⟨ts,pv,lv,W,B.take g.first++[.node k g.labels (B.drop g.first)],r⟩)else none
noncomputable def step(s:MS):Option (Except Fault MS):=match s.W with
 |[]=>none
 | .p x::W=>match s.ts with
  |[]=>none
  |m::_=>some (.ok {s with W:=qH x (kd m.tok)++W})
 | .t k::W=>match s.ts with
  |[]=>none
  |m::r=>if kd m.tok=k then some (.ok ⟨r,m,s.lv,W,s.B,s.G⟩)else some (.error ⟨3,m.place⟩)
 | .a x::W=>qbe x s.ts s.pv s.lv W s.B s.G
inductive Run(Q:MS->Prop)(E:Fault->Prop):MS->Prop
 |done {s:MS}:Q s->Run Q E s
 |next {s s':MS}:step s=some (.ok s')->Run Q E s'->Run Q E s
 |fail {s:MS} {x:Fault}:step s=some (.error x)->E x->Run Q E s
inductive qer(Q:MS->Prop)(E:Fault->Prop):Nat->MS->Prop
 |done {s:MS}:Q s->qer Q E 0 s
 |next {n:Nat} {s s':MS}:step s=some (.ok s')->qer Q E n s'->qer Q E (n+1) s
 |fail {n:Nat} {s:MS} {x:Fault}:step s=some (.error x)->E x->qer Q E (n+1) s
theorem Run.count {Q:MS->Prop} {E:Fault->Prop} {s:MS} (h:Run Q E s):∃n,qer Q E n s:=by
 induction h with
 |done q=>exact⟨0,.done q⟩
 |next e _ ih=>obtain⟨n,h⟩:=ih;exact⟨n+1,.next e h⟩
 |fail e q=>exact⟨1,.fail e q⟩
mutual
noncomputable def good:Tree->Bool
 | .node k ls l=>qE l&&(match k with
  | .piece=>ls.length==1&&l.isEmpty
  | .num=>ls.length==1&&l.isEmpty
  | .yes=>ls.isEmpty&&l.isEmpty
  | .no=>ls.isEmpty&&l.isEmpty
  | .none=>ls.isEmpty&&l.isEmpty
  | .name=>ls.length==1&&l.isEmpty
  | .text=>ls.isEmpty
  | .list=>ls.isEmpty
  | .record=>ls.length==l.length
  | .recur=>ls.length==l.length
  | .get=>l.length==1||l.length==2
  | .app=>ls.isEmpty&&l.length==2
  | .neg=>ls.isEmpty&&l.length==1
  | .not=>ls.isEmpty&&l.length==1
  | .has=>ls.length==1&&l.length==1
  | .fn=>ls.length==1&&l.length==1
  | .fields=>ls.isEmpty&&!l.isEmpty
  | .openFields=>ls.isEmpty&&!l.isEmpty
  | .param=>ls.length==1&&(l.length==0||l.length==1)
  | .letIn=>ls.length+1==l.length
  | .cond=>ls.isEmpty&&l.length==3
  | .must=>ls.isEmpty&&l.length==2
  | .op _=>ls.isEmpty&&l.length==2)
noncomputable def qE:List Tree->Bool
 |[]=>true
 |t::r=>good t&&qE r
end
theorem Jj:∀(a b:List Tree),qE (a++b)=(qE a&&qE b)
 |[],b=>by simp[qE]
 |t::r,b=>by simp[qE,Jj r b,Bool.and_assoc]
end RM
end
section
set_option autoImplicit false
namespace RM
open Vastoa
def Ends(ts:Marks):Prop:=∃(pre:Marks)(q:Nat),ts=pre++[⟨q,.fin⟩]/\∀m∈pre,m.tok≠.fin
theorem Ends.cons {ts:Marks} (h:Ends ts):∃m r,ts=m::r/\(m.tok≠.fin->Ends r)/\(m.tok=.fin->r=[]):=by
 obtain⟨pre,q,rfl,hp⟩:=h;cases pre with
 |nil=>exact⟨⟨q,.fin⟩,[],rfl,fun h=>absurd rfl h,fun _=>rfl⟩
 |cons m r=>exact⟨m,r++[⟨q,.fin⟩],rfl,fun _=>⟨r,q,rfl,fun x hx=>hp x (ρ _ hx)⟩,fun h=>absurd h (hp m π)⟩
noncomputable def je:Tok->Bool
 | .word _=>true
 | .sign _=>true
 | .quote=>true
 | .unquote=>true
 | .hole=>true
 | .unhole=>true
 |_=>false
theorem qx{k t:Tok}(h:je k=true):kd t=k↔t=k:=by cases t<;>cases k<;>simp_all [kd,je]
theorem Zw{k:Tok}(h:je k=true):k≠.fin:=by rintro rfl;cases h
theorem qcR{t:Tok}:kd t=jm↔∃x,t=.name x:=by cases t<;>simp[kd,jm]
theorem qou{t:Tok}:kd t=qgE↔∃x,t=.num x:=by cases t<;>simp[kd,qgE]
theorem qlV{t:Tok}:kd t=J9↔∃x,t=.piece x:=by cases t<;>simp[kd,J9]
theorem qkf{t:Tok}:kd t=.fin↔t=.fin:=by cases t<;>simp[kd]
theorem qkg(t:Tok):begins (kd t)=begins t:=by cases t<;>rfl
section
variable{Q:MS->Prop}{E:Fault->Prop}{ts:Marks}{pv:Mark}{lv:Nat}{W:List Sym}{B:List Tree}{G:List Bg}
theorem zQ{x:Part}(he:Ends ts)(h:Run Q E ⟨ts,pv,lv,qH x (kd (next ts))++W,B,G⟩):Run Q E ⟨ts,pv,lv,.p x::W,B,G⟩:=by obtain⟨m,r,rfl,_⟩:=he.cons;exact .next rfl h
theorem qdQ{k:Tok}(he:Ends ts)(hk:k≠.fin)
  (h:∀m,kd (next ts)=k->m.tok=next ts->m.place=here ts->Ends (ts.drop 1)->(ts.drop 1).length<ts.length->Run Q E ⟨ts.drop 1,m,lv,W,B,G⟩)
  (hx:kd (next ts)≠k->E ⟨3,here ts⟩):Run Q E ⟨ts,pv,lv,.t k::W,B,G⟩:=by
 obtain⟨m,r,rfl,he',_⟩:=he.cons;by_cases e:kd m.tok=k
 ·have hm:m.tok≠.fin:=fun z=>hk (by rw[<- e,z];rfl);refine .next (s':=⟨r,m,lv,W,B,G⟩) ?_ (h m e rfl rfl (he' hm) (by simp));show(if kd m.tok=k then _ else _)=_;rw[if_pos e]
 ·refine .fail (x:=⟨3,m.place⟩) ?_ (hx e);show(if kd m.tok=k then _ else _)=_;rw[if_neg e]
theorem zi{k:Tok}(he:Ends ts)(hk:k≠.fin)(e:kd (next ts)=k)
  (h:∀m,m.tok=next ts->m.place=here ts->Ends (ts.drop 1)->(ts.drop 1).length<ts.length->Run Q E ⟨ts.drop 1,m,lv,W,B,G⟩):Run Q E ⟨ts,pv,lv,.t k::W,B,G⟩ :=
 qdQ he hk (fun m _=>h m) fun z=>absurd e z
theorem zI(h:Run Q E ⟨ts,pv,lv,W,B,⟨B.length,[],[]⟩::G⟩):Run Q E ⟨ts,pv,lv,.a .begin::W,B,G⟩:=.next rfl h
theorem Jk{t:Tree}(h:Run Q E ⟨ts,pv,lv,W,B++[t],⟨B.length,[],[]⟩::G⟩):Run Q E ⟨ts,pv,lv,.a .take::W,B++[t],G⟩:=by refine .next (s':=⟨ts,pv,lv,W,B++[t],⟨B.length,[],[]⟩::G⟩) ?_ h;show(if(B++[t]).length=0 then none else some (Except.ok (⟨ts,pv,lv,W,B++[t],⟨(B++[t]).length - 1,[],[]⟩::G⟩:MS)))=_;rw[if_neg (by simp)];simp
theorem Qm{g:Bg}(h:Run Q E ⟨ts,pv,lv,W,B,⟨g.first,g.labels++[held pv.tok],g.names⟩::G⟩):Run Q E ⟨ts,pv,lv,.a .label::W,B,g::G⟩:=.next rfl h
theorem qfj{g:Bg}(h:held pv.tok∉g.names->Run Q E ⟨ts,pv,lv,W,B,⟨g.first,g.labels,g.names++[held pv.tok]⟩::G⟩)(hx:held pv.tok∈g.names->E ⟨5,pv.place⟩):
  Run Q E ⟨ts,pv,lv,.a .fresh::W,B,g::G⟩:=by
 by_cases e:held pv.tok∈g.names
 ·refine .fail (x:=⟨5,pv.place⟩) ?_ (hx e);show(if held pv.tok∈g.names then _ else _)=_;rw[if_pos e]
 ·refine .next (s':=⟨ts,pv,lv,W,B,⟨g.first,g.labels,g.names++[held pv.tok]⟩::G⟩) ?_ (h e);show(if held pv.tok∈g.names then _ else _)=_;rw[if_neg e]
theorem qfk(he:Ends ts)(h:lv≠40->Run Q E ⟨ts,pv,lv+1,W,B,G⟩)(hx:lv=40->E ⟨4,here ts⟩):Run Q E ⟨ts,pv,lv,.a .enter::W,B,G⟩:=by
 obtain⟨m,r,rfl,_⟩:=he.cons;by_cases e:lv=40
 ·refine .fail (x:=⟨4,m.place⟩) ?_ (hx e);show(if lv=40 then _ else _)=_;rw[if_pos e]
 ·refine .next (s':=⟨m::r,pv,lv+1,W,B,G⟩) ?_ (h e);show(if lv=40 then _ else _)=_;rw[if_neg e]
theorem qkh(h:Run Q E ⟨ts,pv,lv,W,B,G⟩):Run Q E ⟨ts,pv,lv+1,.a .leave::W,B,G⟩:=by refine .next (s':=⟨ts,pv,lv,W,B,G⟩) ?_ h;show(if lv+1=0 then none else _)=_;rw[if_neg (by omega)];rfl
theorem z0{k:Kind}{ls ns:List Text}{l:List Tree}(h:Run Q E ⟨ts,pv,lv,W,B++[.node k ls l],G⟩):Run Q E ⟨ts,pv,lv,.a (.fin k)::W,B++l,⟨B.length,ls,ns⟩::G⟩:=by refine .next (s':=⟨ts,pv,lv,W,B++[.node k ls l],G⟩) ?_ h;show(if B.length<=(B++l).length then _ else _)=_;rw[if_pos (by simp)];simp
theorem ZL{k:Kind}{ls ns:List Text}(h:Run Q E ⟨ts,pv,lv,W,B++[.node k ls []],G⟩):Run Q E ⟨ts,pv,lv,.a (.fin k)::W,B,⟨B.length,ls,ns⟩::G⟩:=by
 have:=z0 (k:=k) (ls:=ls) (ns:=ns) (l:=[]) h
 rwa [Ybs]at this
end
def zk(x:Part)(lv:Nat)(f:Read Tree):Prop :=
 ∀(Q:MS->Prop)(E:Fault->Prop)(ts:Marks)(pv:Mark)(W:List Sym)(B:List Tree)(G:List Bg),Ends ts ->
  (∀e ts' pv',f ts=.ok (e,ts')->Ends ts'->ts'.length<ts.length->good e=true->Run Q E ⟨ts',pv',lv,W,B++[e],G⟩) ->
  (∀y,f ts=.error y->E y)->Run Q E ⟨ts,pv,lv,.p x::W,B,G⟩
def qlW(x:Part)(lv:Nat)(f:Nat->Tree->Read Tree):Prop :=
 ∀(n:Nat)(Q:MS->Prop)(E:Fault->Prop)(a:Tree)(ts:Marks)(pv:Mark)(W:List Sym)(B:List Tree)(G:List Bg),Ends ts->ts.length<n->good a=true ->
  (∀e ts' pv',f n a ts=.ok (e,ts')->Ends ts'->ts'.length<=ts.length->good e=true->Run Q E ⟨ts',pv',lv,W,B++[e],G⟩) ->
  (∀y,f n a ts=.error y->E y)->Run Q E ⟨ts,pv,lv,.p x::W,B++[a],G⟩
theorem qes:∀(ops:List (Tok×Op)),(∀p∈ops,je p.1=true)->∀(z:Tok),(ops.find? fun p=>decide (p.1=kd z))=ops.find? fun p=>decide (p.1=z)
 |[],_,_=>rfl
 |p::r,hb,z=>by have hp:=hb p π;have e1:decide (p.1=kd z)=decide (p.1=z):=decide_eq_decide.mpr ⟨fun q=>((qx hp).mp q.symm).symm,fun q=>((qx hp).mpr q.symm).symm⟩;rw[Yci,Yci,e1,qes r (fun q hq=>hb q (ρ _ hq)) z]
theorem qbf{x y:Part}{lv:Nat}{ops:List (Tok×Op)}{under:Read Tree}(hy:zk y lv under)(hb:∀p∈ops,je p.1=true)
  (hc:∀k,qH x k=match ops.find? fun p=>p.1=k with
   |some p=>[.t p.1,.a .take,.p y,.a (.fin (.op p.2)),.p x]
   | none=>[]):qlW x lv (leftMore ops under):=by
 intro n
 induction n with
 |zero=>intro Q E a ts pv W B G _ h;exact absurd h (YbX _)
 |succ n ih=>
  intro Q E a ts pv W B G he hn ga hok hx;refine zQ he ?_;rw[hc];have ek:=qes ops hb (next ts);rw[ek];cases ef:ops.find? fun p=>decide (p.1=next ts)with
  |none=>refine hok a ts pv ?_ he (ω _) ga;show(match ops.find? fun p=>decide (p.1=next ts)with|some p=>_|none=>_)=_;rw[ef]
  |some p=>
   have hp:=hb p (Ydm ef);have e1:p.1=next ts:=of_decide_eq_true (List.find?_some (p:=fun p:Tok×Op=>decide (p.1=next ts)) ef)
   have ev:leftMore ops under (n+1) a ts=(under (ts.drop 1)).bind fun b=>leftMore ops under n (.node (.op p.2) [] [a,b.1]) b.2:=by show(match ops.find? fun p=>decide (p.1=next ts)with|some p=>_|none=>_)=_;rw[ef]
   rw[ev]at hok hx;refine zi he (Zw hp) ((qx hp).mpr e1.symm) fun m _ _ he1 hl=>?_;refine Jk (hy _ _ _ _ _ _ _ he1 (fun b ts2 pv2 eb he2 hl2 gb=>?_) fun z ez=>hx z (by rw[ez];rfl));rw[eb]at hok hx;have e3:B++[a]++[b]=B++[a,b]:=by simp
   rw[e3];refine z0 (ih _ _ _ _ _ _ _ _ he2 (by omega) (by simp[good,qE,ga,gb]) (fun e ts' pv' h1 h2 h3 h4=>hok e ts' pv' h1 h2 (by omega) h4) fun z ez=>hx z ez)
theorem qbg{x y w:Part}{lv:Nat}{ops:List (Tok×Op)}{under:Read Tree}(hy:zk y lv under)(hm:qlW w lv (leftMore ops under))(hc:∀k,qH x k=[.p y,.p w]):zk x lv (left ops under):=by intro Q E ts pv W B G he hok hx;refine zQ he ?_;rw[hc];have ev:left ops under ts=(under ts).bind fun a=>leftMore ops under (a.2.length+1) a.1 a.2:=rfl;rw[ev]at hok hx;refine hy _ _ _ _ _ _ _ he (fun a ts1 pv1 ea he1 hl1 ga=>?_) fun z ez=>hx z (by rw[ez];rfl);rw[ea]at hok hx;exact hm _ _ _ _ _ _ _ _ _ he1 (YbE _) ga (fun e ts' pv' h1 h2 h3 h4=>hok e ts' pv' h1 h2 (by omega) h4) fun z ez=>hx z ez
theorem qfl{x y w:Part}{lv:Nat}{t:Tok}{o:Op}{under:Read Tree}(hy:zk y lv under)(ht:je t=true)(hc:∀k,qH x k=[.p y,.p w])
  (hw:∀k,qH w k=if k=t then [.t t,.a .take,.p x,.a (.fin (.op o))]else []):zk x lv (fun ts=>right t o under (ts.length+1) ts):=by
 have all:∀(n:Nat)(Q:MS->Prop)(E:Fault->Prop)(ts:Marks)(pv:Mark)(W:List Sym)(B:List Tree)(G:List Bg),Ends ts->ts.length<n ->
  (∀e ts' pv',right t o under n ts=.ok (e,ts')->Ends ts'->ts'.length<ts.length->good e=true->Run Q E ⟨ts',pv',lv,W,B++[e],G⟩) ->
  (∀y,right t o under n ts=.error y->E y)->Run Q E ⟨ts,pv,lv,.p x::W,B,G⟩:=by
  intro n
  induction n with
  |zero=>intro Q E ts pv W B G _ h;exact absurd h (YbX _)
  |succ n ih=>
   intro Q E ts pv W B G he hn hok hx;refine zQ he ?_;rw[hc];have ev:right t o under (n+1) ts=(under ts).bind fun a=>if next a.2=t then also (fun b=>.node (.op o) [] [a.1,b]) (right t o under n (a.2.drop 1))else .ok a:=rfl
   rw[ev]at hok hx;refine hy _ _ _ _ _ _ _ he (fun a ts1 pv1 ea he1 hl1 ga=>?_) fun z ez=>hx z (by rw[ez];rfl);rw[ea]at hok hx;refine zQ he1 ?_;rw[hw];by_cases e1:next ts1=t
   ·rw[if_pos ((qx ht).mpr e1)];have ev2:(Except.ok (a,ts1):Except Fault (Tree×Marks)).bind (fun a=>if next a.2=t then also (fun b=>.node (.op o) [] [a.1,b]) (right t o under n (a.2.drop 1))else .ok a)=also (fun b=>.node (.op o) [] [a,b]) (right t o under n (ts1.drop 1)):=by show(if next ts1=t then _ else _)=_;rw[if_pos e1]
    rw[ev2]at hok hx;refine zi he1 (Zw ht) ((qx ht).mpr e1) fun m _ _ he2 hl2=>?_;refine Jk (ih _ _ _ _ _ _ _ he2 (by omega) (fun b ts3 pv3 eb he3 hl3 gb=>?_) fun z ez=>hx z (by rw[ez];rfl));rw[eb]at hok hx;have e3:B++[a]++[b]=B++[a,b]:=by simp
    rw[e3];exact z0 (hok _ _ _ rfl he3 (by omega) (by simp[good,qE,ga,gb]))
   ·rw[if_neg fun z=>e1 ((qx ht).mp z)];refine hok a ts1 _ ?_ he1 hl1 ga;show(if next ts1=t then _ else _)=_;rw[if_neg e1]
 intro Q E ts pv W B G he hok hx;exact all _ _ _ _ _ _ _ _ he (YbE _) hok hx
theorem qcb{x y:Part}{lv:Nat}{t:Tok}{k:Kind}{under:Read Tree}(hy:zk y lv under)(ht:je t=true)(hg:∀e,good e=true->good (.node k [] [e])=true)
  (hc:∀z,qH x z=if z=t then [.t t,.a .begin,.p x,.a (.fin k)]else [.p y]):zk x lv (fun ts=>prefixed t k under (ts.length+1) ts):=by
 have all:∀(n:Nat)(Q:MS->Prop)(E:Fault->Prop)(ts:Marks)(pv:Mark)(W:List Sym)(B:List Tree)(G:List Bg),Ends ts->ts.length<n ->
  (∀e ts' pv',prefixed t k under n ts=.ok (e,ts')->Ends ts'->ts'.length<ts.length->good e=true->Run Q E ⟨ts',pv',lv,W,B++[e],G⟩) ->
  (∀y,prefixed t k under n ts=.error y->E y)->Run Q E ⟨ts,pv,lv,.p x::W,B,G⟩:=by
  intro n
  induction n with
  |zero=>intro Q E ts pv W B G _ h;exact absurd h (YbX _)
  |succ n ih=>
   intro Q E ts pv W B G he hn hok hx;refine zQ he ?_;rw[hc];by_cases e1:next ts=t
   ·rw[if_pos ((qx ht).mpr e1)];have ev:prefixed t k under (n+1) ts=also (fun e=>.node k [] [e]) (prefixed t k under n (ts.drop 1)):=by show(if next ts=t then _ else _)=_;rw[if_pos e1]
    rw[ev]at hok hx;refine zi he (Zw ht) ((qx ht).mpr e1) fun m _ _ he1 hl1=>zI ?_;refine ih _ _ _ _ _ _ _ he1 (by omega) (fun b ts3 pv3 eb he3 hl3 gb=>?_) fun z ez=>hx z (by rw[ez];rfl);rw[eb]at hok hx;exact z0 (l:=[b]) (hok _ _ _ rfl he3 (by omega) (hg b gb))
   ·rw[if_neg fun z=>e1 ((qx ht).mp z)];have ev:prefixed t k under (n+1) ts=under ts:=by show(if next ts=t then _ else _)=_;rw[if_neg e1]
    rw[ev]at hok hx;exact hy _ _ _ _ _ _ _ he hok hx
 intro Q E ts pv W B G he hok hx;exact all _ _ _ _ _ _ _ _ he (YbE _) hok hx
end RM
end
section
set_option autoImplicit false
namespace RM
open Vastoa
section
variable{Q:MS->Prop}{E:Fault->Prop}{ts:Marks}{pv:Mark}{lv:Nat}{W:List Sym}{B:List Tree}{G:List Bg}{sub:Read Tree}
theorem qfm{t:Tok}(h:next ts=t):expect t ts=.ok ((),ts.drop 1):=by unfold expect;rw[if_pos h]
theorem qfn{t:Tok}(h:next ts≠t):expect t ts=.error ⟨3,here ts⟩:=by unfold expect;rw[if_neg h];rfl
theorem Z4{t:Tok}(he:Ends ts)(ht:je t=true)
  (h:∀m,expect t ts=.ok ((),ts.drop 1)->Ends (ts.drop 1)->(ts.drop 1).length<ts.length->Run Q E ⟨ts.drop 1,m,lv,W,B,G⟩)
  (hx:expect t ts=.error ⟨3,here ts⟩->E ⟨3,here ts⟩):Run Q E ⟨ts,pv,lv,.t t::W,B,G⟩ :=
 qdQ he (Zw ht) (fun m e _ _ h1 h2=>h m (qfm ((qx ht).mp e)) h1 h2) fun e=>hx (qfn fun z=>e ((qx ht).mpr z))
theorem Zg{t:Tok}(hs:zk .EXPR lv sub)(he:Ends ts)(ht:je t=true)
  (hok:∀e ts' pv',closedBy t sub ts=.ok (e,ts')->Ends ts'->ts'.length<ts.length->good e=true->Run Q E ⟨ts',pv',lv,W,B++[e],G⟩)
  (hx:∀y,closedBy t sub ts=.error y->E y):Run Q E ⟨ts,pv,lv,.p .EXPR::.t t::W,B,G⟩:=by
 have ev:closedBy t sub ts=(sub ts).bind fun e=>(expect t e.2).bind fun u=>.ok (e.1,u.2):=rfl;rw[ev]at hok hx;refine hs _ _ _ _ _ _ _ he (fun a ts1 pv1 ea he1 hl1 ga=>?_) fun z ez=>hx z (by rw[ez];rfl);rw[ea]at hok hx;refine Z4 he1 ht (fun m e1 he2 hl2=>hok a _ _ ?_ he2 (by omega) ga) fun e1=>hx _ ?_
 ·show(expect t ts1).bind _=_;rw[e1];rfl
 ·show(expect t ts1).bind _=_;rw[e1];rfl
theorem qdj{t:Tok}(h:kd t≠jm):∀x,t≠.name x:=fun x e=>h (by rw[e];rfl)
theorem qaa(he:Ends ts)
  (h:∀m x,next ts=.name x->m.tok=.name x->m.place=here ts->Ends (ts.drop 1)->(ts.drop 1).length<ts.length->Run Q E ⟨ts.drop 1,m,lv,W,B,G⟩)
  (hx:(∀x,next ts≠.name x)->E ⟨3,here ts⟩):Run Q E ⟨ts,pv,lv,.t jm::W,B,G⟩ :=
 qdQ he (by intro z;cases z) (fun m e e2 e3 h1 h2=>by
  obtain⟨x,ex⟩:=qcR.mp e
  exact h m x ex (e2.trans ex) e3 h1 h2) fun e=>hx (qdj e)
theorem qbh{x:Text}(h:next ts=.name x):nameTok ts=.ok (x,ts.drop 1):=by unfold nameTok;rw[h]
theorem qbi(h:∀x,next ts≠.name x):nameTok ts=.error ⟨3,here ts⟩:=by
 unfold nameTok;cases e:next ts with
 |name x=>exact absurd e (h x)
 |_=>rfl
theorem qi3(hs:zk .EXPR lv sub):∀(n:Nat)(ts:Marks)(pv:Mark)(W:List Sym)(B:List Tree)(G:List Bg),Ends ts->ts.length<n ->
  (∀l ts' pv',pieces sub n ts=.ok (l,ts')->Ends ts'->ts'.length<ts.length->qE l=true->Run Q E ⟨ts',pv',lv,W,B++l,G⟩) ->
  (∀y,pieces sub n ts=.error y->E y)->Run Q E ⟨ts,pv,lv,.p .PIECES::.t .unquote::W,B,G⟩:=by
 intro n
 induction n with
 |zero=>intro ts pv W B G _ h;exact absurd h (YbX _)
 |succ n ih=>
  intro ts pv W B G he hn hok hx;refine zQ he ?_;show Run Q E ⟨ts,pv,lv,(if kd (next ts)=J9 then [.t J9,.a .begin,.a .label,.a (.fin .piece),.p .PIECES]else if kd (next ts)=.hole then [.t .hole,.p .EXPR,.t .unhole,.p .PIECES]else [])++.t .unquote::W,B,G⟩;by_cases e1:kd (next ts)=J9
  ·rw[if_pos e1];obtain⟨x,ex⟩:=qlV.mp e1;have ev:pieces sub (n+1) ts=also (fun l=>.node .piece [x] []::l) (pieces sub n (ts.drop 1)):=by show(match next ts with | .unquote=>_ | .piece x=>_ | .hole=>_|_=>_)=_;rw[ex]
   rw[ev]at hok hx;refine zi he (by intro z;cases z) e1 fun m em _ he1 hl1=>zI (Qm (ZL ?_));have eh:held m.tok=x:=by rw[em,ex];rfl
   rw[eh];refine ih _ _ _ _ _ he1 (by omega) (fun l ts2 pv2 el he2 hl2 gl=>?_) fun z ez=>hx z (by rw[ez];rfl);rw[el]at hok hx;have:=hok (.node .piece [x] []::l) ts2 pv2 rfl he2 (by omega) (by simp[qE,good,gl]);rw[Yby];exact this
  ·rw[if_neg e1];by_cases e2:kd (next ts)=.hole
   ·rw[if_pos e2];have ex:next ts=.hole:=(qx (k:=.hole) rfl).mp e2
    have ev:pieces sub (n+1) ts=(closedBy .unhole sub (ts.drop 1)).bind fun e=>also (fun l=>e.1::l) (pieces sub n e.2):=by show(match next ts with | .unquote=>_ | .piece x=>_ | .hole=>_|_=>_)=_;rw[ex]
    rw[ev]at hok hx;refine zi he (by intro z;cases z) e2 fun m em _ he1 hl1=>Zg hs he1 rfl (fun a ts2 pv2 ea he2 hl2 ga=>?_) fun z ez=>hx z (by rw[ez];rfl);rw[ea]at hok hx;refine ih _ _ _ _ _ he2 (by omega) (fun l ts3 pv3 el he3 hl3 gl=>?_) fun z ez=>hx z (by show also _ (pieces sub n ts2)=_;rw[ez];rfl);have:=hok (a::l) ts3 pv3 (by show also _ (pieces sub n ts2)=_;rw[el];rfl) he3 (by omega) (by simp[qE,ga,gl]);rw[Yby];exact this
   ·rw[if_neg e2];refine qdQ he (by intro z;cases z) (fun m e em _ he1 hl1=>?_) fun e=>hx _ ?_
    ·have ex:next ts=.unquote:=(qx (k:=.unquote) rfl).mp e
     have:=hok [] (ts.drop 1) m (by show(match next ts with | .unquote=>_ | .piece x=>_ | .hole=>_|_=>_)=_;rw[ex]) he1 hl1 rfl
     rwa [Ybs]at this
    ·show(match next ts with | .unquote=>_ | .piece x=>_ | .hole=>_|_=>_)=_;cases ex:next ts with
     |unquote=>rw[ex]at e;exact absurd rfl e
     |piece x=>rw[ex]at e1;exact absurd rfl e1
     |hole=>rw[ex]at e2;exact absurd rfl e2
     |_=>rfl
theorem qki(hs:zk .EXPR lv sub):∀(n:Nat)(ts:Marks)(pv:Mark)(W:List Sym)(B:List Tree)(G:List Bg),Ends ts->ts.length<n ->
  (∀l ts' pv',elements sub n ts=.ok (l,ts')->Ends ts'->ts'.length<ts.length->qE l=true->Run Q E ⟨ts',pv',lv,W,B++l,G⟩) ->
  (∀y,elements sub n ts=.error y->E y)->Run Q E ⟨ts,pv,lv,.p .EXPR::.p .MLIST::.t sListClose::W,B,G⟩:=by
 intro n
 induction n with
 |zero=>intro ts pv W B G _ h;exact absurd h (YbX _)
 |succ n ih=>
  intro ts pv W B G he hn hok hx;have ev:elements sub (n+1) ts=(sub ts).bind fun e=>if next e.2=sComma then also (fun l=>e.1::l) (elements sub n (e.2.drop 1))else(expect sListClose e.2).bind fun u=>.ok ([e.1],u.2):=rfl
  rw[ev]at hok hx;refine hs _ _ _ _ _ _ _ he (fun a ts1 pv1 ea he1 hl1 ga=>?_) fun z ez=>hx z (by rw[ez];rfl);rw[ea]at hok hx;refine zQ he1 ?_;show Run Q E ⟨ts1,pv1,lv,(if kd (next ts1)=sComma then [.t sComma,.p .EXPR,.p .MLIST]else [])++.t sListClose::W,B++[a],G⟩;by_cases e1:next ts1=sComma
  ·rw[if_pos ((qx (k:=sComma) rfl).mpr e1)]
   have ev2:(Except.ok (a,ts1):Except Fault (Tree×Marks)).bind (fun e=>if next e.2=sComma then also (fun l=>e.1::l) (elements sub n (e.2.drop 1))else(expect sListClose e.2).bind fun u=>.ok ([e.1],u.2)) =
    also (fun l=>a::l) (elements sub n (ts1.drop 1)):=by
    show(if next ts1=sComma then _ else _)=_;rw[if_pos e1]
   rw[ev2]at hok hx;refine zi he1 (by intro z;cases z) ((qx (k:=sComma) rfl).mpr e1) fun m em _ he2 hl2=>?_;refine ih _ _ _ _ _ he2 (by omega) (fun l ts3 pv3 el he3 hl3 gl=>?_) fun z ez=>hx z (by rw[ez];rfl);have:=hok (a::l) ts3 pv3 (by rw[el];rfl) he3 (by omega) (by simp[qE,ga,gl]);rw[Yby];exact this
  ·rw[if_neg fun z=>e1 ((qx (k:=sComma) rfl).mp z)]
   have ev2:(Except.ok (a,ts1):Except Fault (Tree×Marks)).bind (fun e=>if next e.2=sComma then also (fun l=>e.1::l) (elements sub n (e.2.drop 1))else(expect sListClose e.2).bind fun u=>.ok ([e.1],u.2)) =
    (expect sListClose ts1).bind fun u=>.ok ([a],u.2):=by
    show(if next ts1=sComma then _ else _)=_;rw[if_neg e1]
   rw[ev2]at hok hx;refine Z4 he1 rfl (fun m e3 he2 hl2=>hok [a] _ _ (by rw[e3];rfl) he2 (by omega) (by simp[qE,ga])) fun e3=>hx _ (by rw[e3];rfl)
def Met(g:Bg)(seen:List Text):Prop:=∀x,x∈g.names↔seen.contains x=true
theorem Met.more {g:Bg} {seen:List Text} {x:Text} (h:Met g seen) (f:Nat) (ls:List Text):Met ⟨f,ls,g.names++[x]⟩ (x::seen):=fun y=>by
 show y∈g.names++[x]↔_;rw[YbK,h y,Ybw];simp;constructor
 ·rintro(h|h)
  ·exact .inr h
  ·exact .inl h
 ·rintro(h|h)
  ·exact .inr h
  ·exact .inl h
def qet(Q:MS->Prop)(E:Fault->Prop)(sub:Read Tree)(lv n:Nat)(V:List Sym):Prop :=
 ∀(seen:List Text)(g:Bg)(ts:Marks)(pv:Mark)(W:List Sym)(B:List Tree)(G:List Bg),Ends ts->ts.length<n->Met g seen->(V≠[.p .BINDS]->∃x,next ts=.name x) ->
  (∀l ts' pv' ns,binds sub n seen ts=.ok (l,ts')->Ends ts'->ts'.length<=ts.length->qE (l.map fun x=>x.2)=true->(V≠[.p .BINDS]->l≠[])->Run Q E ⟨ts',pv',lv,W,B++l.map (fun x=>x.2),⟨g.first,g.labels++l.map (fun x=>x.1),ns⟩::G⟩) ->
  (∀y,binds sub n seen ts=.error y->E y)->Run Q E ⟨ts,pv,lv,V++W,B,g::G⟩
theorem qfo(hs:zk .EXPR lv sub){n:Nat}(ih:qet Q E sub lv n [.p .BINDS]):qet Q E sub lv (n+1) [.t jm,.p .BOUND,.p .BINDS]:=by
 intro seen g ts pv W B G he hn hm hv hok hx;obtain⟨x,ex⟩:=hv (by intro z;cases z)
 have ev:binds sub (n+1) seen ts=if seen.contains x then .error ⟨5,here ts⟩
   else(expect sIs (ts.drop 1)).bind fun u=>(closedBy sSemi sub u.2).bind fun e=>also (fun l=>(x,e.1)::l) (binds sub n (x::seen) e.2):=by
  show(match next ts with | .name x=>_|_=>_)=_;rw[ex]
 rw[ev]at hok hx;refine zi he (by intro z;cases z) (by rw[ex];rfl) fun m em ep he1 hl1=>?_;have eh:held m.tok=x:=by rw[em,ex];rfl
 refine zQ he1 ?_;show Run Q E ⟨ts.drop 1,m,lv,.a .fresh::.a .label::.t sIs::.p .EXPR::.t sSemi::.p .BINDS::W,B,g::G⟩;refine qfj (fun hn1=>?_) fun hn1=>?_
 ·rw[eh]at hn1 ⊢;have hns:¬seen.contains x=true:=fun z=>hn1 ((hm x).mpr z);rw[if_neg hns]at hok hx;refine Qm ?_;rw[eh];refine Z4 he1 rfl (fun m2 e2 he2 hl2=>?_) fun e2=>hx _ (by rw[e2];rfl);rw[e2]at hok hx;refine Zg hs he2 rfl (fun a ts3 pv3 ea he3 hl3 ga=>?_) fun z ez=>hx z (by show(closedBy sSemi sub ((ts.drop 1).drop 1)).bind _=_;rw[ez];rfl);refine ih (x::seen) _ ts3 pv3 W (B++[a]) G he3 (by omega) (hm.more _ _) (fun z=>absurd rfl z) (fun l ts4 pv4 ns el he4 hl4 gl _=>?_) fun z ez=>hx z ?_
  ·have:=hok ((x,a)::l) ts4 pv4 ns (by show(closedBy sSemi sub ((ts.drop 1).drop 1)).bind _=_;rw[ea];show also _ (binds sub n (x::seen) ts3)=_;rw[el];rfl) he4 (by omega) (by simp only[Ybp,qE,ga,gl,Bool.and_self]) (fun _ z=>by cases z);simp only[Ybp,Yby,YdF]at this ⊢;exact this
  ·show(closedBy sSemi sub ((ts.drop 1).drop 1)).bind _=_;rw[ea];show also _ (binds sub n (x::seen) ts3)=_;rw[ez];rfl
 ·rw[eh]at hn1;rw[if_pos ((hm x).mp hn1)]at hx;rw[ep];exact hx _ rfl
theorem qfp(hs:zk .EXPR lv sub):∀n,qet Q E sub lv n [.p .BINDS]:=by
 intro n
 induction n with
 |zero=>intro seen g ts pv W B G _ h;exact absurd h (YbX _)
 |succ n ih=>
  intro seen g ts pv W B G he hn hm _ hok hx;refine zQ (W:=W) he ?_;show Run Q E ⟨ts,pv,lv,(if kd (next ts)=jm then [.t jm,.p .BOUND,.p .BINDS]else [])++W,B,g::G⟩;by_cases e1:kd (next ts)=jm
  ·rw[if_pos e1];exact qfo hs ih seen g ts pv W B G he hn hm (fun _=>qcR.mp e1) (fun l ts' pv' ns h1 h2 h3 h4 _=>hok l ts' pv' ns h1 h2 h3 h4 fun z=>absurd rfl z) hx
  ·rw[if_neg e1]
   have ev:binds sub (n+1) seen ts=.ok ([],ts):=by
    show(match next ts with | .name x=>_|_=>_)=_;cases ex:next ts with
    |name x=>exact absurd ex (qdj e1 x)
    |_=>rfl
   have:=hok [] ts pv g.names ev he (ω _) rfl fun z=>absurd rfl z;simp only[YcV,Ybs]at this;exact this
theorem qdR{k:Kind}(hk:k=.record\/k=.recur)(hs:zk .EXPR lv sub)(he:Ends ts)
  (hok:∀e ts' pv',fieldsOf k sub ts=.ok (e,ts')->Ends ts'->ts'.length<ts.length->good e=true->Run Q E ⟨ts',pv',lv,W,B++[e],G⟩)
  (hx:∀y,fieldsOf k sub ts=.error y->E y):Run Q E ⟨ts,pv,lv,.a .begin::.p .BINDS::.t sUnbrace::.a (.fin k)::W,B,G⟩:=by
 have ev:fieldsOf k sub ts=(binds sub (ts.length+1) [] ts).bind fun l=>(expect sUnbrace l.2).bind fun u=>.ok (.node k (l.1.map fun x=>x.1) (l.1.map fun x=>x.2),u.2):=rfl;rw[ev]at hok hx;refine zI (qfp hs (ts.length+1) [] ⟨B.length,[],[]⟩ ts pv _ B G he (YbE _) (fun x=>by simp) (fun z=>absurd rfl z) (fun l ts1 pv1 ns el he1 hl1 gl _=>?_) fun z ez=>hx z (by rw[ez];rfl));rw[el]at hok hx;refine Z4 he1 rfl (fun m e2 he2 hl2=>z0 (hok _ _ _ (by show(expect sUnbrace ts1).bind _=_;rw[e2];rfl) he2 (by omega) ?_)) fun e2=>hx _ (by show(expect sUnbrace ts1).bind _=_;rw[e2];rfl);rcases hk with rfl|rfl<;>simp[good,gl]
end
end RM
end
section
set_option autoImplicit false
namespace RM
open Vastoa
section
variable{lv:Nat}{sub:Read Tree}
theorem qgF(hs:zk .EXPR lv sub):zk .ATOM lv (atom sub):=by
 intro Q E ts pv W B G he hok hx;refine zQ he ?_;simp only[qH];by_cases e1:kd (next ts)=jm
 ·rw[if_pos e1];obtain⟨x,ex⟩:=qcR.mp e1;refine zi he (by intro z;cases z) e1 fun m em _ he1 hl1=>zI (Qm (ZL (hok _ _ _ ?_ he1 hl1 rfl)));have eh:held m.tok=x:=by rw[em,ex];rfl
  rw[eh];unfold atom;rw[ex];rfl
 rw[if_neg e1];by_cases e2:kd (next ts)=qgE
 ·rw[if_pos e2];obtain⟨x,ex⟩:=qou.mp e2;refine zi he (by intro z;cases z) e2 fun m em _ he1 hl1=>zI (Qm (ZL (hok _ _ _ ?_ he1 hl1 rfl)));have eh:held m.tok=x:=by rw[em,ex];rfl
  rw[eh];unfold atom;rw[ex];rfl
 rw[if_neg e2];by_cases e3:kd (next ts)=.word wTrue
 ·rw[if_pos e3];have ex:=(qx (k:=.word wTrue) rfl).mp e3;refine zi he (by intro z;cases z) e3 fun m em _ he1 hl1=>zI (ZL (hok _ _ _ ?_ he1 hl1 rfl));unfold atom;rw[ex];rfl
 rw[if_neg e3];by_cases e4:kd (next ts)=.word wFalse
 ·rw[if_pos e4];have ex:=(qx (k:=.word wFalse) rfl).mp e4;refine zi he (by intro z;cases z) e4 fun m em _ he1 hl1=>zI (ZL (hok _ _ _ ?_ he1 hl1 rfl));unfold atom;rw[ex];rfl
 rw[if_neg e4];by_cases e5:kd (next ts)=.word wNone
 ·rw[if_pos e5];have ex:=(qx (k:=.word wNone) rfl).mp e5;refine zi he (by intro z;cases z) e5 fun m em _ he1 hl1=>zI (ZL (hok _ _ _ ?_ he1 hl1 rfl));unfold atom;rw[ex];rfl
 rw[if_neg e5];by_cases e6:kd (next ts)=.quote
 ·rw[if_pos e6];have ex:=(qx (k:=.quote) rfl).mp e6;have ev:atom sub ts=also (fun l=>.node .text [] l) (pieces sub ((ts.drop 1).length+1) (ts.drop 1)):=by unfold atom;rw[ex]
  rw[ev]at hok hx;refine zi he (by intro z;cases z) e6 fun m em _ he1 hl1=>zI ?_;refine qi3 hs _ _ _ _ _ _ he1 (YbE _) (fun l ts2 pv2 el he2 hl2 gl=>z0 (hok _ _ _ (by rw[el];rfl) he2 (by omega) (by simp[good,gl]))) fun z ez=>hx z (by rw[ez];rfl)
 rw[if_neg e6];by_cases e7:kd (next ts)=.sign [40]
 ·rw[if_pos e7];have ex:=(qx (k:=.sign [40]) rfl).mp e7;have ev:atom sub ts=closedBy sClose sub (ts.drop 1):=by unfold atom;rw[ex];rfl
  rw[ev]at hok hx;refine zi he (by intro z;cases z) e7 fun m em _ he1 hl1=>?_;exact Zg hs he1 rfl (fun a ts2 pv2 ea he2 hl2 ga=>hok _ _ _ ea he2 (by omega) ga) hx
 rw[if_neg e7];by_cases e8:kd (next ts)=.sign [91]
 ·rw[if_pos e8];have ex:=(qx (k:=.sign [91]) rfl).mp e8;have ev:atom sub ts=if next (ts.drop 1)=sListClose then .ok (.node .list [] [],(ts.drop 1).drop 1)else also (fun l=>.node .list [] l) (elements sub ((ts.drop 1).length+1) (ts.drop 1)):=by unfold atom;rw[ex];rfl
  rw[ev]at hok hx;refine zi he (by intro z;cases z) e8 fun m em _ he1 hl1=>zI (zQ he1 ?_);simp only[qH];by_cases e9:next (ts.drop 1)=sListClose
  ·rw[if_pos ((qx (k:=sListClose) rfl).mpr e9)];rw[if_pos e9]at hok;refine zi he1 (by intro z;cases z) ((qx (k:=sListClose) rfl).mpr e9) fun m2 _ _ he2 hl2=>ZL (hok _ _ _ rfl he2 (by omega) rfl)
  ·rw[if_neg fun z=>e9 ((qx (k:=sListClose) rfl).mp z)];rw[if_neg e9]at hok hx;exact qki hs _ _ _ _ _ _ he1 (YbE _) (fun l ts2 pv2 el he2 hl2 gl=>z0 (hok _ _ _ (by rw[el];rfl) he2 (by omega) (by simp[good,gl]))) fun z ez=>hx z (by rw[ez];rfl)
 rw[if_neg e8];by_cases e9:kd (next ts)=sBrace
 ·rw[if_pos e9];have ex:=(qx (k:=sBrace) rfl).mp e9;have ev:atom sub ts=fieldsOf .record sub (ts.drop 1):=by unfold atom;rw[ex];rfl
  rw[ev]at hok hx;refine zi he (by intro z;cases z) e9 fun m em _ he1 hl1=>?_;exact qdR (.inl rfl) hs he1 (fun a ts2 pv2 ea he2 hl2 ga=>hok _ _ _ ea he2 (by omega) ga) hx
 rw[if_neg e9];refine qdQ he (by intro z;cases z) (fun m e em _ he1 hl1=>?_) fun e=>hx _ ?_
 ·have ex:=(qx (k:=.word wRec) rfl).mp e;have ev:atom sub ts=(expect sBrace (ts.drop 1)).bind fun u=>fieldsOf .recur sub u.2:=by unfold atom;rw[ex];rfl
  rw[ev]at hok hx;refine Z4 he1 rfl (fun m2 e3 he2 hl2=>?_) fun e3=>hx _ (by rw[e3];rfl);rw[e3]at hok hx;exact qdR (.inr rfl) hs he2 (fun a ts2 pv2 ea he2 hl2 ga=>hok _ _ _ ea he2 (by omega) ga) hx
 ·unfold atom;cases ex:next ts with
  |name x=>rw[ex]at e1;exact absurd rfl e1
  |num x=>rw[ex]at e2;exact absurd rfl e2
  |quote=>rw[ex]at e6;exact absurd rfl e6
  |word x=>rw[ex]at e3 e4 e5 e;show(if x=wTrue then _ else if x=wFalse then _ else if x=wNone then _ else if x=wRec then _ else _)=_;rw[if_neg (by rintro rfl;exact e3 rfl),if_neg (by rintro rfl;exact e4 rfl),if_neg (by rintro rfl;exact e5 rfl),if_neg (by rintro rfl;exact e rfl)];rfl
  |sign x=>rw[ex]at e7 e8 e9;show(if x=[40]then _ else if x=[91]then _ else if x=[123]then _ else _)=_;rw[if_neg (by rintro rfl;exact e7 rfl),if_neg (by rintro rfl;exact e8 rfl),if_neg (by rintro rfl;exact e9 rfl)];rfl
  |_=>rfl
theorem qkj{Q:MS->Prop}{E:Fault->Prop}:∀(n:Nat)(g:Bg)(ts:Marks)(pv:Mark)(W:List Sym)(B:List Tree)(G:List Bg),Ends ts->ts.length<n ->
  (∀l ts' pv',path n ts=.ok (l,ts')->Ends ts'->ts'.length<=ts.length->Run Q E ⟨ts',pv',lv,W,B,⟨g.first,g.labels++l,g.names⟩::G⟩) ->
  (∀y,path n ts=.error y->E y)->Run Q E ⟨ts,pv,lv,.p .MDOTS::W,B,g::G⟩:=by
 intro n
 induction n with
 |zero=>intro g ts pv W B G _ h;exact absurd h (YbX _)
 |succ n ih=>
  intro g ts pv W B G he hn hok hx;refine zQ he ?_;simp only[qH];by_cases e1:next ts=sDot
  ·rw[if_pos ((qx (k:=sDot) rfl).mpr e1)];have ev:path (n+1) ts=(nameTok (ts.drop 1)).bind fun x=>also (fun l=>x.1::l) (path n x.2):=by show(if next ts=sDot then _ else _)=_;rw[if_pos e1]
   rw[ev]at hok hx;refine zi he (by intro z;cases z) ((qx (k:=sDot) rfl).mpr e1) fun m em _ he1 hl1=>?_;refine qaa he1 (fun m2 x ex em2 _ he2 hl2=>?_) fun hno=>hx _ (by rw[qbi hno];rfl);rw[qbh ex]at hok hx;refine Qm ?_;have eh:held m2.tok=x:=by rw[em2];rfl
   rw[eh];refine ih _ _ _ _ _ _ he2 (by omega) (fun l ts3 pv3 el he3 hl3=>?_) fun z ez=>hx z (by show also _ (path n ((ts.drop 1).drop 1))=_;rw[ez];rfl);have:=hok (x::l) ts3 pv3 (by show also _ (path n ((ts.drop 1).drop 1))=_;rw[el];rfl) he3 (by omega);simp only[Yby,YdF]at this ⊢;exact this
  ·rw[if_neg fun z=>e1 ((qx (k:=sDot) rfl).mp z)];have ev:path (n+1) ts=.ok ([],ts):=by show(if next ts=sDot then _ else _)=_;rw[if_neg e1]
   have:=hok [] ts pv ev he (ω _);rw[Ybs]at this;exact this
theorem qik(hs:zk .EXPR lv sub):zk .SEL lv (sel sub):=by
 intro Q E ts pv W B G he hok hx;refine zQ he ?_;simp only[qH];have ev:sel sub ts=(atom sub ts).bind fun a=>(path (a.2.length+1) a.2).bind fun p=>if p.1.isEmpty then .ok (a.1,p.2)else if next p.2=sAsk then also (fun d=>.node .get p.1 [a.1,d]) (atom sub (p.2.drop 1))else .ok (.node .get p.1 [a.1],p.2):=rfl
 rw[ev]at hok hx;refine qgF hs _ _ _ _ _ _ _ he (fun a ts1 pv1 ea he1 hl1 ga=>?_) fun z ez=>hx z (by rw[ez];rfl);rw[ea]at hok hx
 replace hok:∀e ts' pv',((path (ts1.length+1) ts1).bind fun p=>
  if p.1.isEmpty then .ok (a,p.2)else if next p.2=sAsk then also (fun d=>.node .get p.1 [a,d]) (atom sub (p.2.drop 1))else .ok (.node .get p.1 [a],p.2))=.ok (e,ts')->Ends ts'->ts'.length<ts.length->good e=true->Run Q E ⟨ts',pv',lv,W,B++[e],G⟩:=hok
 replace hx:∀y,((path (ts1.length+1) ts1).bind fun p=>
  if p.1.isEmpty then .ok (a,p.2)else if next p.2=sAsk then also (fun d=>.node .get p.1 [a,d]) (atom sub (p.2.drop 1))else .ok (.node .get p.1 [a],p.2))=.error y->E y:=hx
 refine zQ he1 ?_;simp only[qH];by_cases e1:next ts1=sDot
 ·rw[if_pos ((qx (k:=sDot) rfl).mpr e1)];have ev1:path (ts1.length+1) ts1=(nameTok (ts1.drop 1)).bind fun x=>also (fun l=>x.1::l) (path ts1.length x.2):=by show(if next ts1=sDot then _ else _)=_;rw[if_pos e1]
  rw[ev1]at hok hx;refine zi he1 (by intro z;cases z) ((qx (k:=sDot) rfl).mpr e1) fun m em _ he2 hl2=>Jk ?_;refine qaa he2 (fun m2 x ex em2 _ he3 hl3=>?_) fun hno=>hx _ (by rw[qbi hno];rfl);rw[qbh ex]at hok hx;refine Qm ?_;have eh:held m2.tok=x:=by rw[em2];rfl
  rw[eh];refine qkj ts1.length _ _ _ _ _ _ he3 (by omega) (fun l ts4 pv4 el he4 hl4=>?_) fun z ez=>hx z (by show(also _ (path ts1.length ((ts1.drop 1).drop 1))).bind _=_;rw[ez];rfl);have ev2:((Except.ok (x,(ts1.drop 1).drop 1):Except Fault (Text×Marks)).bind fun x=>also (fun l=>x.1::l) (path ts1.length x.2))=.ok (x::l,ts4):=by show also _ (path ts1.length ((ts1.drop 1).drop 1))=_;rw[el];rfl
  rw[ev2]at hok hx;replace hok:∀e ts' pv',(if next ts4=sAsk then also (fun d=>.node .get (x::l) [a,d]) (atom sub (ts4.drop 1))else .ok (.node .get (x::l) [a],ts4))=.ok (e,ts')->Ends ts'->ts'.length<ts.length->good e=true->Run Q E ⟨ts',pv',lv,W,B++[e],G⟩:=hok;replace hx:∀y,(if next ts4=sAsk then also (fun d=>.node .get (x::l) [a,d]) (atom sub (ts4.drop 1))else(.ok (.node .get (x::l) [a],ts4):Except Fault (Tree×Marks)))=.error y->E y:=hx;refine zQ he4 ?_;simp only[qH];by_cases e2:next ts4=sAsk
  ·rw[if_pos ((qx (k:=sAsk) rfl).mpr e2)];rw[if_pos e2]at hok hx;refine zi he4 (by intro z;cases z) ((qx (k:=sAsk) rfl).mpr e2) fun m5 _ _ he5 hl5=>?_;refine qgF hs _ _ _ _ _ _ _ he5 (fun d ts6 pv6 ed he6 hl6 gd=>?_) fun z ez=>hx z (by rw[ez];rfl);have e3:B++[a]++[d]=B++[a,d]:=by simp
   rw[e3];exact z0 (hok _ _ _ (by rw[ed];rfl) he6 (by omega) (by simp[good,qE,ga,gd]))
  ·rw[if_neg fun z=>e2 ((qx (k:=sAsk) rfl).mp z)];rw[if_neg e2]at hok;exact z0 (l:=[a]) (hok _ _ _ rfl he4 (by omega) (by simp[good,qE,ga]))
 ·rw[if_neg fun z=>e1 ((qx (k:=sDot) rfl).mp z)];have ev1:path (ts1.length+1) ts1=.ok ([],ts1):=by show(if next ts1=sDot then _ else _)=_;rw[if_neg e1]
  rw[ev1]at hok;exact hok a ts1 pv1 rfl he1 hl1 ga
theorem qlX(hs:zk .EXPR lv sub):qlW .ARGS lv (arguments sub):=by
 intro n
 induction n with
 |zero=>intro Q E a ts pv W B G _ h;exact absurd h (YbX _)
 |succ n ih=>
  intro Q E a ts pv W B G he hn ga hok hx;refine zQ he ?_;simp only[qH,qkg];by_cases e1:begins (next ts)=true
  ·rw[if_pos e1];have ev:arguments sub (n+1) a ts=(sel sub ts).bind fun x=>arguments sub n (.node .app [] [a,x.1]) x.2:=by show(if begins (next ts)=true then _ else _)=_;rw[if_pos e1]
   rw[ev]at hok hx;refine zQ he (Jk (qik hs _ _ _ _ _ _ _ he (fun b ts2 pv2 eb he2 hl2 gb=>?_) fun z ez=>hx z (by rw[ez];rfl)));rw[eb]at hok hx;have e3:B++[a]++[b]=B++[a,b]:=by simp
   rw[e3];exact z0 (ih _ _ _ _ _ _ _ _ he2 (by omega) (by simp[good,qE,ga,gb]) (fun e ts' pv' h1 h2 h3 h4=>hok e ts' pv' h1 h2 (by omega) h4) hx)
  ·rw[if_neg e1];refine hok a ts pv ?_ he (ω _) ga;show(if begins (next ts)=true then _ else _)=_;rw[if_neg e1]
theorem qnn(hs:zk .EXPR lv sub):zk .APP lv (app sub):=by intro Q E ts pv W B G he hok hx;refine zQ he ?_;simp only[qH];have ev:app sub ts=(sel sub ts).bind fun f=>arguments sub (f.2.length+1) f.1 f.2:=rfl;rw[ev]at hok hx;refine qik hs _ _ _ _ _ _ _ he (fun a ts1 pv1 ea he1 hl1 ga=>?_) fun z ez=>hx z (by rw[ez];rfl);rw[ea]at hok hx;exact qlX hs _ _ _ _ _ _ _ _ _ he1 (YbE _) ga (fun e ts' pv' h1 h2 h3 h4=>hok e ts' pv' h1 h2 (by omega) h4) hx
theorem qil(hs:zk .EXPR lv sub):zk .NEG lv (neg sub):=qcb (qnn hs) rfl (fun e h=>by simp[good,qE,h]) fun _=>rfl
theorem qgG(hs:zk .EXPR lv sub):zk .PROD lv (prod sub) :=
 qbg (w:=.MPROD) (qil hs) (qbf (qil hs) (by simp[je]) fun k=>by
  by_cases h:k=.sign [42]
  ·subst h;rfl
  ·have h':¬Tok.sign [42]=k:=fun z=>h z.symm
   simp[qH,h,h']) fun _=>rfl
theorem qno(hs:zk .EXPR lv sub):zk .SUM lv (sum sub) :=
 qbg (w:=.MSUM) (qgG hs) (qbf (qgG hs) (by simp[je]) fun k=>by
  by_cases h:k=.sign [43]
  ·subst h;rfl
  ·have h':¬Tok.sign [43]=k:=fun z=>h z.symm;by_cases q:k=sMinus
   ·subst q;rfl
   ·have q':¬Tok.sign [45]=k:=fun z=>q z.symm
    simp[qH,h,h',q,q']) fun _=>rfl
theorem qlY(hs:zk .EXPR lv sub):zk .JOIN lv (join sub):=qfl (w:=.MJOIN) (qno hs) rfl (fun _=>rfl) fun _=>rfl
theorem qim(hs:zk .EXPR lv sub):zk .UPD lv (upd sub):=qfl (w:=.MUPD) (qlY hs) rfl (fun _=>rfl) fun _=>rfl
noncomputable def qeu(sub:Read Tree)(a:Tree)(ts1:Marks):Except Fault (Tree×Marks):=match compared.find? fun p=>p.1=next ts1 with
 |some p=>also (fun b=>.node (.op p.2) [] [a,b]) (upd sub (ts1.drop 1))
 |none=>if next ts1=.word wHas then also (fun x=>.node .has [x] [a]) (nameTok (ts1.drop 1))else .ok (a,ts1)
theorem qnp(hs:zk .EXPR lv sub):zk .CMP lv (cmp sub):=by
 intro Q E ts pv W B G he hok hx;refine zQ he ?_;simp only[qH]
 have ev:cmp sub ts=(upd sub ts).bind fun a=>match compared.find? fun p=>p.1=next a.2 with
  |some p=>also (fun b=>.node (.op p.2) [] [a.1,b]) (upd sub (a.2.drop 1))
  |none=>if next a.2=.word wHas then also (fun x=>.node .has [x] [a.1]) (nameTok (a.2.drop 1))else .ok a:=rfl
 rw[ev]at hok hx;refine qim hs _ _ _ _ _ _ _ he (fun a ts1 pv1 ea he1 hl1 ga=>?_) fun z ez=>hx z (by rw[ez];rfl);rw[ea]at hok hx;refine zQ he1 ?_
 have hch:qH .MCMP (kd (next ts1))=match compared.find? fun p=>decide (p.1=next ts1)with
   |some p=>[.t p.1,.a .take,.p .UPD,.a (.fin (.op p.2))]
   |none=>if next ts1=.word wHas then [.t (.word wHas),.a .take,.t jm,.a .label,.a (.fin .has)]else []:=by
  rw[<- qes compared (by simp[compared,je]) (next ts1)];have eh:(next ts1=.word wHas)=(kd (next ts1)=.word wHas):=propext (qx (k:=.word wHas) rfl).symm;simp only[eh];generalize kd (next ts1)=k;by_cases h1:k=.sign [61,61]
  ·subst h1;rfl
  by_cases h2:k=.sign [33,61]
  ·subst h2;rfl
  by_cases h3:k=.sign [60]
  ·subst h3;rfl
  by_cases h4:k=.sign [60,61]
  ·subst h4;rfl
  have h1':¬Tok.sign [61,61]=k:=fun z=>h1 z.symm;have h2':¬Tok.sign [33,61]=k:=fun z=>h2 z.symm;have h3':¬Tok.sign [60]=k:=fun z=>h3 z.symm;have h4':¬Tok.sign [60,61]=k:=fun z=>h4 z.symm;simp[qH,compared,h1,h2,h3,h4,h1',h2',h3',h4']
 rw[hch];replace hok:∀e ts' pv',qeu sub a ts1=.ok (e,ts')->Ends ts'->ts'.length<ts.length->good e=true->Run Q E ⟨ts',pv',lv,W,B++[e],G⟩:=hok;replace hx:∀y,qeu sub a ts1=.error y->E y:=hx;unfold qeu at hok hx;cases ef:compared.find? fun p=>decide (p.1=next ts1)with
 |some p=>
  rw[ef]at hok hx;have hp:je p.1=true:=(show ∀q∈compared,je q.1=true by simp[compared,je]) p (Ydm ef);have e1:p.1=next ts1:=of_decide_eq_true (List.find?_some (p:=fun p:Tok×Op=>decide (p.1=next ts1)) ef)
  refine zi he1 (Zw hp) ((qx hp).mpr e1.symm) fun m _ _ he2 hl2=>Jk ?_;refine qim hs _ _ _ _ _ _ _ he2 (fun b ts3 pv3 eb he3 hl3 gb=>?_) fun z ez=>hx z (by show also _ (upd sub (ts1.drop 1))=_;rw[ez];rfl);have e3:B++[a]++[b]=B++[a,b]:=by simp
  rw[e3];exact z0 (hok _ _ _ (by show also _ (upd sub (ts1.drop 1))=_;rw[eb];rfl) he3 (by omega) (by simp[good,qE,ga,gb]))
 |none=>
  rw[ef]at hok hx;by_cases e1:next ts1=.word wHas
  ·rw[if_pos e1]at hok hx;show Run Q E ⟨ts1,pv1,lv,(if next ts1=.word wHas then [.t (.word wHas),.a .take,.t jm,.a .label,.a (.fin .has)]else [])++W,B++[a],G⟩;rw[if_pos e1];refine zi he1 (by intro z;cases z) ((qx (k:=.word wHas) rfl).mpr e1) fun m _ _ he2 hl2=>Jk ?_;refine qaa he2 (fun m2 x ex em2 _ he3 hl3=>?_) fun hno=>hx _ (by rw[qbi hno];rfl);refine Qm ?_;have eh:held m2.tok=x:=by rw[em2];rfl
   rw[eh];exact z0 (l:=[a]) (hok _ _ _ (by rw[qbh ex];rfl) he3 (by omega) (by simp[good,qE,ga]))
  ·rw[if_neg e1]at hok;show Run Q E ⟨ts1,pv1,lv,(if next ts1=.word wHas then [.t (.word wHas),.a .take,.t jm,.a .label,.a (.fin .has)]else [])++W,B++[a],G⟩;rw[if_neg e1];exact hok a ts1 pv1 rfl he1 hl1 ga
theorem qgH(hs:zk .EXPR lv sub):zk .NOT lv (nots sub):=qcb (qnp hs) rfl (fun e h=>by simp[good,qE,h]) fun _=>rfl
theorem qgI(hs:zk .EXPR lv sub):zk .AND lv (ands sub) :=
 qbg (w:=.MAND) (qgH hs) (qbf (qgH hs) (by simp[je]) fun k=>by
  by_cases h:k=.word wAnd
  ·subst h;rfl
  ·have h':¬Tok.word wAnd=k:=fun z=>h z.symm
   simp[qH,h,h']) fun _=>rfl
theorem qnq(hs:zk .EXPR lv sub):zk .OR lv (ors sub) :=
 qbg (w:=.MOR) (qgI hs) (qbf (qgI hs) (by simp[je]) fun k=>by
  by_cases h:k=.word wOr
  ·subst h;rfl
  ·have h':¬Tok.word wOr=k:=fun z=>h z.symm
   simp[qH,h,h']) fun _=>rfl
end
end RM
end
section
set_option autoImplicit false
namespace RM
open Vastoa
theorem QJ{A B:Type}(x:A)(f:A->Except Fault B):(Except.ok x:Except Fault A).bind f=f x:=rfl
section
variable{lv:Nat}{sub:Read Tree}
noncomputable def given(sub:Read Tree)(ts:Marks):Except Fault (List Tree×Marks):=if next (ts.drop 1)=sAsk then also (fun e=>[e]) (sub (ts.drop 2))else .ok ([],ts.drop 1)
noncomputable def Z5(sub:Read Tree)(n:Nat)(seen:List Text)(x:Text)(d:List Tree×Marks):Except Fault ((List Tree×Bool)×Marks) :=
 if next d.2=sComma then also (fun l=>(.node .param [x] d.1::l.1,l.2)) (params sub n (x::seen) (d.2.drop 1))
 else(expect sUnbrace d.2).bind fun u=>.ok (([.node .param [x] d.1],false),u.2)
theorem qhM{n:Nat}{seen:List Text}{ts:Marks}{x:Text}(ex:next ts=.name x):
  params sub (n+1) seen ts=if seen.contains x then .error ⟨5,here ts⟩else(given sub ts).bind (Z5 sub n seen x):=by
 show(match next ts with | .name x=>_ | .sign s=>_|_=>_)=_;rw[ex];rfl
theorem qgJ{ts:Marks}:(ts.drop 1).drop 1=ts.drop 2:=by rw[YcF]
theorem qi4{Q:MS->Prop}{E:Fault->Prop}(hs:zk .EXPR lv sub):∀(n:Nat)(seen:List Text)(g:Bg)(ts:Marks)(pv:Mark)(W:List Sym)(B:List Tree)(G:List Bg),Ends ts->ts.length<n->Met g seen ->
  (∀l dots ts' pv' ns,params sub n seen ts=.ok ((l,dots),ts')->Ends ts'->ts'.length<ts.length->qE l=true ->
   Run Q E ⟨ts',pv',lv,.t sColon::.p .EXPR::.a (.fin (if dots then .openFields else .fields))::W,B++l,⟨g.first,g.labels,ns⟩::G⟩) ->
  (∀y,params sub n seen ts=.error y->E y)->Run Q E ⟨ts,pv,lv,.p .PARAMS::W,B,g::G⟩:=by
 intro n
 induction n with
 |zero=>intro seen g ts pv W B G _ h;exact absurd h (YbX _)
 |succ n ih=>
  intro seen g ts pv W B G he hn hm hok hx;refine zQ he ?_;simp only[qH];by_cases e1:kd (next ts)=qf7
  ·rw[if_pos e1];have ex:=(qx (k:=qf7) rfl).mp e1;have ev:params sub (n+1) seen ts=(expect sUnbrace (ts.drop 1)).bind fun u=>.ok (([],true),u.2):=by show(match next ts with | .name x=>_ | .sign s=>_|_=>_)=_;rw[ex];rfl
   rw[ev]at hok hx;refine zi he (by intro z;cases z) e1 fun m _ _ he1 hl1=>?_;refine Z4 he1 rfl (fun m2 e2 he2 hl2=>?_) fun e2=>hx _ (by rw[e2];rfl);have:=hok [] true _ m2 g.names (by rw[e2];rfl) he2 (by omega) rfl;rw[Ybs]at this;exact this
  ·rw[if_neg e1];refine qaa he (fun m x ex em ep he1 hl1=>?_) fun hno=>hx _ ?_
   ·rw[qhM ex]at hok hx;have eh:held m.tok=x:=by rw[em];rfl
    refine qfj (fun hn1=>?_) fun hn1=>?_
    ·rw[eh]at hn1 ⊢;have hns:¬seen.contains x=true:=fun z=>hn1 ((hm x).mpr z);rw[if_neg hns]at hok hx;refine zI (Qm ?_);rw[eh]
     have rest:∀(d:List Tree)(ts2:Marks)(pv2:Mark),given sub ts=.ok (d,ts2)->Ends ts2->ts2.length<ts.length->qE d=true->d.length<=1 ->
       Run Q E ⟨ts2,pv2,lv,.a (.fin .param)::.p .MPARAMS::W,B++d,⟨B.length,[]++[x],[]⟩::⟨g.first,g.labels,g.names++[x]⟩::G⟩:=by
      intro d ts2 pv2 ed he2 hl2 gd ld;rw[ed]at hok hx
      replace hok:∀l dots ts' pv' ns,Z5 sub n seen x (d,ts2)=.ok ((l,dots),ts')->Ends ts'->ts'.length<ts.length->qE l=true ->
       Run Q E ⟨ts',pv',lv,.t sColon::.p .EXPR::.a (.fin (if dots then .openFields else .fields))::W,B++l,⟨g.first,g.labels,ns⟩::G⟩:=hok
      replace hx:∀y,Z5 sub n seen x (d,ts2)=.error y->E y:=hx
      have gp:good (.node .param [x] d)=true:=by
       match d,ld,gd with
       |[],_,_=>rfl
       |[a],_,ga=>simp[qE]at ga;simp[good,qE,ga]
      refine z0 (zQ he2 ?_);simp only[qH];by_cases e3:next ts2=sComma
      ·rw[if_pos ((qx (k:=sComma) rfl).mpr e3)];have ev:Z5 sub n seen x (d,ts2)=also (fun l=>(.node .param [x] d::l.1,l.2)) (params sub n (x::seen) (ts2.drop 1)):=by show(if next ts2=sComma then _ else _)=_;rw[if_pos e3]
       rw[ev]at hok hx;refine zi he2 (by intro z;cases z) ((qx (k:=sComma) rfl).mpr e3) fun m3 _ _ he3 hl3=>?_;refine ih (x::seen) _ _ _ _ _ _ he3 (by omega) (hm.more _ _) (fun l dots ts4 pv4 ns el he4 hl4 gl=>?_) fun z ez=>hx z (by rw[ez];rfl);have:=hok (.node .param [x] d::l) dots ts4 pv4 ns (by rw[el];rfl) he4 (by omega) (by simp[qE,gp,gl]);rw[Yby];exact this
      ·rw[if_neg fun z=>e3 ((qx (k:=sComma) rfl).mp z)];have ev:Z5 sub n seen x (d,ts2)=(expect sUnbrace ts2).bind fun u=>.ok (([.node .param [x] d],false),u.2):=by show(if next ts2=sComma then _ else _)=_;rw[if_neg e3]
       rw[ev]at hok hx;refine Z4 he2 rfl (fun m3 e4 he3 hl3=>?_) fun e4=>hx _ (by rw[e4];rfl);exact hok [.node .param [x] d] false _ m3 _ (by rw[e4];rfl) he3 (by omega) (by simp[qE,gp])
     refine zQ he1 ?_;simp only[qH];by_cases e2:next (ts.drop 1)=sAsk
     ·rw[if_pos ((qx (k:=sAsk) rfl).mpr e2)];have ev:given sub ts=also (fun e=>[e]) (sub (ts.drop 2)):=by unfold given;rw[if_pos e2]
      refine zi he1 (by intro z;cases z) ((qx (k:=sAsk) rfl).mpr e2) fun m3 _ _ he3 hl3=>?_;refine hs _ _ _ _ _ _ _ he3 (fun a ts4 pv4 ea he4 hl4 ga=>?_) fun z ez=>hx z ?_
      ·exact rest [a] ts4 pv4 (by rw[ev,<- qgJ,ea];rfl) he4 (by omega) (by simp[qE,ga]) (ω 1)
      ·rw[ev,<- qgJ,ez];rfl
     ·rw[if_neg fun z=>e2 ((qx (k:=sAsk) rfl).mp z)];have:=rest [] (ts.drop 1) m (by unfold given;rw[if_neg e2]) he1 hl1 rfl (ό _);rw[Ybs]at this;exact this
    ·rw[eh]at hn1;rw[if_pos ((hm x).mp hn1)]at hx;rw[ep];exact hx _ rfl
   ·show(match next ts with | .name x=>_ | .sign s=>_|_=>_)=_;cases ex:next ts with
    |name x=>exact absurd ex (hno x)
    |sign s=>rw[ex]at e1;show(if s=[46,46]then _ else _)=_;rw[if_neg (by rintro rfl;exact e1 rfl)];rfl
    |_=>rfl
noncomputable def bodyOf(sub:Read Tree)(p:(List Tree×Bool)×Marks):Except Fault (Tree×Marks) :=(expect sColon p.2).bind fun v=>also (fun e=>.node (if p.1.2 then .openFields else .fields) [] (p.1.1++[e])) (sub v.2)
theorem qgK{Q:MS->Prop}{E:Fault->Prop}{ts:Marks}{pv:Mark}{W:List Sym}{B:List Tree}{G:List Bg}{l:List Tree}{dots:Bool}{ns:List Text}(hs:zk .EXPR lv sub)(he:Ends ts)(gl:qE l=true)
  (hok:∀e ts' pv',bodyOf sub ((l,dots),ts)=.ok (e,ts')->Ends ts'->ts'.length<ts.length->good e=true->Run Q E ⟨ts',pv',lv,W,B++[e],G⟩)
  (hx:∀y,bodyOf sub ((l,dots),ts)=.error y->E y):Run Q E ⟨ts,pv,lv,.t sColon::.p .EXPR::.a (.fin (if dots then .openFields else .fields))::W,B++l,⟨B.length,[],ns⟩::G⟩:=by
 have ev:bodyOf sub ((l,dots),ts)=(expect sColon ts).bind fun v=>also (fun e=>.node (if dots then .openFields else .fields) [] (l++[e])) (sub v.2):=rfl;rw[ev]at hok hx;refine Z4 he rfl (fun m e1 he1 hl1=>?_) fun e1=>hx _ (by rw[e1];rfl);rw[e1]at hok hx;refine hs _ _ _ _ _ _ _ he1 (fun a ts2 pv2 ea he2 hl2 ga=>?_) fun z ez=>hx z (by rw[QJ];dsimp only;rw[ez];rfl);rw[Yby];refine z0 (hok _ _ _ (by rw[QJ];dsimp only;rw[ea];rfl) he2 (by omega) ?_);have gg:qE (l++[a])=true:=by rw[Jj,gl];simp[qE,ga]
 cases dots<;>simp[good,gg]
theorem qgL(hs:zk .EXPR lv sub):zk .FUNCTION lv (function sub):=by
 intro Q E ts pv W B G he hok hx;refine zQ he ?_;simp only[qH];by_cases e1:kd (next ts)=jm
 ·rw[if_pos e1];obtain⟨x,ex⟩:=qcR.mp e1;have ev:function sub ts=(expect sColon (ts.drop 1)).bind fun u=>also (fun e=>.node .fn [x] [e]) (sub u.2):=by unfold function;rw[ex]
  rw[ev]at hok hx;refine zi he (by intro z;cases z) e1 fun m em _ he1 hl1=>zI (Qm ?_);have eh:held m.tok=x:=by rw[em,ex];rfl
  rw[eh];refine Z4 he1 rfl (fun m2 e2 he2 hl2=>?_) fun e2=>hx _ (by rw[e2];rfl);rw[e2]at hok hx;refine hs _ _ _ _ _ _ _ he2 (fun a ts3 pv3 ea he3 hl3 ga=>?_) fun z ez=>hx z (by rw[QJ];dsimp only;rw[ez];rfl);exact z0 (l:=[a]) (hok _ _ _ (by rw[QJ];dsimp only;rw[ea];rfl) he3 (by omega) (by simp[good,qE,ga]))
 ·rw[if_neg e1]
  have ev:function sub ts=(expect sBrace ts).bind fun u=>
   (if next u.2=sUnbrace then .ok (([],false),u.2.drop 1)else params sub (u.2.length+1) [] u.2).bind (bodyOf sub):=by
   unfold function;cases ex:next ts with
   |name x=>exact absurd ex (qdj e1 x)
   |_=>rfl
  rw[ev]at hok hx;refine Z4 he rfl (fun m e2 he1 hl1=>?_) fun e2=>hx _ (by rw[e2];rfl);rw[e2]at hok hx;replace hok:∀e ts' pv',((if next (ts.drop 1)=sUnbrace then .ok (([],false),(ts.drop 1).drop 1)else params sub ((ts.drop 1).length+1) [] (ts.drop 1)).bind (bodyOf sub))=.ok (e,ts')->Ends ts'->ts'.length<ts.length->good e=true->Run Q E ⟨ts',pv',lv,W,B++[e],G⟩:=hok;replace hx:∀y,((if next (ts.drop 1)=sUnbrace then .ok (([],false),(ts.drop 1).drop 1)else params sub ((ts.drop 1).length+1) [] (ts.drop 1)).bind (bodyOf sub))=.error y->E y:=hx;refine zI (zQ he1 ?_);simp only[qH];by_cases e3:next (ts.drop 1)=sUnbrace
  ·rw[if_pos ((qx (k:=sUnbrace) rfl).mpr e3)];rw[if_pos e3]at hok hx;refine zi he1 (by intro z;cases z) ((qx (k:=sUnbrace) rfl).mpr e3) fun m3 _ _ he3 hl3=>?_;have:=qgK (Q:=Q) (E:=E) (B:=B) (G:=G) (W:=W) (pv:=m3) (l:=[]) (dots:=false) (ns:=[]) hs he3 rfl (fun e ts' pv' h1 h2 h3 h4=>hok e ts' pv' h1 h2 (by omega) h4) hx;rw[Ybs]at this;exact this
  ·rw[if_neg fun z=>e3 ((qx (k:=sUnbrace) rfl).mp z)];rw[if_neg e3]at hok hx;refine qi4 hs _ [] _ _ _ _ _ _ he1 (YbE _) (fun x=>by simp) (fun l dots ts4 pv4 ns el he4 hl4 gl=>?_) fun z ez=>hx z (by rw[ez];rfl);rw[el]at hok hx;exact qgK hs he4 gl (fun e ts' pv' h1 h2 h3 h4=>hok e ts' pv' h1 h2 (by omega) h4) hx
theorem qlZ(hs:zk .EXPR lv sub):zk .FORM lv (expr sub):=by
 intro Q E ts pv W B G he hok hx;refine zQ he ?_;simp only[qH];by_cases e1:kd (next ts)=.word wFn
 ·rw[if_pos e1];have ex:=(qx (k:=.word wFn) rfl).mp e1;have ev:expr sub ts=function sub (ts.drop 1):=by unfold expr;rw[if_pos ex]
  rw[ev]at hok hx;refine zi he (by intro z;cases z) e1 fun m _ _ he1 hl1=>?_;exact qgL hs _ _ _ _ _ _ _ he1 (fun e ts' pv' h1 h2 h3 h4=>hok e ts' pv' h1 h2 (by omega) h4) hx
 rw[if_neg e1];have n1:¬next ts=.word wFn:=fun z=>e1 ((qx (k:=.word wFn) rfl).mpr z)
 by_cases e2:kd (next ts)=.word wLet
 ·rw[if_pos e2];have ex:=(qx (k:=.word wLet) rfl).mp e2;have ev:expr sub ts=letRest sub (ts.drop 1):=by unfold expr;rw[if_neg n1,if_pos ex]
  rw[ev]at hok hx;refine zi he (by intro z;cases z) e2 fun m _ _ he1 hl1=>zI ?_;generalize hr:ts.drop 1=r at he1 hl1 hok hx;have ev2:letRest sub r=(binds sub (r.length+1) [] r).bind fun l=>if l.1.isEmpty then wrong l.2 else(expect (.word wIn) l.2).bind fun u=>also (fun e=>.node .letIn (l.1.map fun x=>x.1) ((l.1.map fun x=>x.2)++[e])) (sub u.2):=rfl;rw[ev2]at hok hx;by_cases e3:∃x,next r=.name x
  ·refine qfo (n:=r.length) hs (qfp hs _) [] ⟨B.length,[],[]⟩ r m (.t (.word wIn)::.p .EXPR::.a (.fin .letIn)::W) B G he1 (YbE _) (fun x=>by simp) (fun _=>e3) (fun l ts2 pv2 ns el he2 hl2 gl ne=>?_) fun z ez=>hx z (by rw[ez];rfl);rw[el]at hok hx;have hne:¬l.isEmpty=true:=fun z=>ne (by intro q;cases q) (List.isEmpty_iff.mp z);replace hok:∀e ts' pv',(if l.isEmpty then wrong ts2 else(expect (.word wIn) ts2).bind fun u=>also (fun e=>.node .letIn (l.map fun x=>x.1) ((l.map fun x=>x.2)++[e])) (sub u.2))=.ok (e,ts')->Ends ts'->ts'.length<ts.length->good e=true->Run Q E ⟨ts',pv',lv,W,B++[e],G⟩:=hok;replace hx:∀y,(if l.isEmpty then wrong ts2 else(expect (.word wIn) ts2).bind fun u=>also (fun e=>Tree.node .letIn (l.map fun x=>x.1) ((l.map fun x=>x.2)++[e])) (sub u.2))=.error y->E y:=hx;rw[if_neg hne]at hok hx;refine Z4 he2 rfl (fun m3 e4 he3 hl3=>?_) fun e4=>hx _ (by rw[e4];rfl);rw[e4]at hok hx;refine hs _ _ _ _ _ _ _ he3 (fun a ts4 pv4 ea he4 hl4 ga=>?_) fun z ez=>hx z (by rw[QJ];dsimp only;rw[ez];rfl);rw[Yby];refine z0 (hok _ _ _ (by rw[QJ];dsimp only;rw[ea];rfl) he4 (by omega) ?_);have gg:qE ((l.map fun x=>x.2)++[a])=true:=by rw[Jj,gl];simp[qE,ga]
   simp[good,gg]
  ·have hno:∀x,next r≠.name x:=fun x z=>e3 ⟨x,z⟩
   refine qaa he1 (fun m2 x ex2 _ _ _ _=>absurd ex2 (hno x)) fun _=>hx _ ?_
   have ev3:binds sub (r.length+1) [] r=.ok ([],r):=by
    show(match next r with | .name x=>_|_=>_)=_;cases ex2:next r with
    |name x=>exact absurd ex2 (hno x)
    |_=>rfl
   rw[ev3];rfl
 rw[if_neg e2];have n2:¬next ts=.word wLet:=fun z=>e2 ((qx (k:=.word wLet) rfl).mpr z)
 by_cases e3:kd (next ts)=.word wIf
 ·rw[if_pos e3];have ex:=(qx (k:=.word wIf) rfl).mp e3;have ev:expr sub ts=(closedBy (.word wThen) sub (ts.drop 1)).bind fun a=>(closedBy (.word wElse) sub a.2).bind fun b=>also (fun c=>.node .cond [] [a.1,b.1,c]) (sub b.2):=by unfold expr;rw[if_neg n1,if_neg n2,if_pos ex]
  rw[ev]at hok hx;refine zi he (by intro z;cases z) e3 fun m _ _ he1 hl1=>zI ?_;refine Zg hs he1 rfl (fun a ts2 pv2 ea he2 hl2 ga=>?_) fun z ez=>hx z (by rw[ez];rfl);rw[ea]at hok hx;refine Zg hs he2 rfl (fun b ts3 pv3 eb he3 hl3 gb=>?_) fun z ez=>hx z (by show(closedBy (.word wElse) sub ts2).bind _=_;rw[ez];rfl);refine hs _ _ _ _ _ _ _ he3 (fun c ts4 pv4 ec he4 hl4 gc=>?_) fun z ez=>hx z ?_
  ·have e4:B++[a]++[b]++[c]=B++[a,b,c]:=by simp
   rw[e4];refine z0 (hok _ _ _ ?_ he4 (by omega) (by simp[good,qE,ga,gb,gc]));show(closedBy (.word wElse) sub ts2).bind _=_;rw[eb];rw[QJ];dsimp only;rw[ec];rfl
  ·show(closedBy (.word wElse) sub ts2).bind _=_;rw[eb];rw[QJ];dsimp only;rw[ez];rfl
 rw[if_neg e3];have n3:¬next ts=.word wIf:=fun z=>e3 ((qx (k:=.word wIf) rfl).mpr z)
 by_cases e4:kd (next ts)=.word wMust
 ·rw[if_pos e4];have ex:=(qx (k:=.word wMust) rfl).mp e4;have ev:expr sub ts=(closedBy sSemi sub (ts.drop 1)).bind fun a=>also (fun b=>.node .must [] [a.1,b]) (sub a.2):=by unfold expr;rw[if_neg n1,if_neg n2,if_neg n3,if_pos ex]
  rw[ev]at hok hx;refine zi he (by intro z;cases z) e4 fun m _ _ he1 hl1=>zI ?_;refine Zg hs he1 rfl (fun a ts2 pv2 ea he2 hl2 ga=>?_) fun z ez=>hx z (by rw[ez];rfl);rw[ea]at hok hx;refine hs _ _ _ _ _ _ _ he2 (fun b ts3 pv3 eb he3 hl3 gb=>?_) fun z ez=>hx z (by rw[QJ];dsimp only;rw[ez];rfl);have e5:B++[a]++[b]=B++[a,b]:=by simp
  rw[e5];exact z0 (hok _ _ _ (by rw[QJ];dsimp only;rw[eb];rfl) he3 (by omega) (by simp[good,qE,ga,gb]))
 rw[if_neg e4];have n4:¬next ts=.word wMust:=fun z=>e4 ((qx (k:=.word wMust) rfl).mpr z)
 have ev:expr sub ts=ors sub ts:=by unfold expr;rw[if_neg n1,if_neg n2,if_neg n3,if_neg n4]
 rw[ev]at hok hx;exact qnq hs _ _ _ _ _ _ _ he hok hx
end
theorem qfq:∀(n lv:Nat),lv+n=40->zk .EXPR lv (level n)
 |0,lv,h=>by intro Q E ts pv W B G he hok hx;refine zQ he (qfk he (fun z=>absurd (by omega) z) fun _=>hx _ rfl)
 |n+1,lv,h=>by intro Q E ts pv W B G he hok hx;have hs:=qfq n (lv+1) (by omega);refine zQ he (qfk he (fun _=>?_) fun z=>absurd z (by omega));have ev:level (n+1) ts=expr (level n) ts:=rfl;rw[ev]at hok hx;exact qlZ hs _ _ _ _ _ _ _ he (fun e ts' pv' h1 h2 h3 h4=>qkh (hok e ts' pv' h1 h2 h3 h4)) hx
theorem machine{Q:MS->Prop}{E:Fault->Prop}{ts:Marks}{pv:Mark}(he:Ends ts)
  (hok:∀e u pv',(level DEEP ts).bind (fun e=>(expect .fin e.2).bind fun _=>.ok e.1)=.ok e->good e=true->Q ⟨u,pv',0,[],[e],[]⟩)
  (hx:∀y,(level DEEP ts).bind (fun e=>(expect .fin e.2).bind fun _=>.ok e.1)=.error y->E y):Run Q E ⟨ts,pv,0,[.p .EXPR,.t .fin],[],[]⟩:=by
 refine qfq 40 0 rfl _ _ _ _ _ _ _ he (fun e ts' pv' h1 h2 h3 h4=>?_) fun z ez=>hx z (by show(level 40 ts).bind _=_;rw[ez];rfl);obtain⟨m,r,rfl,he',hf⟩:=h2.cons;by_cases e1:kd m.tok=.fin
 ·have e2:m.tok=.fin:=qkf.mp e1;refine .next (s':=⟨r,m,0,[],[]++[e],[]⟩) ?_ (.done (hok e r m ?_ h4))
  ·show(if kd m.tok=.fin then _ else _)=_;rw[if_pos e1]
  ·show(level 40 ts).bind _=_;rw[h1];show(expect .fin (m::r)).bind _=_;rw[qfm (show next (m::r)=.fin from e2)];rfl
 ·have e2:¬m.tok=.fin:=fun z=>e1 (qkf.mpr z);refine .fail (x:=⟨3,m.place⟩) ?_ (hx _ ?_)
  ·show(if kd m.tok=.fin then _ else _)=_;rw[if_neg e1]
  ·show(level 40 ts).bind _=_;rw[h1];show(expect .fin (m::r)).bind _=_;rw[qfn (show next (m::r)≠.fin from e2)];rfl
end RM
end
section
set_option autoImplicit false
namespace CM
open Vastoa
structure Here(txt:Text)(n:Nat)(lit:Bool)(O:List Bool)(i:Nat)(T:Marks):Prop where
 le:i<=txt.length
 fuel:txt.length<n+i
 eq:tokens txt=(cut n lit O i (txt.drop i)).map (T ++ ·)
theorem start(txt:Text):Here txt (txt.length+1) false [] 0 []:=⟨ό _,by omega,by
 unfold tokens;rw[Ydg]
 cases cut (txt.length+1) false [] 0 txt<;>rfl⟩
theorem jG{T:Marks}{i:Nat}{t:Tok}{r:Except Fault Marks}:(before i t r).map (T ++ ·)=r.map ((T++[⟨i,t⟩]) ++ ·):=by
 cases r with
 |error f=>rfl
 |ok l=>show Except.ok (T++⟨i,t⟩::l)=Except.ok (T++[⟨i,t⟩]++l);simp
theorem zr{txt:Text}{i c:Nat}(h:txt[i]?=some c):txt.drop i=c::txt.drop (i+1):=by obtain⟨hi,rfl⟩:=Δ.mp h;exact Ycb hi
theorem qdk{txt:Text}{i:Nat}(h:txt[i]?=none):txt.drop i=[]:=List.drop_eq_nil_of_le (List.getElem?_eq_none_iff.mp h)
theorem ZF{txt:Text}{i c:Nat}(h:txt[i]?=some c):i<txt.length:=(Δ.mp h).1
section
variable{txt:Text}{n i c:Nat}{O:List Bool}{T:Marks}
theorem Here.pos {lit:Bool} (h:Here txt n lit O i T):∃m,n=m+1:=⟨n - 1,by have:=h.fuel;have:=h.le;omega⟩
theorem qov(h:Here txt n false O i T)(e:txt[i]?=none):tokens txt=.ok (T++[⟨i,.fin⟩]):=by obtain⟨m,rfl⟩:=h.pos;rw[h.eq,qdk e];rfl
theorem ql0(h:Here txt n false O i T)(e:txt[i]?=some c)(hb:blank c=true):Here txt (n - 1) false O (i+1) T:=by obtain⟨m,rfl⟩:=h.pos;have hi:=ZF e;refine⟨hi,by have:=h.fuel;omega,?_⟩;rw[h.eq,zr e];show(if blank c then _ else _:Except Fault Marks).map _=_;rw[if_pos hb];rfl
theorem qbF{p:Nat->Bool}:∀(l:Text)(k:Nat),k<=l.length->(∀j,j<k->∃x,l[j]?=some x/\p x=true)->(∀x,l[k]?=some x->p x=false)->l.takeWhile p=l.take k
 |[],k,h,_,_=>by have:k=0:=(by simpa using h);subst this;rfl
 |a::l,0,_,_,h2=>by have:=h2 a rfl;simp[Yc7,this]
 |a::l,k+1,h,h1,h2=>by obtain⟨x,ex,px⟩:=h1 0 (YcX _);cases ex;rw[Yc7,if_pos px,Yb9];rw[qbF l k (by simpa using h) (fun j hj=>h1 (j+1) (by omega)) fun x hx=>h2 x hx]
theorem qgM{p:Nat->Bool}{k:Nat}(hk:i+k<=txt.length)(h1:∀j,j<k->∃x,txt[i+j]?=some x/\p x=true)(h2:∀x,txt[i+k]?=some x->p x=false):(txt.drop i).takeWhile p=(txt.drop i).take k :=qbF _ k (by rw[YbF];omega) (fun j hj=>by rw[YcQ];exact h1 j hj) fun x hx=>h2 x (by rw[YcQ]at hx;exact hx)
theorem qev{k:Nat}(hk:i+k<=txt.length):((txt.drop i).take k).length=k:=by rw[Ybz,YbF];omega
theorem qi5{k:Nat}(h:Here txt n false O i T)(e:txt[i]?=some 35)(hk:i+k<=txt.length)(h0:0<k)(h1:∀j,j<k->∃x,txt[i+j]?=some x/\x≠10)(h2:∀x,txt[i+k]?=some x->x=10):
  Here txt (n - 1) false O (i+k) T:=by
 obtain⟨m,rfl⟩:=h.pos;have hr:=qgM (p:=fun y=>y != 10) hk (fun j hj=>by obtain⟨x,a,b⟩:=h1 j hj;exact⟨x,a,by simpa using b⟩) fun x hx=>by have:=h2 x hx;subst this;rfl
 refine⟨hk,by have:=h.fuel;omega,?_⟩;rw[h.eq];have ed:=zr e;have ev:cut (m+1) false O i (txt.drop i)=cut m false O (i+((txt.drop i).takeWhile fun y=>y != 10).length) ((txt.drop i).drop ((txt.drop i).takeWhile fun y=>y != 10).length):=by rw[ed];rfl
 rw[ev,hr,qev hk,YcF];rfl
theorem qkk{c:Nat}(h:letter c=true):blank c=false/\c≠35:=by unfold letter at h;unfold blank;simp at h ⊢;omega
theorem qnr{k:Nat}(h:Here txt n false O i T)(e:txt[i]?=some c)(hl:letter c=true)(hk:i+k<=txt.length)(h0:0<k)(h1:∀j,j<k->∃x,txt[i+j]?=some x/\inner x=true)(h2:∀x,txt[i+k]?=some x->inner x=false):
  (32<k->tokens txt=.error ⟨2,i⟩)/\(k<=32->Here txt (n - 1) false O (i+k) (T++[⟨i,if reserved.contains ((txt.drop i).take k)then .word ((txt.drop i).take k)else .name ((txt.drop i).take k)⟩])):=by
 obtain⟨m,rfl⟩:=h.pos;have hr:=qgM hk h1 h2;have ed:=zr e;obtain⟨l1,l2⟩:=qkk hl
 have ev:cut (m+1) false O i (txt.drop i)=if 32<((txt.drop i).takeWhile inner).length then .error ⟨2,i⟩
   else before i (if reserved.contains ((txt.drop i).takeWhile inner)then .word ((txt.drop i).takeWhile inner)else .name ((txt.drop i).takeWhile inner))
    (cut m false O (i+((txt.drop i).takeWhile inner).length) ((txt.drop i).drop ((txt.drop i).takeWhile inner).length)):=by
  rw[ed];show(if blank c then _ else if c=35 then _ else if letter c then _ else _)=_;rw[if_neg (by rw[l1];decide),if_neg l2,if_pos hl]
 rw[hr,qev hk,YcF]at ev;constructor
 ·intro hb;rw[h.eq,ev,if_pos hb];rfl
 ·intro hb;refine⟨hk,by have:=h.fuel;omega,?_⟩;rw[h.eq,ev,if_neg (by omega),jG];rfl
theorem ql1{c:Nat}(h:digit c=true):blank c=false/\c≠35/\letter c=false:=by unfold digit at h;unfold blank letter;simp at h ⊢;omega
theorem qkl{k:Nat}(h:Here txt n false O i T)(e:txt[i]?=some c)(hl:digit c=true)(hk:i+k<=txt.length)(h0:0<k)(h1:∀j,j<k->∃x,txt[i+j]?=some x/\digit x=true)(h2:∀x,txt[i+k]?=some x->digit x=false):
  ((30<k\/(c=48/\1<k))->tokens txt=.error ⟨2,i⟩)/\(¬(30<k\/(c=48/\1<k))->Here txt (n - 1) false O (i+k) (T++[⟨i,.num ((txt.drop i).take k)⟩])):=by
 obtain⟨m,rfl⟩:=h.pos;have hr:=qgM hk h1 h2;have ed:=zr e;obtain⟨l1,l2,l3⟩:=ql1 hl
 have ev:cut (m+1) false O i (txt.drop i)=if 30<((txt.drop i).takeWhile digit).length\/(c=48/\1<((txt.drop i).takeWhile digit).length)then .error ⟨2,i⟩
   else before i (.num ((txt.drop i).takeWhile digit))
    (cut m false O (i+((txt.drop i).takeWhile digit).length) ((txt.drop i).drop ((txt.drop i).takeWhile digit).length)):=by
  rw[ed];show(if blank c then _ else if c=35 then _ else if letter c then _ else if digit c then _ else _)=_;rw[if_neg (by rw[l1];decide),if_neg l2,if_neg (by rw[l3];decide),if_pos hl]
 rw[hr,qev hk,YcF]at ev;constructor
 ·intro hb;rw[h.eq,ev,if_pos hb];rfl
 ·intro hb;refine⟨hk,by have:=h.fuel;omega,?_⟩;rw[h.eq,ev,if_neg hb,jG];rfl
theorem ql2(h:Here txt n false O i T)(e:txt[i]?=some 34):Here txt (n - 1) true O (i+1) (T++[⟨i,.quote⟩]):=by obtain⟨m,rfl⟩:=h.pos;refine⟨ZF e,by have:=h.fuel;omega,?_⟩;rw[h.eq,zr e];show(before i .quote (cut m true O (i+1) (txt.drop (i+1)))).map _=_;rw[jG];rfl
theorem ql3(h:Here txt n false O i T)(e:txt[i]?=some 123):Here txt (n - 1) false (false::O) (i+1) (T++[⟨i,.sign [123]⟩]):=by obtain⟨m,rfl⟩:=h.pos;refine⟨ZF e,by have:=h.fuel;omega,?_⟩;rw[h.eq,zr e];show(before i (.sign [123]) (cut m false (false::O) (i+1) (txt.drop (i+1)))).map _=_;rw[jG];rfl
theorem qkm{O':List Bool}(h:Here txt n false (true::O') i T)(e:txt[i]?=some 125):Here txt (n - 1) true O' (i+1) (T++[⟨i,.unhole⟩]):=by obtain⟨m,rfl⟩:=h.pos;refine⟨ZF e,by have:=h.fuel;omega,?_⟩;rw[h.eq,zr e];show(before i .unhole (cut m true O' (i+1) (txt.drop (i+1)))).map _=_;rw[jG];rfl
theorem qi6(h:Here txt n false O i T)(e:txt[i]?=some 125)(hO:O.head?≠some true):Here txt (n - 1) false (O.drop 1) (i+1) (T++[⟨i,.sign [125]⟩]):=by obtain⟨m,rfl⟩:=h.pos;refine⟨ZF e,by have:=h.fuel;omega,?_⟩;rw[h.eq,zr e];show(if O.head?=some true then _ else before i (.sign [125]) (cut m false (O.drop 1) (i+1) (txt.drop (i+1)))).map _=_;rw[if_neg hO,jG];rfl
noncomputable def other(c:Nat):Bool:=!(blank c)&&c != 35&&!(letter c)&&!(digit c)&&c != 34&&c != 123&&c != 125
theorem qdS{b x:Text}(h:signAt b=some x):x=b.take x.length/\0<x.length/\x.length<=b.length:=by
 unfold signAt at h
 split at h
 ·rename_i hs;cases h;have:(b.take 2)∈signs2:=Ybq.mp hs;have l2:(b.take 2).length=2:=by simp only[signs2,Γ,YcI,or_false]at this;rcases this with e|e|e|e|e|e<;>rw[e]<;>rfl
  have hb:2<=b.length:=by rw[Ybz]at l2;omega
  exact⟨by rw[l2],by omega,by omega⟩
 ·split at h
  ·rename_i hs;cases h;have:(b.take 1)∈signs1:=Ybq.mp hs;have l2:(b.take 1).length=1:=by simp only[signs1,Γ,YcI,or_false]at this;rcases this with e|e|e|e|e|e|e|e|e|e|e|e|e|e<;>rw[e]<;>rfl
   have hb:1<=b.length:=by rw[Ybz]at l2;omega
   exact⟨by rw[l2],by omega,by omega⟩
  ·cases h
theorem qns(h:Here txt n false O i T)(e:txt[i]?=some c)(ho:other c=true):
  (signAt (txt.drop i)=none->tokens txt=.error ⟨2,i⟩)/\∀x,signAt (txt.drop i)=some x->Here txt (n - 1) false O (i+x.length) (T++[⟨i,.sign x⟩]):=by
 obtain⟨m,rfl⟩:=h.pos;have ed:=zr e
 have ev:cut (m+1) false O i (txt.drop i)=match signAt (txt.drop i)with
   |some x=>before i (.sign x) (cut m false O (i+x.length) ((txt.drop i).drop x.length))
   |none=>.error ⟨2,i⟩:=by
  rw[ed];unfold other at ho;simp at ho;obtain⟨⟨⟨⟨⟨⟨o1,o2⟩,o3⟩,o4⟩,o5⟩,o6⟩,o7⟩:=ho;show(if blank c then _ else if c=35 then _ else if letter c then _ else if digit c then _ else if c=34 then _ else if c=123 then _ else if c=125 then _ else _)=_;rw[if_neg (by rw[o1];decide),if_neg o2,if_neg (by rw[o3];decide),if_neg (by rw[o4];decide),if_neg o5,if_neg o6,if_neg o7];cases signAt (c::txt.drop (i+1))<;>rfl
 constructor
 ·intro hs;rw[h.eq,ev,hs];rfl
 ·intro x hs;obtain⟨hx,h0,hl⟩:=qdS hs;have hl':i+x.length<=txt.length:=by rw[YbF]at hl;have:=ZF e;omega
  refine⟨hl',by have:=h.fuel;omega,?_⟩;rw[h.eq,ev,hs];show(before i (.sign x) (cut m false O (i+x.length) ((txt.drop i).drop x.length))).map _=_;rw[jG,YcF];rfl
def qdl(txt:Text)(i:Nat)(g:Text)(j:Nat):Prop:=j<=txt.length/\gather i (txt.drop i)=(gather j (txt.drop j)).map fun y=>(g++y.1,y.2.1,y.2.2)
theorem qi7(h:i<=txt.length):qdl txt i [] i:=⟨h,by cases gather i (txt.drop i)<;>rfl⟩
theorem qkn{i j j' x:Nat}{g:Text}(h:qdl txt i g j)(hj:j'<=txt.length)(e:gather j (txt.drop j)=(gather j' (txt.drop j')).map fun y=>(x::y.1,y.2.1,y.2.2)):qdl txt i (g++[x]) j':=by
 refine⟨hj,?_⟩;rw[h.2,e];cases gather j' (txt.drop j')with
 |error f=>rfl
 |ok y=>show Except.ok _=Except.ok _;simp
theorem qgN{i j:Nat}{g:Text}{f:Fault}(h:qdl txt i g j)(e:gather j (txt.drop j)=.error f):gather i (txt.drop i)=.error f:=by rw[h.2,e];rfl
theorem qfr{i j:Nat}{g r:Text}(h:qdl txt i g j)(e:gather j (txt.drop j)=.ok ([],j,r)):gather i (txt.drop i)=.ok (g,j,r):=by rw[h.2,e];show Except.ok _=Except.ok _;simp
theorem qi8{j:Nat}(e:txt[j]?=none):gather j (txt.drop j)=.error ⟨2,j⟩:=by rw[qdk e];rfl
theorem qfQ{j c x:Nat}(e:txt[j]?=some 92)(e2:txt[j+1]?=some c)(u:unescape c=some x):gather j (txt.drop j)=(gather (j+2) (txt.drop (j+2))).map fun y=>(x::y.1,y.2.1,y.2.2):=by rw[zr e,zr e2];show(match unescape c with|some x=>_|none=>_)=_;rw[u]
theorem qgO{j c:Nat}(e:txt[j]?=some 92)(e2:txt[j+1]?=some c)(u:unescape c=none):gather j (txt.drop j)=.error ⟨2,j⟩:=by rw[zr e,zr e2];show(match unescape c with|some x=>_|none=>_)=_;rw[u]
theorem qhN{j:Nat}(e:txt[j]?=some 92)(e2:txt[j+1]?=none):gather j (txt.drop j)=.error ⟨2,j⟩:=by rw[zr e,qdk e2];rfl
theorem qcc(j c:Nat)(r:Text)(h:c≠92):gather j (c::r)=if c=34\/(c=36/\r.head?=some 123)then .ok ([],j,c::r)
  else if c<32/\c≠9/\c≠10 then .error ⟨2,j⟩else(gather (j+1) r).map fun y=>(c::y.1,y.2.1,y.2.2):=by
 rw[gather]
 ·intro e;exact absurd e h
 ·intro d r' e;exact absurd e h
theorem qbj{j c:Nat}(e:txt[j]?=some c)(h:c≠92):gather j (txt.drop j)=if c=34\/(c=36/\txt[j+1]?=some 123)then .ok ([],j,txt.drop j)
  else if c<32/\c≠9/\c≠10 then .error ⟨2,j⟩else(gather (j+1) (txt.drop (j+1))).map fun y=>(c::y.1,y.2.1,y.2.2):=by
 have hh:(txt.drop (j+1)).head?=txt[j+1]?:=by rw[List.head?_drop]
 rw[zr e,qcc _ _ _ h,hh]
noncomputable def JY(m:Nat)(O:List Bool)(j:Nat)(r:Text):Except Fault Marks:=match r with
 |36::_::r=>before j .hole (cut m false (true::O) (j+2) r)
 |r=>before j .unquote (cut m false O (j+1) (r.drop 1))
theorem qgP{m:Nat}(g:Text)(j:Nat)(r:Text)(e:gather i (txt.drop i)=.ok (g,j,r)):cut (m+1) true O i (txt.drop i) =
  if g.isEmpty then JY m O j r else before i (.piece g) (JY m O j r):=by
 show(gather i (txt.drop i)).bind _=_;rw[e];rfl
noncomputable def pieceOf(i:Nat)(g:Text):Marks:=if g.isEmpty then []else [⟨i,.piece g⟩]
theorem qfs{g:Text}{r:Except Fault Marks}:(if g.isEmpty then r else before i (.piece g) r).map (T ++ ·)=r.map ((T++pieceOf i g) ++ ·):=by
 unfold pieceOf;by_cases h:g.isEmpty=true
 ·rw[if_pos h,if_pos h,Ybs]
 ·rw[if_neg h,if_neg h,jG]
theorem qin{f:Fault}(h:Here txt n true O i T)(e:gather i (txt.drop i)=.error f):tokens txt=.error f:=by obtain⟨m,rfl⟩:=h.pos;rw[h.eq];show((gather i (txt.drop i)).bind _).map _=_;rw[e];rfl
theorem qko{j:Nat}{g:Text}(h:Here txt n true O i T)(hj:i<=j)(e:gather i (txt.drop i)=.ok (g,j,txt.drop j))(e2:txt[j]?=some 34):Here txt (n - 1) false O (j+1) (T++pieceOf i g++[⟨j,.unquote⟩]):=by obtain⟨m,rfl⟩:=h.pos;refine⟨ZF e2,by have:=h.fuel;omega,?_⟩;rw[h.eq,qgP g j _ e,zr e2];show(if g.isEmpty then before j .unquote (cut m false O (j+1) (txt.drop (j+1)))else before i (.piece g) (before j .unquote (cut m false O (j+1) (txt.drop (j+1))))).map _=_;rw[qfs,jG];rfl
theorem ql4{j:Nat}{g:Text}(h:Here txt n true O i T)(hj:i<=j)(e:gather i (txt.drop i)=.ok (g,j,txt.drop j))(e2:txt[j]?=some 36)(e3:txt[j+1]?=some 123):Here txt (n - 1) false (true::O) (j+2) (T++pieceOf i g++[⟨j,.hole⟩]):=by obtain⟨m,rfl⟩:=h.pos;refine⟨ZF e3,by have:=h.fuel;omega,?_⟩;rw[h.eq,qgP g j _ e,zr e2,zr e3];show(if g.isEmpty then before j .hole (cut m false (true::O) (j+2) (txt.drop (j+1+1)))else before i (.piece g) (before j .hole (cut m false (true::O) (j+2) (txt.drop (j+1+1))))).map _=_;rw[qfs,jG];rfl
end
noncomputable def Jy:Tok->Bool
 | .word x=>reserved.contains x
 | .sign x=>([[123],[125]]++signs2++signs1).contains x
 |_=>true
def qcd(r:Except Fault Marks):Prop:=∀l,r=.ok l->RM.Ends l/\∀m∈l,Jy m.tok=true
theorem qcd.before {i:Nat} {t:Tok} {r:Except Fault Marks} (h:qcd r) (ht:Jy t=true) (hf:t≠.fin):qcd (Vastoa.before i t r):=by
 intro l e;cases r with
 |error f=>cases e
 |ok l'=>
  cases e;obtain⟨⟨pre,q,rfl,hp⟩,h2⟩:=h l' rfl;refine⟨⟨⟨i,t⟩::pre,q,rfl,fun m hm=>?_⟩,fun m hm=>?_⟩
  ·rcases Γ.mp hm with rfl|hm
   ·exact hf
   ·exact hp m hm
  ·rcases Γ.mp hm with rfl|hm
   ·exact ht
   ·exact h2 m hm
theorem Z6(f:Fault):qcd (.error f):=fun l e=>by cases e
theorem qkp{b x:Text}(h:signAt b=some x):Jy (.sign x)=true:=by
 unfold signAt at h;unfold Jy
 split at h
 ·rename_i hs;cases h;have:=Ybq.mp hs;exact Ybq.mpr (by simp only[YbK];exact .inl (.inr this))
 ·split at h
  ·rename_i hs;cases h;have:=Ybq.mp hs;exact Ybq.mpr (by simp only[YbK];exact .inr this)
  ·cases h
theorem jP:∀(n:Nat)(lit:Bool)(O:List Bool)(i:Nat)(b:Text),qcd (cut n lit O i b)
 |0,_,_,i,_=>Z6 _
 |n+1,true,O,i,b=>by
  show qcd ((gather i b).bind _);cases gather i b with
  |error f=>exact Z6 f
  |ok g=>
   obtain⟨g,j,r⟩:=g
   have hr:qcd (match r with
    |36::_::r=>before j .hole (cut n false (true::O) (j+2) r)
    | r=>before j .unquote (cut n false O (j+1) (r.drop 1))):=by
    split
    ·exact(jP n false _ _ _).before rfl (by intro z;cases z)
    ·exact(jP n false _ _ _).before rfl (by intro z;cases z)
   show qcd (if g.isEmpty then _ else _)
   split
   ·exact hr
   ·exact hr.before rfl (by intro z;cases z)
 |n+1,false,O,i,[]=>fun l e=>by cases e;exact⟨⟨[],i,rfl,fun m hm=>by cases hm⟩,fun m hm=>by simp at hm;subst hm;rfl⟩
 |n+1,false,O,i,c::r=>by
  unfold cut
  split
  ·exact jP n false _ _ _
  split
  ·exact jP n false _ _ _
  split
  ·dsimp only
   split
   ·exact Z6 _
   ·refine(jP n false _ _ _).before ?_ ?_
    ·split
     ·rename_i h;exact h
     ·rfl
    ·split<;>(intro z;cases z)
  split
  ·dsimp only
   split
   ·exact Z6 _
   ·exact(jP n false _ _ _).before rfl (by intro z;cases z)
  split
  ·exact(jP n true _ _ _).before rfl (by intro z;cases z)
  split
  ·exact(jP n false _ _ _).before (by decide) (by intro z;cases z)
  split
  ·split
   ·exact(jP n true _ _ _).before rfl (by intro z;cases z)
   ·exact(jP n false _ _ _).before (by decide) (by intro z;cases z)
  split
  ·rename_i x hx;exact(jP n false _ _ _).before (qkp hx) (by intro z;cases z)
  ·exact Z6 _
theorem qhO{b:Text}{ts:Marks}(h:tokens b=.ok ts):RM.Ends ts/\∀m∈ts,Jy m.tok=true:=jP _ _ _ _ _ _ h
end CM
end
section
set_option autoImplicit false
namespace RM
open Vastoa
mutual
noncomputable def tw:Tree->Nat
 | .node _ ls l=>1+ls.length+jJ l
noncomputable def jJ:List Tree->Nat
 |[]=>0
 |t::r=>tw t+jJ r
end
mutual
noncomputable def lw:Tree->Nat
 | .node _ ls l=>(ls.map Ycs).sum+Q9 l
noncomputable def Q9:List Tree->Nat
 |[]=>0
 |t::r=>lw t+Q9 r
end
theorem qaw:∀a b:List Tree,jJ (a++b)=jJ a+jJ b
 |[],b=>by simp[jJ]
 |t::r,b=>by simp only[YbP,jJ,qaw r b];omega
theorem qax:∀a b:List Tree,Q9 (a++b)=Q9 a+Q9 b
 |[],b=>by simp[Q9]
 |t::r,b=>by simp only[YbP,Q9,qax r b];omega
theorem qgQ:∀l:List Tree,l.length<=jJ l
 |[]=>ω _
 | .node k ls l::r=>by have:=qgQ r;simp only[ξ,jJ,tw];omega
theorem qi9(B:List Tree)(n:Nat):jJ (B.take n)+jJ (B.drop n)=jJ B:=by rw[<- qaw,YcA]
theorem qja(B:List Tree)(n:Nat):Q9 (B.take n)+Q9 (B.drop n)=Q9 B:=by rw[<- qax,YcA]
noncomputable def pw:Part->Nat
 | .EXPR=>12 | .FORM=>10 | .FUNCTION=>1 | .FIELDS=>1 | .PARAMS=>1 | .GIVEN=>1 | .MPARAMS=>1 | .BINDS=>1 | .BOUND=>16 | .OR=>10 | .MOR=>1 | .AND=>9 | .MAND=>1 | .NOT=>8 | .CMP=>8 | .MCMP=>1
 | .UPD=>7 | .MUPD=>1 | .JOIN=>6 | .MJOIN=>1 | .SUM=>5 | .MSUM=>1 | .PROD=>4 | .MPROD=>1 | .NEG=>3 | .APP=>3 | .ARGS=>1 | .ARG=>4 | .SEL=>2 | .DOTS=>1 | .MDOTS=>1 | .DFLT=>1 | .ATOM=>1
 | .PIECES=>1 | .LIST=>14 | .MLIST=>1
noncomputable def sw:Sym->Nat
 | .p x=>pw x
 |_=>1
noncomputable def ww:List Sym->Nat
 |[]=>0
 |s::r=>sw s+ww r
theorem qft:∀a b:List Sym,ww (a++b)=ww a+ww b
 |[],b=>by simp[ww]
 |s::a,b=>by simp only[YbP,ww,qft a b];omega
noncomputable def Z7:List Sym->Nat
 | .t _::_=>2
 | .p .ARG::_=>1
 | .p .SEL::_=>1
 | .p .ATOM::_=>1
 | .a .take::.p .SEL::_=>1
 |_=>0
noncomputable def gw:List Bg->Nat
 |[]=>0
 |g::r=>1+g.labels.length+g.names.length+gw r
noncomputable def glw:List Bg->Nat
 |[]=>0
 |g::r=>(g.labels.map Ycs).sum+glw r
noncomputable def hw:Marks->Nat
 |[]=>0
 |m::r=>(held m.tok).length+hw r
noncomputable def jx:Bool->List Sym->Bool
 |_,[]=>true
 |_,.t _::W=>jx true W
 |f,.a .label::W=>f&&jx false W
 |f,.a _::W=>jx f W
 |f,.p .BOUND::W=>f&&jx false W
 |_,.p _::W=>jx false W
theorem qce:∀(W:List Sym),jx false W=true->jx true W=true
 |[],_=>rfl
 | .t _::W,h=>h
 | .a x::W,h=>by
  cases x with
  |label=>simp[jx]at h
  |_=>simp only[jx]at h ⊢;exact qce W h
 | .p x::W,h=>by cases x<;>simp[jx]at h ⊢ <;> exact h
theorem ql5{f:Bool}{W:List Sym}(h:jx false W=true):jx f W=true:=by
 cases f with
 |false=>exact h
 |true=>exact qce W h
theorem Za:∀(f:Bool)(C W:List Sym),jx f C=true->jx false W=true->jx f (C++W)=true
 |f,[],W,_,h=>ql5 h
 |f,.t _::C,W,h,hW=>by simp only[jx,YbP]at h ⊢;exact Za true C W h hW
 |f,.a x::C,W,h,hW=>by
  cases x with
  |label=>simp only[jx,YbP,Ybm]at h ⊢;exact⟨h.1,Za false C W h.2 hW⟩
  |_=>simp only[jx,YbP]at h ⊢;exact Za f C W h hW
 |f,.p x::C,W,h,hW=>by
  cases x with
  |BOUND=>simp only[jx,YbP,Ybm]at h ⊢;exact⟨h.1,Za false C W h.2 hW⟩
  |_=>simp only[jx,YbP]at h ⊢;exact Za false C W h hW
theorem qhP(x:Part)(k:Tok):jx (decide (x=.BOUND)) (qH x k)=true:=by cases x<;>simp only[qH]<;>(repeat' split)<;>rfl
structure Fits(n c:Nat)(s:MS):Prop where
 size:ww s.W+jJ s.B+gw s.G+32 * s.ts.length<=32 * n+13+16 * Z7 s.W
 lab:∃f,jx f s.W=true/\Q9 s.B+glw s.G+hw s.ts+(if f then(held s.pv.tok).length else 0)<=c
theorem qhQ(x:Part)(k:Tok)(W:List Sym):ww (qH x k)+16 * Z7 (.p x::W)<=pw x+16 * Z7 (qH x k++W):=by cases x<;>simp only[qH]<;>(repeat' split)<;>simp[ww,sw,pw,Z7]
theorem qmJ:∀W:List Sym,W.length<=ww W
 |[]=>ω _
 |s::r=>by
  have:=qmJ r
  have h1:1<=sw s:=by
   cases s with
   |p x=>cases x<;>simp[sw,pw]
   |t k=>exact ω _
   |a x=>exact ω _
  simp only[ξ,ww];omega
theorem qio(W:List Sym):Z7 W<=2:=by unfold Z7;split<;>omega
theorem qkq{f:Bool}{x:Part}{k:Tok}{W:List Sym}(h:jx f (.p x::W)=true):jx f (qH x k++W)=true:=by
 have hc:=qhP x k;by_cases hx:x=.BOUND
 ·subst hx;simp only[jx,Ybm]at h;obtain⟨rfl,h⟩:=h;exact Za true _ W hc h
 ·rw[decide_eq_false hx]at hc;have hW:jx false W=true:=by cases x<;>first|exact absurd rfl hx|(simp only[jx]at h;exact h)
  cases f with
  |false=>exact Za false _ W hc hW
  |true=>exact qce _ (Za false _ W hc hW)
theorem Fits.step {n c:Nat} {s s':MS} (h:Fits n c s) (e:step s=some (.ok s')):Fits n c s':=by
 obtain⟨ts,pv,lv,W,B,G⟩:=s;obtain⟨h,f,hl,hc⟩:=h;dsimp only at h hl hc;cases W with
 |nil=>cases e
 |cons y W=>
  cases y with
  |p x=>
   cases ts with
   |nil=>cases e
   |cons m r=>cases e;have c1:=qhQ x (kd m.tok) W;have w1:ww (.p x::W)=pw x+ww W:=rfl;refine⟨?_,f,qkq hl,hc⟩;dsimp only;rw[qft];omega
  |t k=>
   cases ts with
   |nil=>cases e
   |cons m r=>
    have e:(if kd m.tok=k then some (.ok ⟨r,m,lv,W,B,G⟩)else some (.error ⟨3,m.place⟩):Option (Except Fault MS))=some (Except.ok s'):=e
    split at e
    ·cases e;have w1:ww (.t k::W)=1+ww W:=rfl;have o1:Z7 (.t k::W)=2:=rfl;refine⟨?_,true,hl,?_⟩
     ·dsimp only;rw[ξ]at h;omega
     ·simp only[hw]at hc;simp only[if_true]
      split at hc<;>omega
    ·cases e
  |a x=>
   have w1:ww (.a x::W)=1+ww W:=rfl
   have o1:Z7 (.a x::W)<=Z7 W:=by
    cases x with
    |take=>
     cases W with
     |nil=>exact ω _
     |cons z W=>
      cases z with
      |p q=>cases q<;>simp[Z7]
      |t q=>simp[Z7]
      |a q=>simp[Z7]
    |_=>simp[Z7]
   have e:qbe x ts pv lv W B G=some (.ok s'):=e;cases x with
   |begin=>cases e;refine⟨?_,f,hl,?_⟩<;>dsimp only[gw,glw]<;>simp only[Ψ,YcV,YbO]<;>omega
   |take=>
    have e:(if B.length=0 then none else some (.ok ⟨ts,pv,lv,W,B,⟨B.length - 1,[],[]⟩::G⟩):Option (Except Fault MS))=some (Except.ok s'):=e
    split at e
    ·cases e
    ·cases e;refine⟨?_,f,hl,?_⟩<;>dsimp only[gw,glw]<;>simp only[Ψ,YcV,YbO]<;>omega
   |label=>
    cases G with
    |nil=>cases e
    |cons g G=>
     cases e;simp only[jx,Ybm]at hl;obtain⟨rfl,hl⟩:=hl;refine⟨?_,false,hl,?_⟩
     ·dsimp only[gw]at h ⊢;simp only[ν,ξ,Ψ];omega
     ·dsimp only[glw]at hc ⊢;simp only[Ybv,Ybp,YcV,List.sum_append,YbQ,YbO,if_true]at hc ⊢;simp only[YbI,if_false];omega
   |fresh=>
    cases G with
    |nil=>cases e
    |cons g G=>
     have e:(if held pv.tok∈g.names then some (.error ⟨5,pv.place⟩)else some (.ok ⟨ts,pv,lv,W,B,⟨g.first,g.labels,g.names++[held pv.tok]⟩::G⟩):Option (Except Fault MS))=some (Except.ok s'):=e
     split at e
     ·cases e
     ·cases e;refine⟨?_,f,hl,hc⟩;dsimp only[gw]at h ⊢;simp only[ν,ξ,Ψ];omega
   |enter=>
    cases ts with
    |nil=>cases e
    |cons m r=>
     have e:(if lv=40 then some (.error ⟨4,m.place⟩)else some (.ok ⟨m::r,pv,lv+1,W,B,G⟩):Option (Except Fault MS))=some (Except.ok s'):=e
     split at e
     ·cases e
     ·cases e;refine⟨?_,f,hl,hc⟩;dsimp only;omega
   |leave=>
    have e:(if lv=0 then none else some (.ok ⟨ts,pv,lv - 1,W,B,G⟩):Option (Except Fault MS))=some (Except.ok s'):=e
    split at e
    ·cases e
    ·cases e;refine⟨?_,f,hl,hc⟩;dsimp only;omega
   |fin k=>
    cases G with
    |nil=>cases e
    |cons g G=>
     have e:(if g.first<=B.length then some (.ok ⟨ts,pv,lv,W,B.take g.first++[.node k g.labels (B.drop g.first)],G⟩)else none:Option (Except Fault MS))=some (Except.ok s'):=e
     split at e
     ·cases e;have s1:=qi9 B g.first;have s2:=qja B g.first;refine⟨?_,f,hl,?_⟩
      ·dsimp only[gw]at h ⊢;rw[qaw];simp only[jJ,tw];omega
      ·dsimp only[glw]at hc ⊢;rw[qax];simp only[Q9,lw];omega
     ·cases e
theorem Fits.small {n c:Nat} {s:MS} (h:Fits n c s) (hn:n<=5000):s.W.length<=200000/\s.B.length<=200000/\gw s.G<=200000:=by have h0:=h.size;have h1:=qmJ s.W;have h2:=qio s.W;have h3:=qgQ s.B;omega
theorem Fits.tree {n c:Nat} {s:MS} (h:Fits n c s) (hn:n<=5000):jJ s.B<=200000/\Q9 s.B<=c:=by have h0:=h.size;have h2:=qio s.W;obtain⟨f,_,h3⟩:=h.lab;constructor<;>omega
theorem qkr:∀G:List Bg,G.length<=gw G
 |[]=>ω _
 |g::r=>by have:=qkr r;simp only[ξ,gw];omega
theorem qgR:∀{G:List Bg}{g:Bg},g∈G->g.labels.length+g.names.length<=gw G
 |g'::r,g,h=>by
  rcases Γ.mp h with rfl|h
  ·simp only[gw];omega
  ·have:=qgR h;simp only[gw];omega
theorem qjb(ts:Marks)(pv:Mark):Fits ts.length (hw ts) ⟨ts,pv,0,[.p .EXPR,.t .fin],[],[]⟩:=by
 refine⟨?_,false,rfl,?_⟩
 ·simp[ww,sw,pw,gw,Z7,jJ];omega
 ·simp[Q9,glw]
end RM
end
section
set_option autoImplicit false
namespace CM
open Vastoa
def Holds(n:Nat)(r:Except Fault Marks):Prop:=∀l,r=.ok l->RM.hw l<=n
theorem Holds.before {i n m:Nat} {t:Tok} {r:Except Fault Marks} (h:Holds n r) (ht:(RM.held t).length+n<=m):Holds m (Vastoa.before i t r):=by
 intro l e;cases r with
 |error f=>cases e
 |ok l'=>cases e;have:=h l' rfl;show(RM.held t).length+RM.hw l'<=m;omega
theorem Holds.le {n m:Nat} {r:Except Fault Marks} (h:Holds n r) (hm:n<=m):Holds m r:=fun l e=>Ybx (h l e) hm
theorem qks:∀(b:Text)(i:Nat)(g:Text)(j:Nat)(r:Text),gather i b=.ok (g,j,r)->g.length+r.length<=b.length:=by
 intro b
 induction hb:b.length using Nat.strongRecOn generalizing b with
 |ind n ih=>
  intro i g j r e;subst hb
  match b,e with
  |[],e=>cases e
  |c::b',e=>
   by_cases h92:c=92
   ·subst h92
    match b',e with
    |[],e=>cases e
    |d::b2,e=>
     have e:(match unescape d with
      |some x=>(gather (i+2) b2).map fun y=>(x::y.1,y.2.1,y.2.2)
      | none=>.error ⟨2,i⟩:Except Fault (Text×Nat×Text))=.ok (g,j,r):=e
     cases hu:unescape d with
     |none=>rw[hu]at e;cases e
     |some x=>
      rw[hu]at e;cases hg:gather (i+2) b2 with
      |error f=>rw[hg]at e;cases e
      |ok y=>rw[hg]at e;cases e;have:=ih b2.length (by simp;omega) b2 rfl (i+2) y.1 y.2.1 y.2.2 hg;simp;omega
   ·rw[qcc i c b' h92]at e
    split at e
    ·cases e;simp
    ·split at e
     ·cases e
     ·cases hg:gather (i+1) b' with
      |error f=>rw[hg]at e;cases e
      |ok y=>rw[hg]at e;cases e;have:=ih b'.length (by simp) b' rfl (i+1) y.1 y.2.1 y.2.2 hg;simp;omega
theorem qcf(p:Nat->Bool)(b:Text):(b.takeWhile p).length<=b.length:=by
 induction b with
 |nil=>exact ω _
 |cons c b ih=>rw[Yc7];split<;>simp<;>omega
theorem jQ:∀(n:Nat)(lit:Bool)(O:List Bool)(i:Nat)(b:Text),Holds b.length (cut n lit O i b)
 |0,_,_,_,_=>fun l e=>by cases e
 |n+1,true,O,i,b=>by
  show Holds _ ((gather i b).bind _);cases hg:gather i b with
  |error f=>exact fun l e=>by cases e
  |ok g=>
   obtain⟨g,j,r⟩:=g;have hl:=qks b i g j r hg
   have hr:Holds r.length (JY n O j r):=by
    unfold JY
    split
    ·exact(jQ n false _ _ _).before (by simp[RM.held];omega)
    ·exact(jQ n false _ _ _).before (by simp[RM.held])
   show Holds b.length (if g.isEmpty then JY n O j r else Vastoa.before i (.piece g) (JY n O j r))
   split
   ·exact hr.le (by omega)
   ·exact hr.before (t:=.piece g) (by show g.length+r.length<=_;omega)
 |n+1,false,O,i,[]=>fun l e=>by cases e;exact ω _
 |n+1,false,O,i,c::r=>by
  unfold cut
  split
  ·exact(jQ n false _ _ _).le (by simp)
  split
  ·exact(jQ n false _ _ _).le (by rw[YbF];omega)
  split
  ·dsimp only
   split
   ·exact fun l e=>by cases e
   ·refine(jQ n false _ _ _).before ?_;have:=qcf inner (c::r);rw[YbF]
    split<;>(show((c::r).takeWhile inner).length+_<=_;omega)
  split
  ·dsimp only
   split
   ·exact fun l e=>by cases e
   ·refine(jQ n false _ _ _).before ?_;have:=qcf digit (c::r);rw[YbF];show((c::r).takeWhile digit).length+_<=_;omega
  split
  ·exact(jQ n true _ _ _).before (by simp[RM.held])
  split
  ·exact(jQ n false _ _ _).before (by simp[RM.held])
  split
  ·split
   ·exact(jQ n true _ _ _).before (by simp[RM.held])
   ·exact(jQ n false _ _ _).before (by simp[RM.held])
  split
  ·exact(jQ n false _ _ _).before (by rw[YbF];show 0+_<=_;omega)
  ·exact fun l e=>by cases e
theorem qhR{b:Text}{ts:Marks}(h:tokens b=.ok ts):RM.hw ts<=b.length:=jQ _ _ _ _ _ _ h
end CM
end
section
namespace L2
open PySem PySem.Spec PyProof.Rows
section
variable(P:Program)(w:World)(K:γ)(mg:Str->Option Value)(base:Heap)(CX:CXT)(k:Nat)
def FnAt(x:Str)(ps:List Str)(sp:Sp):Prop:=∃f fd,mg x=some (.ref f)/\qw P w K mg base CX k f fd ps sp/\ζ K (.ref f)=true/\Binds K fd ps []
def jn(C:Addr)(m:Str)(ps:List Str)(sp:Sp):Prop:=∃f fd,qiQ K C m f/\qw P w K mg base CX k f fd ps sp/\Binds K fd ps []
def qcg(C:Addr)(x:Str)(ps:List Str)(sp:Sp):Prop:=∃f fd,mg x=some (.ref C)/\Mk K C f/\qw P w K mg base CX k f fd ps sp/\Binds K fd ps []
def QZ(C:Addr)(x:Str)(ps:List Str)(sp:Sp):Prop:=∃f fd,mg x=some (.ref C)/\XMk K C f/\qw P w K mg base CX0 k f fd ps sp/\Binds K fd ps []
end
section
variable{X:Cx}{CX:CXT}{k:Nat}{C:Addr}{ps:List Str}{sp:Sp}{E:XK}{x m:Str}{p pos apos:Pos}{e o:Expr}{es:List Expr}{ta:TE}{t:TA}
theorem qT(G:FnAt X.prog X.w X.K X.mg X.base CX k x ps sp)(hr:qI k X.A)(hx:jo CX X E)(ha:PA X (e::es) t)(hg:Gl X x:=by rfl)
  (hdb:(x==("__debug__":Str))=false:=by decide) (he:starEach (e::es) X.env=(false,eval e X.env)::starEach es X.env:=by rfl) (hpl:(backTo pos (starEach es X.env)).any (·.1)=false:=by rfl):
  PE X (.Call (.Name x p) (e::es) [] pos) (QY sp [] E t):=by
 obtain⟨f,fd,h1,h2,h3,h4⟩:=G;exact qm4 h2 hr hg h1 h3 h4 .nil hx ha hdb he hpl
theorem zm{pl:Sem Bool}(G:jn X.prog X.w X.K X.mg X.base CX k C m ps sp)(c:Cls X.K C)(hr:qI k X.A)(hx:jo CX X E)(he:PE X o ta)(ha:PA X (e::es) t)
  (hst:starEach (e::es) X.env=(false,eval e X.env)::starEach es X.env:=by rfl) (hpl:(backTo pos (starEach es X.env)).any (·.1)=false:=by rfl)
  (ht:eval (.Call (.Attribute o m apos) (e::es) [] pos) X.env=(do
   let ov <- eval o X.env
   standAt apos.atName
   let(f,first) <- holding [ov] (getMethod ov m pl)
   callWith pos f first (backTo pos (starEach (e::es) X.env)) (backToKw pos (keywordEach [] X.env))):=by rfl):
  PE X (.Call (.Attribute o m apos) (e::es) [] pos) (qdH C m sp [] E ta t):=by
 obtain⟨f,fd,h1,h2,h3⟩:=G;exact qm5 he c h1 h2 hr h3 .nil hx ha hst hpl ht
theorem jw{pl:Sem Bool}(G:jn X.prog X.w X.K X.mg X.base CX k C m ps sp)(c:Cls X.K C)(hr:qI k X.A)(hx:jo CX X E)(he:PE X o ta)
  (ht:eval (.Call (.Attribute o m apos) [] [] pos) X.env=(do
   let ov <- eval o X.env
   standAt apos.atName
   let(f,first) <- holding [ov] (getMethod ov m pl)
   callWith pos f first (backTo pos (starEach [] X.env)) (backToKw pos (keywordEach [] X.env))):=by rfl):
  PE X (.Call (.Attribute o m apos) [] [] pos) (qdH C m sp [] E ta jN):=by
 obtain⟨f,fd,h1,h2,h3⟩:=G;exact qlA he c h1 h2 hr h3 .nil hx ht
theorem Zb(G:qcg X.prog X.w X.K X.mg X.base CX k C x ps sp)(hr:qI (k+1) X.A)(hx:jo CX X E)(ha:PA X (e::es) t)(hg:Gl X x:=by rfl)
  (hdb:(x==("__debug__":Str))=false:=by decide) (he:starEach (e::es) X.env=(false,eval e X.env)::starEach es X.env:=by rfl) (hpl:(backTo pos (starEach es X.env)).any (·.1)=false:=by rfl):
  PE X (.Call (.Name x p) (e::es) [] pos) (qmE C sp [] E t):=by
 obtain⟨f,fd,h1,h2,h3,h4⟩:=G;exact qm6 h2 h3 hr hg h1 h4 .nil hx ha hdb he hpl
def GlV(mg:Str->Option Value)(x:Str)(v:V):Prop:=∃u,mg x=some u/\RelV v u
theorem qM{v:V}(h:GlV X.mg x v)(hg:Gl X x:=by rfl)(hd:(x==("__debug__":Str))=false:=by decide):PE X (.Name x pos) (tC v):=by obtain⟨u,h1,h2⟩:=h;exact qmZ hg h1 h2 hd
end
section
variable{P:Program}{w:World}{K:γ}{mg:Str->Option Value}{base:Heap}{N:List Str}{qual:Str}{scope:Scope}{f:Addr}{cd:Value}{A:Around}{outer:List Env}{s0:Shared}{H0:Hp}{E:XK}
variable{k:Nat}{C:Addr}{ps:List Str}{sp:Sp}{x:Str}{np cpos pos:Pos}{es:List Expr}{t:TA}
theorem Qn{e:Expr}(G:QZ P w K mg base k C x ps sp)(hr:qI (k+1) (qQ (CXR P w) P w K mg base N qual scope f cd A outer s0 H0 E).A)
  (ha:PA (qQ (CXR P w) P w K mg base N qual scope f cd A outer s0 H0 E) (e::es) t) (hg:Gl (qQ (CXR P w) P w K mg base N qual scope f cd A outer s0 H0 E) x:=by rfl)
  (hdb:(x==("__debug__":Str))=false:=by decide)
  (he:starEach (e::es) (qQ (CXR P w) P w K mg base N qual scope f cd A outer s0 H0 E).env=(false,eval e (qQ (CXR P w) P w K mg base N qual scope f cd A outer s0 H0 E).env)::starEach es (qQ (CXR P w) P w K mg base N qual scope f cd A outer s0 H0 E).env:=by rfl)
  (hpl:(backTo cpos (starEach es (qQ (CXR P w) P w K mg base N qual scope f cd A outer s0 H0 E).env)).any (·.1)=false:=by rfl):
  PS (qQ (CXR P w) P w K mg base N qual scope f cd A outer s0 H0 E) (.Raise (some (.Call (.Name x np) (e::es) [] cpos)) none pos) (qca C sp E t):=by
 obtain⟨g,fd,h1,h2,h3,h4⟩:=G;exact qlP h2 h3 hr h4 hg h1 ha hdb he hpl
theorem Z8(G:QZ P w K mg base k C x ps sp)(hr:qI (k+1) (qQ (CXR P w) P w K mg base N qual scope f cd A outer s0 H0 E).A)
  (hg:Gl (qQ (CXR P w) P w K mg base N qual scope f cd A outer s0 H0 E) x:=by rfl) (hdb:(x==("__debug__":Str))=false:=by decide):
  PS (qQ (CXR P w) P w K mg base N qual scope f cd A outer s0 H0 E) (.Raise (some (.Call (.Name x np) [] [] cpos)) none pos) (qca C sp E jN):=by
 obtain⟨g,fd,h1,h2,h3,h4⟩:=G;exact qka h2 h3 hr h4 hg h1 hdb
theorem Fun.okR {y qual:Str} {st:Stmt} {f:Addr} {fd:FuncData} {N ps:List Str} {k:Nat} {sp:Sp} (F:Fun K y qual st f fd) (S:qm N ps (qe st)) (len:∀vs H Q E,sp vs H Q E->vs.length=ps.length)
  (hbody:∀(cdv:Value)(A:Around)(outer:List Env)(s:Shared)(H:Hp)(vs:List V)(Q:VK)(E:XK),qI k (A.deeper (envOfC qual (qe st) s.heap.objs.size f cdv))->sp vs H Q E ->
   ∃t,PSs (qQ (CXR P w) P w K mg base N qual (qe st) f cdv A outer s H E) (qk st) t/\t {nx:=fun _ H'=>Q .non H',rt:=Q} (start N vs) H):qw P w K mg base (CXR P w) (k+1) f fd ps sp:=by
 obtain⟨oc,od,kV,doc,pm,an,cdv,ct,osl,rfl,lk,hcd⟩:=F.ex;exact qiR lk hcd S len fun A outer s H vs Q E hr hsp=>hbody cdv A outer s H vs Q E hr hsp
end
def qay(K:γ)(a:Addr)(xs:List V):Prop:=∃(o:Obj)(its:Array Value)(n:Nat),K.lookup a=some o/\o.cls=.type "tuple"/\o.data=.seq its n/\its.size<=Λ/\qD xs its.toList
theorem qay.sq {K:γ} {a:Addr} {xs:List V} (h:qay K a xs) (H:Hp):SqT K H a xs:=.inr h
def Q0(P:Program)(w:World)(K:γ)(a:Addr)(kvs:List (Key×V)):Prop:=(a==sysModules)=false/\∃vs,KV kvs vs/\∀h,K.In h->h.DictOf (zZ P w) a vs
section
variable{X:Cx}{pins:List (Addr×Obj)}{σ:St}{H:Hp}{s:Shared}{a:Addr}{y v:V}{u r:Value}{o:Option V}{A:Around}{E:Value->Shared->Prop}{kvs:List (Key×V)}{k:Key}
theorem qkt{Q:Value->Shared->Prop}(I:Inv X pins σ H s)(d:Q0 X.prog X.w X.K a kvs)(l:zB kvs k=some v)(ry:RelV (kV k) u)(h:∀w' s',Inv X pins σ H s'->RelV v w'->Q w' s'):
  wpAny (model X.prog X.w) A (getItem (.ref a) u) Q E s:=by
 obtain⟨hd,vs,rel,dd⟩:=d;have dd:=dd _ I.kIn;obtain⟨w',hw,rw'⟩:=j6.some_of (v:=v) (o:=valueAt vs k) (by rw[<- l];exact rel.val k);exact wpAny_getItem_of (qa9 ry) dd.mapOf hw (h w' _ (I.tok _) rw')
theorem k_in{Q:Value->Shared->Prop}(I:Inv X pins σ H s)(d:Q0 X.prog X.w X.K a kvs)(ry:RelV (kV k) u)(h:∀s',Inv X pins σ H s'->Q (.bool (zB kvs k).isSome) s'):
  wpAny (model X.prog X.w) A (compareOp .In u (.ref a)) Q E s:=by
 obtain⟨hd,vs,rel,dd⟩:=d;have dd:=dd _ I.kIn;refine wpAny_in_of (qa9 ry) hd dd.mapOf ?_;rw[<- (rel.val k).isSome_eq];exact h _ (I.tok _)
theorem qow{Q:Value->Shared->Prop}(I:Inv X pins σ H s)(d:Q0 X.prog X.w X.K a kvs)(ry:RelV (kV k) u)(h:∀w' s',Inv X pins σ H s'->RelV ((zB kvs k).getD .non) w'->Q w' s'):
  wpAny (model X.prog X.w) A (call (.builtin "dict.get") [.ref a,u]) Q E s:=by
 obtain⟨hd,vs,rel,dd⟩:=d;have dd:=dd _ I.kIn;refine call_meetsIn YcB dd.typeIs Ydy (PySem.F.args_dict_get_2 _ _) (meets_dict_get (zZ X.prog X.w) a (qa9 ry) hd) ⟨_,dd.mapOf,h _ _ (I.tok _) ?_⟩;exact(rel.val k).getD rfl
theorem qdm(I:Inv X pins σ H s)(d:Q0 X.prog X.w X.K a kvs):s.TypeIs (.ref a) "dict"/\(∀b,Value.ref a=.ref b->∃ob,s.heap.get? b=some ob/\ob.dict=none):=by obtain⟨hd,vs,rel,dd⟩:=d;have dd:=dd _ I.kIn;refine⟨dd.typeIs,fun b q=>?_⟩;cases q;obtain⟨ob,_,_,h1,h2,_⟩:=dd;exact⟨ob,h1,h2.2.1⟩
end
def qmK(P:Program)(w:World)(K:γ)(td ty:TE):TE:=fun σ H Q=>td σ H fun x H1=>ty σ H1 fun y H2=>∃a kvs k v,x=.ref a/\Q0 P w K a kvs/\y=kV k/\zB kvs k=some v/\Q v H2
def qpM(P:Program)(w:World)(K:γ)(ty td:TE):TE:=fun σ H Q=>ty σ H fun y H1=>td σ H1 fun x H2=>∃a kvs k,x=.ref a/\Q0 P w K a kvs/\y=kV k/\Q (.bl (zB kvs k).isSome) H2
def qox(P:Program)(w:World)(K:γ)(td ty:TE):TE:=fun σ H Q=>td σ H fun x H1=>∃a kvs,x=.ref a/\Q0 P w K a kvs/\ty σ H1 fun y H2=>∃k,y=kV k/\Q ((zB kvs k).getD .non) H2
section
variable{X:Cx}{o i e:Expr}{pos apos cpos:Pos}{td ty:TE}
theorem ZN(ho:PE X o td)(hi:PE X i ty)(hs:qog i):PE X (.Subscript o i pos) (qmK X.prog X.w X.K td ty):=by intro pins s σ H Q I h;refine qnc PySem.F.slot_dict_getitem.lookup hs (thn (ho pins s σ H _ I h) fun u s1 ⟨x,H1,I1,rx,q1⟩=>thn (hi pins s1 σ H1 _ I1 q1) fun iv s2 ⟨y,H2,I2,ry,a,kvs,k,v,ex,d,ey,l,q2⟩=>?_);subst ex ey;obtain rfl:u=Value.ref a:=rx;exact⟨(qdm I2 d).1,qkt I2 d l ry fun w' s3 I3 rw'=>⟨v,H2,I3,rw',q2⟩⟩
theorem qoy(hi:PE X i ty)(ho:PE X o td):PC X .In i o (qpM X.prog X.w X.K ty td):=by intro pins s σ H Q I h;refine thn (hi pins s σ H _ I h) fun iv s1 ⟨y,H1,I1,ry,q1⟩=>thn (ho pins s1 σ H1 _ I1 q1) fun u s2 ⟨x,H2,I2,rx,a,kvs,k,ex,d,ey,q2⟩=>?_;subst ex ey;obtain rfl:u=Value.ref a:=rx;exact k_in I2 d ry fun s3 I3=>⟨.bl (zB kvs k).isSome,H2,I3,rfl,q2⟩
theorem ql6(ho:PE X o td)(he:PE X e ty)(m:M1 X o "get" apos e cpos):PE X (.Call (.Attribute o "get" apos) [e] [] cpos) (qox X.prog X.w X.K td ty):=by intro pins s σ H Q I h;refine wpAny_Call_method m.base m.few m.line Ydw YcB YdG (thn (ho pins s σ H _ I h) fun u s1 ⟨x,H1,I1,rx,a,kvs,ex,d,q1⟩=>?_);subst ex;obtain rfl:u=Value.ref a:=rx;obtain⟨t1,t2⟩:=qdm I1 d;refine⟨t1,t2,?_⟩;rw[m.trees];refine Calls.callWith_builtin rfl (Calls.evalArgs_plain (Calls.spliced_cons (thn (he pins s1 σ H1 _ I1 q1) fun iv s2 ⟨y,H2,I2,ry,k,ey,q2⟩=>Calls.spliced_nil ?_)));subst ey;exact qow I2 d ry fun w' s3 I3 rw'=>⟨_,H2,I3,rw',q2⟩
end
theorem qoz{x:Str}{g:TG}{tt:TT}{te:TE}{vs:List Nat}{σ:St}{H1:Hp}{D:Addr}{Qd:Hp->Prop}(Pv:Nat->Hp->Prop)(h0:Pv 0 (upd H1 D (.lst [])))
  (hs:∀i c H,x.cps[i]?=some c->Pv i H->g (.str ⟨#[c]⟩) (wipe σ vs) H fun σ2 H2=>wipe σ2 vs=wipe σ vs/\tt σ2 H2 fun b H3=>
   if b=true then te σ2 H3 fun y H4=>∃acc,H4 D=some (.lst acc)/\acc.length<Λ/\Pv (i+1) (upd H4 D (.lst (acc++[y])))else Pv (i+1) H3) (hd:∀H,Pv x.cps.size H->Qd H):
  ∃W:Nat->Nat->Hp->Prop,(∃m,W 0 m (upd H1 D (.lst [])))/\∀i m H,W i m H ->
   ((Its x).stop i H/\Qd H)\/((Its x).go i H/\∃Nx:Hp->Prop,(∀H',Nx H'->∃m',m'<m/\W (i+1) m' H')/\∀v H',(Its x).yld i H v H'->g v (wipe σ vs) H' fun σ2 H2=>wipe σ2 vs=wipe σ vs/\tt σ2 H2 fun b H3=>
    if b=true then te σ2 H3 fun y H4=>∃acc,H4 D=some (.lst acc)/\acc.length<Λ/\Nx (upd H4 D (.lst (acc++[y])))else Nx H3):=by
 refine⟨fun i m H=>m=x.cps.size - i/\i<=x.cps.size/\Pv i H,⟨x.cps.size,by simp,ό _,h0⟩,?_⟩;rintro i m H ⟨rfl,hi,p⟩;by_cases hlt:i<x.cps.size
 ·refine .inr ⟨hlt,Pv (i+1),fun H' p'=>⟨x.cps.size - (i+1),by omega,rfl,hlt,p'⟩,fun v H' y=>?_⟩;obtain⟨e,c,hc,rfl⟩:=y;subst e;exact hs i c _ hc p
 ·have e:i=x.cps.size:=by omega
  subst e;exact .inl ⟨ω _,hd H p⟩
section
variable{X:Cx}{a b:Expr}{ta tb:TE}{es:List Expr}{t:TA}{pos tp:Pos}
theorem qo{H:Hp}{p:Addr}{o:HO}(h:H p=none):qB H (upd H p o):=fun b u e=>by rw[qd (qg e h)];exact e
theorem qnt{op:CmpOp}{r:R2}{R:V->Hp->VK->Prop}(ho:OpR X (compareOp op) r)(ha:PE X a ta)(hb:PE X b tb)(hm:behindInMarks op b=false)(i:∀σ x H Q,R x H Q->tb σ H fun y H2=>r x y H2 Q):
  PE X (.Compare a [op] [b] pos) (fun σ H Q=>ta σ H fun x H1=>R x H1 Q):=by
 intro pins s σ H Q I h;refine wpAny_Compare1 (thn (ha pins s σ H _ I h) fun v s1 ⟨x,H1,I1,r1,q1⟩=>thn (hb pins s1 σ H1 _ I1 (i _ _ _ _ q1)) fun u s2 ⟨y,H2,I2,r2,q2⟩=>?_) hm;exact ho pins s2 σ H2 x y v u Q I2 r1 r2 q2
theorem qip{op:CmpOp}{r:R2}{R:V->Hp->VK->Prop}(ho:OpR X (compareOp op) r)(ha:PE X a ta)(hb:PE X b tb)(hm:behindInMarks op b=false)(i:∀σ x H Q,R x H Q->tb σ H fun y H2=>r x y H2 Q):
  PT X (.Compare a [op] [b] pos) (qdz fun σ H Q=>ta σ H fun x H1=>R x H1 Q):=by
 intro pins s σ H Q I h
 refine wpAny_isTrue_Compare1 (thn (ha pins s σ H _ I h) fun v s1 ⟨x,H1,I1,r1,q1⟩=>thn (hb pins s1 σ H1 _ I1 (i _ _ _ _ q1)) fun u s2 ⟨y,H2,I2,r2,q2⟩=>
  thn (ho pins s2 σ H2 x y v u _ I2 r1 r2 q2) fun c s3 ⟨z,H3,I3,r3,k,e,q3⟩=>?_) hm
 subst e;cases r3;exact wpAny_truthy_bool ⟨H3,I3,q3⟩
def qew(neg:Bool)(xs:List V):V->Hp->VK->Prop:=fun x H Q=>QD x=true/\∀H',qB H H'->Q (.bl (if neg then !inV x xs else inV x xs)) H'
def qjc(neg:Bool)(xs:List V)(ta:TE):TE:=fun σ H Q=>ta σ H fun x H1=>qew neg xs x H1 Q
theorem qex{neg:Bool}{xs:List V}{K:γ}(ht:∀σ H Q,t σ H Q=Q xs H)(hx:xs.all QD=true)(hl:xs.length<=1000)(σ:St)(x:V)(H:Hp)(Q:VK)(q:qew neg xs x H Q):qn8 t σ H fun y H2=>rIn K neg x y H2 Q:=by show t σ H _;rw[ht];exact⟨Yb2 (Q7 hl),fun p hp=>⟨p,xs,rfl,.inr (SqT.of qc),q.1,hx,q.2 _ (qo hp)⟩⟩
variable{tr:Nat}{xs:List V}
theorem qku(ha:PE X a ta)(hes:PA X es t)(ht:∀σ H Q,t σ H Q=Q xs H:=by intro _ _ _;rfl)(hx:xs.all QD=true:=by rfl)(hl:xs.length<=1000:=by decide)
  (hmk:behindInMarks .In (.Tuple es tr tp)=false:=by with_unfolding_all rfl):PE X (.Compare a [.In] [.Tuple es tr tp] pos) (qjc false xs ta):=qnt (R:=qew false xs) (ta:=ta) ZM ha (qgj hes) hmk (qex ht hx hl)
theorem qkv(ha:PE X a ta)(hes:PA X es t)(ht:∀σ H Q,t σ H Q=Q xs H:=by intro _ _ _;rfl)(hx:xs.all QD=true:=by rfl)(hl:xs.length<=1000:=by decide)
  (hmk:behindInMarks .In (.Tuple es tr tp)=false:=by with_unfolding_all rfl):PT X (.Compare a [.In] [.Tuple es tr tp] pos) (qdz (qjc false xs ta)):=qip (R:=qew false xs) (ta:=ta) ZM ha (qgj hes) hmk (qex ht hx hl)
theorem qfu(ha:PE X a ta)(hes:PA X es t)(ht:∀σ H Q,t σ H Q=Q xs H:=by intro _ _ _;rfl)(hx:xs.all QD=true:=by rfl)(hl:xs.length<=1000:=by decide)
  (hmk:behindInMarks .NotIn (.Tuple es tr tp)=false:=by with_unfolding_all rfl):PT X (.Compare a [.NotIn] [.Tuple es tr tp] pos) (qdz (qjc true xs ta)):=qip (R:=qew true xs) (ta:=ta) qgm ha (qgj hes) hmk (qex ht hx hl)
end
noncomputable def nt(l:List Nat):List V:=l.map fun n:Nat=>V.int (n:Int)
theorem zw(l:List Nat):(nt l).length=l.length:=τ _
noncomputable def ntD(l:List Nat):PyData:=.list (l.map fun n:Nat=>.int (n:Int))
theorem qkw{K:γ}{H:Hp}:∀l:List Nat,qa8 K H (nt l) (l.map fun n:Nat=>.int (n:Int))
 |[]=>.nil
 |n::r=>.cons (.int _) (qkw r)
theorem qmL{K:γ}{H:Hp}{p:Addr}{l:List Nat}(h:SqL K H p (nt l)):Dp K H (.ref p) (ntD l):=.lst h (qkw l)
theorem qkx:∀l:List Nat,PyData.canLayAll0 (l.map fun n:Nat=>.int (n:Int))=true
 |[]=>by simp[PyData.canLayAll0]
 |n::r=>by simp[PyData.canLayAll0,PyData.canLay0,qkx r]
theorem qgS:∀l:List Nat,PyData.depthAll (l.map fun n:Nat=>.int (n:Int))=0
 |[]=>by simp[PyData.depthAll]
 |n::r=>by simp[PyData.depthAll,PyData.depth,qgS r]
theorem qfv(l:List Nat):SeqAt.shaped (ntD l)=true:=by unfold SeqAt.shaped ntD;simp[PyData.canLay0,qkx,PyData.depth,qgS]
theorem qdT:∀l m:List Nat,PyData.eqvAll (l.map fun n:Nat=>.int (n:Int)) (m.map fun n:Nat=>.int (n:Int))=decide (l=m)
 |[],[]=>by simp[PyData.eqvAll]
 |[],_::_=>by simp[PyData.eqvAll]
 |_::_,[]=>by simp[PyData.eqvAll]
 |a::l,b::m=>by
  simp only[Ybp,PyData.eqvAll,PyData.eqv,qdT l m,List.cons.injEq];by_cases h:a=b
  ·subst h;simp
  ·have:¬((a:Int)=b):=by omega
   simp[h,this]
theorem qoA(l m:List Nat):PyData.eqv (ntD l) (ntD m)=decide (l=m):=by unfold ntD;simp only[PyData.eqv];exact qdT l m
theorem qky{K:γ}{H:Hp}{p q:Addr}{l m:List Nat}{Q:VK}(h1:SqL K H p (nt l))(h2:SqL K H q (nt m))(h:Q (.bl (decide (l=m))) H):qoc K (.ref p) (.ref q) H Q :=⟨_,_,qmL h1,qmL h2,qfv l,qfv m,by rw[qoA];exact h⟩
end L2
end
section
set_option maxHeartbeats 400000
namespace L2
open PySem PySem.Spec PyProof.Rows
open Sem (wp)
section
variable{P:Program}{w:World}{A:Around}{R:Result->Shared->Prop}{it:Addr}{fp wr:List Addr}{n:Nat}{Pz:Nat->Value->Prop}{St:Nat->Heap->Prop}{kw:List (Str×Value)}
theorem qcS:(toString "max"++toString ".loop":String)="max.loop":=by decide
theorem qnu(W:Walks P w A.in1 it fp wr n Pz St)(bt:Nat->Nat->Bool)(cmp:CmpOf P w A.in1 .Gt Pz bt)(b:Addr)(bf:b∉fp):∀(k j:Nat)(s:Shared)(u:Value)(c:Nat),n - (j+1)=k->j+1<=n->St (j+1) s.heap->Pz (argBest bt j) u ->
  s.heap.get? b=some {cls:=.type "list",dict:=none,data:=.seq #[u,u] c,slots:=#[]} ->
  (∀v h' tk,Pz (argBest bt (n - 1)) v->(∀x o,x∉wr->x≠b->s.heap.get? x=some o->h'.get? x=some o)->R (.ok (.ret v)) {s with heap:=h',toks:=tk}) ->
  codeAny (model P w) A (.builtin "max.loop" ⟨[.ref it,.none,.ref b],kw⟩) R s:=by
 have bw:b∉wr:=fun z=>bf (W.sub _ z);intro k
 induction k with
 |zero=>
  intro j s u c e1 e2 st hu hb fin;have en:j+1=n:=by omega
  refine codeAny_builtin F.entry_max_loop ?_;rw[Around.under_plainId F.plain_max_loop _];refine ε (wpAny_seqItems hb rfl ?_);refine ε (wpAny_tryCatch (W.done s _ _ (en▸st) fun h1 tk kk=>?_));refine ε (wpAny_updateSeq (kk b _ bw hb) rfl (ε (wpAny_letGo (Φ ?_))));exact fin u _ tk (by rw[<- en];exact hu) fun x o xw xb e=>(Ybo _ _ (Ne.symm xb)).trans (kk x o xw e)
 |succ k ih=>
  intro j s u c e1 e2 st hu hb fin;have lt:j+1<n:=by omega
  refine codeAny_builtin F.entry_max_loop ?_;rw[Around.under_plainId F.plain_max_loop _];refine ε (wpAny_seqItems hb rfl ?_);refine ε (wpAny_tryCatch (W.item (j+1) s _ _ lt st fun v h1 tk hv st1 kk=>?_));have hb1:=kk b _ bw hb;refine ε (Φ ?_);refine ε (wpAny_tryCatch (wpAny_holding (ε (cmp (j+1) (argBest bt j) v u _ _ _ hv hu ?_))));refine ε (wpAny_holding (wpAny_truthy_bool (ε (wpAny_letGo (Φ ?_)))));cases hc:bt (j+1) (argBest bt j)with
  |true=>
   simp only[if_true];refine ε (wpAny_updateSeq hb1 rfl (ε (wpAny_letGo ?_)));rw[qcS];refine Φ ⟨plainId_quiet F.plain_max_loop _,ih (j+1) _ v _ (by omega) lt (W.frame _ _ _ st1 fun x xf o e=>?_) (by simp only[argBest,hc,if_true];exact hv) (YbG _ hb1 rfl) fun v' h2 tk2 hv' kk2=>?_⟩
   ·exact(Ybo _ _ (fun z:b=x=>bf (by rw[z];exact xf))).trans e
   ·exact fin v' h2 tk2 hv' fun x o xw xb e=>kk2 x o xw xb ((Ybo _ _ (Ne.symm xb)).trans (kk x o xw e))
  |false=>simp only[YbI,if_false];refine ε (wpAny_letGo ?_);rw[qcS];refine Φ ⟨plainId_quiet F.plain_max_loop _,ih (j+1) _ u c (by omega) lt st1 (by simp only[argBest,hc,YbI,if_false];exact hu) hb1 fun v' h2 tk2 hv' kk2=>?_⟩;exact fin v' h2 tk2 hv' fun x o xw xb e=>kk2 x o xw xb (kk x o xw e)
theorem ql7(W:Walks P w A.in1 it fp wr n Pz St)(bt:Nat->Nat->Bool)(cmp:CmpOf P w A.in1 .Gt Pz bt)(b:Addr)(bf:b∉fp){s:Shared}{c:Nat}{x0:Str}{d:Value}{r:List (Str×Value)}(st:St 0 s.heap)
  (hb:s.heap.get? b=some {cls:=.type "list",dict:=none,data:=.seq #[] c,slots:=#[]})
  (fin:∀v h' tk,(0<n->Pz (argBest bt (n - 1)) v)->(n=0->v=d)->(∀x o,x∉wr->x≠b->s.heap.get? x=some o->h'.get? x=some o)->R (.ok (.ret v)) {s with heap:=h',toks:=tk}):
  codeAny (model P w) A (.builtin "max.loop" ⟨[.ref it,.none,.ref b],(x0,d)::r⟩) R s:=by
 have bw:b∉wr:=fun z=>bf (W.sub _ z);refine codeAny_builtin F.entry_max_loop ?_;rw[Around.under_plainId F.plain_max_loop _];refine ε (wpAny_seqItems hb rfl ?_);by_cases h0:n=0
 ·subst h0;refine ε (wpAny_tryCatch (W.done s _ _ st fun h1 tk kk=>?_));refine ε (wpAny_rule (Φ ?_));exact fin d h1 tk (fun z=>absurd z (YbN _)) (fun _=>rfl) fun x o xw _ e=>kk x o xw e
 ·have hn:0<n:=Nat.pos_of_ne_zero h0;refine ε (wpAny_tryCatch (W.item 0 s _ _ hn st fun v h1 tk hv st1 kk=>?_));have hb1:=kk b _ bw hb;refine ε (Φ ?_);refine ε (wpAny_updateSeq hb1 rfl ?_);rw[qcS];refine Φ ⟨plainId_quiet F.plain_max_loop _,qnu W bt cmp b bf _ 0 _ v _ rfl hn (W.frame _ _ _ st1 fun x xf o e=>?_) hv (YbG _ hb1 rfl) fun v' h2 tk2 hv' kk2=>?_⟩
  ·exact(Ybo _ _ (fun z:b=x=>bf (by rw[z];exact xf))).trans e
  ·exact fin v' h2 tk2 (fun _=>hv') (fun z=>absurd z h0) fun x o xw xb e=>kk2 x o xw xb ((Ybo _ _ (Ne.symm xb)).trans (kk x o xw e))
end
theorem qkz(d:Value):Builtin.Builtins.bindParams "max" ["key","default"] 0 ⟨[],[(Str.ofString "default",d)]⟩=pure [none,some d]:=by rfl
theorem qkA(a d:Value):argsOk "max" ⟨[a],[("default",d)]⟩:=by unfold argsOk;kernel_rfl
section
variable{P:Program}{w:World}{A:Around}{E:Value->Shared->Prop}{s:Shared}{l:Addr}{xs:Array (Int×Tok)}{d:Value}
theorem qnv{Q:Value->Shared->Prop}(hh:A.handled=none)(hl:s.heap.IsList l (intItems xs))
  (h:∀v h' tk,(0<xs.size->(intItems xs)[argBest (fun i j=>decide (numAt xs i>numAt xs j)) (xs.size - 1)]?=some v)->(xs.size=0->v=d)->(∀b o,s.heap.get? b=some o->h'.get? b=some o)->Q v {s with heap:=h',toks:=tk}):
  wpAny (model P w) A (call (.builtin "max") [.ref l] [("default",d)]) Q E s:=by
 refine kmk_tree F.kind_max F.plain_max F.entry_max (qkA _ _) ?_;show wpAny _ A.in1 (Builtin.Builtins.bindParams "max" ["key","default"] 0 ⟨[],[("default",d)]⟩ >>= _) _ _ s;refine ε (wpAny_of_eq (qkz d) ?_);refine ε (Φ ?_);refine ε (iter_intList hl fun s2 e st hfp hlI=>?_);subst e;refine ε (wpAny_newObj_type ?_);rw[qcS];have hW:=Walks.list (prog:=P) (w:=w) (A:=A.in1) hh s.heap.objs.size l hlI (intItems xs);refine Φ ⟨plainId_quiet F.plain_max_loop _,ql7 hW _ (CmpOf.ints_gt (numAt xs) (fun _ _=>intItems_at)) _ (fun hm=>YbN _ (hfp _ hm)) (hW.frame _ _ _ st fun b _ o e=>ψ _ e) (Ybk _ rfl) fun v h' tk h1 h2 hk=>?_⟩;refine h v h' tk (fun z=>by simpa[intItems]using h1 (by simpa[intItems]using z)) (fun z=>h2 (by simpa[intItems]using z)) (old_kept fun b o hb e=>hk b o hb (Ybr (Ξ e)) (ψ _ e))
end
end L2
end
section
set_option maxHeartbeats 400000
namespace L2
open PySem PySem.Spec PyProof.Rows
section
variable{X:Cx}
theorem qoB{A:Around}{E:Value->Shared->Prop}{s:Shared}{l:Addr}{its:List Value}{ns:List Int}{d:Int}{td:Tok}{Q:Value->Shared->Prop}(hh:A.handled=none)(hl:s.heap.IsList l its.toArray)(hi:IntsAre its ns)
  (h:∀h' tk m t',(∀b o,s.heap.get? b=some o->h'.get? b=some o)->(ns=[]->m=d)->(ns≠[]->m∈ns/\∀y,y∈ns->y<=m)->Q (.int m t') {s with heap:=h',toks:=tk}):wpAny (model X.prog X.w) A (call (.builtin "max") [.ref l] [("default",.int d td)]) Q E s:=by
 obtain⟨xs,e⟩:=hi.allInts.items;have hn:numsOf (intItems xs).toList=ns:=by rw[<- e];exact hi.numsOf
 rw[nums_intItems]at hn;subst hn;rw[e]at hl;have em:(xs.toList.map (·.1))=[]↔xs.size=0:=by simp
 refine qnv hh hl fun v h' tk h1 h2 hk=>?_;by_cases h0:xs.size=0
 ·rw[h2 h0];exact h h' tk d td hk (fun _=>rfl) fun z=>absurd (em.mpr h0) z
 ·obtain⟨t,rfl⟩:=intItems_at (h1 (Nat.pos_of_ne_zero h0));obtain⟨g1,g2⟩:=argBest_gt (numAt xs) (xs.size - 1);refine h h' tk _ t hk (fun z=>absurd (em.mp z) h0) fun _=>⟨?_,fun y hy=>?_⟩
  ·rw[numAt_eq];exact PySem.getD_mem (by rw[τ,Yck];omega)
  ·obtain⟨j,hj,rfl⟩:=mem_getD hy;rw[τ,Yck]at hj;rw[<- numAt_eq];exact g2 j (by omega)
def qph(K:γ)(d:Int)(te:TE):TE:=fun σ H Q=>te σ H fun x H1=>∃a ns,x=.ref a/\SqL K H1 a (ns.map V.int)/\∀m,(ns=[]->m=d)->(ns≠[]->m∈ns/\∀y,y∈ns->y<=m)->Q (.int m) H1
theorem qnw{e:Expr}{te:TE}{d:Int}{j:Nat}{p pos kp dp:Pos}(hc:X.calm=true)(hg:Gl X "max")(hm:X.mg "max"=none)(he:PE X e te)(hst:starEach [e] X.env=[(false,eval e X.env)]:=by rfl)
  (h1:backTo pos (starEach [e] X.env)=(false,eval e X.env)::backTo pos (starEach [] X.env):=by rfl) (h2:(backTo pos (starEach [e] X.env)).any (·.1)=false:=by rfl):
  PE X (.Call (.Name "max" p) [e] [⟨some "default",.Constant (.int d) j dp,kp⟩] pos) (qph X.K d te):=by
 intro pins s σ H Q I h;refine wpAny_Call_Name_kw (Zv I hg hm boot_max ?_ (by decide) (by decide))
 refine callWith_kw (thn (qa he qh hst pos pins s σ H (fun vs H1=>match vs with
  |[x]=>∃a ns,x=.ref a/\SqL X.K H1 a (ns.map V.int)/\∀m,(ns=[]->m=d)->(ns≠[]->m∈ns/\∀y,y∈ns->y<=m)->Q (.int m) H1
  | _=>False) I h) fun us s1 ⟨vs,H1,I1,r,q⟩=>?_) h1 h2 rfl rfl
 match vs,r,q with
 |[x],r,⟨a,ns,ex,hs,q⟩=>subst ex;rw[qD.ref1 r];refine kws_cons (wpAny_Constant_int (kws_nil ?_));have I2:=I1.tok (s1.toks+1);obtain⟨its,rv,hl,_⟩:=I2.list hs;exact qoB (I2.ok.hd hc) hl.isList rv.ints fun h' tk m t' hk g1 g2=>⟨.int m,H1,I2.kept hk,⟨_,rfl⟩,q m g1 g2⟩
end
theorem qdn{α β:Type}{f g:α->Option β}:∀{l:List α},(∀x,x∈l->f x=g x)->l.filterMap f=l.filterMap g
 |[],_=>rfl
 |a::l,h=>by rw[YbR,YbR,h a π,qdn fun x hx=>h x (ρ _ hx)]
theorem qdU{α:Type}:∀l:List α,Ydh (fun k=>l[k]?) (Ydc l.length)=l
 |[]=>rfl
 |a::l=>by rw[ξ,List.range_succ_eq_map,YbR];simp only[List.getElem?_cons_zero,List.filterMap_map];congr 1;refine Eq.trans (qdn fun k _=>?_) (qdU l);simp
theorem ql8(its:List Value):slicePick its.toArray none none (some (-1))=its.reverse.toArray:=by
 unfold slicePick;congr 1;have e1:sliceBounds none none (some (-1)) its.toArray.size=((its.length:Int) - 1,-1,-1):=by simp[sliceBounds]
 rw[e1];unfold sliceRange;simp only[show ¬((-1:Int)>0) by decide,if_false]
 have e2:(if((its.length:Int) - 1) > -1 then(((its.length:Int) - 1) - -1 - -1 - 1) / - -1 else 0).toNat=its.length:=by
  by_cases h:its.length=0
  ·simp[h]
  ·rw[if_pos (by omega),show(- -1:Int)=1 from rfl,Int.ediv_one];omega
 rw[e2];refine List.ext_getElem? fun i=>?_;rw[List.filterMap_map];have all:∀k,k<its.length->((fun x:Nat=>its.toArray[x]?)∘fun k:Nat=>(((its.length:Int) - 1) + -1 * (k:Int)).toNat) k=its[its.length - 1 - k]?:=fun k hk=>by show its.toArray[(((its.length:Int) - 1) + -1 * (k:Int)).toNat]?=_;rw[show(((its.length:Int) - 1) + -1 * (k:Int)).toNat=its.length - 1 - k by omega];simp
 have lst:Ydh ((fun x:Nat=>its.toArray[x]?)∘fun k:Nat=>(((its.length:Int) - 1) + -1 * (k:Int)).toNat) (Ydc its.length)=its.reverse:=by
  rw[show Ydh ((fun x:Nat=>its.toArray[x]?)∘fun k:Nat=>(((its.length:Int) - 1) + -1 * (k:Int)).toNat) (Ydc its.length)=Ydh (fun k=>its.reverse[k]?) (Ydc its.reverse.length)from ?_]
  ·exact qdU its.reverse
  ·rw[YbS];refine qdn fun k hk=>?_;have hk:=List.mem_range.mp hk;rw[all k hk,List.getElem?_reverse hk]
 rw[lst]
def qpN(K:γ)(te:TE):TE:=fun σ H Q=>te σ H fun x H1=>∃a xs,x=.ref a/\SqL K H1 a xs/\∀p,H1 p=none->Q (.ref p) (upd H1 p (.lst xs.reverse))
theorem qgT{X:Cx}{e:Expr}{te:TE}{j:Nat}{p1 p2 p3 pos:Pos}(he:PE X e te):PE X (.Subscript e (.Slice none none (some (.UnaryOp .USub (.Constant (.int 1) j p1) p3)) p2) pos) (qpN X.K te):=by intro pins s σ H Q I h;refine Subscript_ (thn (he pins s σ H _ I h) fun v s1 ⟨x,H1,I1,r1,a,xs,ex,hs,q1⟩=>?_);subst ex;cases r1;refine wpAny_Slice ?_;rw[evalPart_none];refine Φ (Φ (thn (Qv (JQ Z2 qr) pins s1 σ H1 (fun o H'=>o=some (-1)/\H'=H1) I1 ⟨1,rfl,-1,rfl,rfl,rfl⟩) fun vs s3 ⟨o,H3,I3,pu,eo,eH⟩=>?_));subst eo eH;have I4:Inv X pins σ H3 {s3 with heap:=s3.heap.push {cls:=.type "slice",data:=.fields #[.none,.none,vs]}}:=I3.kept (t':=s3.toks) fun b ob q=>ψ _ q;obtain⟨its,r,ht,hz⟩:=I4.list hs;have hlen:=r.length;refine tail_any (ops:=[.ref a,.ref s3.heap.objs.size]) ht.isList.typeIs slot_list_getitem.lookup ?_ (by with_unfolding_all rfl);refine wpAny_getItem_list_slice ht.isList (Heap.IsSliceOf.new ..) .none .none pu (by simp) ?_ (by rw[ύ]<;>omega);rw[ql8];refine⟨.ref _,_,I4.laid (t':=s3.toks) (o:=.lst xs.reverse) (fun b ob q=>ψ _ q) (ω _) ?_,rfl,q1 _ (I4.hok.fresh (ω _))⟩;exact⟨by rw[YbS];exact hz,_,0,r.reverse,Ybk _ rfl⟩
end L2
end
section
namespace RT
open PySem PySem.Spec PyProof.Rows L2
noncomputable def qab:List Str:=[Str.ofString "and",Str.ofString "else",Str.ofString "false",Str.ofString "fn",Str.ofString "has",Str.ofString "if",Str.ofString "in",Str.ofString "let",Str.ofString "must",Str.ofString "none",Str.ofString "not",Str.ofString "or",Str.ofString "rec",Str.ofString "then",Str.ofString "true",Str.ofString "with"]
noncomputable def Zx:List Str:=[Str.ofString "++",Str.ofString "//",Str.ofString "==",Str.ofString "!=",Str.ofString "<=",Str.ofString "..",Str.ofString "(",Str.ofString ")",Str.ofString "[",Str.ofString "]",Str.ofString "=",Str.ofString ";",Str.ofString ",",Str.ofString ".",Str.ofString ":",Str.ofString "?",Str.ofString "+",Str.ofString "-",Str.ofString "*",Str.ofString "<"]
noncomputable def qdV:List Str:=[Str.ofString "name",Str.ofString "number",Str.ofString "true",Str.ofString "false",Str.ofString "none",Str.ofString "rec",Str.ofString "quote",Str.ofString "(",Str.ofString "[",Str.ofString "{"]
noncomputable def qaz:List (Key×V):=[(Sum.inl 34,.int 34),(Sum.inl 92,.int 92),(Sum.inl 110,.int 10),(Sum.inl 116,.int 9),(Sum.inl 36,.int 36)]
noncomputable def Zh:List (Str×List Str):=[(Str.ofString "EXPR",[Str.ofString "@enter FORM @leave"]),
 (Str.ofString "FORM",[Str.ofString "fn FUNCTION",Str.ofString "let @begin name BOUND BINDS in EXPR @let",Str.ofString "if @begin EXPR then EXPR else EXPR @if",Str.ofString "must @begin EXPR ; EXPR @must",Str.ofString "OR"]),
 (Str.ofString "FUNCTION",[Str.ofString "name @begin @label : EXPR @fn",Str.ofString "{ @begin FIELDS"]),
 (Str.ofString "FIELDS",[Str.ofString "} : EXPR @fields",Str.ofString "PARAMS"]),
 (Str.ofString "PARAMS",[Str.ofString ".. } : EXPR @fields..",Str.ofString "name @fresh @begin @label GIVEN @param MORE-PARAMS"]),
 (Str.ofString "GIVEN",[Str.ofString "? EXPR",Str.ofString ""]),
 (Str.ofString "MORE-PARAMS",[Str.ofString ", PARAMS",Str.ofString "} : EXPR @fields"]),
 (Str.ofString "BINDS",[Str.ofString "name BOUND BINDS",Str.ofString ""]),
 (Str.ofString "BOUND",[Str.ofString "@fresh @label = EXPR ;"]),
 (Str.ofString "OR",[Str.ofString "AND MORE-OR"]),
 (Str.ofString "MORE-OR",[Str.ofString "or @take AND @or MORE-OR",Str.ofString ""]),
 (Str.ofString "AND",[Str.ofString "NOT MORE-AND"]),
 (Str.ofString "MORE-AND",[Str.ofString "and @take NOT @and MORE-AND",Str.ofString ""]),
 (Str.ofString "NOT",[Str.ofString "not @begin NOT @not",Str.ofString "CMP"]),
 (Str.ofString "CMP",[Str.ofString "UPD MORE-CMP"]),
 (Str.ofString "MORE-CMP",[Str.ofString "== @take UPD @==",Str.ofString "!= @take UPD @!=",Str.ofString "< @take UPD @<",Str.ofString "<= @take UPD @<=",Str.ofString "has @take name @label @has",Str.ofString ""]),
 (Str.ofString "UPD",[Str.ofString "JOIN MORE-UPD"]),
 (Str.ofString "MORE-UPD",[Str.ofString "// @take UPD @//",Str.ofString ""]),
 (Str.ofString "JOIN",[Str.ofString "SUM MORE-JOIN"]),
 (Str.ofString "MORE-JOIN",[Str.ofString "++ @take JOIN @++",Str.ofString ""]),
 (Str.ofString "SUM",[Str.ofString "PROD MORE-SUM"]),
 (Str.ofString "MORE-SUM",[Str.ofString "+ @take PROD @+ MORE-SUM",Str.ofString "- @take PROD @- MORE-SUM",Str.ofString ""]),
 (Str.ofString "PROD",[Str.ofString "NEG MORE-PROD"]),
 (Str.ofString "MORE-PROD",[Str.ofString "* @take NEG @* MORE-PROD",Str.ofString ""]),
 (Str.ofString "NEG",[Str.ofString "- @begin NEG @neg",Str.ofString "APP"]),
 (Str.ofString "APP",[Str.ofString "SEL ARGUMENTS"]),
 (Str.ofString "ARGUMENTS",[Str.ofString "ARGUMENT ARGUMENTS",Str.ofString ""]),
 (Str.ofString "ARGUMENT",[Str.ofString "@take SEL @app"]),
 (Str.ofString "SEL",[Str.ofString "ATOM DOTS"]),
 (Str.ofString "DOTS",[Str.ofString ". @take name @label MORE-DOTS DEFAULT @get",Str.ofString ""]),
 (Str.ofString "MORE-DOTS",[Str.ofString ". name @label MORE-DOTS",Str.ofString ""]),
 (Str.ofString "DEFAULT",[Str.ofString "? ATOM",Str.ofString ""]),
 (Str.ofString "ATOM",[Str.ofString "name @begin @label @name",Str.ofString "number @begin @label @num",Str.ofString "true @begin @yes",Str.ofString "false @begin @no",Str.ofString "none @begin @none",Str.ofString "quote @begin PIECES unquote @text",Str.ofString "( EXPR )",Str.ofString "[ @begin LIST @list",Str.ofString "{ @begin BINDS } @record",Str.ofString "rec { @begin BINDS } @recur"]),
 (Str.ofString "PIECES",[Str.ofString "piece @begin @label @piece PIECES",Str.ofString "hole EXPR unhole PIECES",Str.ofString ""]),
 (Str.ofString "LIST",[Str.ofString "]",Str.ofString "EXPR MORE-LIST ]"]),
 (Str.ofString "MORE-LIST",[Str.ofString ", EXPR MORE-LIST",Str.ofString ""])]
noncomputable def tokF(x0 x1 x2:V):List (Str×V):=[("kind",x0),("place",x1),("held",x2)]
theorem qfw(x0 x1 x2:V):(tokF x0 x1 x2).lookup ("kind":Str)=some x0:=rfl
theorem qbk(x0 x1 x2:V):(tokF x0 x1 x2).lookup ("place":Str)=some x1:=rfl
theorem qfx(x0 x1 x2:V):(tokF x0 x1 x2).lookup ("held":Str)=some x2:=rfl
noncomputable def jR(x0 x1 x2 x3 x4 x5:V):List (Str×V):=[("text",x0),("place",x1),("tokens",x2),("opened",x3),("in_literal",x4),("ended",x5)]
theorem JI(x0 x1 x2 x3 x4 x5:V):(jR x0 x1 x2 x3 x4 x5).lookup ("text":Str)=some x0:=rfl
theorem qN(x0 x1 x2 x3 x4 x5:V):(jR x0 x1 x2 x3 x4 x5).lookup ("place":Str)=some x1:=rfl
theorem qaA(x0 x1 x2 x3 x4 x5:V):(jR x0 x1 x2 x3 x4 x5).lookup ("tokens":Str)=some x2:=rfl
theorem Jz(x0 x1 x2 x3 x4 x5:V):(jR x0 x1 x2 x3 x4 x5).lookup ("opened":Str)=some x3:=rfl
theorem qdW(x0 x1 x2 x3 x4 x5:V):(jR x0 x1 x2 x3 x4 x5).lookup ("in_literal":Str)=some x4:=rfl
theorem qdX(x0 x1 x2 x3 x4 x5:V):(jR x0 x1 x2 x3 x4 x5).lookup ("ended":Str)=some x5:=rfl
theorem zL(x0 x1 x2 x3 x4 x5:V):(jR x0 x1 x2 x3 x4 x5).lookup ("byte_at":Str)=none:=rfl
theorem zf(x0 x1 x2 x3 x4 x5:V):(jR x0 x1 x2 x3 x4 x5).lookup ("add_token":Str)=none:=rfl
theorem qbI(x0 x1 x2 x3 x4 x5:V):(jR x0 x1 x2 x3 x4 x5).lookup ("cut_outside":Str)=none:=rfl
theorem qbl(x0 x1 x2 x3 x4 x5:V):(jR x0 x1 x2 x3 x4 x5).lookup ("pass_comment":Str)=none:=rfl
theorem qdo(x0 x1 x2 x3 x4 x5:V):(jR x0 x1 x2 x3 x4 x5).lookup ("cut_name":Str)=none:=rfl
theorem qch(x0 x1 x2 x3 x4 x5:V):(jR x0 x1 x2 x3 x4 x5).lookup ("cut_number":Str)=none:=rfl
theorem qai(x0 x1 x2 x3 x4 x5:V):(jR x0 x1 x2 x3 x4 x5).lookup ("cut_right_brace":Str)=none:=rfl
theorem qdp(x0 x1 x2 x3 x4 x5:V):(jR x0 x1 x2 x3 x4 x5).lookup ("cut_sign":Str)=none:=rfl
theorem qbJ(x0 x1 x2 x3 x4 x5:V):(jR x0 x1 x2 x3 x4 x5).lookup ("cut_literal":Str)=none:=rfl
theorem qc0(x0 x1 x2 x3 x4 x5:V):(jR x0 x1 x2 x3 x4 x5).lookup ("cut_piece":Str)=none:=rfl
theorem qaJ(x0 x1 x2 x3 x4 x5:V):(jR x0 x1 x2 x3 x4 x5).lookup ("is_piece_over":Str)=none:=rfl
theorem qbK(x0 x1 x2 x3 x4 x5:V):(jR x0 x1 x2 x3 x4 x5).lookup ("gather_byte":Str)=none:=rfl
noncomputable def qci(x0 x1 x2 x3:V):List (Str×V):=[("kind",x0),("labels",x1),("kids",x2),("depth",x3)]
theorem jK(x0 x1 x2 x3:V):(qci x0 x1 x2 x3).lookup ("kind":Str)=some x0:=rfl
theorem JA(x0 x1 x2 x3:V):(qci x0 x1 x2 x3).lookup ("labels":Str)=some x1:=rfl
theorem Qo(x0 x1 x2 x3:V):(qci x0 x1 x2 x3).lookup ("kids":Str)=some x2:=rfl
theorem qdY(x0 x1 x2 x3:V):(qci x0 x1 x2 x3).lookup ("depth":Str)=some x3:=rfl
noncomputable def qey(x0 x1 x2:V):List (Str×V):=[("first",x0),("labels",x1),("names",x2)]
theorem qjd(x0 x1 x2:V):(qey x0 x1 x2).lookup ("first":Str)=some x0:=rfl
theorem qc6(x0 x1 x2:V):(qey x0 x1 x2).lookup ("labels":Str)=some x1:=rfl
theorem qje(x0 x1 x2:V):(qey x0 x1 x2).lookup ("names":Str)=some x2:=rfl
noncomputable def Zt(x0 x1 x2 x3 x4 x5:V):List (Str×V):=[("tokens",x0),("at",x1),("level",x2),("waiting",x3),("built",x4),("begun",x5)]
theorem Zy(x0 x1 x2 x3 x4 x5:V):(Zt x0 x1 x2 x3 x4 x5).lookup ("tokens":Str)=some x0:=rfl
theorem JZ(x0 x1 x2 x3 x4 x5:V):(Zt x0 x1 x2 x3 x4 x5).lookup ("at":Str)=some x1:=rfl
theorem qbm(x0 x1 x2 x3 x4 x5:V):(Zt x0 x1 x2 x3 x4 x5).lookup ("level":Str)=some x2:=rfl
theorem qac(x0 x1 x2 x3 x4 x5:V):(Zt x0 x1 x2 x3 x4 x5).lookup ("waiting":Str)=some x3:=rfl
theorem Zi(x0 x1 x2 x3 x4 x5:V):(Zt x0 x1 x2 x3 x4 x5).lookup ("built":Str)=some x4:=rfl
theorem Z9(x0 x1 x2 x3 x4 x5:V):(Zt x0 x1 x2 x3 x4 x5).lookup ("begun":Str)=some x5:=rfl
theorem qcj(x0 x1 x2 x3 x4 x5:V):(Zt x0 x1 x2 x3 x4 x5).lookup ("step":Str)=none:=rfl
theorem qck(x0 x1 x2 x3 x4 x5:V):(Zt x0 x1 x2 x3 x4 x5).lookup ("read_token":Str)=none:=rfl
theorem qhS(x0 x1 x2 x3 x4 x5:V):(Zt x0 x1 x2 x3 x4 x5).lookup ("act":Str)=none:=rfl
theorem qbL(x0 x1 x2 x3 x4 x5:V):(Zt x0 x1 x2 x3 x4 x5).lookup ("enter_level":Str)=none:=rfl
theorem qdq(x0 x1 x2 x3 x4 x5:V):(Zt x0 x1 x2 x3 x4 x5).lookup ("end_node":Str)=none:=rfl
structure Ad where
 Token:Addr
 Cutter:Addr
 Node:Addr
 Begun:Addr
 Reader:Addr
 Refusal:Addr
 TextTooLong:Addr
 WrongToken:Addr
 WrongSyntax:Addr
 LevelTooDeep:Addr
 NameTwice:Addr
 TreeTooDeep:Addr
 WORDS:Addr
 SIGNS:Addr
 ATOM_BEGINNINGS:Addr
 ESCAPES:Addr
 GRAMMAR:Addr
 gram:Str->Addr
structure Tx(P:Program)(w:World)(K:γ)(mg:Str->Option Value)(a:Ad):Prop where
 Yae:Cls K a.Token
 YaV:qv K a.Token "kind"
 YaW:qv K a.Token "place"
 YaU:qv K a.Token "held"
 Yab:Cls K a.Cutter
 YaA:qv K a.Cutter "text"
 Yaz:qv K a.Cutter "place"
 YaB:qv K a.Cutter "tokens"
 Yay:qv K a.Cutter "opened"
 n_Cutter_in_literal:qv K a.Cutter "in_literal"
 Yax:qv K a.Cutter "ended"
 Yac:Cls K a.Node
 YaI:qv K a.Node "kind"
 YaJ:qv K a.Node "labels"
 YaH:qv K a.Node "kids"
 YaG:qv K a.Node "depth"
 Yaa:Cls K a.Begun
 Yau:qv K a.Begun "first"
 Yav:qv K a.Begun "labels"
 Yaw:qv K a.Begun "names"
 Yad:Cls K a.Reader
 YaO:qv K a.Reader "tokens"
 YaK:qv K a.Reader "at"
 YaN:qv K a.Reader "level"
 YaP:qv K a.Reader "waiting"
 YaM:qv K a.Reader "built"
 YaL:qv K a.Reader "begun"
 Ybe:jq K a.Refusal
 YaQ:qv K a.Refusal "number"
 YaR:qv K a.Refusal "place"
 Ya7:subB K a.Refusal a.Refusal
 Ybf:jq K a.TextTooLong
 YaS:qv K a.TextTooLong "number"
 YaT:qv K a.TextTooLong "place"
 Ya8:subB K a.TextTooLong a.Refusal
 Ybi:jq K a.WrongToken
 Ya1:qv K a.WrongToken "number"
 Ya2:qv K a.WrongToken "place"
 Ybb:subB K a.WrongToken a.Refusal
 Ybh:jq K a.WrongSyntax
 YaZ:qv K a.WrongSyntax "number"
 Ya0:qv K a.WrongSyntax "place"
 Yba:subB K a.WrongSyntax a.Refusal
 Ybc:jq K a.LevelTooDeep
 YaC:qv K a.LevelTooDeep "number"
 YaD:qv K a.LevelTooDeep "place"
 Ya5:subB K a.LevelTooDeep a.Refusal
 Ybd:jq K a.NameTwice
 YaE:qv K a.NameTwice "number"
 YaF:qv K a.NameTwice "place"
 Ya6:subB K a.NameTwice a.Refusal
 Ybg:jq K a.TreeTooDeep
 YaX:qv K a.TreeTooDeep "number"
 YaY:qv K a.TreeTooDeep "place"
 Ya9:subB K a.TreeTooDeep a.Refusal
 Yaq:GlV mg "TAB" (.int (9))
 g_LINE_FEED:GlV mg "LINE_FEED" (.int (10))
 Yao:GlV mg "RETURN" (.int (13))
 Yag:GlV mg "BLANK" (.int (32))
 Yan:GlV mg "QUOTE" (.int (34))
 Yak:GlV mg "HASH" (.int (35))
 Yah:GlV mg "DOLLAR" (.int (36))
 Yal:GlV mg "MINUS" (.int (45))
 Yat:GlV mg "ZERO" (.int (48))
 Yaf:GlV mg "BACKSLASH" (.int (92))
 Yar:GlV mg "UNDERSCORE" (.int (95))
 g_LEFT_BRACE:GlV mg "LEFT_BRACE" (.int (123))
 g_RIGHT_BRACE:GlV mg "RIGHT_BRACE" (.int (125))
 g_MOST_NAME_BYTES:GlV mg "MOST_NAME_BYTES" (.int (32))
 g_MOST_DIGITS:GlV mg "MOST_DIGITS" (.int (30))
 Yam:GlV mg "NOTHING" (.int (-1))
 g_MOST_TEXT_BYTES:GlV mg "MOST_TEXT_BYTES" (.int (2048))
 g_MOST_LEVELS:GlV mg "MOST_LEVELS" (.int (40))
 g_MOST_DEPTH:GlV mg "MOST_DEPTH" (.int (40))
 Yas:GlV mg "WORDS" (.ref a.WORDS)
 Ya4:qay K a.WORDS (qab.map V.str)
 Yap:GlV mg "SIGNS" (.ref a.SIGNS)
 Ya3:qay K a.SIGNS (Zx.map V.str)
 g_ATOM_BEGINNINGS:GlV mg "ATOM_BEGINNINGS" (.ref a.ATOM_BEGINNINGS)
 t_ATOM_BEGINNINGS:qay K a.ATOM_BEGINNINGS (qdV.map V.str)
 Yai:GlV mg "ESCAPES" (.ref a.ESCAPES)
 d_ESCAPES:Q0 P w K a.ESCAPES qaz
 Yaj:GlV mg "GRAMMAR" (.ref a.GRAMMAR)
 d_GRAMMAR:Q0 P w K a.GRAMMAR (Zh.map fun r=>(Sum.inr r.1,V.ref (a.gram r.1)))
 t_gram:∀r∈Zh,qay K (a.gram r.1) (r.2.map V.str)
 b_len:mg "len"=none
 b_ord:mg "ord"=none
 b_max:mg "max"=none
 b_tuple:mg "tuple"=none
end RT
end
section
namespace L2
open PySem PySem.Spec PyProof.Rows
def ClsAt(P:Program)(w:World)(K:γ)(mg:Str->Option Value)(base:Heap)(k:Nat)(C:Addr)(x m:Str)(ps:List Str)(sp:Sp):Prop :=∃f fd,mg x=some (.ref C)/\qf6 K C m f/\qw P w K mg base CX0 k f fd ps sp/\Binds K fd ps []
theorem ZO{X:Cx}{k:Nat}{C:Addr}{ps:List Str}{sp:Sp}{x m:Str}{p pos apos:Pos}{e:Expr}{es:List Expr}{t:TA}{pl:Sem Bool}(G:ClsAt X.prog X.w X.K X.mg X.base k C x m ps sp)(hr:qI k X.A)(ha:PA X (e::es) t)(hg:Gl X x:=by rfl)
  (hdb:(x==("__debug__":Str))=false:=by decide)
  (hst:starEach (e::es) X.env=(false,eval e X.env)::starEach es X.env:=by rfl) (hpl:(backTo pos (starEach es X.env)).any (·.1)=false:=by rfl)
  (ht:eval (.Call (.Attribute (.Name x p) m apos) (e::es) [] pos) X.env=(do
   let ov <- eval (.Name x p) X.env
   standAt apos.atName
   let(f,first) <- holding [ov] (getMethod ov m pl)
   callWith pos f first (backTo pos (starEach (e::es) X.env)) (backToKw pos (keywordEach [] X.env))):=by rfl):
  PE X (.Call (.Attribute (.Name x p) m apos) (e::es) [] pos) (QY sp [] E0 t):=by
 obtain⟨f,fd,h1,h2,h3,h4⟩:=G;exact qiW hg h1 h2 h3 hr h4 .nil qO ha hdb hst hpl ht
end L2
namespace RT
open PySem PySem.Spec PyProof.Rows L2
noncomputable def top(i:Nat):Stmt:=PySem.Challenge.pw_recipetexts_s06_put.main.body.getD i (.Pass ⟨0,0,0,0⟩)
noncomputable abbrev jC:Stmt:=inClass (top 1) 0
noncomputable abbrev jf:Stmt:=inClass (top 2) 0
noncomputable abbrev jr:Stmt:=inClass (top 3) 0
noncomputable abbrev jg:Stmt:=inClass (top 4) 0
noncomputable abbrev z5:Stmt:=inClass (top 5) 0
noncomputable abbrev jD:Stmt:=inClass (top 6) 0
noncomputable abbrev jh:Stmt:=inClass (top 7) 0
noncomputable abbrev ji:Stmt:=inClass (top 8) 0
noncomputable abbrev z6:Stmt:=inClass (top 9) 0
noncomputable abbrev js:Stmt:=inClass (top 10) 0
noncomputable abbrev QK:Stmt:=inClass (top 13) 0
noncomputable abbrev Qa:Stmt:=top 14
noncomputable abbrev Jl:Stmt:=top 17
noncomputable abbrev Jm:Stmt:=top 18
noncomputable abbrev Zj:Stmt:=top 33
noncomputable abbrev qez:Stmt:=top 40
noncomputable abbrev Qb:Stmt:=top 41
noncomputable abbrev QL:Stmt:=top 42
noncomputable abbrev ZP:Stmt:=top 43
noncomputable abbrev Jn:Stmt:=top 44
noncomputable abbrev Zk:Stmt:=top 45
noncomputable abbrev QM:Stmt:=top 46
noncomputable abbrev Zl:Stmt:=top 47
noncomputable abbrev Zm:Stmt:=top 48
noncomputable abbrev QN:Stmt:=top 49
noncomputable abbrev Qw:Stmt:=top 50
noncomputable abbrev QO:Stmt:=top 51
noncomputable abbrev ZQ:Stmt:=top 52
noncomputable abbrev ZR:Stmt:=top 53
noncomputable abbrev ZS:Stmt:=top 54
noncomputable abbrev ZT:Stmt:=top 55
noncomputable abbrev ZU:Stmt:=top 56
noncomputable abbrev Jo:Stmt:=top 57
noncomputable abbrev Qx:Stmt:=top 58
noncomputable abbrev QP:Stmt:=top 59
noncomputable abbrev ZV:Stmt:=top 60
noncomputable abbrev Jp:Stmt:=top 61
noncomputable abbrev Zn:Stmt:=top 62
noncomputable abbrev jY:Stmt:=top 63
noncomputable abbrev ZW:Stmt:=top 65
noncomputable abbrev Qc:Stmt:=top 66
noncomputable abbrev Qg:Stmt:=top 67
noncomputable abbrev Qy:Stmt:=inClass (top 75) 0
noncomputable abbrev QQ:Stmt:=top 76
noncomputable abbrev Zo:Stmt:=top 77
noncomputable abbrev Qz:Stmt:=top 78
noncomputable abbrev jZ:Stmt:=top 79
noncomputable abbrev Qh:Stmt:=inClass (top 80) 0
noncomputable abbrev jE:Stmt:=inClass (top 80) 1
noncomputable abbrev jk:Stmt:=inClass (top 80) 2
noncomputable abbrev zU:Stmt:=inClass (top 80) 3
noncomputable abbrev zN:Stmt:=inClass (top 80) 4
noncomputable abbrev jt:Stmt:=inClass (top 80) 5
noncomputable abbrev z7:Stmt:=inClass (top 80) 6
noncomputable abbrev zx:Stmt:=inClass (top 80) 7
noncomputable abbrev ju:Stmt:=inClass (top 80) 8
noncomputable abbrev zV:Stmt:=inClass (top 80) 9
noncomputable abbrev jl:Stmt:=inClass (top 80) 10
noncomputable abbrev zG:Stmt:=inClass (top 80) 11
noncomputable abbrev zW:Stmt:=inClass (top 80) 12
noncomputable abbrev qcT:Stmt:=top 81
noncomputable abbrev QA:Stmt:=inClass (top 87) 0
noncomputable abbrev qaK:Stmt:=top 88
noncomputable abbrev Jq:Stmt:=top 89
noncomputable abbrev QR:Stmt:=top 90
noncomputable abbrev Qi:Stmt:=inClass (top 91) 0
noncomputable abbrev Qj:Stmt:=inClass (top 91) 1
noncomputable abbrev z8:Stmt:=inClass (top 91) 2
noncomputable abbrev QB:Stmt:=inClass (top 91) 3
noncomputable abbrev zX:Stmt:=inClass (top 91) 4
noncomputable abbrev jv:Stmt:=inClass (top 91) 5
noncomputable abbrev qaL:Stmt:=top 92
noncomputable abbrev Qk:Stmt:=top 94
noncomputable abbrev JS:Stmt:=top 95
noncomputable abbrev rfF(n p:Int):List (Str×V):=[("number",.int n),("place",.int p)]
def Zp(K:γ):Sp:=fun vs H Q _=>∃(e C:Addr)(xs:Array Value)(n p:Int),vs=[.ref e,.int n,.int p]/\H e=some (XOb e C xs none)/\jq K C/\qv K C "number"/\qv K C "place" /\
 ∀dx H',H dx=none->dx≠e->H' e=some (XOb e C xs (some dx))->H' dx=some (XDi dx (rfF n p))->(∀b o,H b=some o->b≠e->H' b=some o)->Q .non H'
def spX(C:Addr)(n:Int)(one:Bool):Sp:=fun vs H Q _=>∃(e:Addr)(xs:Array Value)(p:Int),(vs=if one then [.ref e,.int p]else [.ref e])/\(one=false->p=0)/\H e=some (XOb e C xs none) /\
 ∀dx H',H dx=none->dx≠e->H' e=some (XOb e C xs (some dx))->H' dx=some (XDi dx (rfF n p))->(∀b o,H b=some o->b≠e->H' b=some o)->Q .non H'
section
variable{P:Program}{w:World}{K:γ}{mg:Str->Option Value}{base:Heap}{f:Addr}{fd:FuncData}{a:Ad}
theorem qak:qm ["self","number","place"] ["self","number","place"] (qe jC):=⟨rfl,rfl,rfl,by decide +kernel,rfl,by decide +kernel,by decide +kernel⟩
theorem qdZ(F:Fun K "__init__" "Refusal.__init__" jC f fd):qw P w K mg base CX0 1 f fd ["self","number","place"] (Zp K):=by
 refine F.ok qak (fun vs H Q E h=>?_) (fun cdv A outer s H vs Q E hr h=>?_)
 ·obtain⟨e,C,xs,n,p,rfl,_⟩:=h;rfl
 ·obtain⟨e,C,xs,n,p,rfl,he,hC,n1,n2,k⟩:=h;refine⟨_,qi (qgv (pv 0) (pv 1) rfl) (qf (qgw (pv 0) (pv 2) rfl)),?_⟩;refine⟨_,rfl,_,rfl,e,C,xs,rfl,he,hC,n1,fun dx hd hde=>?_⟩;refine⟨_,rfl,_,rfl,e,C,xs,dx,_,rfl,qc,(qd hde).trans qc,(by show 1<1000;decide),hC,n2,?_⟩;refine k dx _ hd hde ?_ ?_ fun b o hb hbe=>?_
  ·rw[qd (Ne.symm hde),qc]
  ·rw[qc];rfl
  ·rw[qd (qg hb hd),qd hbe,qd (qg hb hd)];exact hb
theorem qbM:qm ["self"] ["self"] (qe jf):=⟨rfl,rfl,rfl,by decide +kernel,rfl,by decide +kernel,by decide +kernel⟩
theorem qbN(F:Fun K "__init__" "TextTooLong.__init__" jf f fd)(T:Tx P w K mg a)(G:ClsAt P w K mg base 1 a.Refusal "Refusal" "__init__" ["self","number","place"] (Zp K)):qw P w K mg base CX0 2 f fd ["self"] (spX a.TextTooLong 1 false):=by
 refine F.ok qbM (fun vs H Q E h=>?_) (fun cdv A outer s H vs Q E hr h=>?_)
 ·obtain⟨e,xs,p,rfl,_⟩:=h;rfl
 ·obtain⟨e,xs,p,rfl,hp,he,k⟩:=h;refine⟨_,qf (qu (ZO G hr (qa (pv 0) (qa qr (qa qr qh))))),?_⟩;have hp0:=hp rfl;subst hp0;exact⟨_,rfl,e,a.TextTooLong,xs,1,0,rfl,he,T.Ybf,T.YaS,T.YaT,k⟩
theorem qcl:qm ["self","place"] ["self","place"] (qe jr):=⟨rfl,rfl,rfl,by decide +kernel,rfl,by decide +kernel,by decide +kernel⟩
theorem qcm(F:Fun K "__init__" "WrongToken.__init__" jr f fd)(T:Tx P w K mg a)(G:ClsAt P w K mg base 1 a.Refusal "Refusal" "__init__" ["self","number","place"] (Zp K)):qw P w K mg base CX0 2 f fd ["self","place"] (spX a.WrongToken 2 true):=by
 refine F.ok qcl (fun vs H Q E h=>?_) (fun cdv A outer s H vs Q E hr h=>?_)
 ·obtain⟨e,xs,p,rfl,_⟩:=h;rfl
 ·obtain⟨e,xs,p,rfl,hp,he,k⟩:=h;refine⟨_,qf (qu (ZO G hr (qa (pv 0) (qa qr (qa (pv 1) qh))))),?_⟩;exact⟨_,rfl,_,rfl,e,a.WrongToken,xs,2,p,rfl,he,T.Ybi,T.Ya1,T.Ya2,k⟩
theorem qbO:qm ["self","place"] ["self","place"] (qe jg):=⟨rfl,rfl,rfl,by decide +kernel,rfl,by decide +kernel,by decide +kernel⟩
theorem qbP(F:Fun K "__init__" "WrongSyntax.__init__" jg f fd)(T:Tx P w K mg a)(G:ClsAt P w K mg base 1 a.Refusal "Refusal" "__init__" ["self","number","place"] (Zp K)):qw P w K mg base CX0 2 f fd ["self","place"] (spX a.WrongSyntax 3 true):=by
 refine F.ok qbO (fun vs H Q E h=>?_) (fun cdv A outer s H vs Q E hr h=>?_)
 ·obtain⟨e,xs,p,rfl,_⟩:=h;rfl
 ·obtain⟨e,xs,p,rfl,hp,he,k⟩:=h;refine⟨_,qf (qu (ZO G hr (qa (pv 0) (qa qr (qa (pv 1) qh))))),?_⟩;exact⟨_,rfl,_,rfl,e,a.WrongSyntax,xs,3,p,rfl,he,T.Ybh,T.YaZ,T.Ya0,k⟩
theorem qbn:qm ["self","place"] ["self","place"] (qe z5):=⟨rfl,rfl,rfl,by decide +kernel,rfl,by decide +kernel,by decide +kernel⟩
theorem qbo(F:Fun K "__init__" "LevelTooDeep.__init__" z5 f fd)(T:Tx P w K mg a)(G:ClsAt P w K mg base 1 a.Refusal "Refusal" "__init__" ["self","number","place"] (Zp K)):qw P w K mg base CX0 2 f fd ["self","place"] (spX a.LevelTooDeep 4 true):=by
 refine F.ok qbn (fun vs H Q E h=>?_) (fun cdv A outer s H vs Q E hr h=>?_)
 ·obtain⟨e,xs,p,rfl,_⟩:=h;rfl
 ·obtain⟨e,xs,p,rfl,hp,he,k⟩:=h;refine⟨_,qf (qu (ZO G hr (qa (pv 0) (qa qr (qa (pv 1) qh))))),?_⟩;exact⟨_,rfl,_,rfl,e,a.LevelTooDeep,xs,4,p,rfl,he,T.Ybc,T.YaC,T.YaD,k⟩
theorem qc1:qm ["self","place"] ["self","place"] (qe jD):=⟨rfl,rfl,rfl,by decide +kernel,rfl,by decide +kernel,by decide +kernel⟩
theorem qc2(F:Fun K "__init__" "NameTwice.__init__" jD f fd)(T:Tx P w K mg a)(G:ClsAt P w K mg base 1 a.Refusal "Refusal" "__init__" ["self","number","place"] (Zp K)):qw P w K mg base CX0 2 f fd ["self","place"] (spX a.NameTwice 5 true):=by
 refine F.ok qc1 (fun vs H Q E h=>?_) (fun cdv A outer s H vs Q E hr h=>?_)
 ·obtain⟨e,xs,p,rfl,_⟩:=h;rfl
 ·obtain⟨e,xs,p,rfl,hp,he,k⟩:=h;refine⟨_,qf (qu (ZO G hr (qa (pv 0) (qa qr (qa (pv 1) qh))))),?_⟩;exact⟨_,rfl,_,rfl,e,a.NameTwice,xs,5,p,rfl,he,T.Ybd,T.YaE,T.YaF,k⟩
theorem qbQ:qm ["self"] ["self"] (qe jh):=⟨rfl,rfl,rfl,by decide +kernel,rfl,by decide +kernel,by decide +kernel⟩
theorem qbR(F:Fun K "__init__" "TreeTooDeep.__init__" jh f fd)(T:Tx P w K mg a)(G:ClsAt P w K mg base 1 a.Refusal "Refusal" "__init__" ["self","number","place"] (Zp K)):qw P w K mg base CX0 2 f fd ["self"] (spX a.TreeTooDeep 6 false):=by
 refine F.ok qbQ (fun vs H Q E h=>?_) (fun cdv A outer s H vs Q E hr h=>?_)
 ·obtain⟨e,xs,p,rfl,_⟩:=h;rfl
 ·obtain⟨e,xs,p,rfl,hp,he,k⟩:=h;refine⟨_,qf (qu (ZO G hr (qa (pv 0) (qa qr (qa qr qh))))),?_⟩;have hp0:=hp rfl;subst hp0;exact⟨_,rfl,e,a.TreeTooDeep,xs,6,0,rfl,he,T.Ybg,T.YaX,T.YaY,k⟩
structure XAt(K:γ)(S:Addr)(C dx:Addr)(H:Hp)(n p:Int):Prop where
 cls:jq K C
 sub:subB K C S
 nn:qv K C "number"
 np:qv K C "place"
 di:H dx=some (XDi dx (rfF n p))
def XW(K:γ)(S:Addr)(H:Hp)(n p:Int)(E:XK):Prop:=∀C dx H',qB H H'->XAt K S C dx H' n p->E (.ref C) (some dx) H'
theorem Zq{S C:Addr}{n p:Int}{E:XK}{H:Hp}(cl:jq K C)(su:subB K C S)(n1:qv K C "number")(n2:qv K C "place")(h:XW K S H n p E):
  ([V.int p]:List V).length<=1000/\∀e ta,H e=none->spX C n true (.ref e::[V.int p]) (upd H e (XOb e C (xv ta) none)) (fun v H2=>v=.non/\∃dx,H2 e=some (XOb e C (xv ta) (some dx))/\E (.ref C) (some dx) (jO H2 e)) E0:=by
 refine⟨by show 1<=1000;decide,fun e ta he=>⟨e,xv ta,p,rfl,(fun z=>by cases z),qc,fun dx H' hd hde h1 h2 hk=>⟨rfl,dx,h1,h C dx _ (fun b o hb=>?_) ⟨cl,su,n1,n2,?_⟩⟩⟩⟩
 ·have:=qg hb he;rw[zK this];exact hk b o (by rw[qd this];exact hb) this
 ·rw[zK hde];exact h2
theorem qaM{S C:Addr}{n:Int}{E:XK}{H:Hp}(cl:jq K C)(su:subB K C S)(n1:qv K C "number")(n2:qv K C "place")(h:XW K S H n 0 E):
  ([]:List V).length<=1000/\∀e ta,H e=none->spX C n false (.ref e::[]) (upd H e (XOb e C (xv ta) none)) (fun v H2=>v=.non/\∃dx,H2 e=some (XOb e C (xv ta) (some dx))/\E (.ref C) (some dx) (jO H2 e)) E0:=by
 refine⟨by show 0<=1000;decide,fun e ta he=>⟨e,xv ta,0,rfl,(fun z=>rfl),qc,fun dx H' hd hde h1 h2 hk=>⟨rfl,dx,h1,h C dx _ (fun b o hb=>?_) ⟨cl,su,n1,n2,?_⟩⟩⟩⟩
 ·have:=qg hb he;rw[zK this];exact hk b o (by rw[qd this];exact hb) this
 ·rw[zK hde];exact h2
end
noncomputable def strOf(b:List Nat):Str:=⟨b.toArray⟩
theorem zJ(i j:Int):(i==j)=decide (j=i):=by
 by_cases h:i=j
 ·subst h;simp
 ·rw[beq_eq_false_iff_ne.mpr h,decide_eq_false (fun e=>h e.symm)]
def qbp:Sp:=fun vs H Q _=>∃c:Int,vs=[.int c]/\Q (.bl (decide (65<=c/\c<=90\/97<=c/\c<=122))) H
def qaN:Sp:=fun vs H Q _=>∃c:Int,vs=[.int c]/\Q (.bl (decide (48<=c/\c<=57))) H
noncomputable def inName(c:Int):Bool:=decide (65<=c/\c<=90\/97<=c/\c<=122)||decide (48<=c/\c<=57)||decide (c=45)||decide (c=95)
def qgU:Sp:=fun vs H Q _=>∃c:Int,vs=[.int c]/\∀H',qB H H'->Q (.bl (inName c)) H'
def qaO:Sp:=fun vs H Q _=>∃x:Str,vs=[.str x]/\x.cps.size<=1000/\∀p,H p=none->Q (.ref p) (upd H p (.lst (nt x.cps.toList)))
noncomputable def kindName(b:List Nat):Str:=if Vastoa.reserved.contains b then strOf b else "name"
def qgV:Sp:=fun vs H Q _=>∃(p:Addr)(b:List Nat),vs=[.ref p]/\H p=some (.lst (nt b))/\∀H',qB H H'->Q (.str (kindName b)) H'
section
variable{P:Program}{w:World}{K:γ}{mg:Str->Option Value}{base:Heap}{f:Addr}{fd:FuncData}{a:Ad}
theorem qgW:qm ["byte"] ["byte"] (qe QQ):=⟨rfl,rfl,rfl,by decide +kernel,rfl,by decide +kernel,by decide +kernel⟩
theorem qgX(F:Fun K "is_letter" "is_letter" QQ f fd):qw P w K mg base CX0 1 f fd ["byte"] qbp:=by
 refine F.ok qgW (fun vs H Q E h=>?_) (fun cdv A outer s H vs Q E hr h=>?_)
 ·obtain⟨c,rfl,_⟩:=h;rfl
 ·obtain⟨c,rfl,k⟩:=h;refine⟨_,qf (qG (qiJ (qdf qcJ qcJ qr (pv 0) qr) (qjS (qdf qcJ qcJ qr (pv 0) qr)))),?_⟩;simp[qbV,qlu,qgi,tC,zt,rI0,L2.start];by_cases h1:65<=c<;>by_cases h2:c<=90<;>by_cases h3:97<=c<;>by_cases h4:c<=122<;>simp[h1,h2,h3,h4]at k ⊢ <;> exact k
theorem qhT:qm ["byte"] ["byte"] (qe Zo):=⟨rfl,rfl,rfl,by decide +kernel,rfl,by decide +kernel,by decide +kernel⟩
theorem qhU(F:Fun K "is_digit" "is_digit" Zo f fd):qw P w K mg base CX0 1 f fd ["byte"] qaN:=by
 refine F.ok qhT (fun vs H Q E h=>?_) (fun cdv A outer s H vs Q E hr h=>?_)
 ·obtain⟨c,rfl,_⟩:=h;rfl
 ·obtain⟨c,rfl,k⟩:=h;refine⟨_,qf (qG (qdf qcJ qcJ qr (pv 0) qr)),?_⟩;simp[qbV,qgi,tC,zt,rI0,L2.start];by_cases h1:48<=c<;>by_cases h2:c<=57<;>simp[h1,h2]at k ⊢ <;> exact k
theorem qfR:qm ["byte"] ["byte"] (qe Qz):=⟨rfl,rfl,rfl,by decide +kernel,rfl,by decide +kernel,by decide +kernel⟩
theorem qfS(F:Fun K "is_in_name" "is_in_name" Qz f fd)(T:Tx P w K mg a)(G1:FnAt P w K mg base CX0 1 "is_letter" ["byte"] qbp)(G2:FnAt P w K mg base CX0 1 "is_digit" ["byte"] qaN):
  qw P w K mg base CX0 2 f fd ["byte"] qgU:=by
 refine F.ok qfR (fun vs H Q E h=>?_) (fun cdv A outer s H vs Q E hr h=>?_)
 ·obtain⟨c,rfl,_⟩:=h;rfl
 ·obtain⟨c,rfl,k⟩:=h
  refine⟨_,qf (qG (qiJ (qT G1 hr qO (qa (pv 0) qh)) (qiJ (qT G2 hr qO (qa (pv 0) qh))
   (qjS (qku (pv 0) (qa (qM T.Yal) (qa (qM T.Yar) qh))))))),?_⟩
  simp[qbV,qlu,QY,zO,jN,tC,zt,qjc,qew,QD,inV,eqV,qbp,qaN,L2.start];by_cases h1:65<=c/\c<=90\/97<=c/\c<=122
  ·rw[if_pos h1];have e:inName c=true:=by simp[inName,h1]
   rw[e]at k;exact k H (qB.refl H)
  ·rw[if_neg h1];by_cases h2:48<=c/\c<=57
   ·rw[if_pos h2];have e:inName c=true:=by simp[inName,h2]
    rw[e]at k;exact k H (qB.refl H)
   ·rw[if_neg h2];intro H' hs;have e:inName c=(45==c||95==c):=by rw[zJ,zJ];simp only[inName,h1,h2,decide_false,YdM]
    rw[<- e];exact k H' hs
theorem qaB:qm ["written","sign"] ["written"] (qe Zj):=⟨rfl,rfl,rfl,by decide +kernel,rfl,by decide +kernel,by decide +kernel⟩
theorem qhV(F:Fun K "bytes_of" "bytes_of" Zj f fd)(T:Tx P w K mg a):qw P w K mg base CX0 1 f fd ["written"] qaO:=by
 refine F.ok qaB (fun vs H Q E h=>?_) (fun cdv A outer s H vs Q E hr h=>?_)
 ·obtain⟨c,rfl,_⟩:=h;rfl
 ·obtain⟨x,rfl,hx,k⟩:=h
  refine⟨_,qf (qG (qf4 (own:=[("sign",1)]) rfl qaB.nd (qoj (pv 0)) (J6 rfl) (fun _ _ _ _ _=>jd (i:=1) qaB.nd rfl (Or.inl rfl)) (fun _ _ _ _ _=>qaH)
   (fun _ _ _ _ _=>jc qlw (by rfl) T.b_ord boot_ord (qa (pv 1) qh)))),?_⟩
  refine⟨_,rfl,x,rfl,fun D hD=>qoz (fun i H'=>H'=upd H D (.lst (nt (x.cps.toList.take i)))) rfl ?_ ?_⟩
  ·rintro i c _ hc rfl;simp[QX,qlD,tCB,zO,jN,zt,wipe,L2.start,qc];have hi:i<x.cps.size:=(YbU.mp hc).1;refine⟨rfl,by rw[zw,Ybz];exact Ycn (Nat.min_le_left _ _) (Q7 (by omega)),?_⟩;rw[jX];congr 2;have hc':x.cps.toList[i]?=some c:=by simpa using hc
   rw[Ydi,hc'];simp[nt]
  ·rintro _ rfl;have:=k D hD;rw[YbZ (by simp)];exact this
theorem qaP:qab.map (fun x=>x.cps.toList)=Vastoa.reserved:=by decide +kernel
theorem qal:qm ["held","word"] ["held"] (qe jZ):=⟨rfl,rfl,rfl,by decide +kernel,rfl,by decide +kernel,by decide +kernel⟩
theorem qd0(F:Fun K "kind_of_name" "kind_of_name" jZ f fd)(T:Tx P w K mg a)(G:FnAt P w K mg base CX0 1 "bytes_of" ["written"] qaO):qw P w K mg base CX0 2 f fd ["held"] qgV:=by
 refine F.ok qal (fun vs H Q E h=>?_) (fun cdv A outer s H vs Q E hr h=>?_)
 ·obtain⟨p,b,rfl,_⟩:=h;rfl
 ·obtain⟨p,b,rfl,hp,k⟩:=h
  refine⟨_,qi (Z0 PassesOwn.never rfl (qgh (qM T.Yas)) (jd (i:=1) qal.nd rfl (Or.inl rfl))
   (qf (qR (qK (qj4 hr.units) (pv 0) (qT G hr qO (qa (pv 1) qh)) (qX _)) (qf (qG (pv 1))) zh))) (qf (qG qL)),?_⟩
  refine⟨a.WORDS,rfl,⟨_,T.Ya4.sq _⟩,qel (K:=K) (a:=a.WORDS) (xs:=qab.map V.str) (fun i σ H'=>∃v:Option V,σ=[some (.ref p),v]/\qB H H'/\∀j x,j<i->qab[j]?=some x->x.cps.toList≠b)
   ⟨none,rfl,qB.refl _,fun j x hj=>absurd hj (YbX _)⟩ (fun i σ H' _ _=>T.Ya4.sq _) ?_ ?_⟩
  ·rintro i y σ H' hi ⟨v,rfl,hs,hno⟩;obtain⟨x,hx,rfl⟩:∃x,qab[i]?=some x/\V.str x=y:=by rw[Ω]at hi;exact Ybu.mp hi
   have hsz:x.cps.size<=1000:=by
    have all:∀x∈qab,x.cps.size<=1000:=by decide +kernel
    exact all x (YbD hx)
   refine⟨_,rfl,_,rfl,x,rfl,hsz,fun q hq=>qky (SqL.of (qo hq _ _ (hs _ _ hp))) (SqL.of qc) ⟨_,rfl,zR (fun e=>?_) fun e=>?_⟩⟩
   ·have e:b=x.cps.toList:=of_decide_eq_true e;subst e;refine⟨_,rfl,?_⟩
    have h1:kindName x.cps.toList=x:=by
     have:x.cps.toList∈Vastoa.reserved:=by rw[<- qaP];exact Yb7.mpr ⟨x,YbD hx,rfl⟩
     unfold kindName;rw[if_pos (Ybq.mpr this)];rfl
    rw[h1]at k;exact k _ (hs.trans (qo hq))
   ·refine⟨_,rfl,hs.trans (qo hq),fun j y hj hy=>?_⟩;by_cases hji:j=i
    ·subst hji;rw[hx]at hy;cases hy;exact fun z=>e (decide_eq_true z.symm)
    ·exact hno j y (by omega) hy
  ·rintro σ H' ⟨v,rfl,hs,hno⟩
   have h1:kindName b="name":=by
    have:b∉Vastoa.reserved:=by rw[<- qaP];intro hm;obtain⟨x,hx,rfl⟩:=Yb7.mp hm;obtain⟨j,hj⟩:=YcG hx;exact hno j x (by have:=(Δ.mp hj).1;rw[τ];exact this) hj rfl
    unfold kindName;rw[if_neg (fun z=>this (Ybq.mp z))]
   rw[h1]at k;exact k _ hs
def qjf(a:Ad):Sp:=fun vs H Q _=>∃(t dx:Addr)(k p h:V),vs=[.ref t,k,p,h]/\H t=some (.ins a.Token dx [])/\Q .non (upd H t (.ins a.Token dx (tokF k p h)))
theorem qfT:qm ["self","kind","place","held"] ["self","kind","place","held"] (qe Qy):=⟨rfl,rfl,rfl,by decide +kernel,rfl,by decide +kernel,by decide +kernel⟩
theorem qfU(F:Fun K "__init__" "Token.__init__" Qy f fd)(T:Tx P w K mg a):qw P w K mg base CX0 1 f fd ["self","kind","place","held"] (qjf a):=by
 refine F.ok qfT (fun vs H Q E h=>?_) (fun cdv A outer s H vs Q E hr h=>?_)
 ·obtain⟨t,dx,k,p,h,rfl,_⟩:=h;rfl
 ·obtain⟨t,dx,kk,p,h,rfl,ht,k⟩:=h;refine⟨_,qi (zA (pv 0) (pv 1) rfl) (qi (zA (pv 0) (pv 2) rfl) (qf (zA (pv 0) (pv 3) rfl))),?_⟩;refine⟨_,rfl,_,rfl,t,_,dx,_,rfl,ht,T.Yae,T.YaV,(by show 0<1000;decide),?_⟩;refine⟨_,rfl,_,rfl,t,_,dx,_,rfl,qc,T.Yae,T.YaW,(by show 1<1000;decide),?_⟩;refine⟨_,rfl,_,rfl,t,_,dx,_,rfl,qc,T.Yae,T.YaU,(by show 2<1000;decide),?_⟩;rw[jX,jX];exact k
end
end RT
end
section
namespace RT
open PySem PySem.Spec PyProof.Rows L2
open Vastoa (Mark Marks)
abbrev qcn:=Vastoa.Tok
noncomputable def j9:qcn->Str
 | .name _=> "name"
 | .num _=> "number"
 | .quote=> "quote"
 | .unquote=> "unquote"
 | .piece _=> "piece"
 | .hole=> "hole"
 | .unhole=> "unhole"
 | .fin=> "end"
 | .word x=>strOf x
 | .sign x=>strOf x
def qp(M:Addr->Prop)(H H':Hp):Prop:=∀b o,H b=some o->¬M b->H' b=some o
theorem qp.refl (M:Addr->Prop) (H:Hp):qp M H H:=fun _ _ h _=>h
theorem qp.trans {M:Addr->Prop} {H H1 H2:Hp} (h:qp M H H1) (h':qp M H1 H2):qp M H H2:=fun b o e n=>h' b o (h b o e n) n
theorem qp.of {M:Addr->Prop} {H H':Hp} (h:qB H H'):qp M H H':=fun b o e _=>h b o e
theorem qp.at_ {M:Addr->Prop} {H:Hp} {p:Addr} {o:HO} (h:M p):qp M H (upd H p o):=fun b u e n=>by rw[qd (fun z=>n (by rw[z];exact h))];exact e
theorem qp.new {M:Addr->Prop} {H:Hp} {p:Addr} {o:HO} (h:H p=none):qp M H (upd H p o):=qp.of (qo h)
theorem qp.wide {M M':Addr->Prop} {H H':Hp} (k:qp M H H') (h:∀b,M b->M' b):qp M' H H':=fun b o e n=>k b o e fun z=>n (h b z)
def SqM(K:γ)(M:Addr->Prop)(H:Hp)(p:Addr)(xs:List V):Prop:=(Rd H p (.lst xs)/\¬M p)\/∃(o:Obj)(its:Array Value)(n:Nat),K.lookup p=some o/\o.cls=.type "list"/\o.dict=none/\o.data=.seq its n/\its.size<=Λ/\qD xs its.toList
theorem SqM.sq {K:γ} {M:Addr->Prop} {H:Hp} {p:Addr} {xs:List V} (h:SqM K M H p xs):SqL K H p xs:=h.imp (·.1) id
theorem SqM.keep {K:γ} {M:Addr->Prop} {H H':Hp} {p:Addr} {xs:List V} (h:SqM K M H p xs) (k:qp M H H'):SqM K M H' p xs:=by
 rcases h with⟨q|⟨o,q⟩,n⟩|q
 ·exact .inl ⟨.inl (k _ _ q n),n⟩
 ·exact .inl ⟨.inr ⟨o,k _ _ q n⟩,n⟩
 ·exact .inr q
theorem Zz{A B:Type}{R:A->B->Prop}:∀{as:List A}{bs:List B}{x:A}{y:B},Paired R as bs->R x y->Paired R (as++[x]) (bs++[y])
 |_,_,_,_,.nil,r=>.cons r .nil
 |_,_,_,_,.cons q t,r=>.cons q (Zz t r)
theorem qZ{A B:Type}{R S:A->B->Prop}(i:∀x y,R x y->S x y):∀{as:List A}{bs:List B},Paired R as bs->Paired S as bs
 |_,_,.nil=>.nil
 |_,_,.cons q t=>.cons (i _ _ q) (qZ i t)
theorem zM{A B:Type}{R:A->B->Prop}:∀{as:List A}{bs:List B}{j:Nat}{y:B},Paired R as bs->bs[j]?=some y->∃x,as[j]?=some x/\R x y
 |_,_,j,_,.nil,e=>by simp at e
 |_,_,0,_,.cons q t,e=>by simp at e;subst e;exact⟨_,rfl,q⟩
 |_,_,j+1,y,.cons q t,e=>by obtain⟨x,h1,h2⟩:=zM (j:=j) (y:=y) t (by simpa using e);exact⟨x,by simpa using h1,h2⟩
def Qp(a:Ad)(M:Addr->Prop)(H:Hp)(t:Addr)(m:Mark):Prop:=∃dx ha,H t=some (.ins a.Token dx (tokF (.str (j9 m.tok)) (.int m.place) (.ref ha)))/\H ha=some (.lst (nt (RM.held m.tok)))/\¬M t/\¬M ha
theorem Qp.keep {a:Ad} {M:Addr->Prop} {H H':Hp} {t:Addr} {m:Mark} (h:Qp a M H t m) (k:qp M H H'):Qp a M H' t m:=by obtain⟨dx,ha,h1,h2,h3,h4⟩:=h;exact⟨dx,ha,k _ _ h1 h3,k _ _ h2 h4,h3,h4⟩
structure CA where
 c:Addr
 dx:Addr
 a:Addr
 tl:Addr
 ol:Addr
def CA.M (z:CA) (b:Addr):Prop:=b=z.c\/b=z.tl\/b=z.ol
theorem CA.mc (z:CA):z.M z.c:=.inl rfl
theorem CA.mt (z:CA):z.M z.tl:=.inr (.inl rfl)
theorem CA.mo (z:CA):z.M z.ol:=.inr (.inr rfl)
noncomputable def opS(b:Bool):V:=.str (if b then "hole" else "brace")
structure qP(a:Ad)(K:γ)(H:Hp)(z:CA)(txt:List Nat)(i:Nat)(T:Marks)(O:List Bool)(lit en:Bool):Prop where
 ins:H z.c=some (.ins a.Cutter z.dx (jR (.ref z.a) (.int i) (.ref z.tl) (.ref z.ol) (.bl lit) (.bl en)))
 txt:SqM K z.M H z.a (nt txt)
 tl:∃as,H z.tl=some (.lst (as.map V.ref))/\Paired (Qp a z.M H) as T
 ol:H z.ol=some (.lst (O.reverse.map opS))
 nto:z.tl≠z.ol
section
variable{a:Ad}{K:γ}{H H':Hp}{z:CA}{txt:List Nat}{i:Nat}{T:Marks}{O:List Bool}{lit en:Bool}
theorem qP.nct (h:qP a K H z txt i T O lit en):z.c≠z.tl:=by obtain⟨as,h1,_⟩:=h.tl;exact qcH h.ins h1 (by intro q;cases q)
theorem qP.nco (h:qP a K H z txt i T O lit en):z.c≠z.ol:=qcH h.ins h.ol (by intro q;cases q)
theorem qP.fresh (h:qP a K H z txt i T O lit en) {p:Addr} (hp:H p=none):¬z.M p:=by
 obtain⟨as,h1,_⟩:=h.tl;rintro(rfl|rfl|rfl)
 ·rw[h.ins]at hp;cases hp
 ·rw[h1]at hp;cases hp
 ·rw[h.ol]at hp;cases hp
theorem qP.same (h:qP a K H z txt i T O lit en) (s:qB H H'):qP a K H' z txt i T O lit en:=by obtain⟨as,h1,h2⟩:=h.tl;exact⟨s _ _ h.ins,h.txt.keep (qp.of s),⟨as,s _ _ h1,qZ (fun x y q=>q.keep (qp.of s)) h2⟩,s _ _ h.ol,h.nto⟩
theorem qP.put (h:qP a K H z txt i T O lit en) (i':Nat) (lit' en':Bool):qP a K (upd H z.c (.ins a.Cutter z.dx (jR (.ref z.a) (.int i') (.ref z.tl) (.ref z.ol) (.bl lit') (.bl en')))) z txt i' T O lit' en':=by obtain⟨as,h1,h2⟩:=h.tl;have k:qp z.M H (upd H z.c (.ins a.Cutter z.dx (jR (.ref z.a) (.int i') (.ref z.tl) (.ref z.ol) (.bl lit') (.bl en')))):=qp.at_ z.mc;exact⟨qc,h.txt.keep k,⟨as,by rw[qd (Ne.symm h.nct)];exact h1,qZ (fun x y q=>q.keep k) h2⟩,by rw[qd (Ne.symm h.nco)];exact h.ol,h.nto⟩
theorem qP.putO (h:qP a K H z txt i T O lit en) (O':List Bool):qP a K (upd H z.ol (.lst (O'.reverse.map opS))) z txt i T O' lit en:=by obtain⟨as,h1,h2⟩:=h.tl;have k:qp z.M H (upd H z.ol (.lst (O'.reverse.map opS))):=qp.at_ z.mo;exact⟨by rw[qd h.nco];exact h.ins,h.txt.keep k,⟨as,by rw[qd h.nto];exact h1,qZ (fun x y q=>q.keep k) h2⟩,qc,h.nto⟩
theorem qP.putT (h:qP a K H z txt i T O lit en) {as:List Addr} {t:Addr} {m:Mark} (h1:H z.tl=some (.lst (as.map V.ref))) (ht:Qp a z.M H t m):qP a K (upd H z.tl (.lst (as.map V.ref++[.ref t]))) z txt i (T++[m]) O lit en:=by
 obtain⟨as',h1',h2⟩:=h.tl;rw[h1]at h1'
 have e:as=as':=by
  have:=Option.some.inj h1';injection this with this
  exact Ydj (fun x y q=>by injection q) |>.mp this
 subst e;have k:qp z.M H (upd H z.tl (.lst (as.map V.ref++[.ref t]))):=qp.at_ z.mt;exact⟨by rw[qd h.nct];exact h.ins,h.txt.keep k,⟨as++[t],by rw[qc,Ybv];rfl,qZ (fun x y q=>q.keep k) (Zz h2 ht)⟩,by rw[qd (Ne.symm h.nto)];exact h.ol,h.nto⟩
end
def qkB(a:Ad)(K:γ)(H:Hp)(c:Addr)(txt:List Nat):Prop:=∃dx ta p t o l e,H c=some (.ins a.Cutter dx (jR (.ref ta) p t o l e))/\SqL K H ta (nt txt)
theorem qP.text {a:Ad} {K:γ} {H:Hp} {z:CA} {txt:List Nat} {i:Nat} {T:Marks} {O:List Bool} {lit en:Bool} (h:qP a K H z txt i T O lit en):qkB a K H z.c txt:=⟨_,_,_,_,_,_,_,h.ins,h.txt.sq⟩
noncomputable def byteAt(txt:List Nat)(j:Nat):Int:=match txt[j]? with
 |some b=>(b:Int)
 |none=>-1
def Zc(a:Ad)(K:γ):Sp:=fun vs H Q _=>∃(c:Addr)(txt:List Nat)(j:Nat),vs=[.ref c,.int j]/\qkB a K H c txt/\Q (.int (byteAt txt j)) H
def QF(a:Ad)(K:γ):Sp:=fun vs H Q _=>∃(z:CA)(txt:List Nat)(i:Nat)(T:Marks)(O:List Bool)(lit en:Bool)(t:qcn)(n:Nat)(ha:Addr),vs=[.ref z.c,.str (j9 t),.int n,.ref ha] /\
 qP a K H z txt i T O lit en/\H ha=some (.lst (nt (RM.held t)))/\¬z.M ha/\T.length<1000000/\∀H',qp z.M H H'->qP a K H' z txt (i+n) (T++[⟨i,t⟩]) O lit en->Q .non H'
section
variable{P:Program}{w:World}{K:γ}{mg:Str->Option Value}{base:Heap}{f:Addr}{fd:FuncData}{a:Ad}
theorem qjg:qm ["self","place"] ["self","place"] (qe jE):=⟨rfl,rfl,rfl,by decide +kernel,rfl,by decide +kernel,by decide +kernel⟩
theorem qjh(F:Fun K "byte_at" "Cutter.byte_at" jE f fd)(T:Tx P w K mg a):qw P w K mg base CX0 1 f fd ["self","place"] (Zc a K):=by
 refine F.ok qjg (fun vs H Q E h=>?_) (fun cdv A outer s H vs Q E hr h=>?_)
 ·obtain⟨c,txt,j,rfl,_⟩:=h;rfl
 ·obtain⟨c,txt,j,rfl,⟨dx,ta,p,t,o,l,e,hc,ht⟩,k⟩:=h
  refine⟨_,qf (qG (qa2 (qK qf3 (pv 1) (jc zD (by rfl) T.b_len PySem.boot_len (qa (qj (pv 0) rfl) qh)) (qX _))
   (jp zu (qj (pv 0) rfl) (pv 1) (fun _ _=>rfl)) (qM T.Yam))),?_⟩
  refine⟨_,rfl,_,rfl,c,_,dx,_,_,rfl,hc,T.Yab,T.YaA,JI _ _ _ _ _ _,ta,_,rfl,.inl ht,_,_,rfl,rfl,_,rfl,zR (fun q=>?_) fun q=>?_⟩
  ·have hj:j<txt.length:=by
    have:=of_decide_eq_true q;rw[zw]at this;omega
   refine⟨_,rfl,c,_,dx,_,_,rfl,hc,T.Yab,T.YaA,JI _ _ _ _ _ _,_,rfl,ta,_,_,_,rfl,rfl,ht,jM (v:=V.int (txt[j]:Int)) (by simp[nt,hj]),?_⟩;have:byteAt txt j=(txt[j]:Int):=by unfold byteAt;rw[Θ hj]
   rw[this]at k;exact k
  ·have hj:¬j<txt.length:=fun z=>q (decide_eq_true (by rw[zw];omega));have:byteAt txt j = -1:=by unfold byteAt;rw[YcY (by omega)]
   rw[this]at k;exact k
theorem qgY:qm ["self","kind","length","held"] ["self","kind","length","held"] (qe jk):=⟨rfl,rfl,rfl,by decide +kernel,rfl,by decide +kernel,by decide +kernel⟩
theorem qgZ(F:Fun K "add_token" "Cutter.add_token" jk f fd)(T:Tx P w K mg a)(G:qcg P w K mg base CX0 1 a.Token "Token" ["self","kind","place","held"] (qjf a)):qw P w K mg base CX0 3 f fd ["self","kind","length","held"] (QF a K):=by
 refine F.ok qgY (fun vs H Q E h=>?_) (fun cdv A outer s H vs Q E hr h=>?_)
 ·obtain⟨z,txt,i,Tk,O,lit,en,t,n,ha,rfl,_⟩:=h;rfl
 ·obtain⟨z,txt,i,Tk,O,lit,en,t,n,ha,rfl,hC,hha,nha,hlen,k⟩:=h
  refine⟨_,qi (qu (zP χ ώ ϊ zq (qj (pv 0) rfl)
   (qa (Zb G hr qO (qa (pv 1) (qa (qj (pv 0) rfl) (qa (pv 3) qh)))) qh))) (qf (QC (pv 0) (pv 2) J4)),?_⟩
  obtain⟨as,h1,h2⟩:=hC.tl;refine⟨_,rfl,z.c,_,z.dx,_,_,rfl,hC.ins,T.Yab,T.YaB,qaA _ _ _ _ _ _,.inl ⟨rfl,_,SqL.of h1⟩,?_⟩;refine⟨_,rfl,_,rfl,z.c,_,z.dx,_,_,rfl,hC.ins,T.Yab,T.Yaz,qN _ _ _ _ _ _,_,rfl,?_⟩;intro x dx hx hdx hne;refine⟨x,dx,_,_,_,rfl,qc,rfl,?_⟩;rw[jX];have nx:=hC.fresh hx;have s1:qB H (upd (upd H dx (.own x)) x (.ins a.Token dx (tokF (.str (j9 t)) (.int i) (.ref ha)))):=fun b o e=>by rw[qd (qg e hx),qd (qg e hdx)];exact e
  have C1:=hC.same s1;have tk:Qp a z.M (upd (upd H dx (.own x)) x (.ins a.Token dx (tokF (.str (j9 t)) (.int i) (.ref ha)))) x ⟨i,t⟩:=⟨dx,ha,qc,s1 _ _ hha,nx,nha⟩;have h1':=s1 _ _ h1;refine⟨z.tl,_,_,rfl,rfl,h1',?_,?_⟩
  ·rw[τ,Paired.length h2];exact YdX hlen (by decide)
  have C2:=C1.putT h1' tk;refine⟨_,rfl,z.c,_,z.dx,_,_,rfl,C2.ins,T.Yab,T.Yaz,qN _ _ _ _ _ _,_,rfl,_,_,rfl,rfl,z.dx,_,C2.ins,(by show 6<1000;decide),?_⟩;have C3:=C2.put (i+n) lit en;refine k _ ?_ C3;exact((qp.of s1).trans (qp.at_ z.mt)).trans (qp.at_ z.mc)
end
end RT
end
section
namespace RT
open PySem PySem.Spec PyProof.Rows L2
open Vastoa (Mark Marks)
def XWM(M:Addr->Prop)(K:γ)(S:Addr)(H:Hp)(n p:Int)(E:XK):Prop:=∀C dx H',qp M H H'->XAt K S C dx H' n p->E (.ref C) (some dx) H'
theorem XWM.on {M:Addr->Prop} {K:γ} {S:Addr} {H H1:Hp} {n p:Int} {E:XK} (h:XWM M K S H n p E) (k:qp M H H1):XW K S H1 n p E:=fun C dx H' s x=>h C dx H' (k.trans (qp.of s)) x
theorem XWM.from {M:Addr->Prop} {K:γ} {S:Addr} {H H1:Hp} {n p:Int} {E:XK} (h:XWM M K S H n p E) (k:qp M H H1):XWM M K S H1 n p E:=fun C dx H' s x=>h C dx H' (k.trans s) x
def Run(txt:List Nat)(p:Nat->Bool)(i j:Nat):Prop:=i<=j/\j<=txt.length/\∀x,i<=x->x<j->∃c,txt[x]?=some c/\p c=true
theorem Run.more {txt:List Nat} {p:Nat->Bool} {i j c:Nat} (r:Run txt p i j) (e:txt[j]?=some c) (h:p c=true):Run txt p i (j+1) :=
 ⟨Nat.le_succ_of_le r.1,(Δ.mp e).1,fun x h1 h2=>by
  by_cases hx:x=j
  ·subst hx;exact⟨c,e,h⟩
  ·exact r.2.2 x h1 (by omega)⟩
theorem zS{txt:List Nat}{j c:Nat}(e:txt[j]?=some c):byteAt txt j=(c:Int):=by unfold byteAt;rw[e]
theorem jH{txt:List Nat}{j:Nat}(e:txt[j]?=none):byteAt txt j = -1:=by unfold byteAt;rw[e]
def qbG(a:Ad)(K:γ):Sp:=fun vs H Q _=>∃(z:CA)(txt:List Nat)(i:Nat)(T:Marks)(O:List Bool)(lit en:Bool),vs=[.ref z.c]/\qP a K H z txt i T O lit en/\i<=txt.length /\
 ∀H' j,qp z.M H H'->qP a K H' z txt j T O lit en->Run txt (fun y=>y != 10) i j->(∀c,txt[j]?=some c->c=10)->Q .non H'
section
variable{P:Program}{w:World}{K:γ}{mg:Str->Option Value}{base:Heap}{f:Addr}{fd:FuncData}{a:Ad}
theorem qd1:qm ["self"] ["self"] (qe zN):=⟨rfl,rfl,rfl,by decide +kernel,rfl,by decide +kernel,by decide +kernel⟩
theorem qd2(F:Fun K "pass_comment" "Cutter.pass_comment" zN f fd)(T:Tx P w K mg a)(G:jn P w K mg base CX0 1 a.Cutter "byte_at" ["self","place"] (Zc a K)):qw P w K mg base CX0 2 f fd ["self"] (qbG a K):=by
 refine F.ok qd1 (fun vs H Q E h=>?_) (fun cdv A outer s H vs Q E hr h=>?_)
 ·obtain⟨z,txt,i,Tk,O,lit,en,rfl,_⟩:=h;rfl
 ·obtain⟨z,txt,i,Tk,O,lit,en,rfl,hC,hi,k⟩:=h
  refine⟨_,qf (Q4 PassesOwn.never (qfu (zm G T.Yab hr qO (pv 0) (qa (qj (pv 0) rfl) qh)) (qa (qM T.g_LINE_FEED) (qa (qM T.Yam) qh)))
   (qf (QC (pv 0) qr J4))),?_⟩
  refine⟨fun m σ H'=>σ=[some (.ref z.c)]/\∃j,qP a K H' z txt j Tk O lit en/\qp z.M H H'/\Run txt (fun y=>y != 10) i j/\m=txt.length - j,⟨_,rfl,i,hC,qp.refl _ _,⟨ω _,hi,fun x h1 h2=>by omega⟩,rfl⟩,?_⟩;rintro m σ H1 ⟨rfl,j,C1,k1,r1,rfl⟩;refine⟨_,rfl,z.c,z.dx,_,rfl,C1.ins,zL _ _ _ _ _ _,_,rfl,z.c,_,z.dx,_,_,rfl,C1.ins,T.Yab,T.Yaz,qN _ _ _ _ _ _,z.c,txt,j,rfl,C1.text,rfl,fun H2 s2=>⟨_,rfl,?_⟩⟩;have C2:=C1.same s2;cases e:txt[j]? with
  |none=>rw[jH e];refine zz ?_;exact k H2 j (k1.trans (qp.of s2)) C2 r1 fun c hc=>by rw[e]at hc;cases hc
  |some c=>
   rw[zS e]
   have hin:inV (.int (c:Int)) [V.int 10,V.int (-1)]=decide (c=10):=by
    simp only[inV,Yb5,Yda,eqV,zJ,Ycx];have:¬((c:Int) = -1):=by omega
    simp only[this,decide_false,Ycx];by_cases h:c=10
    ·subst h;rfl
    ·rw[decide_eq_false h,decide_eq_false (by omega)]
   rw[hin];by_cases h:c=10
   ·rw[decide_eq_true h];refine zz ?_;exact k H2 j (k1.trans (qp.of s2)) C2 r1 fun c' hc=>by rw[e]at hc;cases hc;exact h
   ·rw[decide_eq_false h];refine zT ⟨_,fun σ' H' q=>q,?_⟩;refine⟨_,rfl,z.c,_,z.dx,_,_,rfl,C2.ins,T.Yab,T.Yaz,qN _ _ _ _ _ _,_,_,rfl,rfl,z.dx,_,C2.ins,(by show 6<1000;decide),?_⟩;have C3:=C2.put (j+1) lit en;have hj:j<txt.length:=(Δ.mp e).1;refine⟨txt.length - (j+1),by omega,rfl,j+1,C3,(k1.trans (qp.of s2)).trans (qp.at_ z.mc),r1.more e (by simpa using h),rfl⟩
end
end RT
end
section
namespace RT
open PySem PySem.Spec PyProof.Rows L2
open Vastoa (Mark Marks)
noncomputable def piece(txt:List Nat)(i j:Nat):List Nat:=(txt.drop i).take (j - i)
theorem qiq(txt:List Nat){i j:Nat}(h:i<=j)(hj:j<=txt.length):ZK (nt txt) (some (i:Int)) (some (j:Int))=nt (piece txt i j):=by unfold ZK piece;rw[HT.JW,HT.JW,zw,Ycj hj,Ycj (Ybx h hj)];simp only[nt,YdO,YdP]
theorem qfy{txt:List Nat}{i j:Nat}(h:i<=j)(hj:j<=txt.length):(piece txt i j).length=j - i:=by unfold piece;rw[Ybz,YbF];omega
theorem qg0(c:Nat):inName (c:Int)=Vastoa.inner c:=by unfold inName Vastoa.inner Vastoa.letter Vastoa.digit;rw[Yca];simp;omega
theorem qji:inName (-1)=false:=by decide
noncomputable def nameTok(b:List Nat):qcn:=if Vastoa.reserved.contains b then .word b else .name b
theorem qg1(b:List Nat):j9 (nameTok b)=kindName b:=by
 unfold nameTok kindName
 split<;>rfl
theorem qg2(b:List Nat):RM.held (nameTok b)=b:=by
 unfold nameTok
 split<;>rfl
def qfz(a:Ad)(K:γ):Sp:=fun vs H Q E=>∃(z:CA)(txt:List Nat)(i:Nat)(T:Marks)(O:List Bool)(lit en:Bool),vs=[.ref z.c]/\qP a K H z txt i T O lit en/\i<=txt.length/\T.length<1000000 /\
 ∀j,Run txt Vastoa.inner i j->(∀c,txt[j]?=some c->Vastoa.inner c=false)->(32<j - i->XWM z.M K a.Refusal H 2 i E) /\
  (j - i<=32->∀H',qp z.M H H'->qP a K H' z txt j (T++[⟨i,nameTok (piece txt i j)⟩]) O lit en->Q .non H')
section
variable{P:Program}{w:World}{K:γ}{mg:Str->Option Value}{base:Heap}{f:Addr}{fd:FuncData}{a:Ad}
theorem JB:qm ["self","end","held"] ["self"] (qe jt):=⟨rfl,rfl,rfl,by decide +kernel,rfl,by decide +kernel,by decide +kernel⟩
theorem qhW(F:Fun K "cut_name" "Cutter.cut_name" jt f fd)(T:Tx P w K mg a)(Gb:jn P w K mg base CX0 1 a.Cutter "byte_at" ["self","place"] (Zc a K))
  (Gi:FnAt P w K mg base CX0 2 "is_in_name" ["byte"] qgU) (Gk:FnAt P w K mg base CX0 2 "kind_of_name" ["held"] qgV) (Ga:jn P w K mg base CX0 3 a.Cutter "add_token" ["self","kind","length","held"] (QF a K))
  (Gx:QZ P w K mg base 2 a.WrongToken "WrongToken" ["self","place"] (spX a.WrongToken 2 true)):qw P w K mg base (CXR P w) 4 f fd ["self"] (qfz a K):=by
 refine F.okR JB (fun vs H Q E h=>?_) (fun cdv A outer s H vs Q E hr h=>?_)
 ·obtain⟨z,txt,i,Tk,O,lit,en,rfl,_⟩:=h;rfl
 ·obtain⟨z,txt,i,Tk,O,lit,en,rfl,hC,hi,hT,k⟩:=h;have hr1:qI 1 _:=hr.mono (by decide);have hr2:qI 2 _:=hr.mono (by decide)
  refine⟨_,qi (qW (i:=1) JB.nd rfl (Or.inl rfl) (qj (pv 0) rfl))
   (qi (Q4 PassesOwn.leaving (Q3 (qT Gi hr2 qO (qa (zm Gb T.Yab hr1 qO (pv 0) (qa (pv 1) qh)) qh))) (qf (qjT (i:=1) JB.nd rfl (Or.inl rfl) qr qjU)))
   (qi (qR (qK JR (j8 qdy (pv 1) (qj (pv 0) rfl)) (qM T.g_MOST_NAME_BYTES) (qX _)) (qf (Qn Gx hr (qa (qj (pv 0) rfl) qh))) zh)
   (qi (qW (i:=2) JB.nd rfl (Or.inl rfl) (ZJ JX (qj (pv 0) rfl) (Qv (qj (pv 0) rfl)) (Qv (pv 1))))
   (qf (qu (zm Ga T.Yab hr qO (pv 0) (qa (qT Gk hr2 qO (qa (pv 2) qh)) (qa (jc zD (by rfl) T.b_len PySem.boot_len (qa (pv 2) qh)) (qa (pv 2) qh))))))))),?_⟩
  refine⟨_,rfl,z.c,_,z.dx,_,_,rfl,hC.ins,T.Yab,T.Yaz,qN _ _ _ _ _ _,?_⟩;refine⟨fun m σ H'=>∃j:Nat,σ=[some (.ref z.c),some (.int (j:Int)),none]/\qP a K H' z txt i Tk O lit en/\qp z.M H H'/\Run txt Vastoa.inner i j/\m=txt.length - j,⟨_,i,rfl,hC,qp.refl _ _,⟨ω _,hi,fun x h1 h2=>by omega⟩,rfl⟩,?_⟩;rintro m σ H1 ⟨j,rfl,C1,k1,r1,rfl⟩;refine⟨_,rfl,z.c,z.dx,_,rfl,C1.ins,zL _ _ _ _ _ _,_,rfl,z.c,txt,j,rfl,C1.text,_,rfl,fun H2 s2=>⟨_,rfl,?_⟩⟩;have C2:=C1.same s2;have k2:=k1.trans (qp.of s2)
  have over:(∀c,txt[j]?=some c->Vastoa.inner c=false)->∀D:Ends,D.rt=Q->D.nx=(fun _ H'=>Q .non H') ->
    qa3 (qiL (qdz (tOp (rI0 fun i j=>.bl (decide (j<i))) (tOp (rI0 fun i j=>.int (i - j)) (zt 1) (qaq K (zt 0) "place")) (tC (.int 32)))) (qca a.WrongToken (spX a.WrongToken 2 true) E (zO (qaq K (zt 0) "place") jN)) qmD)
     (qa3 (qek (tSl (qn9 K) (qaq K (zt 0) "text") (qiS (qaq K (zt 0) "place")) (qiS (zt 1))) (QX 2))
      (qiK (qdH a.Cutter "add_token" (QF a K) [] E0 (zt 0) (zO (QY qgV [] E0 (zO (zt 2) jN)) (zO (tCB (fun xs H Q=>∃p ys,xs=[V.ref p]/\(SqL K H p ys\/SqT K H p ys)/\Q (.int ys.length) H) (zO (zt 2) jN)) (zO (zt 2) jN)))))) D [some (.ref z.c),some (.int (j:Int)),none] H2:=by
   intro hend D hD hN;obtain⟨kx,ko⟩:=k j r1 hend;have hij:=r1.1;refine⟨_,rfl,_,rfl,z.c,_,z.dx,_,_,rfl,C2.ins,T.Yab,T.Yaz,qN _ _ _ _ _ _,_,_,rfl,rfl,_,_,rfl,rfl,_,rfl,zR (fun q=>?_) fun q=>?_⟩
   ·have q:=of_decide_eq_true q;refine⟨_,rfl,z.c,_,z.dx,_,_,rfl,C2.ins,T.Yab,T.Yaz,qN _ _ _ _ _ _,?_⟩;exact Zq T.Ybi T.Ybb T.Ya1 T.Ya2 ((kx (by omega)).on k2)
   ·have q:¬(32:Int)<(j:Int) - i:=fun y=>q (decide_eq_true y);refine⟨_,rfl,z.c,_,z.dx,_,_,rfl,C2.ins,T.Yab,T.YaA,JI _ _ _ _ _ _,_,rfl,z.c,_,z.dx,_,_,rfl,C2.ins,T.Yab,T.Yaz,qN _ _ _ _ _ _,_,rfl,_,rfl,_,rfl,z.a,_,rfl,C2.txt.sq,fun p hp=>?_⟩;rw[qiq txt hij r1.2.1];have C3:=C2.same (qo (o:=.lst (nt (piece txt i j))) hp);refine⟨_,rfl,z.c,z.dx,_,rfl,C3.ins,zf _ _ _ _ _ _,_,rfl,p,piece txt i j,rfl,qc,fun H4 s4=>?_⟩;have C4:=C3.same s4;have hp4:=s4 _ _ qc;refine⟨_,rfl,p,_,rfl,.inl (SqL.of hp4),_,rfl,z,txt,i,Tk,O,lit,en,nameTok (piece txt i j),j - i,p,?_,C4,by rw[qg2];exact hp4,C2.fresh hp,hT,fun H5 k5 C5=>?_⟩
    ·rw[qg1,zw,qfy hij r1.2.1];rfl
    ·rw[hN];rw[show i+(j - i)=j by omega]at C5;exact ko (by omega) H5 (((k2.trans (qp.new hp)).trans (qp.of s4)).trans k5) C5
  cases e:txt[j]? with
  |none=>rw[jH e,qji];exact zz (over (fun c hc=>by rw[e]at hc;cases hc) _ rfl rfl)
  |some c=>
   rw[zS e,qg0];cases hin:Vastoa.inner c with
   |false=>exact zz (over (fun c' hc=>by rw[e]at hc;cases hc;exact hin) _ rfl rfl)
   |true=>refine zT ⟨_,fun σ' H' q=>q,?_⟩;have hj:j<txt.length:=(Δ.mp e).1;refine⟨_,rfl,_,_,rfl,rfl,txt.length - (j+1),by omega,j+1,rfl,C2,k2,r1.more e hin,rfl⟩
end
end RT
end
section
namespace RT
open PySem PySem.Spec PyProof.Rows L2
open Vastoa (Mark Marks)
noncomputable def qd3(c:Int):Bool:=decide (48<=c/\c<=57)
theorem qco(c:Nat):qd3 (c:Int)=Vastoa.digit c:=by unfold qd3 Vastoa.digit;rw[Yca];simp;omega
theorem look{p:Nat->Bool}{q:Int->Bool}(txt:List Nat)(j:Nat)(h:∀c:Nat,q (c:Int)=p c)(he:q (-1)=false):∃b,q (byteAt txt j)=b/\(b=true->∃c,txt[j]?=some c/\p c=true)/\(b=false->∀c,txt[j]?=some c->p c=false):=by
 cases e:txt[j]? with
 |none=>exact⟨false,by rw[jH e];exact he,(fun z=>by cases z),fun _ c hc=>by cases hc⟩
 |some c=>refine⟨p c,by rw[zS e];exact h c,fun z=>⟨c,rfl,z⟩,fun z c' hc=>?_⟩;cases hc;exact z
theorem qir{t u:TT}{σ:L2.St}{H:Hp}{Q:Bool->Hp->Prop}(b1 b2:Bool)(h1:∀Q:Bool->Hp->Prop,Q b1 H->t σ H Q)(h2:b1=false->∀Q:Bool->Hp->Prop,Q b2 H->u σ H Q)(q:Q (b1||b2) H):tOr t u σ H Q:=by
 refine h1 _ ?_;cases b1 with
 |true=>exact zT q
 |false=>exact zz (h2 rfl _ q)
theorem ql9{t u:TT}{σ:L2.St}{H:Hp}{Q:Bool->Hp->Prop}(b1 b2:Bool)(h1:∀Q:Bool->Hp->Prop,Q b1 H->t σ H Q)(h2:b1=true->∀Q:Bool->Hp->Prop,Q b2 H->u σ H Q)(q:Q (b1&&b2) H):qnZ t u σ H Q:=by
 refine h1 _ ?_;cases b1 with
 |true=>exact zT (h2 rfl _ q)
 |false=>exact zz q
theorem qhX{txt:List Nat}{i j c:Nat}(h:i<j)(e:txt[i]?=some c):(piece txt i j)[0]?=some c:=by unfold piece;rw[List.getElem?_take,if_pos (by omega),YcQ];exact e
def qc7(a:Ad)(K:γ):Sp:=fun vs H Q E=>∃(z:CA)(txt:List Nat)(i:Nat)(T:Marks)(O:List Bool)(lit en:Bool),vs=[.ref z.c]/\qP a K H z txt i T O lit en/\i<=txt.length/\T.length<1000000 /\
 ∀j,Run txt Vastoa.digit i j->(∀c,txt[j]?=some c->Vastoa.digit c=false)->((30<j - i\/(txt[i]?=some 48/\1<j - i))->XWM z.M K a.Refusal H 2 i E) /\
  (¬(30<j - i\/(txt[i]?=some 48/\1<j - i))->∀H',qp z.M H H'->qP a K H' z txt j (T++[⟨i,.num (piece txt i j)⟩]) O lit en->Q .non H')
section
variable{P:Program}{w:World}{K:γ}{mg:Str->Option Value}{base:Heap}{f:Addr}{fd:FuncData}{a:Ad}
theorem ZG:qm ["self","end","held"] ["self"] (qe z7):=⟨rfl,rfl,rfl,by decide +kernel,rfl,by decide +kernel,by decide +kernel⟩
theorem qfV(F:Fun K "cut_number" "Cutter.cut_number" z7 f fd)(T:Tx P w K mg a)(Gb:jn P w K mg base CX0 1 a.Cutter "byte_at" ["self","place"] (Zc a K))
  (Gi:FnAt P w K mg base CX0 1 "is_digit" ["byte"] qaN) (Ga:jn P w K mg base CX0 3 a.Cutter "add_token" ["self","kind","length","held"] (QF a K))
  (Gx:QZ P w K mg base 2 a.WrongToken "WrongToken" ["self","place"] (spX a.WrongToken 2 true)):qw P w K mg base (CXR P w) 4 f fd ["self"] (qc7 a K):=by
 refine F.okR ZG (fun vs H Q E h=>?_) (fun cdv A outer s H vs Q E hr h=>?_)
 ·obtain⟨z,txt,i,Tk,O,lit,en,rfl,_⟩:=h;rfl
 ·obtain⟨z,txt,i,Tk,O,lit,en,rfl,hC,hi,hT,k⟩:=h;have hr1:qI 1 _:=hr.mono (by decide)
  refine⟨_,qi (qW (i:=1) ZG.nd rfl (Or.inl rfl) (qj (pv 0) rfl))
   (qi (Q4 PassesOwn.leaving (Q3 (qT Gi hr1 qO (qa (zm Gb T.Yab hr1 qO (pv 0) (qa (pv 1) qh)) qh))) (qf (qjT (i:=1) ZG.nd rfl (Or.inl rfl) qr qjU)))
   (qi (qW (i:=2) ZG.nd rfl (Or.inl rfl) (ZJ JX (qj (pv 0) rfl) (Qv (qj (pv 0) rfl)) (Qv (pv 1))))
   (qi (qR (qmC (qK JR (jc zD (by rfl) T.b_len PySem.boot_len (qa (pv 2) qh)) (qM T.g_MOST_DIGITS) (qX _))
    (qjR (qgf (qK JR (jc zD (by rfl) T.b_len PySem.boot_len (qa (pv 2) qh)) qr (qX _))
     (qei (qK jb (jp zu (pv 2) qr (fun _ _=>rfl)) (qM T.Yat) (qX _)))).pt)).pt
    (qf (Qn Gx hr (qa (qj (pv 0) rfl) qh))) zh)
   (qf (qu (zm Ga T.Yab hr qO (pv 0) (qa qL (qa (jc zD (by rfl) T.b_len PySem.boot_len (qa (pv 2) qh)) (qa (pv 2) qh))))))))),?_⟩
  refine⟨_,rfl,z.c,_,z.dx,_,_,rfl,hC.ins,T.Yab,T.Yaz,qN _ _ _ _ _ _,?_⟩;refine⟨fun m σ H'=>∃j:Nat,σ=[some (.ref z.c),some (.int (j:Int)),none]/\qP a K H' z txt i Tk O lit en/\qp z.M H H'/\Run txt Vastoa.digit i j/\m=txt.length - j,⟨_,i,rfl,hC,qp.refl _ _,⟨ω _,hi,fun x h1 h2=>by omega⟩,rfl⟩,?_⟩;rintro m σ H1 ⟨j,rfl,C2,k2,r1,rfl⟩;refine⟨_,rfl,z.c,z.dx,_,rfl,C2.ins,zL _ _ _ _ _ _,_,rfl,z.c,txt,j,rfl,C2.text,_,rfl,_,rfl,?_⟩;obtain⟨b,eb,ht,hf⟩:=look txt j qco (by decide);show if qd3 (byteAt txt j)=true then _ else _;rw[eb];cases b with
  |true=>obtain⟨c,e,hin⟩:=ht rfl;refine zT ⟨_,fun σ' H' q=>q,?_⟩;have hj:j<txt.length:=(Δ.mp e).1;exact⟨_,rfl,_,_,rfl,rfl,txt.length - (j+1),by omega,j+1,rfl,C2,k2,r1.more e hin,rfl⟩
  |false=>
   obtain⟨kx,ko⟩:=k j r1 (hf rfl);have hij:=r1.1;have hl:(piece txt i j).length=j - i:=qfy hij r1.2.1;refine zz ⟨_,rfl,z.c,_,z.dx,_,_,rfl,C2.ins,T.Yab,T.YaA,JI _ _ _ _ _ _,_,rfl,z.c,_,z.dx,_,_,rfl,C2.ins,T.Yab,T.Yaz,qN _ _ _ _ _ _,_,rfl,_,rfl,_,rfl,z.a,_,rfl,C2.txt.sq,fun p hp=>?_⟩;rw[qiq txt hij r1.2.1];have C3:=C2.same (qo (o:=.lst (nt (piece txt i j))) hp);have k3:=k2.trans (qp.new (o:=.lst (nt (piece txt i j))) hp);have hp3:(upd H1 p (.lst (nt (piece txt i j)))) p=some (.lst (nt (piece txt i j))):=qc;generalize upd H1 p (.lst (nt (piece txt i j)))=H3 at C3 k3 hp3 ⊢;dsimp only[QX,qa3,qiL];refine qir (decide (30<j - i)) (decide (1<j - i)&&decide (txt[i]?=some 48)) (fun Q q=>?_) (fun _ Q q=>ql9 (decide (1<j - i)) (decide (txt[i]?=some 48)) (fun Q q=>?_) (fun h1 Q q=>?_) q) ?_
   ·refine⟨_,rfl,p,_,rfl,.inl (SqL.of hp3),_,_,rfl,rfl,_,rfl,?_⟩;rw[zw,hl,show decide ((30:Int)<((j - i:Nat):Int))=decide (30<j - i)from decide_eq_decide.mpr (by omega)];exact q
   ·refine⟨_,rfl,p,_,rfl,.inl (SqL.of hp3),_,_,rfl,rfl,_,rfl,?_⟩;rw[zw,hl,show decide ((1:Int)<((j - i:Nat):Int))=decide (1<j - i)from decide_eq_decide.mpr (by omega)];exact q
   ·have h1:=of_decide_eq_true h1;obtain⟨c,hc,_⟩:=r1.2.2 i (ω _) (by omega);refine⟨_,rfl,p,_,_,_,rfl,rfl,SqL.of hp3,jM (j:=0) (v:=V.int (c:Int)) (by unfold nt;rw[Ω,qhX (by omega) hc];rfl),rfl,_,rfl,?_⟩;rw[jB,zJ,show decide ((48:Int)=(c:Int))=decide (txt[i]?=some 48)from decide_eq_decide.mpr (by rw[hc];constructor<;>(intro y;first|(cases y;rfl)|(congr 1;omega)))];exact q
   ·refine zR (fun q=>?_) fun q=>?_
    ·simp only[YcP,Ybm,decide_eq_true_eq]at q;exact⟨_,rfl,z.c,_,z.dx,_,_,rfl,C3.ins,T.Yab,T.Yaz,qN _ _ _ _ _ _,Zq T.Ybi T.Ybb T.Ya1 T.Ya2 ((kx (q.imp id And.symm)).on k3)⟩
    ·simp only[YcP,Ybm,decide_eq_true_eq]at q;refine⟨_,rfl,z.c,z.dx,_,rfl,C3.ins,zf _ _ _ _ _ _,_,rfl,p,_,rfl,.inl (SqL.of hp3),_,rfl,z,txt,i,Tk,O,lit,en,.num (piece txt i j),j - i,p,by rw[zw,hl];rfl,C3,hp3,C2.fresh hp,hT,fun H5 k5 C5=>?_⟩;rw[show i+(j - i)=j by omega]at C5;exact ko (fun y=>q (y.imp id And.symm)) H5 (k3.trans k5) C5
end
end RT
end
section
namespace RT
open PySem PySem.Spec PyProof.Rows L2
open Vastoa (Mark Marks)
def qd4(a:Ad)(K:γ):Sp:=fun vs H Q E=>∃(z:CA)(txt:List Nat)(i:Nat)(T:Marks)(O:List Bool)(en:Bool),vs=[.ref z.c]/\qP a K H z txt i T O false en/\T.length<1000000 /\
 (∀H' O',O=true::O'->qp z.M H H'->qP a K H' z txt (i+1) (T++[⟨i,.unhole⟩]) O' true en->Q .non H') /\
 (∀H',O.head?≠some true->qp z.M H H'->qP a K H' z txt (i+1) (T++[⟨i,.sign [125]⟩]) (O.drop 1) false en->Q .non H')
def qfA(a:Ad)(K:γ):Sp:=fun vs H Q E=>∃(z:CA)(txt:List Nat)(i:Nat)(T:Marks)(O:List Bool)(lit en:Bool),vs=[.ref z.c]/\qP a K H z txt i T O lit en/\i<=txt.length/\T.length<1000000 /\
 (Vastoa.signAt (txt.drop i)=none->XWM z.M K a.Refusal H 2 i E)/\∀x,Vastoa.signAt (txt.drop i)=some x->∀H',qp z.M H H'->qP a K H' z txt (i+x.length) (T++[⟨i,.sign x⟩]) O lit en->Q .non H'
theorem qnx:Str.ofString "{"=strOf [123]:=by decide +kernel
theorem qkC:Str.ofString "}"=strOf [125]:=by decide +kernel
theorem qkD(txt:List Nat){i:Nat}(l:Nat)(hi:i<=txt.length):ZK (nt txt) (some (i:Int)) (some ((i:Int)+(l:Int)))=nt ((txt.drop i).take l):=by
 unfold ZK;rw[show((i:Int)+(l:Int))=((i+l:Nat):Int) by omega,HT.JW,HT.JW,zw,Ycj hi];simp only[nt,YdO,YdP];by_cases h:i+l<=txt.length
 ·rw[Ycj h,show i+l - i=l by omega]
 ·rw[Nat.min_eq_right (by omega),YbZ (by simp),YbZ (by simp;omega)]
theorem qcp:Zx.map (fun x=>x.cps.toList)=Vastoa.signs2++Vastoa.signs1:=by decide +kernel
theorem qhY:∀x∈Zx,x.cps.size<=1000:=by decide +kernel
theorem qma:∀s∈Vastoa.signs2,s.length=2:=by decide +kernel
theorem qoC:∀s∈Vastoa.signs1,s.length=1:=by decide +kernel
theorem qmb{b:List Nat}{j:Nat}{x:Str}(hj:Zx[j]?=some x)(e:b.take x.cps.toList.length=x.cps.toList)(no:∀y z,y<j->Zx[y]?=some z->b.take z.cps.toList.length≠z.cps.toList):Vastoa.signAt b=some x.cps.toList:=by
 have hm:(Vastoa.signs2++Vastoa.signs1)[j]?=some x.cps.toList:=by rw[<- qcp,Ω,hj];rfl
 have no':∀y s,y<j->(Vastoa.signs2++Vastoa.signs1)[y]?=some s->b.take s.length≠s:=fun y s hy hs=>by rw[<- qcp,Ω]at hs;obtain⟨z,hz,rfl⟩:=Ybu.mp hs;exact no y z hy hz
 generalize x.cps.toList=s at e hm;unfold Vastoa.signAt;by_cases h6:j<6
 ·have hs:s∈Vastoa.signs2:=by
   rw[Yb0 (by exact h6)]at hm;exact YbD hm
  rw[qma s hs]at e;rw[e,if_pos (Ybq.mpr hs)]
 ·have hs:s∈Vastoa.signs1:=by
   rw[YcE (by exact Nat.le_of_not_lt h6)]at hm;exact YbD hm
  rw[qoC s hs]at e;have n2:¬(Vastoa.signs2.contains (b.take 2)=true):=fun z=>by have z:=Ybq.mp z;obtain⟨y,hy⟩:=YcG z;have hy6:y<6:=(Δ.mp hy).1;refine no' y _ (by omega) (by rw[Yb0 hy6];exact hy) ?_;rw[qma _ z]
  rw[if_neg n2,e,if_pos (Ybq.mpr hs)]
theorem qkE{b:List Nat}(no:∀(y:Nat) (z:Str),Zx[y]?=some z->b.take z.cps.toList.length≠z.cps.toList):Vastoa.signAt b=none:=by
 have no':∀s∈Vastoa.signs2++Vastoa.signs1,b.take s.length≠s:=fun s hs=>by rw[<- qcp]at hs;obtain⟨z,hz,rfl⟩:=Yb7.mp hs;obtain⟨y,hy⟩:=YcG hz;exact no y z hy
 unfold Vastoa.signAt;rw[if_neg,if_neg]
 ·intro z;have z:=Ybq.mp z;exact no' _ (Ybt _ z) (by rw[qoC _ z])
 ·intro z;have z:=Ybq.mp z;exact no' _ (YbC _ z) (by rw[qma _ z])
section
variable{P:Program}{w:World}{K:γ}{mg:Str->Option Value}{base:Heap}{f:Addr}{fd:FuncData}{a:Ad}
theorem JJ:qm ["self","closed"] ["self"] (qe zx):=⟨rfl,rfl,rfl,by decide +kernel,rfl,by decide +kernel,by decide +kernel⟩
theorem qcq(F:Fun K "cut_right_brace" "Cutter.cut_right_brace" zx f fd)(T:Tx P w K mg a)(Ga:jn P w K mg base CX0 3 a.Cutter "add_token" ["self","kind","length","held"] (QF a K)):
  qw P w K mg base CX0 4 f fd ["self"] (qd4 a K):=by
 refine F.ok JJ (fun vs H Q E h=>?_) (fun cdv A outer s H vs Q E hr h=>?_)
 ·obtain⟨z,txt,i,Tk,O,en,rfl,_⟩:=h;rfl
 ·obtain⟨z,txt,i,Tk,O,en,rfl,hC,hT,k1,k2⟩:=h
  refine⟨_,qi (qW (i:=1) JJ.nd rfl (Or.inl rfl) (qa2 (Q6 (qj (pv 0) rfl) (by intro _;rfl)) (qb2 χ Ycp Ycq qb3 (qj (pv 0) rfl)) qL))
   (qf (qR (qK jb (pv 1) qL (qX _)) (qi (qu (zm Ga T.Yab hr qO (pv 0) (qa qL (qa qr (qa (za qh) qh))))) (qf (zA (pv 0) qa1 rfl)))
    (qf (qu (zm Ga T.Yab hr qO (pv 0) (qa qL (qa qr (qa (za qh) qh)))))))),?_⟩
  refine⟨_,rfl,z.c,_,z.dx,_,_,rfl,hC.ins,T.Yab,T.Yay,Jz _ _ _ _ _ _,_,.inl ⟨_,SqL.of hC.ol,rfl⟩,?_⟩
  have unb:O.head?≠some true->∀(H1:Hp)(p:Addr),H1 p=none->qp z.M H H1->qP a K H1 z txt i Tk (O.drop 1) false en ->
    QF a K [.ref z.c,.str "}",.int 1,.ref p] (upd H1 p (.lst [])) (fun x H'=>Q .non H') E0:=fun hO H1 p hp k3 C1=>by
   refine⟨z,txt,i,Tk,O.drop 1,false,en,.sign [125],1,p,by rw[qkC];rfl,C1.same (qo hp),qc,C1.fresh hp,hT,fun H' k4 C4=>?_⟩;exact k2 H' hO ((k3.trans (qp.new hp)).trans k4) C4
  cases O with
  |nil=>refine zz ⟨_,rfl,rfl,_,rfl,zz ?_⟩;exact⟨_,rfl,z.c,z.dx,_,rfl,hC.ins,zf _ _ _ _ _ _,ό _,fun p hp=>unb (by simp) H p hp (qp.refl _ _) hC⟩
  |cons b O=>
   have hne:(!(Yb8 opS (b::O).reverse).isEmpty)=true:=by simp
   rw[hne];have hpop:(Yb8 opS (b::O).reverse)[(Yb8 opS (b::O).reverse).length - 1]?=some (opS b):=by simp
   refine zT ⟨_,rfl,z.c,_,z.dx,_,_,rfl,hC.ins,T.Yab,T.Yay,Jz _ _ _ _ _ _,.inl ⟨rfl,_,SqL.of hC.ol⟩,z.ol,_,opS b,rfl,rfl,hC.ol,hpop,?_⟩;have ed:(Yb8 opS (b::O).reverse).dropLast=Yb8 opS O.reverse:=by simp
   rw[ed];have C1:=hC.putO O;have k3:qp z.M H (upd H z.ol (.lst (Yb8 opS O.reverse))):=qp.at_ z.mo;generalize upd H z.ol (.lst (Yb8 opS O.reverse))=H1 at C1 k3 ⊢;cases b with
   |false=>refine⟨_,rfl,rfl,_,rfl,zz ?_⟩;exact⟨_,rfl,z.c,z.dx,_,rfl,C1.ins,zf _ _ _ _ _ _,ό _,fun p hp=>unb (by simp) H1 p hp k3 C1⟩
   |true=>refine⟨_,rfl,rfl,_,rfl,zT ?_⟩;refine⟨_,rfl,z.c,z.dx,_,rfl,C1.ins,zf _ _ _ _ _ _,ό _,fun p hp=>⟨z,txt,i,Tk,O,false,en,.unhole,1,p,rfl,C1.same (qo hp),qc,C1.fresh hp,hT,fun H' k4 C4=>?_⟩⟩;refine⟨_,rfl,z.c,_,z.dx,_,rfl,C4.ins,T.Yab,T.n_Cutter_in_literal,(by show 6<1000;decide),?_⟩;exact k1 _ O rfl (((k3.trans (qp.new hp)).trans k4).trans (qp.at_ z.mc)) (C4.put (i+1) true en)
theorem qc8:qm ["self","sign"] ["self"] (qe ju):=⟨rfl,rfl,rfl,by decide +kernel,rfl,by decide +kernel,by decide +kernel⟩
theorem qhZ(F:Fun K "cut_sign" "Cutter.cut_sign" ju f fd)(T:Tx P w K mg a)(Gy:FnAt P w K mg base CX0 1 "bytes_of" ["written"] qaO)(Ga:jn P w K mg base CX0 3 a.Cutter "add_token" ["self","kind","length","held"] (QF a K))
  (Gx:QZ P w K mg base 2 a.WrongToken "WrongToken" ["self","place"] (spX a.WrongToken 2 true)):qw P w K mg base (CXR P w) 4 f fd ["self"] (qfA a K):=by
 refine F.okR qc8 (fun vs H Q E h=>?_) (fun cdv A outer s H vs Q E hr h=>?_)
 ·obtain⟨z,txt,i,Tk,O,lit,en,rfl,_⟩:=h;rfl
 ·obtain⟨z,txt,i,Tk,O,lit,en,rfl,hC,hi,hT,kx,ko⟩:=h;have hr1:qI 1 _:=hr.mono (by decide)
  refine⟨_,qi (Z0 PassesOwn.leaving rfl (qgh (qM T.Yap)) (jd (i:=1) qc8.nd rfl (Or.inl rfl))
   (qf (qR (qK (qj4 hr.units) (ZJ JX (qj (pv 0) rfl) (Qv (qj (pv 0) rfl)) (Qv (j8 Z1 (qj (pv 0) rfl) (jc qb1 (by rfl) T.b_len PySem.boot_len (qa (pv 1) qh))))) (qT Gy hr1 qO (qa (pv 1) qh)) (qX _))
    (qi (qu (zm Ga T.Yab hr qO (pv 0) (qa (pv 1) (qa (jc qb1 (by rfl) T.b_len PySem.boot_len (qa (pv 1) qh)) (qa (za qh) qh))))) (qf qm0)) zh)))
   (qf (Qn Gx hr (qa (qj (pv 0) rfl) qh))),?_⟩
  refine⟨a.SIGNS,rfl,⟨_,T.Ya3.sq _⟩,qel (K:=K) (a:=a.SIGNS) (xs:=Zx.map V.str) (fun j σ H'=>∃v:Option V,σ=[some (.ref z.c),v]/\qP a K H' z txt i Tk O lit en/\qp z.M H H'/\∀y x,y<j->Zx[y]?=some x->(txt.drop i).take x.cps.toList.length≠x.cps.toList)
   ⟨none,rfl,hC,qp.refl _ _,fun j x hj=>absurd hj (YbX _)⟩ (fun i σ H' _ _=>T.Ya3.sq _) ?_ ?_⟩
  ·rintro j y σ H1 hj ⟨v,rfl,C1,k1,hno⟩;obtain⟨x,hx,rfl⟩:∃x,Zx[j]?=some x/\V.str x=y:=by rw[Ω]at hj;exact Ybu.mp hj
   have hsz:x.cps.size<=1000:=qhY x (YbD hx);refine⟨_,rfl,z.c,_,z.dx,_,_,rfl,C1.ins,T.Yab,T.YaA,JI _ _ _ _ _ _,_,rfl,z.c,_,z.dx,_,_,rfl,C1.ins,T.Yab,T.Yaz,qN _ _ _ _ _ _,_,rfl,_,rfl,z.c,_,z.dx,_,_,rfl,C1.ins,T.Yab,T.Yaz,qN _ _ _ _ _ _,_,rfl,x,rfl,Yb2 (Q7 hsz),_,_,rfl,rfl,_,rfl,z.a,_,rfl,C1.txt.sq,fun p hp=>?_⟩;rw[show((i:Int)+(x.length:Int))=(i:Int)+(x.cps.toList.length:Int)from rfl,qkD txt _ hi];refine⟨_,rfl,x,rfl,hsz,fun q hq=>qky (SqL.of (qo hq _ _ qc)) (SqL.of qc) ⟨_,rfl,?_⟩⟩;have s2:=(qo (o:=.lst (nt ((txt.drop i).take x.cps.toList.length))) hp).trans (qo (o:=.lst (nt x.cps.toList)) hq);have C2:=C1.same s2;have k2:=k1.trans (qp.of s2);refine zR (fun e=>?_) fun e=>?_
   ·have e:=of_decide_eq_true e;have hs:=qmb hx e hno;refine⟨_,rfl,z.c,z.dx,_,rfl,C2.ins,zf _ _ _ _ _ _,_,rfl,_,rfl,x,rfl,Yb2 (Q7 hsz),ό _,fun r hr'=>⟨z,txt,i,Tk,O,lit,en,.sign x.cps.toList,x.cps.toList.length,r,?_,C2.same (qo hr'),qc,C2.fresh hr',hT,fun H5 k5 C5=>?_⟩⟩
    ·rfl
    ·exact ko _ hs H5 ((k2.trans (qp.new hr')).trans k5) C5
   ·refine⟨_,rfl,C2,k2,fun y x' hy hx'=>?_⟩;by_cases hyj:y=j
    ·subst hyj;rw[hx]at hx';cases hx';exact fun z=>e (decide_eq_true z)
    ·exact hno y x' (by omega) hx'
  ·rintro σ H1 ⟨v,rfl,C1,k1,hno⟩;refine⟨_,rfl,z.c,_,z.dx,_,_,rfl,C1.ins,T.Yab,T.Yaz,qN _ _ _ _ _ _,Zq T.Ybi T.Ybb T.Ya1 T.Ya2 ((kx (qkE fun y x hx=>?_)).on k1)⟩;exact hno y x (by have:=(Δ.mp hx).1;rw[τ];exact this) hx
end
end RT
end
section
namespace RT
open PySem PySem.Spec PyProof.Rows L2
open Vastoa (Mark Marks)
noncomputable def over(txt:List Nat)(i:Nat):Bool:=match txt[i]? with
 |none=>true
 |some c=>if c=36 then decide (txt[i+1]?=some 123)else decide (c=34)
theorem qkF{txt:List Nat}{i:Nat}(h:txt[i]?=none):over txt i=true:=by unfold over;rw[h]
theorem qcr{txt:List Nat}{i c:Nat}(h:txt[i]?=some c):over txt i=if c=36 then decide (txt[i+1]?=some 123)else decide (c=34):=by unfold over;rw[h]
def qkG(a:Ad)(K:γ):Sp:=fun vs H Q E=>∃(z:CA)(txt:List Nat)(i:Nat)(T:Marks)(O:List Bool)(lit en:Bool),vs=[.ref z.c]/\qP a K H z txt i T O lit en/\∀H',qB H H'->Q (.bl (over txt i)) H'
theorem qP.move {a:Ad} {K:γ} {H H':Hp} {z:CA} {txt:List Nat} {i i':Nat} {T:Marks} {O:List Bool} {lit en lit' en':Bool} (h:qP a K H z txt i T O lit en)
  (hc:H' z.c=some (.ins a.Cutter z.dx (jR (.ref z.a) (.int i') (.ref z.tl) (.ref z.ol) (.bl lit') (.bl en')))) (k:qp (· = z.c) H H'):qP a K H' z txt i' T O lit' en':=by
 obtain⟨as,h1,h2⟩:=h.tl;refine⟨hc,h.txt.keep (k.wide fun b e=>by rw[e];exact z.mc),⟨as,k _ _ h1 (Ne.symm h.nct),qZ (fun x y q=>?_) h2⟩,k _ _ h.ol (Ne.symm h.nco),h.nto⟩;obtain⟨dx,ha,q1,q2,q3,q4⟩:=q;exact⟨dx,ha,k _ _ q1 (fun e=>q3 (.inl e)),k _ _ q2 (fun e=>q4 (.inl e)),q3,q4⟩
noncomputable def qjj(a:Ad)(z:CA)(i:Nat)(lit en:Bool):HO:=.ins a.Cutter z.dx (jR (.ref z.a) (.int i) (.ref z.tl) (.ref z.ol) (.bl lit) (.bl en))
def qg3(a:Ad)(K:γ):Sp:=fun vs H Q E=>∃(z:CA)(txt:List Nat)(i:Nat)(T:Marks)(O:List Bool)(lit en:Bool),vs=[.ref z.c]/\qP a K H z txt i T O lit en/\over txt i=false /\
 (∀H' j x,qp (· = z.c) H H'->H' z.c=some (qjj a z j lit en)->i<j->j<=txt.length->Vastoa.gather i (txt.drop i)=(Vastoa.gather j (txt.drop j)).map (fun y=>(x::y.1,y.2.1,y.2.2))->Q (.int (x:Int)) H') /\
 (Vastoa.gather i (txt.drop i)=.error ⟨2,i⟩->XWM (· = z.c) K a.Refusal H 2 i E)
theorem qeA(c:Nat):(zB qaz (Sum.inl (c:Int))).getD .non=match Vastoa.unescape c with
  |some x=>V.int (x:Int)
  |none=>V.non:=by
 unfold Vastoa.unescape;by_cases h1:c=34
 ·subst h1;decide +kernel
 by_cases h2:c=92
 ·subst h2;decide +kernel
 by_cases h3:c=110
 ·subst h3;decide +kernel
 by_cases h4:c=116
 ·subst h4;decide +kernel
 by_cases h5:c=36
 ·subst h5;decide +kernel
 rw[if_neg (by omega),if_neg h3,if_neg h4];have q1:¬(34:Int)=c:=by omega
 have q2:¬(92:Int)=c:=by omega
 have q3:¬(110:Int)=c:=by omega
 have q4:¬(116:Int)=c:=by omega
 have q5:¬(36:Int)=c:=by omega
 simp[zB,qaz,q1,q2,q3,q4,q5]
theorem qny:(zB qaz (Sum.inl (-1))).getD .non=.non:=by decide +kernel
section
variable{P:Program}{w:World}{K:γ}{mg:Str->Option Value}{base:Heap}{f:Addr}{fd:FuncData}{a:Ad}
theorem qad:qm ["self","byte"] ["self"] (qe zG):=⟨rfl,rfl,rfl,by decide +kernel,rfl,by decide +kernel,by decide +kernel⟩
theorem qdr(F:Fun K "is_piece_over" "Cutter.is_piece_over" zG f fd)(T:Tx P w K mg a)(Gb:jn P w K mg base CX0 1 a.Cutter "byte_at" ["self","place"] (Zc a K)):qw P w K mg base CX0 2 f fd ["self"] (qkG a K):=by
 refine F.ok qad (fun vs H Q E h=>?_) (fun cdv A outer s H vs Q E hr h=>?_)
 ·obtain⟨z,txt,i,Tk,O,lit,en,rfl,_⟩:=h;rfl
 ·obtain⟨z,txt,i,Tk,O,lit,en,rfl,hC,k⟩:=h
  refine⟨_,qi (qW (i:=1) qad.nd rfl (Or.inl rfl) (zm Gb T.Yab hr qO (pv 0) (qa (qj (pv 0) rfl) qh)))
   (qi (qR (qK jb (pv 1) (qM T.Yah) (qX _)) (qf (qG (qem jb (zm Gb T.Yab hr qO (pv 0) (qa (j8 Z1 (qj (pv 0) rfl) qr) qh)) (qM T.g_LEFT_BRACE) (qX _)))) zh)
   (qf (qG (qku (pv 1) (qa (qM T.Yan) (qa (qM T.Yam) qh)))))),?_⟩
  refine⟨_,rfl,z.c,z.dx,_,rfl,hC.ins,zL _ _ _ _ _ _,_,rfl,z.c,_,z.dx,_,_,rfl,hC.ins,T.Yab,T.Yaz,qN _ _ _ _ _ _,z.c,txt,i,rfl,hC.text,?_⟩;refine⟨_,rfl,rfl,_,rfl,?_⟩;rw[jB,zJ];refine zR (fun e=>?_) fun e=>?_
  ·have e:=of_decide_eq_true e;refine⟨_,rfl,z.c,z.dx,_,rfl,hC.ins,zL _ _ _ _ _ _,_,rfl,z.c,_,z.dx,_,_,rfl,hC.ins,T.Yab,T.Yaz,qN _ _ _ _ _ _,_,_,rfl,rfl,z.c,txt,i+1,rfl,hC.text,rfl,?_⟩;rw[jB,zJ]
   have:over txt i=decide ((123:Int)=byteAt txt (i+1)):=by
    cases h:txt[i]? with
    |none=>rw[jH h]at e;omega
    |some c=>
     rw[zS h]at e;rw[qcr h,if_pos (by omega)];cases h2:txt[i+1]? with
     |none=>rw[jH h2];decide
     |some d=>rw[zS h2];exact decide_eq_decide.mpr ⟨fun y=>by cases y;rfl,fun y=>by congr 1;omega⟩
   rw[this]at k;exact k H (qB.refl H)
  ·have e:¬(36:Int)=byteAt txt i:=fun y=>e (decide_eq_true y);refine⟨_,rfl,rfl,fun H' s'=>?_⟩
   have:over txt i=inV (.int (byteAt txt i)) [V.int 34,V.int (-1)]:=by
    simp only[inV,Yb5,Yda,eqV,zJ,Ycx];cases h:txt[i]? with
    |none=>rw[qkF h,jH h];decide
    |some c=>
     rw[zS h]at e ⊢;rw[qcr h,if_neg (by omega)];by_cases h34:c=34
     ·subst h34;decide
     ·rw[decide_eq_false h34,decide_eq_false (by omega),decide_eq_false (by omega)];rfl
   have k:=k H' s';rw[this]at k;exact k
theorem Jr:qm ["self","byte"] ["self"] (qe zW):=⟨rfl,rfl,rfl,by decide +kernel,rfl,by decide +kernel,by decide +kernel⟩
theorem qeB(F:Fun K "gather_byte" "Cutter.gather_byte" zW f fd)(T:Tx P w K mg a)(Gb:jn P w K mg base CX0 1 a.Cutter "byte_at" ["self","place"] (Zc a K))
  (Gx:QZ P w K mg base 2 a.WrongToken "WrongToken" ["self","place"] (spX a.WrongToken 2 true)):qw P w K mg base (CXR P w) 4 f fd ["self"] (qg3 a K):=by
 refine F.okR Jr (fun vs H Q E h=>?_) (fun cdv A outer s H vs Q E hr h=>?_)
 ·obtain⟨z,txt,i,Tk,O,lit,en,rfl,_⟩:=h;rfl
 ·obtain⟨z,txt,i,Tk,O,lit,en,rfl,hC,ho,ko,kx⟩:=h;have hr1:qI 1 _:=hr.mono (by decide)
  refine⟨_,qi (qW (i:=1) Jr.nd rfl (Or.inl rfl) (zm Gb T.Yab hr1 qO (pv 0) (qa (qj (pv 0) rfl) qh)))
   (qi (qR (qK jb (pv 1) (qM T.Yaf) (qX _))
    (qi (qW (i:=1) Jr.nd rfl (Or.inl rfl) (ql6 (qM T.Yai) (zm Gb T.Yab hr1 qO (pv 0) (qa (j8 Z1 (qj (pv 0) rfl) qr) qh)) ⟨rfl,rfl,rfl,rfl⟩))
    (qi (qR (qge (qnY (pv 1))) (qf (Qn Gx hr (qa (qj (pv 0) rfl) qh))) zh)
    (qi (QC (pv 0) qr J4) (qf (qG (pv 1)))))) zh)
   (qi (qR (qgf (qK qf3 (pv 1) (qM T.Yag) (qX _)) (qei (qfu (pv 1) (qa (qM T.Yaq) (qa (qM T.g_LINE_FEED) qh))))).pt
    (qf (Qn Gx hr (qa (qj (pv 0) rfl) qh))) zh)
   (qi (QC (pv 0) qr J4) (qf (qG (pv 1)))))),?_⟩
  have bad:∀(H1:Hp),qB H H1->Vastoa.gather i (txt.drop i)=.error ⟨2,i⟩->XW K a.Refusal H1 2 i E:=fun H1 s1 hg=>(kx hg).on (qp.of s1);refine⟨_,rfl,z.c,z.dx,_,rfl,hC.ins,zL _ _ _ _ _ _,_,rfl,z.c,_,z.dx,_,_,rfl,hC.ins,T.Yab,T.Yaz,qN _ _ _ _ _ _,z.c,txt,i,rfl,hC.text,?_⟩
  obtain⟨c,hc⟩:∃c,txt[i]?=some c:=by
   cases h:txt[i]? with
   |none=>unfold over at ho;rw[h]at ho;cases ho
   |some c=>exact⟨c,rfl⟩
  have hi:=CM.ZF hc;rw[zS hc];refine⟨_,rfl,rfl,_,rfl,?_⟩;rw[jB,zJ];refine zR (fun e=>?_) fun e=>?_
  ·have e:c=92:=by have:=of_decide_eq_true e;omega
   subst e;refine⟨a.ESCAPES,qaz,rfl,T.d_ESCAPES,_,rfl,z.c,z.dx,_,rfl,hC.ins,zL _ _ _ _ _ _,_,rfl,z.c,_,z.dx,_,_,rfl,hC.ins,T.Yab,T.Yaz,qN _ _ _ _ _ _,_,_,rfl,rfl,z.c,txt,i+1,rfl,hC.text,Sum.inl (byteAt txt (i+1)),rfl,_,rfl,_,rfl,?_⟩
   have fin:(zB qaz (Sum.inl (byteAt txt (i+1)))).getD .non=.non->Vastoa.gather i (txt.drop i)=.error ⟨2,i⟩:=fun hn=>by
    cases h2:txt[i+1]? with
    |none=>exact CM.qhN hc h2
    |some d=>
     rw[zS h2,qeA]at hn;refine CM.qgO hc h2 ?_;cases hu:Vastoa.unescape d with
     |none=>rfl
     |some x=>rw[hu]at hn;cases hn
   refine zR (fun q=>?_) fun q=>?_
   ·have q:=of_decide_eq_true q;refine⟨_,rfl,z.c,_,z.dx,_,_,rfl,hC.ins,T.Yab,T.Yaz,qN _ _ _ _ _ _,?_⟩;exact Zq T.Ybi T.Ybb T.Ya1 T.Ya2 (bad H (qB.refl H) (fin q))
   ·have q:¬(zB qaz (Sum.inl (byteAt txt (i+1)))).getD .non=.non:=fun y=>q (decide_eq_true y)
    obtain⟨d,x,h2,hu⟩:∃d x,txt[i+1]?=some d/\Vastoa.unescape d=some x:=by
     cases h2:txt[i+1]? with
     |none=>rw[jH h2]at q;exact absurd qny q
     |some d=>
      rw[zS h2,qeA]at q;cases hu:Vastoa.unescape d with
      |none=>rw[hu]at q;exact absurd rfl q
      |some x=>exact⟨d,x,rfl,hu⟩
    have ev:(zB qaz (Sum.inl (byteAt txt (i+1)))).getD .non=.int (x:Int):=by rw[zS h2,qeA,hu]
    rw[ev];refine⟨_,rfl,z.c,_,z.dx,_,_,rfl,hC.ins,T.Yab,T.Yaz,qN _ _ _ _ _ _,_,_,rfl,rfl,z.dx,_,hC.ins,(by show 6<1000;decide),?_⟩;refine⟨_,rfl,?_⟩;exact ko _ (i+2) x (qp.at_ rfl) qc (by omega) (CM.ZF h2) (CM.qfQ hc h2 hu)
  ·have e:¬c=92:=fun y=>e (decide_eq_true (by omega));have ga:=CM.qbj hc e
   have n1:¬(c=34\/(c=36/\txt[i+1]?=some 123)):=by
    unfold over at ho;rw[hc]at ho;dsimp only at ho;by_cases h36:c=36
    ·rw[if_pos h36]at ho;have:=of_decide_eq_false ho;rintro(y|⟨_,y⟩)
     ·omega
     ·exact this y
    ·rw[if_neg h36]at ho;have:=of_decide_eq_false ho;rintro(y|⟨y,_⟩)
     ·exact this y
     ·exact h36 y
   rw[if_neg n1]at ga;have last:∀H1,qB H H1->¬(c<32/\c≠9/\c≠10)->Q (.int (c:Int)) (upd H1 z.c (qjj a z (i+1) lit en)):=fun H1 s1 hn=>by rw[if_neg hn]at ga;exact ko _ (i+1) c ((qp.of s1).trans (qp.at_ rfl)) qc (by omega) (by omega) ga
   refine⟨_,rfl,_,_,rfl,rfl,_,rfl,zR (fun h32=>?_) fun h32=>?_⟩
   ·have h32:c<32:=by have:=of_decide_eq_true h32;omega
    refine⟨_,rfl,rfl,fun H1 s1=>⟨_,rfl,?_⟩⟩;have C1:=hC.same s1;have hin:inV (.int (c:Int)) [V.int 9,V.int 10]=decide (c=9\/c=10):=by simp only[inV,Yb5,Yda,eqV,zJ,Ycx];rw[<- Bool.decide_or];exact decide_eq_decide.mpr (by omega)
    rw[hin];refine zR (fun q=>?_) fun q=>?_
    ·have q:¬(c=9\/c=10):=by simpa using q
     rw[if_pos ⟨h32,fun y=>q (.inl y),fun y=>q (.inr y)⟩]at ga;refine⟨_,rfl,z.c,_,z.dx,_,_,rfl,C1.ins,T.Yab,T.Yaz,qN _ _ _ _ _ _,?_⟩;exact Zq T.Ybi T.Ybb T.Ya1 T.Ya2 (bad H1 s1 ga)
    ·have q:c=9\/c=10:=by
      by_cases y:c=9\/c=10
      ·exact y
      ·exact absurd (by rw[decide_eq_false y];rfl) q
     refine⟨_,rfl,z.c,_,z.dx,_,_,rfl,C1.ins,T.Yab,T.Yaz,qN _ _ _ _ _ _,_,_,rfl,rfl,z.dx,_,C1.ins,(by show 6<1000;decide),_,rfl,?_⟩;exact last H1 s1 (fun y=>by rcases q with q|q<;>simp[q]at y)
   ·have h32:¬c<32:=fun y=>h32 (decide_eq_true (by omega));refine zz ⟨_,rfl,z.c,_,z.dx,_,_,rfl,hC.ins,T.Yab,T.Yaz,qN _ _ _ _ _ _,_,_,rfl,rfl,z.dx,_,hC.ins,(by show 6<1000;decide),_,rfl,?_⟩;exact last H (qB.refl H) (fun y=>h32 y.1)
end
end RT
end
section
namespace RT
open PySem PySem.Spec PyProof.Rows L2
open Vastoa (Mark Marks)
def qd5(a:Ad)(K:γ):Sp:=fun vs H Q E=>∃(z:CA)(txt:List Nat)(i:Nat)(T:Marks)(O:List Bool)(lit en:Bool),vs=[.ref z.c]/\qP a K H z txt i T O lit en/\i<=txt.length/\txt.length<=5000/\T.length<1000000 /\
 (∀H' j g,qp z.M H H'->qP a K H' z txt j (T++CM.pieceOf i g) O lit en->i+g.length<=j->CM.qdl txt i g j->over txt j=true->Q .non H') /\
 (∀p,Vastoa.gather i (txt.drop i)=.error ⟨2,p⟩->XWM z.M K a.Refusal H 2 p E)
theorem jI{n:Nat}(h:n<=1000000):n<Λ:=Ycn h (by decide)
theorem XWM.wide {M M':Addr->Prop} {K:γ} {S:Addr} {H:Hp} {n p:Int} {E:XK} (h:XWM M' K S H n p E) (i:∀b,M b->M' b):XWM M K S H n p E:=fun C dx H' k x=>h C dx H' (k.wide i) x
theorem qnz(g:List Nat)(x:Nat):nt g++[.int (x:Int)]=nt (g++[x]):=by simp[nt]
section
variable{P:Program}{w:World}{K:γ}{mg:Str->Option Value}{base:Heap}{f:Addr}{fd:FuncData}{a:Ad}
theorem qae:qm ["self","first","held"] ["self"] (qe jl):=⟨rfl,rfl,rfl,by decide +kernel,rfl,by decide +kernel,by decide +kernel⟩
theorem qg4(F:Fun K "cut_piece" "Cutter.cut_piece" jl f fd)(T:Tx P w K mg a)(Go:jn P w K mg base CX0 2 a.Cutter "is_piece_over" ["self"] (qkG a K))(Gg:jn P w K mg base (CXR P w) 4 a.Cutter "gather_byte" ["self"] (qg3 a K))
  (Gt:qcg P w K mg base CX0 1 a.Token "Token" ["self","kind","place","held"] (qjf a)):qw P w K mg base (CXR P w) 5 f fd ["self"] (qd5 a K):=by
 refine F.okR qae (fun vs H Q E h=>?_) (fun cdv A outer s H vs Q E hr h=>?_)
 ·obtain⟨z,txt,i,Tk,O,lit,en,rfl,_⟩:=h;rfl
 ·obtain⟨z,txt,i,Tk,O,lit,en,rfl,hC,hi,hlen,hT,ko,kx⟩:=h;have hr1:qI 1 _:=hr.mono (by decide);have hr2:qI 2 _:=hr.mono (by decide)
  refine⟨_,qi (qW (i:=1) qae.nd rfl (Or.inl rfl) (qj (pv 0) rfl))
   (qi (qW (i:=2) qae.nd rfl (Or.inl rfl) (za qh))
   (qi (Q4 PassesOwn.leaving (qbU (Q3 (jw Go T.Yab hr2 qO (pv 0)))) (qf (qu (zP χ ώ ϊ zq (pv 2) (qa (jw Gg T.Yab hr j7 (pv 0)) qh)))))
   (qf (qR (Q6 (pv 2) (by intro _;rfl)) (qf (qu (zP χ ώ ϊ zq (qj (pv 0) rfl) (qa (Zb Gt hr2 qO (qa qL (qa (pv 1) (qa (pv 2) qh)))) qh)))) zh)))),?_⟩
  refine⟨_,rfl,z.c,_,z.dx,_,_,rfl,hC.ins,T.Yab,T.Yaz,qN _ _ _ _ _ _,?_⟩;refine⟨ό _,fun p hp=>?_⟩;have np:=hC.fresh hp
  refine⟨fun m σ H'=>σ=[some (.ref z.c),some (.int (i:Int)),some (.ref p)]/\∃(j:Nat)(g:List Nat),H' z.c=some (qjj a z j lit en)/\qp (· = z.c) H H'/\H' p=some (.lst (nt g))/\i+g.length<=j/\CM.qdl txt i g j/\m=txt.length - j,
   ⟨_,rfl,i,[],?_,qp.new hp,qc,ω _,CM.qi7 hi,rfl⟩,?_⟩
  ·rw[qd (qg hC.ins hp)];exact hC.ins
  rintro m σ H1 ⟨rfl,j,g,h1,k1,hp1,hgj,G1,rfl⟩;have C1:=hC.move h1 k1;refine⟨_,rfl,z.c,z.dx,_,rfl,C1.ins,qaJ _ _ _ _ _ _,z,txt,j,Tk,O,lit,en,rfl,C1,fun H2 s2=>⟨_,rfl,?_⟩⟩;have C2:=C1.same s2;have k2:=k1.trans (qp.of s2);have hp2:=s2 _ _ hp1;have pc:p≠z.c:=fun e=>np (by rw[e];exact z.mc);cases ho:over txt j with
  |false=>
   refine zT ⟨_,fun σ' H' q=>q,?_⟩;refine⟨_,rfl,.inl ⟨rfl,_,SqL.of hp2⟩,_,rfl,z.c,z.dx,_,rfl,C2.ins,qbK _ _ _ _ _ _,z,txt,j,Tk,O,lit,en,rfl,C2,ho,fun H3 j' x k3 h3 hjj hj' eg=>?_,fun hg=>?_⟩
   ·have hp3:=k3 _ _ hp2 pc;have hj1:j'<=txt.length:=hj';refine⟨p,_,_,rfl,rfl,hp3,by rw[zw];exact jI (by omega),?_⟩;rw[qnz];refine⟨txt.length - j',by omega,rfl,j',g++[x],by rw[qd (Ne.symm pc)];exact h3,fun b o e n=>?_,qc,by simp;omega,CM.qkn G1 hj' eg,rfl⟩;rw[qd (qg e hp)];exact(k2.trans k3) b o e n
   ·have:=kx j (CM.qgN G1 hg);exact(this.from (k2.wide fun b e=>by rw[e];exact z.mc)).wide fun b e=>by rw[e];exact z.mc
  |true=>
   have k2':qp z.M H H2:=k2.wide fun b e=>by rw[e];exact z.mc
   refine zz ⟨_,rfl,_,.inl ⟨_,SqL.of hp2,rfl⟩,?_⟩;cases g with
   |nil=>refine zz ?_;refine ko H2 j [] k2' ?_ hgj G1 ho;show qP a K H2 z txt j (Tk++[]) O lit en;rw[Ybs];exact C2
   |cons x g=>
    obtain⟨as,t1,t2⟩:=C2.tl;refine zT ⟨_,rfl,z.c,_,z.dx,_,_,rfl,C2.ins,T.Yab,T.YaB,qaA _ _ _ _ _ _,.inl ⟨rfl,_,SqL.of t1⟩,?_⟩;refine⟨_,rfl,_,rfl,?_⟩;intro t dx ht hdx hne;refine⟨t,dx,_,_,_,rfl,qc,rfl,?_⟩;rw[jX];have s3:qB H2 (upd (upd H2 dx (.own t)) t (.ins a.Token dx (tokF (.str "piece") (.int i) (.ref p)))):=fun b o e=>by rw[qd (qg e ht),qd (qg e hdx)];exact e
    have C3:=C2.same s3;have tk:Qp a z.M (upd (upd H2 dx (.own t)) t (.ins a.Token dx (tokF (.str "piece") (.int i) (.ref p)))) t ⟨i,.piece (x::g)⟩:=⟨dx,p,qc,s3 _ _ hp2,C2.fresh ht,np⟩;have t1':=s3 _ _ t1;refine⟨z.tl,_,_,rfl,rfl,t1',?_,?_⟩
    ·rw[τ,Paired.length t2];exact YdX hT (by decide)
    exact ko _ j (x::g) ((k2'.trans (qp.of s3)).trans (qp.at_ z.mt)) (C3.putT t1' tk) hgj G1 ho
end
end RT
end
section
namespace RT
open PySem PySem.Spec PyProof.Rows L2
open Vastoa (Mark Marks)
structure qkH(a:Ad)(K:γ)(z:CA)(txt:List Nat)(H:Hp)(i:Nat)(Q:Hp->Prop)(E:XK):Prop where
 done:∀H' T' O' i',qp z.M H H'->Vastoa.tokens txt=.ok T'->T'.length<=i'+1->i'<=txt.length->qP a K H' z txt i' T' O' false true->Q H'
 more:∀H' n lit O' i' T',qp z.M H H'->CM.Here txt n lit O' i' T'->i<i'->T'.length<=i'->O'.length<=i'->qP a K H' z txt i' T' O' lit false->Q H'
 fail:∀p:Nat,Vastoa.tokens txt=.error ⟨2,p⟩->XWM z.M K a.Refusal H 2 p E
def qam(lit:Bool)(a:Ad)(K:γ):Sp:=fun vs H Q E=>∃(z:CA)(txt:List Nat)(n i:Nat)(T:Marks)(O:List Bool),vs=[.ref z.c]/\qP a K H z txt i T O lit false/\CM.Here txt n lit O i T/\T.length<=i/\O.length<=i/\txt.length<=5000 /\
 qkH a K z txt H i (Q .non) E
theorem qg5(b:Bool)(O:List Bool):O.reverse.map opS++[opS b]=(b::O).reverse.map opS:=by simp
section
variable{P:Program}{w:World}{K:γ}{mg:Str->Option Value}{base:Heap}{f:Addr}{fd:FuncData}{a:Ad}
theorem qaQ:qm ["self","byte"] ["self"] (qe zV):=⟨rfl,rfl,rfl,by decide +kernel,rfl,by decide +kernel,by decide +kernel⟩
theorem qeC(F:Fun K "cut_literal" "Cutter.cut_literal" zV f fd)(T:Tx P w K mg a)(Gb:jn P w K mg base CX0 1 a.Cutter "byte_at" ["self","place"] (Zc a K))(Gp:jn P w K mg base (CXR P w) 5 a.Cutter "cut_piece" ["self"] (qd5 a K))
  (Ga:jn P w K mg base CX0 3 a.Cutter "add_token" ["self","kind","length","held"] (QF a K)) (Gx:QZ P w K mg base 2 a.WrongToken "WrongToken" ["self","place"] (spX a.WrongToken 2 true)):qw P w K mg base (CXR P w) 6 f fd ["self"] (qam true a K):=by
 refine F.okR qaQ (fun vs H Q E h=>?_) (fun cdv A outer s H vs Q E hr h=>?_)
 ·obtain⟨z,txt,n,i,Tk,O,rfl,_⟩:=h;rfl
 ·obtain⟨z,txt,n,i,Tk,O,rfl,hC,hH,hT,hO,hlen,R⟩:=h;have hr1:qI 1 _:=hr.mono (by decide);have hr3:qI 3 _:=hr.mono (by decide)
  refine⟨_,qi (qu (jw Gp T.Yab hr j7 (pv 0)))
   (qi (qW (i:=1) qaQ.nd rfl (Or.inl rfl) (zm Gb T.Yab hr1 qO (pv 0) (qa (qj (pv 0) rfl) qh)))
   (qi (qR (qK jb (pv 1) (qM T.Yam) (qX _)) (qf (Qn Gx hr3 (qa (qj (pv 0) rfl) qh))) zh)
   (qi (qR (qK jb (pv 1) (qM T.Yan) (qX _)) (qf (qu (zm Ga T.Yab hr3 qO (pv 0) (qa qL (qa qr (qa (za qh) qh))))))
    (qi (qu (zP χ ώ ϊ zq (qj (pv 0) rfl) (qa qL qh))) (qf (qu (zm Ga T.Yab hr3 qO (pv 0) (qa qL (qa qr (qa (za qh) qh))))))))
   (qf (zA (pv 0) qa1 rfl))))),?_⟩
  have hle:=hH.le;refine⟨_,rfl,z.c,z.dx,_,rfl,hC.ins,qc0 _ _ _ _ _ _,z,txt,i,Tk,O,true,false,rfl,hC,hH.le,hlen,by omega,fun H1 j g k1 C1 hgj G1 ho=>?_,fun p hp=>R.fail p (CM.qin hH hp)⟩;have hj:=G1.1
  have hTl:(Tk++CM.pieceOf i g).length<=j:=by
   unfold CM.pieceOf;cases g with
   |nil=>simp;omega
   |cons x g=>simp at hgj ⊢;omega
  refine⟨_,rfl,z.c,z.dx,_,rfl,C1.ins,zL _ _ _ _ _ _,_,rfl,z.c,_,z.dx,_,_,rfl,C1.ins,T.Yab,T.Yaz,qN _ _ _ _ _ _,z.c,txt,j,rfl,C1.text,?_⟩;refine⟨_,rfl,rfl,_,rfl,?_⟩;rw[jB];cases e:txt[j]? with
  |none=>rw[jH e];refine zT ⟨_,rfl,z.c,_,z.dx,_,_,rfl,C1.ins,T.Yab,T.Yaz,qN _ _ _ _ _ _,?_⟩;exact Zq T.Ybi T.Ybb T.Ya1 T.Ya2 ((R.fail j (CM.qin hH (CM.qgN G1 (CM.qi8 e)))).on k1)
  |some c=>
   rw[zS e,show((c:Int) == -1)=false from beq_eq_false_iff_ne.mpr (by omega)];refine zz ⟨_,rfl,rfl,_,rfl,?_⟩;rw[jB,zJ];have hjl:=CM.ZF e;refine zR (fun q=>?_) fun q=>?_
   ·have q:c=34:=by have:=of_decide_eq_true q;omega
    subst q;have ge:Vastoa.gather i (txt.drop i)=.ok (g,j,txt.drop j):=CM.qfr G1 (by rw[CM.qbj e (by decide),if_pos (.inl rfl)]);have H2:=CM.qko hH (by omega) ge e;refine⟨_,rfl,z.c,z.dx,_,rfl,C1.ins,zf _ _ _ _ _ _,ό _,fun p hp=>⟨z,txt,j,Tk++CM.pieceOf i g,O,true,false,.unquote,1,p,rfl,C1.same (qo hp),qc,C1.fresh hp,by omega,fun H3 k3 C3=>?_⟩⟩;refine⟨_,rfl,z.c,_,z.dx,_,rfl,C3.ins,T.Yab,T.n_Cutter_in_literal,(by show 6<1000;decide),?_⟩;refine R.more _ _ false O (j+1) _ (((k1.trans (qp.new hp)).trans k3).trans (qp.at_ z.mc)) H2 (by omega) ?_ (by omega) (C3.put (j+1) false false);rw[ν];show(Tk++CM.pieceOf i g).length+1<=_;omega
   ·have q:¬c=34:=fun y=>q (decide_eq_true (by omega));rw[qcr e]at ho
    have h36:c=36:=by
     by_cases y:c=36
     ·exact y
     ·rw[if_neg y]at ho;exact absurd (of_decide_eq_true ho) q
    subst h36;have e3:txt[j+1]?=some 123:=of_decide_eq_true ho;have ge:Vastoa.gather i (txt.drop i)=.ok (g,j,txt.drop j):=CM.qfr G1 (by rw[CM.qbj e (by decide),if_pos (.inr ⟨rfl,e3⟩)]);have H2:=CM.ql4 hH (by omega) ge e e3;refine⟨_,rfl,z.c,_,z.dx,_,_,rfl,C1.ins,T.Yab,T.Yay,Jz _ _ _ _ _ _,.inl ⟨rfl,_,SqL.of C1.ol⟩,z.ol,_,_,rfl,rfl,C1.ol,by rw[τ,YbS];exact jI (by omega),?_⟩;rw[show(V.str (Str.ofString "hole"))=opS true from rfl,qg5];have C2:=C1.putO (true::O);have k2:=k1.trans (qp.at_ (o:=.lst ((true::O).reverse.map opS)) z.mo);refine⟨_,rfl,z.c,z.dx,_,rfl,C2.ins,zf _ _ _ _ _ _,ό _,fun p hp=>⟨z,txt,j,Tk++CM.pieceOf i g,true::O,true,false,.hole,2,p,rfl,C2.same (qo hp),qc,C2.fresh hp,by omega,fun H3 k3 C3=>?_⟩⟩;refine⟨_,rfl,z.c,_,z.dx,_,rfl,C3.ins,T.Yab,T.n_Cutter_in_literal,(by show 6<1000;decide),?_⟩;refine R.more _ _ false (true::O) (j+2) _ (((k2.trans (qp.new hp)).trans k3).trans (qp.at_ z.mc)) H2 (by omega) ?_ (by simp;omega) (C3.put (j+2) false false);rw[ν];show(Tk++CM.pieceOf i g).length+1<=_;omega
end
end RT
end
section
namespace RT
open PySem PySem.Spec PyProof.Rows L2
open Vastoa (Mark Marks)
theorem qnA(c:Nat):decide (65<=(c:Int)/\(c:Int)<=90\/97<=(c:Int)/\(c:Int)<=122)=Vastoa.letter c:=by unfold Vastoa.letter;rw[Yca];simp;omega
theorem qoD(c:Nat):inV (.int (c:Int)) [V.int 32,V.int 9,V.int 10,V.int 13]=Vastoa.blank c:=by simp only[inV,Yb5,Yda,eqV,zJ,Ycx];unfold Vastoa.blank;rw[Yca];simp;omega
section
variable{P:Program}{w:World}{K:γ}{mg:Str->Option Value}{base:Heap}{f:Addr}{fd:FuncData}{a:Ad}
theorem qaR:qm ["self","byte"] ["self"] (qe zU):=⟨rfl,rfl,rfl,by decide +kernel,rfl,by decide +kernel,by decide +kernel⟩
theorem qeD(F:Fun K "cut_outside" "Cutter.cut_outside" zU f fd)(T:Tx P w K mg a)(Gb:jn P w K mg base CX0 1 a.Cutter "byte_at" ["self","place"] (Zc a K))(Ga:jn P w K mg base CX0 3 a.Cutter "add_token" ["self","kind","length","held"] (QF a K))
  (Gl:FnAt P w K mg base CX0 1 "is_letter" ["byte"] qbp) (Gd:FnAt P w K mg base CX0 1 "is_digit" ["byte"] qaN) (Gc:jn P w K mg base CX0 2 a.Cutter "pass_comment" ["self"] (qbG a K)) (Gn:jn P w K mg base (CXR P w) 4 a.Cutter "cut_name" ["self"] (qfz a K))
  (Gu:jn P w K mg base (CXR P w) 4 a.Cutter "cut_number" ["self"] (qc7 a K)) (Gr:jn P w K mg base CX0 4 a.Cutter "cut_right_brace" ["self"] (qd4 a K)) (Gs:jn P w K mg base (CXR P w) 4 a.Cutter "cut_sign" ["self"] (qfA a K)):qw P w K mg base (CXR P w) 6 f fd ["self"] (qam false a K):=by
 refine F.okR qaR (fun vs H Q E h=>?_) (fun cdv A outer s H vs Q E hr h=>?_)
 ·obtain⟨z,txt,n,i,Tk,O,rfl,_⟩:=h;rfl
 ·obtain⟨z,txt,n,i,Tk,O,rfl,hC,hH,hT,hO,hlen,R⟩:=h;have hr1:qI 1 _:=hr.mono (by decide);have hr2:qI 2 _:=hr.mono (by decide);have hr3:qI 3 _:=hr.mono (by decide);have hr4:qI 4 _:=hr.mono (by decide)
  refine⟨_,qi (qW (i:=1) qaR.nd rfl (Or.inl rfl) (zm Gb T.Yab hr1 qO (pv 0) (qa (qj (pv 0) rfl) qh)))
   (qf (qR (qK jb (pv 1) (qM T.Yam) (qX _)) (qi (qu (zm Ga T.Yab hr3 qO (pv 0) (qa qL (qa qr (qa (za qh) qh))))) (qf (zA (pv 0) qa1 rfl)))
   (qf (qR (qkv (pv 1) (qa (qM T.Yag) (qa (qM T.Yaq) (qa (qM T.g_LINE_FEED) (qa (qM T.Yao) qh))))) (qf (QC (pv 0) qr J4))
   (qf (qR (qK jb (pv 1) (qM T.Yak) (qX _)) (qf (qu (jw Gc T.Yab hr2 qO (pv 0))))
   (qf (qR (Q3 (qT Gl hr1 qO (qa (pv 1) qh))) (qf (qu (jw Gn T.Yab hr4 j7 (pv 0))))
   (qf (qR (Q3 (qT Gd hr1 qO (qa (pv 1) qh))) (qf (qu (jw Gu T.Yab hr4 j7 (pv 0))))
   (qf (qR (qK jb (pv 1) (qM T.Yan) (qX _)) (qi (qu (zm Ga T.Yab hr3 qO (pv 0) (qa qL (qa qr (qa (za qh) qh))))) (qf (zA (pv 0) qa1 rfl)))
   (qf (qR (qK jb (pv 1) (qM T.g_LEFT_BRACE) (qX _)) (qi (qu (zP χ ώ ϊ zq (qj (pv 0) rfl) (qa qL qh)))
    (qf (qu (zm Ga T.Yab hr3 qO (pv 0) (qa qL (qa qr (qa (za qh) qh)))))))
   (qf (qR (qK jb (pv 1) (qM T.g_RIGHT_BRACE) (qX _)) (qf (qu (jw Gr T.Yab hr4 qO (pv 0)))) (qf (qu (jw Gs T.Yab hr4 j7 (pv 0)))))))))))))))))))),?_⟩
  have hle:=hH.le;have hT6:Tk.length<1000000:=by omega
  refine⟨_,rfl,z.c,z.dx,_,rfl,hC.ins,zL _ _ _ _ _ _,_,rfl,z.c,_,z.dx,_,_,rfl,hC.ins,T.Yab,T.Yaz,qN _ _ _ _ _ _,z.c,txt,i,rfl,hC.text,?_⟩;refine⟨_,rfl,rfl,_,rfl,?_⟩;rw[jB];cases e:txt[i]? with
  |none=>rw[jH e];refine zT ⟨_,rfl,z.c,z.dx,_,rfl,hC.ins,zf _ _ _ _ _ _,ό _,fun p hp=>⟨z,txt,i,Tk,O,false,false,.fin,0,p,rfl,hC.same (qo hp),qc,hC.fresh hp,hT6,fun H3 k3 C3=>?_⟩⟩;refine⟨_,rfl,z.c,_,z.dx,_,rfl,C3.ins,T.Yab,T.Yax,(by show 6<1000;decide),?_⟩;exact R.done _ _ O i (((qp.new hp).trans k3).trans (qp.at_ z.mc)) (CM.qov hH e) (by simp;omega) hle (C3.put i false true)
  |some c=>
   have hil:=CM.ZF e;rw[zS e,show((c:Int) == -1)=false from beq_eq_false_iff_ne.mpr (by omega)];refine zz ⟨_,rfl,rfl,fun H1 s1=>⟨_,rfl,?_⟩⟩;have C1:=hC.same s1;have k1:qp z.M H H1:=qp.of s1;show if inV (.int (c:Int)) [V.int 32,V.int 9,V.int 10,V.int 13]=true then _ else _;rw[qoD];refine zR (fun hb=>?_) fun hb=>?_
   ·refine⟨_,rfl,z.c,_,z.dx,_,_,rfl,C1.ins,T.Yab,T.Yaz,qN _ _ _ _ _ _,_,_,rfl,rfl,z.dx,_,C1.ins,(by show 6<1000;decide),?_⟩;exact R.more _ _ false O (i+1) Tk (k1.trans (qp.at_ z.mc)) (CM.ql0 hH e hb) (by omega) (by omega) (by omega) (C1.put (i+1) false false)
   have hb:Vastoa.blank c=false:=by simpa using hb
   refine⟨_,rfl,rfl,_,rfl,?_⟩;rw[jB,zJ];refine zR (fun h35=>?_) fun h35=>?_
   ·have h35:c=35:=by have:=of_decide_eq_true h35;omega
    subst h35;refine⟨_,rfl,z.c,z.dx,_,rfl,C1.ins,qbl _ _ _ _ _ _,z,txt,i,Tk,O,false,false,rfl,C1,hle,fun H2 j k2 C2 r2 e2=>?_⟩
    have hij:i<j:=by
     rcases Yd0 i j with y|y
     ·exact y
     ·have:i=j:=YdE r2.1 y;subst this;have:=e2 35 e;omega
    have H2':=CM.qi5 (k:=j - i) hH e (by have:=r2.2.1;omega) (by omega) (fun x hx=>by
     obtain⟨c,h1,h2⟩:=r2.2.2 (i+x) (by omega) (by omega)
     exact⟨c,h1,by simpa using h2⟩) (fun x hx=>e2 x (by rw[show i+(j - i)=j by omega]at hx;exact hx))
    rw[show i+(j - i)=j by omega]at H2';exact R.more H2 _ false O j Tk (k1.trans k2) H2' hij (by omega) (by omega) C2
   have h35:¬c=35:=fun y=>h35 (decide_eq_true (by omega));refine⟨_,rfl,_,rfl,_,rfl,?_⟩;rw[qnA];refine zR (fun hl=>?_) fun hl=>?_
   ·refine⟨_,rfl,z.c,z.dx,_,rfl,C1.ins,qdo _ _ _ _ _ _,z,txt,i,Tk,O,false,false,rfl,C1,hle,hT6,fun j r2 e2=>?_⟩
    have hij:i<j:=by
     rcases Yd0 i j with y|y
     ·exact y
     ·have:i=j:=YdE r2.1 y;subst this;have:=e2 c e;unfold Vastoa.inner at this;rw[hl]at this;cases this
    have H2':=CM.qnr (k:=j - i) hH e hl (by have:=r2.2.1;omega) (by omega) (fun x hx=>r2.2.2 (i+x) (by omega) (by omega)) (fun x hx=>e2 x (by rw[show i+(j - i)=j by omega]at hx;exact hx));rw[show i+(j - i)=j by omega]at H2';refine⟨fun hx=>(R.fail i (H2'.1 hx)).from k1,fun hx H2 k2 C2=>?_⟩;exact R.more H2 _ false O j _ (k1.trans k2) (H2'.2 hx) hij (by simp;omega) (by omega) C2
   have hl:Vastoa.letter c=false:=by simpa using hl
   refine⟨_,rfl,_,rfl,_,rfl,?_⟩;show if qd3 (c:Int)=true then _ else _;rw[qco];refine zR (fun hd=>?_) fun hd=>?_
   ·refine⟨_,rfl,z.c,z.dx,_,rfl,C1.ins,qch _ _ _ _ _ _,z,txt,i,Tk,O,false,false,rfl,C1,hle,hT6,fun j r2 e2=>?_⟩
    have hij:i<j:=by
     rcases Yd0 i j with y|y
     ·exact y
     ·have:i=j:=YdE r2.1 y;subst this;have:=e2 c e;rw[hd]at this;cases this
    have H2':=CM.qkl (k:=j - i) hH e hd (by have:=r2.2.1;omega) (by omega) (fun x hx=>r2.2.2 (i+x) (by omega) (by omega)) (fun x hx=>e2 x (by rw[show i+(j - i)=j by omega]at hx;exact hx));rw[show i+(j - i)=j by omega]at H2';have e48:txt[i]?=some 48↔c=48:=⟨fun y=>by rw[e]at y;exact Option.some.inj y,fun y=>by rw[e,y]⟩;rw[e48];refine⟨fun hx=>(R.fail i (H2'.1 hx)).from k1,fun hx H2 k2 C2=>?_⟩;exact R.more H2 _ false O j _ (k1.trans k2) (H2'.2 hx) hij (by simp;omega) (by omega) C2
   have hd:Vastoa.digit c=false:=by simpa using hd
   refine⟨_,rfl,rfl,_,rfl,?_⟩;rw[jB,zJ];refine zR (fun h34=>?_) fun h34=>?_
   ·have h34:c=34:=by have:=of_decide_eq_true h34;omega
    subst h34;refine⟨_,rfl,z.c,z.dx,_,rfl,C1.ins,zf _ _ _ _ _ _,ό _,fun p hp=>⟨z,txt,i,Tk,O,false,false,.quote,1,p,rfl,C1.same (qo hp),qc,C1.fresh hp,hT6,fun H3 k3 C3=>?_⟩⟩;refine⟨_,rfl,z.c,_,z.dx,_,rfl,C3.ins,T.Yab,T.n_Cutter_in_literal,(by show 6<1000;decide),?_⟩;exact R.more _ _ true O (i+1) _ (((k1.trans (qp.new hp)).trans k3).trans (qp.at_ z.mc)) (CM.ql2 hH e) (by omega) (by simp;omega) (by omega) (C3.put (i+1) true false)
   have h34:¬c=34:=fun y=>h34 (decide_eq_true (by omega));refine⟨_,rfl,rfl,_,rfl,?_⟩;rw[jB,zJ];refine zR (fun h123=>?_) fun h123=>?_
   ·have h123:c=123:=by have:=of_decide_eq_true h123;omega
    subst h123;refine⟨_,rfl,z.c,_,z.dx,_,_,rfl,C1.ins,T.Yab,T.Yay,Jz _ _ _ _ _ _,.inl ⟨rfl,_,SqL.of C1.ol⟩,z.ol,_,_,rfl,rfl,C1.ol,by rw[τ,YbS];exact jI (by omega),?_⟩;rw[show(V.str (Str.ofString "brace"))=opS false from rfl,qg5];have C2:=C1.putO (false::O);have k2:=k1.trans (qp.at_ (o:=.lst ((false::O).reverse.map opS)) z.mo);refine⟨_,rfl,z.c,z.dx,_,rfl,C2.ins,zf _ _ _ _ _ _,ό _,fun p hp=>⟨z,txt,i,Tk,false::O,false,false,.sign [123],1,p,by rw[qnx];rfl,C2.same (qo hp),qc,C2.fresh hp,hT6,fun H3 k3 C3=>?_⟩⟩;exact R.more _ _ false (false::O) (i+1) _ ((k2.trans (qp.new hp)).trans k3) (CM.ql3 hH e) (by omega) (by simp;omega) (by simp;omega) C3
   have h123:¬c=123:=fun y=>h123 (decide_eq_true (by omega));refine⟨_,rfl,rfl,_,rfl,?_⟩;rw[jB,zJ];refine zR (fun h125=>?_) fun h125=>?_
   ·have h125:c=125:=by have:=of_decide_eq_true h125;omega
    subst h125;refine⟨_,rfl,z.c,z.dx,_,rfl,C1.ins,qai _ _ _ _ _ _,z,txt,i,Tk,O,false,rfl,C1,hT6,fun H2 O' eO k2 C2=>?_,fun H2 hO' k2 C2=>?_⟩
    ·subst eO;exact R.more H2 _ true O' (i+1) _ (k1.trans k2) (CM.qkm hH e) (by omega) (by simp;omega) (by simp at hO;omega) C2
    ·exact R.more H2 _ false (O.drop 1) (i+1) _ (k1.trans k2) (CM.qi6 hH e hO') (by omega) (by simp;omega) (by simp;omega) C2
   have h125:¬c=125:=fun y=>h125 (decide_eq_true (by omega));have hoth:CM.other c=true:=by simp[CM.other,hb,h35,hl,hd,h34,h123,h125]
   obtain⟨s1',s2'⟩:=CM.qns hH e hoth;refine⟨_,rfl,z.c,z.dx,_,rfl,C1.ins,qdp _ _ _ _ _ _,z,txt,i,Tk,O,false,false,rfl,C1,hle,hT6,fun hx=>(R.fail i (s1' hx)).from k1,fun x hx H2 k2 C2=>?_⟩;have h0:=(CM.qdS hx).2.1;exact R.more H2 _ false O (i+x.length) _ (k1.trans k2) (s2' x hx) (by omega) (by simp;omega) (by omega) C2
end
end RT
end
section
namespace RT
open PySem PySem.Spec PyProof.Rows L2
open Vastoa (Mark Marks)
def qcs(a:Ad)(K:γ):Sp:=fun vs H Q E=>∃(c dx ta:Addr)(txt:List Nat),vs=[.ref c,.ref ta]/\H c=some (.ins a.Cutter dx [])/\SqL K H ta (nt txt) /\
 ∀H' z,z.c=c->H z.tl=none->H z.ol=none->(∀b o,H b=some o->b≠c->H' b=some o)->qP a K H' z txt 0 [] [] false false->Q .non H'
abbrev M0:Addr->Prop:=fun _=>False
def qmM(a:Ad)(K:γ):Sp:=fun vs H Q E=>∃(ta:Addr)(txt:List Nat),vs=[.ref ta]/\SqL K H ta (nt txt)/\txt.length<=5000 /\
 (∀H' p as T,qB H H'->Vastoa.tokens txt=.ok T->T.length<=txt.length+1->H' p=some (.lst (as.map V.ref))->Paired (Qp a M0 H') as T->Q (.ref p) H') /\
 (∀p:Nat,Vastoa.tokens txt=.error ⟨2,p⟩->XW K a.Refusal H 2 p E)
theorem Qp.free {a:Ad} {M:Addr->Prop} {H:Hp} {t:Addr} {m:Mark} (h:Qp a M H t m):Qp a M0 H t m:=by obtain⟨dx,ha,h1,h2,_,_⟩:=h;exact⟨dx,ha,h1,h2,id,id⟩
section
variable{P:Program}{w:World}{K:γ}{mg:Str->Option Value}{base:Heap}{f:Addr}{fd:FuncData}{a:Ad}
theorem qeE:qm ["self","text"] ["self","text"] (qe Qh):=⟨rfl,rfl,rfl,by decide +kernel,rfl,by decide +kernel,by decide +kernel⟩
theorem qeF(F:Fun K "__init__" "Cutter.__init__" Qh f fd)(T:Tx P w K mg a):qw P w K mg base CX0 1 f fd ["self","text"] (qcs a K):=by
 refine F.ok qeE (fun vs H Q E h=>?_) (fun cdv A outer s H vs Q E hr h=>?_)
 ·obtain⟨c,dx,ta,txt,rfl,_⟩:=h;rfl
 ·obtain⟨c,dx,ta,txt,rfl,hc,ht,k⟩:=h;refine⟨_,qi (zA (pv 0) (pv 1) rfl) (qi (zA (pv 0) qr rfl) (qi (zA (pv 0) (za qh) rfl) (qi (zA (pv 0) (za qh) rfl) (qi (zA (pv 0) qa1 rfl) (qf (zA (pv 0) qa1 rfl)))))),?_⟩;refine⟨_,rfl,_,rfl,c,_,dx,_,rfl,hc,T.Yab,T.YaA,(by show 0<1000;decide),?_⟩;refine⟨_,rfl,c,_,dx,_,rfl,qc,T.Yab,T.Yaz,(by show 1<1000;decide),?_⟩;rw[jX];refine⟨ό _,fun tl htl=>⟨_,rfl,c,_,dx,_,rfl,(qd (qg qc htl)).trans qc,T.Yab,T.YaB,(by show 2<1000;decide),?_⟩⟩;have ctl:c≠tl:=qg qc htl;rw[qd (Ne.symm ctl)]at htl;refine⟨ό _,fun ol hol=>⟨_,rfl,c,_,dx,_,rfl,(qd (qg qc hol)).trans qc,T.Yab,T.Yay,(by show 3<1000;decide),?_⟩⟩;have col:c≠ol:=qg qc hol;rw[qd (Ne.symm col)]at hol;have tlol:tl≠ol:=qg qc hol;rw[qd (Ne.symm tlol),qd (Ne.symm col)]at hol;refine⟨_,rfl,c,_,dx,_,rfl,qc,T.Yab,T.n_Cutter_in_literal,(by show 4<1000;decide),?_⟩;refine⟨_,rfl,c,_,dx,_,rfl,qc,T.Yab,T.Yax,(by show 5<1000;decide),?_⟩;rw[jX,jX];have kk:∀b o,H b=some o->b≠c->upd (upd (upd (upd (upd H c (.ins a.Cutter dx (zd "place" (.int 0) (zd "text" (.ref ta) [])))) tl (.lst [])) c (.ins a.Cutter dx (zd "tokens" (.ref tl) (zd "place" (.int 0) (zd "text" (.ref ta) []))))) ol (.lst [])) c (.ins a.Cutter dx (jR (.ref ta) (.int 0) (.ref tl) (.ref ol) (.bl false) (.bl false))) b=some o:=fun b o e n=>by rw[qd n,qd (qg e hol),qd n,qd (qg e htl),qd n];exact e
  refine k _ ⟨c,dx,ta,tl,ol⟩ rfl htl hol kk ⟨qc,?_,⟨[],?_,.nil⟩,?_,tlol⟩
  ·have nM:∀o,H ta=some o->(∀C d fs,o≠.ins C d fs)->¬CA.M ⟨c,dx,ta,tl,ol⟩ ta:=fun o e ni z=>by
    rcases z with z|z|z
    ·have z:ta=c:=z;rw[z,hc]at e;cases e;exact ni _ _ _ rfl
    ·exact qg e htl z
    ·exact qg e hol z
   have ne:∀o,H ta=some o->(∀C d fs,o≠.ins C d fs)->ta≠c:=fun o e ni z=>nM o e ni (.inl z);rcases ht with(q|⟨o,q⟩)|q
   ·exact .inl ⟨.inl (kk _ _ q (ne _ q (fun _ _ _ z=>by cases z))),nM _ q (fun _ _ _ z=>by cases z)⟩
   ·exact .inl ⟨.inr ⟨o,kk _ _ q (ne _ q (fun _ _ _ z=>by cases z))⟩,nM _ q (fun _ _ _ z=>by cases z)⟩
   ·exact .inr q
  ·show upd _ c _ tl=_;rw[qd (Ne.symm ctl),qd tlol,qd (Ne.symm ctl),qc];rfl
  ·show upd _ c _ ol=_;rw[qd (Ne.symm col),qc];rfl
theorem qkI:qm ["text","cutter"] ["text"] (qe qcT):=⟨rfl,rfl,rfl,by decide +kernel,rfl,by decide +kernel,by decide +kernel⟩
theorem qoE(F:Fun K "cut" "cut" qcT f fd)(T:Tx P w K mg a)(Gm:qcg P w K mg base CX0 1 a.Cutter "Cutter" ["self","text"] (qcs a K))(Gl:jn P w K mg base (CXR P w) 6 a.Cutter "cut_literal" ["self"] (qam true a K))
  (Go:jn P w K mg base (CXR P w) 6 a.Cutter "cut_outside" ["self"] (qam false a K)):qw P w K mg base (CXR P w) 7 f fd ["text"] (qmM a K):=by
 refine F.okR qkI (fun vs H Q E h=>?_) (fun cdv A outer s H vs Q E hr h=>?_)
 ·obtain⟨ta,txt,rfl,_⟩:=h;rfl
 ·obtain⟨ta,txt,rfl,ht,hlen,ko,kx⟩:=h;have hr2:qI 2 _:=hr.mono (by decide)
  refine⟨_,qi (qW (i:=1) qkI.nd rfl (Or.inl rfl) (Zb Gm hr2 qO (qa (pv 0) qh)))
   (qi (Q4 PassesOwn.leaving (qbU (Q3 (qj (pv 1) rfl))) (qf (qR (Q3 (qj (pv 1) rfl)) (qf (qu (jw Gl T.Yab hr j7 (pv 1)))) (qf (qu (jw Go T.Yab hr j7 (pv 1)))))))
   (qf (qG (qj (pv 1) rfl)))),?_⟩
  refine⟨_,rfl,?_⟩;intro c dx hc hdx hne;have s1:qB H (upd (upd H dx (.own c)) c (.ins a.Cutter dx [])):=fun b o e=>by rw[qd (qg e hc),qd (qg e hdx)];exact e
  refine⟨c,dx,ta,txt,rfl,qc,s1.seq ht,fun H1 z ez htl hol k1 C1=>⟨rfl,?_⟩⟩
  have sub:∀b o,H b=some o->¬z.M b:=fun b o e y=>by
   have e1:=s1 b o e;rcases y with y|y|y
   ·rw[y,ez]at e;rw[hc]at e;cases e
   ·rw[y,htl]at e1;cases e1
   ·rw[y,hol]at e1;cases e1
  have sH:qB H H1:=fun b o e=>k1 b o (s1 b o e) (qg e hc);have toS:∀H2,qp z.M H1 H2->qB H H2:=fun H2 k b o e=>k b o (sH b o e) (sub b o e)
  refine⟨fun m σ H2=>σ=[some (.ref ta),some (.ref z.c)]/\qp z.M H1 H2/\((∃n lit O i Tk,qP a K H2 z txt i Tk O lit false/\CM.Here txt n lit O i Tk/\Tk.length<=i/\O.length<=i/\m=txt.length+1 - i) \/
   (∃O i Tk,qP a K H2 z txt i Tk O false true/\Vastoa.tokens txt=.ok Tk/\Tk.length<=txt.length+1/\m=0)),⟨_,?_,qp.refl _ _,.inl ⟨_,false,[],0,[],C1,CM.start txt,ω _,ω _,rfl⟩⟩,?_⟩
  ·rw[ez];rfl
  rintro m σ H2 ⟨rfl,k2,⟨n,lit,O,i,Tk,C2,hH,hT,hO,rfl⟩|⟨O,i,Tk,C2,hk,hl,rfl⟩⟩
  ·refine⟨_,rfl,z.c,_,z.dx,_,_,rfl,C2.ins,T.Yab,T.Yax,qdX _ _ _ _ _ _,_,rfl,zT ⟨_,fun σ' H' q=>q,?_⟩⟩;refine⟨_,rfl,z.c,_,z.dx,_,_,rfl,C2.ins,T.Yab,T.n_Cutter_in_literal,qdW _ _ _ _ _ _,_,rfl,?_⟩;have hle:=hH.le
   have res:qkH a K z txt H2 i (fun H'=>∃m',m'<txt.length+1 - i/\([some (V.ref ta),some (.ref z.c)]=[some (V.ref ta),some (.ref z.c)]/\qp z.M H1 H'/\((∃n lit O i Tk,qP a K H' z txt i Tk O lit false/\CM.Here txt n lit O i Tk/\Tk.length<=i/\O.length<=i/\m'=txt.length+1 - i) \/
    (∃O i Tk,qP a K H' z txt i Tk O false true/\Vastoa.tokens txt=.ok Tk/\Tk.length<=txt.length+1/\m'=0)))) E:=by
    refine⟨fun H' T' O' i' k3 e3 l3 b3 C3=>⟨0,by omega,rfl,k2.trans k3,.inr ⟨O',i',T',C3,e3,by omega,rfl⟩⟩,fun H' n' lit' O' i' T' k3 h3 b3 l3 o3 C3=>⟨txt.length+1 - i',?_,rfl,k2.trans k3,.inl ⟨n',lit',O',i',T',C3,h3,l3,o3,rfl⟩⟩,fun p hp=>?_⟩
    ·have:=h3.le;omega
    ·exact fun C dx' H' k3 x=>kx p hp C dx' H' (toS H' (k2.trans k3)) x
   cases lit with
   |true=>exact zT ⟨_,rfl,z.c,z.dx,_,rfl,C2.ins,qbJ _ _ _ _ _ _,z,txt,n,i,Tk,O,rfl,C2,hH,hT,hO,hlen,res⟩
   |false=>exact zz ⟨_,rfl,z.c,z.dx,_,rfl,C2.ins,qbI _ _ _ _ _ _,z,txt,n,i,Tk,O,rfl,C2,hH,hT,hO,hlen,res⟩
  ·refine⟨_,rfl,z.c,_,z.dx,_,_,rfl,C2.ins,T.Yab,T.Yax,qdX _ _ _ _ _ _,_,rfl,zz ?_⟩;refine⟨_,rfl,z.c,_,z.dx,_,_,rfl,C2.ins,T.Yab,T.YaB,qaA _ _ _ _ _ _,?_⟩;obtain⟨as,t1,t2⟩:=C2.tl;exact ko H2 z.tl as Tk (toS H2 k2) hk hl t1 (qZ (fun x y q=>q.free) t2)
end
end RT
end
section
namespace RT
open PySem PySem.Spec PyProof.Rows L2
open Vastoa (Mark Marks)
abbrev qf8:=Vastoa.Kind
abbrev qg6:=RM.Act
open RM (Part Sym qH kd held)
noncomputable def Ja:Part->Str
 | .EXPR=> "EXPR" | .FORM=> "FORM" | .FUNCTION=> "FUNCTION" | .FIELDS=> "FIELDS" | .PARAMS=> "PARAMS" | .GIVEN=> "GIVEN" | .MPARAMS=> "MORE-PARAMS" | .BINDS=> "BINDS" | .BOUND=> "BOUND" | .OR=> "OR" | .MOR=> "MORE-OR"
 | .AND=> "AND" | .MAND=> "MORE-AND" | .NOT=> "NOT" | .CMP=> "CMP" | .MCMP=> "MORE-CMP" | .UPD=> "UPD" | .MUPD=> "MORE-UPD" | .JOIN=> "JOIN" | .MJOIN=> "MORE-JOIN" | .SUM=> "SUM" | .MSUM=> "MORE-SUM" | .PROD=> "PROD"
 | .MPROD=> "MORE-PROD" | .NEG=> "NEG" | .APP=> "APP" | .ARGS=> "ARGUMENTS" | .ARG=> "ARGUMENT" | .SEL=> "SEL" | .DOTS=> "DOTS" | .MDOTS=> "MORE-DOTS" | .DFLT=> "DEFAULT" | .ATOM=> "ATOM" | .PIECES=> "PIECES"
 | .LIST=> "LIST" | .MLIST=> "MORE-LIST"
noncomputable def kindS:qf8->Str
 | .piece=> "piece" | .num=> "num" | .yes=> "yes" | .no=> "no" | .none=> "none" | .name=> "name" | .text=> "text" | .list=> "list" | .record=> "record" | .recur=> "recur" | .get=> "get" | .app=> "app" | .neg=> "neg"
 | .not=> "not" | .has=> "has" | .fn=> "fn" | .fields=> "fields" | .openFields=> "fields.." | .param=> "param" | .letIn=> "let" | .cond=> "if" | .must=> "must"
 | .op .or=> "or" | .op .and=> "and" | .op .eq=> "==" | .op .ne=> "!=" | .op .lt=> "<" | .op .le=> "<=" | .op .upd=> "//" | .op .join=> "++" | .op .add=> "+" | .op .sub=> "-" | .op .mul=> "*"
noncomputable def Jb:qg6->Str
 | .begin=> "begin" | .take=> "take" | .label=> "label" | .fresh=> "fresh" | .enter=> "enter" | .leave=> "leave"
 | .fin k=>kindS k
noncomputable def Qr:Sym->Str
 | .p x=>Ja x
 | .t k=>j9 k
 | .a x=>strOf (64::(Jb x).cps.toList)
noncomputable def allParts:List Part:=[.EXPR,.FORM,.FUNCTION,.FIELDS,.PARAMS,.GIVEN,.MPARAMS,.BINDS,.BOUND,.OR,.MOR,.AND,.MAND,.NOT,.CMP,.MCMP,.UPD,.MUPD,.JOIN,.MJOIN,.SUM,.MSUM,.PROD,.MPROD,.NEG,.APP,.ARGS,.ARG,.SEL,.DOTS,.MDOTS,.DFLT,.ATOM,.PIECES,.LIST,.MLIST]
noncomputable def allKinds:List qf8:=[.piece,.num,.yes,.no,.none,.name,.text,.list,.record,.recur,.get,.app,.neg,.not,.has,.fn,.fields,.openFields,.param,.letIn,.cond,.must,.op .or,.op .and,.op .eq,.op .ne,.op .lt,.op .le,.op .upd,.op .join,.op .add,.op .sub,.op .mul]
noncomputable def j4:List qcn:=[.name [],.num [],.piece [],.quote,.unquote,.hole,.unhole,.fin]++Vastoa.reserved.map .word++([[123],[125]]++Vastoa.signs2++Vastoa.signs1).map .sign
theorem Zd(x:Part):x∈allParts:=by cases x<;>decide
theorem qkJ(k:qf8):k∈allKinds:=by
 cases k with
 |op o=>cases o<;>decide
 |_=>decide
theorem qbq{t:qcn}(h:CM.Jy t=true):kd t∈j4:=by
 unfold j4;cases t with
 |word x=>have h:Vastoa.reserved.contains x=true:=h;exact YbC _ (Ybt _ (Yb7.mpr ⟨x,Ybq.mp h,rfl⟩))
 |sign x=>have h:([[123],[125]]++Vastoa.signs2++Vastoa.signs1).contains x=true:=h;exact Ybt _ (Yb7.mpr ⟨x,Ybq.mp h,rfl⟩)
 |_=>exact YbC _ (YbC _ (by simp[kd]))
theorem qeG(t:qcn):j9 (kd t)=j9 t:=by cases t<;>rfl
theorem qmc:∀x∈j4,∀y∈j4,j9 x=j9 y->x=y:=by decide +kernel
noncomputable def qbr:Sym->Bool
 | .t k=>j4.contains k
 |_=>true
theorem qkK:∀x∈allParts,∀k∈j4,(qH x k).all qbr=true:=by decide +kernel
noncomputable def JT(x k:Str):Bool:=if x="ARGUMENT" then qdV.contains k else decide (x=k)
noncomputable def QS(k:Str):List Str->List Str->List Str
 |[],last=>last
 |r::rs,_=>match Txt.words r with
  |[]=>QS k rs []
  |x::l=>if JT x k then x::l else QS k rs (x::l)
noncomputable def rowsOf(x:Part):List Str:=(Zh.lookup (Ja x)).getD []
end RT
namespace RT
open PySem PySem.Spec PyProof.Rows L2
open Vastoa (Mark Marks)
open RM (Part Sym qH kd held)
theorem qjk:∀x∈allParts,∀k∈j4,QS (j9 k) (rowsOf x) []=(qH x k).map Qr:=by decide +kernel
noncomputable def qjl:List Str:=Zh.map (·.1)
theorem qg7:∀x∈allParts,Ja x∈qjl:=by decide +kernel
theorem qnB:∀k∈j4,j9 k∉qjl:=by decide +kernel
noncomputable def qaS:List qg6:=[.begin,.take,.label,.fresh,.enter,.leave]++allKinds.map .fin
theorem qbs(x:qg6):x∈qaS:=by
 cases x with
 |fin k=>exact Ybt _ (Yb7.mpr ⟨k,qkJ k,rfl⟩)
 |_=>exact YbC _ (by simp)
theorem qnC:∀x∈qaS,Qr (.a x)∉qjl:=by decide +kernel
theorem qoF:∀x∈qaS,Txt.startswith (Qr (.a x)) "@"=true/\qgu (Qr (.a x)) (some 1) none=Jb x/\(Qr (.a x)).length<=1000:=by decide +kernel
theorem qoG:∀k∈j4,Txt.startswith (j9 k) "@"=false:=by decide +kernel
theorem qnD:∀x∈qaS,∀y∈qaS,Jb x=Jb y->x=y:=by decide +kernel
theorem qjm:∀x∈allParts,∀r∈rowsOf x,r.length<=1000:=by decide +kernel
theorem qmd:∀x∈allParts,(Ja x,rowsOf x)∈Zh:=by decide +kernel
theorem qeH(g:Str->Addr)(y:Str):∀l:List (Str×List Str),zB (l.map fun r=>((Sum.inr r.1:Key),V.ref (g r.1))) (Sum.inr y)=if y∈l.map (·.1)then some (V.ref (g y))else none
 |[]=>rfl
 |r::l=>by
  by_cases h:r.1=y
  ·subst h;rw[Ybp,J7 rfl,if_pos (by simp)]
  ·rw[Ybp,J8 (fun z=>h (Sum.inr.inj z)),qeH g y l];by_cases h2:y∈l.map (·.1)
   ·rw[if_pos h2,if_pos (by rw[Ybp];exact ρ _ h2)]
   ·rw[if_neg h2,if_neg (by rw[Ybp,Γ];exact fun z=>z.elim (fun z=>h z.symm) h2)]
end RT
end
section
namespace RT
open PySem PySem.Spec PyProof.Rows L2
open Vastoa (Mark Marks)
open RM (Part Sym qH kd held)
def qkL:Sp:=fun vs H Q E=>∃x k:Str,vs=[.str x,.str k]/\Q (.bl (JT x k)) H
def qg8(a:Ad):Sp:=fun vs H Q E=>∃(x:Part)(k:qcn),vs=[.str (Ja x),.str (j9 k)]/\k∈j4/\∀H' p,qB H H'->H p=none->H' p=some (.lst (((qH x k).map Qr).map V.str))->Q (.ref p) H'
theorem ZX:∀l:List Str,(l.map V.str).all QD=true
 |[]=>rfl
 |_::r=>by rw[Ybp,YdN,ZX r];rfl
theorem qis(k:Str):∀l:List Str,inV (.str k) (l.map V.str)=l.contains k
 |[]=>rfl
 |x::r=>by
  have ih:=qis k r;unfold inV at ih ⊢;rw[Ybp,Yb5,ih,Ybw];congr 1;show(x==k)=(k==x);by_cases h:x=k
  ·subst h;rfl
  ·rw[beq_eq_false_iff_ne.mpr h,beq_eq_false_iff_ne.mpr (fun z=>h z.symm)]
theorem qh0{k:Str}{r:Str}{x:Str}{l:List Str}(hw:Txt.words r=x::l)(hf:JT x k=true)(rs last:List Str):QS k (r::rs) last=x::l:=by unfold QS;rw[hw];dsimp only;rw[if_pos hf]
theorem qfB{k:Str}{r:Str}(h:∀x l,Txt.words r=x::l->JT x k=false)(rs last:List Str):QS k (r::rs) last=QS k rs (Txt.words r):=by
 conv=>lhs;unfold QS
 cases hw:Txt.words r with
 |nil=>rfl
 |cons x l=>dsimp only;rw[if_neg (by rw[h x l hw];decide)]
section
variable{P:Program}{w:World}{K:γ}{mg:Str->Option Value}{base:Heap}{f:Addr}{fd:FuncData}{a:Ad}
theorem qnE:qm ["first","kind"] ["first","kind"] (qe qaK):=⟨rfl,rfl,rfl,by decide +kernel,rfl,by decide +kernel,by decide +kernel⟩
theorem qnF(F:Fun K "fits" "fits" qaK f fd)(T:Tx P w K mg a):qw P w K mg base CX0 1 f fd ["first","kind"] qkL:=by
 refine F.ok qnE (fun vs H Q E h=>?_) (fun cdv A outer s H vs Q E hr h=>?_)
 ·obtain⟨x,k,rfl,_⟩:=h;rfl
 ·obtain⟨x,y,rfl,k⟩:=h;refine⟨_,qi (qR (qK jb (pv 0) qL (qX _)) (qf (qG (qem ZM (pv 1) (qM T.g_ATOM_BEGINNINGS) (by with_unfolding_all rfl)))) zh) (qf (qG (qem jb (pv 0) (pv 1) (qX _)))),?_⟩;refine⟨_,rfl,rfl,_,rfl,zR (fun e=>?_) fun e=>?_⟩
  ·have e:x="ARGUMENT":=by have:=of_decide_eq_true e;injection this
   refine⟨_,rfl,a.ATOM_BEGINNINGS,_,rfl,.inr (T.t_ATOM_BEGINNINGS.sq _),rfl,ZX _,?_⟩;have:JT x y=inV (.str y) (qdV.map V.str):=by unfold JT;rw[if_pos e,qis]
   rw[this]at k;exact k
  ·have e:¬x="ARGUMENT":=fun z=>e (decide_eq_true (by rw[z]));refine⟨_,rfl,_,rfl,rfl,?_⟩;have:JT x y=decide (V.str x=V.str y):=by unfold JT;rw[if_neg e];exact decide_eq_decide.mpr ⟨fun z=>by rw[z],fun z=>by injection z⟩
   rw[this]at k;exact k
theorem qan:qm ["part","kind","symbols","choice"] ["part","kind"] (qe Jq):=⟨rfl,rfl,rfl,by decide +kernel,rfl,by decide +kernel,by decide +kernel⟩
theorem qkM(F:Fun K "choose" "choose" Jq f fd)(T:Tx P w K mg a)(G:FnAt P w K mg base CX0 1 "fits" ["first","kind"] qkL):qw P w K mg base CX0 2 f fd ["part","kind"] (qg8 a):=by
 refine F.ok qan (fun vs H Q E h=>?_) (fun cdv A outer s H vs Q E hr h=>?_)
 ·obtain⟨x,k,rfl,_⟩:=h;rfl
 ·obtain⟨x,y,rfl,hy,k⟩:=h
  refine⟨_,qi (qW (i:=2) qan.nd rfl (Or.inl rfl) (za qh))
   (qi (Z0 PassesOwn.never rfl (qgh (ZN (qM T.Yaj) (pv 0) (fun _ _=>rfl))) (jd (i:=3) qan.nd rfl (Or.inl rfl))
    (qi (qW (i:=2) qan.nd rfl (Or.inl rfl) (qlM (pv 3)))
    (qf (qR (qgf (Q6 (pv 2) (by intro _;rfl)) (qei (Q3 (qT G hr qO (qa (jp zu (pv 2) qr (fun _ _=>rfl)) (qa (pv 1) qh)))))).pt (qf (qG (pv 2))) zh))))
   (qf (qG (pv 2)))),?_⟩
  refine⟨ό _,fun q hq=>?_⟩;have hmem:=qg7 x (Zd x);have hrow:=T.t_gram _ (qmd x (Zd x));have hval:zB (Zh.map fun r=>((Sum.inr r.1:Key),V.ref (a.gram r.1))) (Sum.inr (Ja x))=some (.ref (a.gram (Ja x))):=by rw[qeH];exact if_pos hmem
  have hc:=qjk x (Zd x) y hy
  refine⟨_,rfl,a.GRAMMAR,_,Sum.inr (Ja x),_,rfl,T.d_GRAMMAR,rfl,hval,a.gram (Ja x),rfl,⟨_,hrow.sq _⟩,
   qel (K:=K) (a:=a.gram (Ja x)) (xs:=(rowsOf x).map V.str) (fun i σ H'=>∃(v:Option V)(l:Addr)(ys:List Str),σ=[some (.str (Ja x)),some (.str (j9 y)),some (.ref l),v]/\qB H H'/\H l=none/\H' l=some (.lst (ys.map V.str))/\QS (j9 y) (rowsOf x) []=QS (j9 y) ((rowsOf x).drop i) ys)
   ⟨none,q,[],rfl,qo hq,hq,qc,rfl⟩ (fun i σ H' _ _=>hrow.sq _) ?_ ?_⟩
  ·rintro i z σ H1 hi ⟨v,l,ys,rfl,s1,hl,hl1,ech⟩;obtain⟨r,hr',rfl⟩:∃r,(rowsOf x)[i]?=some r/\V.str r=z:=by rw[Ω]at hi;exact Ybu.mp hi
   have hsz:r.length<=1000:=qjm x (Zd x) r (YbD hr');have hd:(rowsOf x).drop i=r::(rowsOf x).drop (i+1):=by obtain⟨h1,h2⟩:=Δ.mp hr';rw[<- h2];exact Ycb h1
   rw[hd]at ech;refine⟨_,rfl,⟨_,rfl⟩,r,rfl,rfl,?_,fun p hp=>?_⟩
   ·have:(1000:Nat)+2<=Λ:=by decide
    omega
   have hpH:H p=none:=s1.free hp;have s2:=s1.trans (qo (o:=.lst ((Txt.words r).map V.str)) hp);refine⟨_,rfl,_,.inl ⟨_,SqL.of qc,rfl⟩,?_⟩;cases hw:Txt.words r with
   |nil=>rw[hw]at s2;refine zz (zz ?_);refine⟨_,p,[],rfl,s2,hpH,qc,?_⟩;rw[ech,qfB (fun x' l' z=>by rw[hw]at z;cases z),hw]
   |cons x0 l0=>
    rw[hw]at s2;refine zT ⟨_,rfl,p,_,_,_,rfl,rfl,SqL.of qc,jM (j:=0) rfl,_,rfl,x0,_,rfl,_,rfl,?_⟩;cases hf:JT x0 (j9 y)with
    |true=>refine zT ⟨_,rfl,?_⟩;rw[qh0 hw hf]at ech;rw[ech]at hc;refine k _ p s2 hpH ?_;rw[qc,<- hc]
    |false=>refine zz ⟨_,p,x0::l0,rfl,s2,hpH,qc,?_⟩;rw[ech,qfB (fun x' l' z=>by rw[hw]at z;cases z;exact hf),hw]
  ·rintro σ H1 ⟨v,l,ys,rfl,s1,hl,hl1,ech⟩;refine⟨_,rfl,?_⟩;rw[τ,Ydx]at ech;refine k H1 l s1 hl ?_;rw[hl1,<- hc,ech];rfl
end
end RT
end
section
namespace RT
open PySem PySem.Spec PyProof.Rows L2
open Vastoa (Mark Marks)
open RM (Part Sym qH kd held)
def qaT(M:Addr->Prop)(H:Hp)(lb:List Addr)(ls:List (List Nat)):Prop:=Paired (fun p (x:List Nat)=>H p=some (.lst (nt x))/\¬M p) lb ls
mutual
def qy(a:Ad)(M:Addr->Prop)(H:Hp):Vastoa.Tree->Addr->Prop
 | .node k ls l,t=>∃dx la ka lb ks,(H t=some (.ins a.Node dx (qci (.str (kindS k)) (.ref la) (.ref ka) (.int ((Vastoa.depths l+1:Nat):Int))))/\¬M t)/\(H la=some (.lst (lb.map V.ref))/\¬M la)/\qaT M H lb ls/\(H ka=some (.lst (ks.map V.ref))/\¬M ka)/\qA a M H l ks
def qA(a:Ad)(M:Addr->Prop)(H:Hp):List Vastoa.Tree->List Addr->Prop
 |[],ks=>ks=[]
 |t::l,ks=>∃k r,ks=k::r/\qy a M H t k/\qA a M H l r
end
def Pass(M:Addr->Prop)(H:Hp)(M':Addr->Prop)(H':Hp):Prop:=∀b o,H b=some o->¬M b->H' b=some o/\¬M' b
theorem qaT.pass {M M':Addr->Prop} {H H':Hp} (p:Pass M H M' H') {lb:List Addr} {ls:List (List Nat)} (h:qaT M H lb ls):qaT M' H' lb ls:=qZ (fun x y q=>p _ _ q.1 q.2) h
mutual
theorem qy.pass {a:Ad} {M M':Addr->Prop} {H H':Hp} (p:Pass M H M' H'):∀(T:Vastoa.Tree)(t:Addr),qy a M H T t->qy a M' H' T t
 | .node k ls l,t,h=>by unfold qy at h ⊢;obtain⟨dx,la,ka,lb,ks,h1,h2,h3,h4,h5⟩:=h;exact⟨dx,la,ka,lb,ks,p _ _ h1.1 h1.2,p _ _ h2.1 h2.2,h3.pass p,p _ _ h4.1 h4.2,qA.pass p l ks h5⟩
theorem qA.pass {a:Ad} {M M':Addr->Prop} {H H':Hp} (p:Pass M H M' H'):∀(l:List Vastoa.Tree)(ks:List Addr),qA a M H l ks->qA a M' H' l ks
 |[],ks,h=>by unfold qA at h ⊢;exact h
 |T::l,ks,h=>by unfold qA at h ⊢;obtain⟨k,r,e,h1,h2⟩:=h;exact⟨k,r,e,qy.pass p T k h1,qA.pass p l r h2⟩
end
theorem Qp.pass {a:Ad} {M M':Addr->Prop} {H H':Hp} (p:Pass M H M' H') {t:Addr} {m:Mark} (h:Qp a M H t m):Qp a M' H' t m:=by obtain⟨dx,ha,h1,h2,h3,h4⟩:=h;exact⟨dx,ha,(p _ _ h1 h3).1,(p _ _ h2 h4).1,(p _ _ h1 h3).2,(p _ _ h2 h4).2⟩
theorem qY{a:Ad}{M:Addr->Prop}{H:Hp}:∀{l:List Vastoa.Tree}{ks:List Addr},qA a M H l ks↔Paired (fun k T=>qy a M H T k) ks l
 |[],ks=>by
  unfold qA;constructor
  ·rintro rfl;exact .nil
  ·intro h;cases h;rfl
 |T::l,ks=>by
  unfold qA;constructor
  ·rintro⟨k,r,rfl,h1,h2⟩;exact .cons h1 (qY.mp h2)
  ·intro h;cases h with
   |cons h1 h2=>exact⟨_,_,rfl,h1,qY.mpr h2⟩
theorem qy.depth {a:Ad} {M:Addr->Prop} {H:Hp} {T:Vastoa.Tree} {t:Addr} (h:qy a M H T t):∃dx x y z,H t=some (.ins a.Node dx (qci x y z (.int ((Vastoa.depth T:Nat):Int)))):=by
 cases T with
 |node k ls l=>unfold qy at h;obtain⟨dx,la,ka,lb,ks,h1,_⟩:=h;refine⟨dx,.str (kindS k),.ref la,.ref ka,?_⟩;unfold Vastoa.depth;exact h1.1
theorem qd6:∀(l:List Vastoa.Tree)(m:Int),(l.map (fun T=>((Vastoa.depth T:Nat):Int))=[]->m=0)->(l.map (fun T=>((Vastoa.depth T:Nat):Int))≠[]->m∈l.map (fun T=>((Vastoa.depth T:Nat):Int))/\∀y,y∈l.map (fun T=>((Vastoa.depth T:Nat):Int))->y<=m)->m=((Vastoa.depths l:Nat):Int):=by
 have up:∀(l:List Vastoa.Tree)(y:Int),y∈l.map (fun T=>((Vastoa.depth T:Nat):Int))->y<=((Vastoa.depths l:Nat):Int):=by
  intro l
  induction l with
  |nil=>intro y h;cases h
  |cons T l ih=>
   intro y h;unfold Vastoa.depths;rcases Γ.mp h with rfl|h
   ·show((Vastoa.depth T:Nat):Int)<=_;omega
   ·have:=ih y h;omega
 have isin:∀(l:List Vastoa.Tree),l≠[]->((Vastoa.depths l:Nat):Int)∈l.map (fun T=>((Vastoa.depth T:Nat):Int)):=by
  intro l
  induction l with
  |nil=>intro h;exact absurd rfl h
  |cons T l ih=>
   intro _;unfold Vastoa.depths;by_cases hl:l=[]
   ·subst hl;unfold Vastoa.depths;simp
   ·have:=ih hl;rcases Nat.le_total (Vastoa.depth T) (Vastoa.depths l)with h|h
    ·rw[Nat.max_eq_right h];exact ρ _ this
    ·rw[Nat.max_eq_left h];exact π
 intro l m h0 h1;cases l with
 |nil=>rw[h0 rfl];unfold Vastoa.depths;rfl
 |cons T l=>obtain⟨g1,g2⟩:=h1 (by simp);have a1:=up _ m g1;have a2:=g2 _ (isin (T::l) (by simp));omega
def qkN(a:Ad)(H:Hp)(ks:List Addr)(ds:List Int):Prop:=Paired (fun k d=>∃dx x y z,H k=some (.ins a.Node dx (qci x y z (.int d)))) ks ds
theorem qds{a:Ad}{M:Addr->Prop}{H:Hp}:∀{l:List Vastoa.Tree}{ks:List Addr},qA a M H l ks->qkN a H ks (l.map fun T=>((Vastoa.depth T:Nat):Int))
 |[],ks,h=>by unfold qA at h;subst h;exact .nil
 |T::l,ks,h=>by unfold qA at h;obtain⟨k,r,rfl,h1,h2⟩:=h;exact .cons h1.depth (qds h2)
def qg9(a:Ad):Sp:=fun vs H Q E=>∃(t dx ka:Addr)(k l:V)(ks:List Addr)(ds:List Int),vs=[.ref t,k,l,.ref ka]/\H t=some (.ins a.Node dx [])/\H ka=some (.lst (ks.map V.ref))/\qkN a H ks ds/\ks.length<=1000000 /\
 ∀H' m,(∀b o,H b=some o->b≠t->H' b=some o)->(ds=[]->m=0)->(ds≠[]->m∈ds/\∀y,y∈ds->y<=m)->H' t=some (.ins a.Node dx (qci k l (.ref ka) (.int (1+m))))->Q .non H'
def qeI(a:Ad):Sp:=fun vs H Q E=>∃(g dx:Addr)(n:Int),vs=[.ref g,.int n]/\H g=some (.ins a.Begun dx []) /\
 ∀H' la na,(∀b o,H b=some o->b≠g->H' b=some o)->H la=none->H na=none->la≠na->H' g=some (.ins a.Begun dx (qey (.int n) (.ref la) (.ref na)))->H' la=some (.lst [])->H' na=some (.dT [])->Q .non H'
section
variable{P:Program}{w:World}{K:γ}{mg:Str->Option Value}{base:Heap}{f:Addr}{fd:FuncData}{a:Ad}
theorem qaf:qm ["self","kind","labels","kids","kid"] ["self","kind","labels","kids"] (qe QK):=⟨rfl,rfl,rfl,by decide +kernel,rfl,by decide +kernel,by decide +kernel⟩
theorem qha(F:Fun K "__init__" "Node.__init__" QK f fd)(T:Tx P w K mg a):qw P w K mg base CX0 1 f fd ["self","kind","labels","kids"] (qg9 a):=by
 refine F.ok qaf (fun vs H Q E h=>?_) (fun cdv A outer s H vs Q E hr h=>?_)
 ·obtain⟨t,dx,ka,k,l,ks,ds,rfl,_⟩:=h;rfl
 ·obtain⟨t,dx,ka,kk,l,ks,ds,rfl,ht,hka,hks,hlen,k⟩:=h
  refine⟨_,qi (zA (pv 0) (pv 1) rfl) (qi (zA (pv 0) (pv 2) rfl) (qi (zA (pv 0) (pv 3) rfl)
   (qf (zA (pv 0) (j8 Z1 qr (qnw rfl (by rfl) T.b_max (qf4 (own:=[("kid",4)]) (te:=qaq K (zt 4) "depth") rfl qaf.nd (Jf (pv 3)) (J6 rfl) (fun _ _ _ _ _=>jd (i:=4) qaf.nd rfl (Or.inl rfl)) (fun _ _ _ _ _=>qaH) (fun _ _ _ _ _=>qj (pv 4) rfl)))) rfl)))),?_⟩
  have tka:ka≠t:=qcH hka ht (by intro q;cases q);refine⟨_,rfl,_,rfl,t,_,dx,_,rfl,ht,T.Yac,T.YaI,(by show 0<1000;decide),?_⟩;refine⟨_,rfl,_,rfl,t,_,dx,_,rfl,qc,T.Yac,T.YaJ,(by show 1<1000;decide),?_⟩;refine⟨_,rfl,_,rfl,t,_,dx,_,rfl,qc,T.Yac,T.YaH,(by show 2<1000;decide),?_⟩;rw[jX,jX];generalize hH1:upd H t (.ins a.Node dx (zd "kids" (.ref ka) (zd "labels" l (zd "kind" kk []))))=H1;have k1:∀b o,H b=some o->b≠t->H1 b=some o:=fun b o e n=>by rw[<- hH1,qd n];exact e
  have ht1:H1 t=some (.ins a.Node dx (zd "kids" (.ref ka) (zd "labels" l (zd "kind" kk [])))):=by rw[<- hH1];exact qc
  have hka1:=k1 _ _ hka tka;refine⟨_,rfl,ka,rfl,⟨_,SqL.of hka1⟩,fun D hD=>qig (K:=K) (a:=ka) (xs:=ks.map V.ref) (fun i H'=>H'=upd H1 D (.lst ((ds.take i).map V.int))) rfl (fun i H' _ e=>by subst e;exact SqL.of (qo hD _ _ hka1)) ?_ ?_⟩
  ·rintro i x _ hx rfl;obtain⟨kd,hkd,rfl⟩:∃y,ks[i]?=some y/\V.ref y=x:=by rw[Ω]at hx;exact Ybu.mp hx
   have hil:i<ks.length:=(Δ.mp hkd).1;have hdl:i<ds.length:=by rw[<- Paired.length hks];exact hil
   obtain⟨kd',h1,dx',x1,y1,z1,h2⟩:=zM hks (Θ hdl);rw[hkd]at h1;cases h1
   have nt':kd≠t:=fun e=>by
    subst e;rw[ht]at h2;have:=Option.some.inj h2;injection this with _ _ e3
    cases e3
   refine⟨rfl,⟨_,rfl,kd,_,dx',_,_,rfl,qo hD _ _ (k1 _ _ h2 nt'),T.Yac,T.YaG,qdY _ _ _ _,_,qc,?_,?_⟩⟩
   ·rw[τ,Ybz];exact Ycn (Nat.min_le_left _ _) (jI (by omega))
   ·rw[jX];congr 2;rw[Ydi,Θ hdl,Ybv];rfl
  ·rintro _ rfl;rw[τ,Paired.length hks,Ycm];have s2:=qo (o:=.lst (ds.map V.int)) hD;refine⟨D,ds,rfl,SqL.of qc,fun m h1 h2=>⟨_,_,rfl,rfl,_,rfl,t,_,dx,_,rfl,s2 _ _ ht1,T.Yac,T.YaG,(by show 3<1000;decide),?_⟩⟩;refine k _ m (fun b o e n=>?_) h1 h2 ?_
   ·rw[qd n];exact s2 _ _ (k1 b o e n)
   ·exact qc
theorem qfW:qm ["self","first"] ["self","first"] (qe QA):=⟨rfl,rfl,rfl,by decide +kernel,rfl,by decide +kernel,by decide +kernel⟩
theorem qfX(F:Fun K "__init__" "Begun.__init__" QA f fd)(T:Tx P w K mg a):qw P w K mg base CX0 1 f fd ["self","first"] (qeI a):=by
 refine F.ok qfW (fun vs H Q E h=>?_) (fun cdv A outer s H vs Q E hr h=>?_)
 ·obtain⟨g,dx,n,rfl,_⟩:=h;rfl
 ·obtain⟨g,dx,n,rfl,hg,k⟩:=h;refine⟨_,qi (zA (pv 0) (pv 1) rfl) (qi (zA (pv 0) (za qh) rfl) (qf (zA (pv 0) qlH rfl))),?_⟩;refine⟨_,rfl,_,rfl,g,_,dx,_,rfl,hg,T.Yaa,T.Yau,(by show 0<1000;decide),?_⟩;refine⟨ό _,fun la hla=>?_⟩;have gla:g≠la:=qg qc hla;rw[qd (Ne.symm gla)]at hla;refine⟨_,rfl,g,_,dx,_,rfl,(qd gla).trans qc,T.Yaa,T.Yav,(by show 1<1000;decide),fun na hna=>?_⟩;have gna:g≠na:=qg qc hna;rw[qd (Ne.symm gna)]at hna;have lna:la≠na:=qg qc hna;rw[qd (Ne.symm lna),qd (Ne.symm gna)]at hna;refine⟨_,rfl,g,_,dx,_,rfl,(qd gna).trans qc,T.Yaa,T.Yaw,(by show 2<1000;decide),?_⟩;refine k _ la na (fun b o e n=>?_) hla hna lna qc ?_ ?_
  ·rw[qd n,qd (qg e hna),qd n,qd (qg e hla),qd n];exact e
  ·rw[qd (Ne.symm gla),qd lna,qd (Ne.symm gla),qc]
  ·rw[qd (Ne.symm gna),qc]
end
end RT
end
section
namespace RT
open PySem PySem.Spec PyProof.Rows L2
open Vastoa (Mark Marks)
open RM (Part Sym qH kd held MS Bg)
noncomputable def keyOf(x:List Nat):List Key:=x.map fun n=>Sum.inl ((n:Nat):Int)
theorem qme(x:List Nat):(keyOf x).map kV=nt x:=by simp[keyOf,nt,kV]
theorem qkO{x y:List Nat}(h:keyOf x=keyOf y):x=y:=by unfold keyOf at h;exact(Ydj (fun p q z=>by have:=Sum.inl.inj z;omega)).mp h
noncomputable def ZA(ns:List (List Nat)):List (List Key×V):=ns.map fun x=>(keyOf x,V.bl true)
theorem qct(x:List Nat):∀ns:List (List Nat),zB (ZA ns) (keyOf x)=if x∈ns then some (.bl true)else none
 |[]=>rfl
 |y::ns=>by
  have ih:=qct x ns;unfold ZA at ih ⊢;by_cases h:y=x
  ·subst h;rw[Ybp,J7 rfl,if_pos π]
  ·rw[Ybp,J8 (fun z=>h (qkO z)),ih];by_cases h2:x∈ns
   ·rw[if_pos h2,if_pos (ρ _ h2)]
   ·rw[if_neg h2,if_neg (by rw[Γ];exact fun z=>z.elim (fun z=>h z.symm) h2)]
theorem qkP{x:List Nat}{ns:List (List Nat)}(h:x∉ns):putK (ZA ns) (keyOf x) (.bl true)=ZA (ns++[x]):=by
 have e:zB (ZA ns) (keyOf x)=none:=by rw[qct,if_neg h]
 refine(qlF _ e).trans ?_;simp[ZA]
def qkQ(a:Ad)(K:γ):Sp:=fun vs H Q E=>∃(na t:Addr)(ns:List (List Nat))(m:Mark),vs=[.ref na,.ref t]/\H na=some (.dT (ZA ns))/\Qp a M0 H t m/\ns.length<=1000000 /\
 (held m.tok∈ns->XW K a.Refusal H 5 m.place E)/\(held m.tok∉ns->∀H',(∀b o,H b=some o->b≠na->H' b=some o)->H' na=some (.dT (ZA (ns++[held m.tok])))->Q .non H')
section
variable{P:Program}{w:World}{K:γ}{mg:Str->Option Value}{base:Heap}{f:Addr}{fd:FuncData}{a:Ad}
theorem qcu:qm ["names","token","name"] ["names","token"] (qe QR):=⟨rfl,rfl,rfl,by decide +kernel,rfl,by decide +kernel,by decide +kernel⟩
theorem qhb(F:Fun K "meet_name" "meet_name" QR f fd)(T:Tx P w K mg a)(Gx:QZ P w K mg base 2 a.NameTwice "NameTwice" ["self","place"] (spX a.NameTwice 5 true)):qw P w K mg base (CXR P w) 4 f fd ["names","token"] (qkQ a K):=by
 refine F.okR qcu (fun vs H Q E h=>?_) (fun cdv A outer s H vs Q E hr h=>?_)
 ·obtain⟨na,t,ns,m,rfl,_⟩:=h;rfl
 ·obtain⟨na,t,ns,m,rfl,hna,⟨dx,ha,ht,hha,_,_⟩,hlen,kx,ko⟩:=h;have hu:=qpf hr
  refine⟨_,qi (qW (i:=2) qcu.nd rfl (Or.inl rfl) (qj0 qfM (by rfl) T.b_tuple PyProof.Rows.boot_tuple (qa (qj (pv 1) rfl) qh)))
   (qi (qR (qge (qoh hu (pv 2) (pv 0))) (qf (Qn Gx hr (qa (qj (pv 1) rfl) qh))) zh)
   (qf (qnd hu (pv 0) (pv 2) qa1 rfl))),?_⟩
  refine⟨_,rfl,t,_,dx,_,_,rfl,ht,T.Yae,T.YaU,qfx _ _ _,ha,_,rfl,.inl ⟨SqL.of hha,fun p hp=>?_⟩⟩;have s1:=qo (o:=.tup (nt (held m.tok))) hp;have hp1:(upd H p (.tup (nt (held m.tok)))) p=some (.tup ((keyOf (held m.tok)).map kV)):=by rw[qme];exact qc
  refine⟨_,rfl,_,rfl,na,_,rfl,qgp.t (s1 _ _ hna) hp1,_,rfl,?_⟩;rw[qct];by_cases hm:held m.tok∈ns
  ·rw[if_pos hm];refine zT ⟨_,rfl,t,_,dx,_,_,rfl,s1 _ _ ht,T.Yae,T.YaW,qbk _ _ _,?_⟩;exact Zq T.Ybd T.Ya6 T.YaE T.YaF (fun C dx' H' s2 x=>kx hm C dx' H' (s1.trans s2) x)
  ·rw[if_neg hm];refine zz ⟨_,rfl,_,rfl,na,_,rfl,qgq.t (s1 _ _ hna) hp1 (by unfold ZA;rw[τ];exact jI hlen),?_⟩;rw[qkP hm];refine ko hm _ (fun b o e n=>?_) qc;rw[qd n];exact s1 _ _ e
end
end RT
end
section
namespace RT
open PySem PySem.Spec PyProof.Rows L2
open Vastoa (Mark Marks)
open RM (Part Sym qH kd held MS Bg)
structure BA where
 g:Addr
 la:Addr
 na:Addr
structure RA where
 r:Addr
 dx:Addr
 ts:Addr
 wl:Addr
 bl:Addr
 gl:Addr
 gs:List BA
noncomputable def QW(gs:List BA):List Addr:=gs.flatMap fun x=>[x.la,x.na]
def RA.own (z:RA):List Addr:=z.wl::z.bl::z.gl::QW z.gs
def RA.M (z:RA) (b:Addr):Prop:=b=z.r\/b∈z.own
theorem RA.mr (z:RA):z.M z.r:=.inl rfl
theorem RA.mw (z:RA):z.M z.wl:=.inr π
theorem RA.mb (z:RA):z.M z.bl:=.inr (ρ _ π)
theorem RA.mg (z:RA):z.M z.gl:=.inr (ρ _ (ρ _ π))
theorem zY{gs:List BA}{x:BA}(h:x∈gs):x.la∈QW gs/\x.na∈QW gs:=⟨YcZ.mpr ⟨x,h,by simp⟩,YcZ.mpr ⟨x,h,by simp⟩⟩
theorem RA.mo (z:RA) {b:Addr} (h:b∈QW z.gs):z.M b:=.inr (ρ _ (ρ _ (ρ _ h)))
theorem QG{A B:Type}{R S:A->B->Prop}:∀{as:List A}{bs:List B},(∀x y,x∈as->R x y->S x y)->Paired R as bs->Paired S as bs
 |_,_,_,.nil=>.nil
 |_,_,i,.cons q t=>.cons (i _ _ π q) (QG (fun x y h=>i x y (ρ _ h)) t)
def qcv(a:Ad)(M:Addr->Prop)(H:Hp)(x:BA)(g:Bg):Prop:=∃dx lb,(H x.g=some (.ins a.Begun dx (qey (.int (g.first:Int)) (.ref x.la) (.ref x.na)))/\¬M x.g)/\H x.la=some (.lst (lb.map V.ref))/\qaT M H lb g.labels/\H x.na=some (.dT (ZA g.names))
structure qU(a:Ad)(H:Hp)(z:RA)(toks:Marks)(n:Nat)(S:MS):Prop where
 ins:H z.r=some (.ins a.Reader z.dx (Zt (.ref z.ts) (.int (n:Int)) (.int (S.lv:Int)) (.ref z.wl) (.ref z.bl) (.ref z.gl)))
 tks:∃as,(H z.ts=some (.lst (as.map V.ref))/\¬z.M z.ts)/\Paired (Qp a z.M H) as toks
 wl:H z.wl=some (.lst (S.W.reverse.map fun s=>V.str (Qr s)))
 bl:∃bs,H z.bl=some (.lst (bs.map V.ref))/\qA a z.M H S.B bs
 gl:H z.gl=some (.lst ((z.gs.map (·.g)).reverse.map V.ref))
 gs:Paired (qcv a z.M H) z.gs S.G
 nd:z.own.Nodup
 ts:S.ts=toks.drop n
 pv:atI toks ((n:Int) - 1)=some S.pv
section
variable{a:Ad}{H H':Hp}{z:RA}{toks:Marks}{n:Nat}{S:MS}
theorem qcv.pass {M M':Addr->Prop} {x:BA} {g:Bg} (p:Pass M H M' H') (h:qcv a M H x g) (h1:H' x.la=H x.la) (h2:H' x.na=H x.na):qcv a M' H' x g:=by obtain⟨dx,lb,q1,q2,q3,q4⟩:=h;exact⟨dx,lb,p _ _ q1.1 q1.2,by rw[h1];exact q2,q3.pass p,by rw[h2];exact q4⟩
theorem qU.own_some (h:qU a H z toks n S) {b:Addr} (hb:b∈z.own):∃o,H b=some o/\∀C d fs,o≠.ins C d fs:=by
 rcases Γ.mp hb with rfl|hb
 ·exact⟨_,h.wl,fun _ _ _ q=>by cases q⟩
 rcases Γ.mp hb with rfl|hb
 ·obtain⟨bs,h1,_⟩:=h.bl;exact⟨_,h1,fun _ _ _ q=>by cases q⟩
 rcases Γ.mp hb with rfl|hb
 ·exact⟨_,h.gl,fun _ _ _ q=>by cases q⟩
 obtain⟨x,hx,hb⟩:=YcZ.mp hb;obtain⟨i,hi⟩:=YcG hx;have hl:=(Δ.mp hi).1;have hlG:i<S.G.length:=by rw[<- Paired.length h.gs];exact hl
 obtain⟨x',e1,dx,lb,_,q2,_,q4⟩:=zM h.gs (Θ hlG);rw[hi]at e1;cases e1;rcases Γ.mp hb with rfl|hb
 ·exact⟨_,q2,fun _ _ _ q=>by cases q⟩
 ·have:b=x.na:=by simpa using hb
  subst this;exact⟨_,q4,fun _ _ _ q=>by cases q⟩
theorem qU.fresh (h:qU a H z toks n S) {p:Addr} (hp:H p=none):¬z.M p:=by
 rintro(rfl|hb)
 ·rw[h.ins]at hp;cases hp
 ·obtain⟨o,e,_⟩:=h.own_some hb;rw[e]at hp;cases hp
theorem qU.nr (h:qU a H z toks n S) {b:Addr} (hb:b∈z.own):b≠z.r:=fun e=>by obtain⟨o,e1,e2⟩:=h.own_some hb;rw[e,h.ins]at e1;cases e1;exact e2 _ _ _ rfl
theorem jV{M:Addr->Prop}(s:qB H H'):Pass M H M H':=fun b o e n=>⟨s b o e,n⟩
theorem jW{M:Addr->Prop}(k:qp M H H'):Pass M H M H':=fun b o e n=>⟨k b o e n,n⟩
theorem qU.same (h:qU a H z toks n S) (s:qB H H'):qU a H' z toks n S:=by obtain⟨as,t1,t2⟩:=h.tks;obtain⟨bs,b1,b2⟩:=h.bl;have p:Pass z.M H z.M H':=jV s;refine⟨s _ _ h.ins,⟨as,⟨s _ _ t1.1,t1.2⟩,qZ (fun x y q=>q.pass p) t2⟩,s _ _ h.wl,⟨bs,s _ _ b1,qA.pass p _ _ b2⟩,s _ _ h.gl,qZ (fun x y q=>?_) h.gs,h.nd,h.ts,h.pv⟩;obtain⟨dx,lb,q1,q2,q3,q4⟩:=q;exact⟨dx,lb,p _ _ q1.1 q1.2,s _ _ q2,q3.pass p,s _ _ q4⟩
theorem qU.put (h:qU a H z toks n S) (n' lv':Nat) (ts':Marks) (pv':Mark) (ht:ts'=toks.drop n') (hp:atI toks ((n':Int) - 1)=some pv'):
  qU a (upd H z.r (.ins a.Reader z.dx (Zt (.ref z.ts) (.int (n':Int)) (.int (lv':Int)) (.ref z.wl) (.ref z.bl) (.ref z.gl)))) z toks n' {S with ts:=ts',pv:=pv',lv:=lv'}:=by
 obtain⟨as,t1,t2⟩:=h.tks;obtain⟨bs,b1,b2⟩:=h.bl;have k:qp z.M H (upd H z.r (.ins a.Reader z.dx (Zt (.ref z.ts) (.int (n':Int)) (.int (lv':Int)) (.ref z.wl) (.ref z.bl) (.ref z.gl)))):=qp.at_ z.mr;have p:=jW k;have o:∀b,b∈z.own->(upd H z.r (.ins a.Reader z.dx (Zt (.ref z.ts) (.int (n':Int)) (.int (lv':Int)) (.ref z.wl) (.ref z.bl) (.ref z.gl)))) b=H b:=fun b hb=>qd (h.nr hb);refine⟨qc,⟨as,p _ _ t1.1 t1.2,qZ (fun x y q=>q.pass p) t2⟩,?_,⟨bs,?_,qA.pass p _ _ b2⟩,?_,?_,h.nd,ht,hp⟩
 ·rw[o _ (by simp[RA.own])];exact h.wl
 ·rw[o _ (by simp[RA.own])];exact b1
 ·rw[o _ (by simp[RA.own])];exact h.gl
 ·refine QG (fun x y hx q=>q.pass p (o _ ?_) (o _ ?_)) h.gs
  ·simp only[RA.own,Γ];exact .inr (.inr (.inr (zY hx).1))
  ·simp only[RA.own,Γ];exact .inr (.inr (.inr (zY hx).2))
end
end RT
end
section
namespace RT
open PySem PySem.Spec PyProof.Rows L2
open Vastoa (Mark Marks)
open RM (Part Sym qH kd held MS Bg)
noncomputable def wV(W:List Sym):List V:=W.reverse.map fun s=>V.str (Qr s)
section
variable{a:Ad}{H H':Hp}{z:RA}{toks:Marks}{n:Nat}{S:MS}
theorem qU.nwl (h:qU a H z toks n S):z.wl≠z.bl/\z.wl≠z.gl/\z.wl∉QW z.gs:=by have:=Ybn.mp h.nd;simp only[Γ,not_or]at this;exact⟨this.1.1,this.1.2.1,this.1.2.2⟩
theorem qU.nbl (h:qU a H z toks n S):z.bl≠z.gl/\z.bl∉QW z.gs:=by have:=Ybn.mp (Ybn.mp h.nd).2;simp only[Γ,not_or]at this;exact this.1
theorem qU.ngl (h:qU a H z toks n S):z.gl∉QW z.gs/\(QW z.gs).Nodup:=Ybn.mp (Ybn.mp (Ybn.mp h.nd).2).2
theorem qU.ow (z:RA):z.wl∈z.own:=by simp[RA.own]
theorem qU.ob (z:RA):z.bl∈z.own:=by simp[RA.own]
theorem qU.og (z:RA):z.gl∈z.own:=by simp[RA.own]
theorem qU.oo (z:RA) {b:Addr} (h:b∈QW z.gs):b∈z.own:=by simp only[RA.own,Γ];exact .inr (.inr (.inr h))
theorem qU.putW (h:qU a H z toks n S) (W':List Sym):qU a (upd H z.wl (.lst (wV W'))) z toks n {S with W:=W'}:=by
 obtain⟨as,t1,t2⟩:=h.tks;obtain⟨bs,b1,b2⟩:=h.bl;obtain⟨n1,n2,n3⟩:=h.nwl;have k:qp z.M H (upd H z.wl (.lst (wV W'))):=qp.at_ z.mw;have p:=jW k;refine⟨by rw[qd (Ne.symm (h.nr (qU.ow z)))];exact h.ins,⟨as,p _ _ t1.1 t1.2,qZ (fun x y q=>q.pass p) t2⟩,qc,⟨bs,by rw[qd (Ne.symm n1)];exact b1,qA.pass p _ _ b2⟩,by rw[qd (Ne.symm n2)];exact h.gl,?_,h.nd,h.ts,h.pv⟩;refine QG (fun x y hx q=>q.pass p (qd ?_) (qd ?_)) h.gs
 ·exact fun e=>n3 (e▸(zY hx).1)
 ·exact fun e=>n3 (e▸(zY hx).2)
theorem qU.putB (h:qU a H z toks n S) {bs:List Addr} {B':List Vastoa.Tree} (hb:qA a z.M H B' bs):qU a (upd H z.bl (.lst (bs.map V.ref))) z toks n {S with B:=B'}:=by
 obtain⟨as,t1,t2⟩:=h.tks;obtain⟨n1,n2,n3⟩:=h.nwl;obtain⟨m1,m2⟩:=h.nbl;have k:qp z.M H (upd H z.bl (.lst (bs.map V.ref))):=qp.at_ z.mb;have p:=jW k;refine⟨by rw[qd (Ne.symm (h.nr (qU.ob z)))];exact h.ins,⟨as,p _ _ t1.1 t1.2,qZ (fun x y q=>q.pass p) t2⟩,by rw[qd n1];exact h.wl,⟨bs,qc,qA.pass p _ _ hb⟩,by rw[qd (Ne.symm m1)];exact h.gl,?_,h.nd,h.ts,h.pv⟩;refine QG (fun x y hx q=>q.pass p (qd ?_) (qd ?_)) h.gs
 ·exact fun e=>m2 (e▸(zY hx).1)
 ·exact fun e=>m2 (e▸(zY hx).2)
end
def Q1(a:Ad)(K:γ)(z:RA)(toks:Marks)(H:Hp)(r:Option (Except Vastoa.Fault MS))(Q:Hp->Prop)(E:XK):Prop:=match r with
 |some (.ok S')=>∀H' z' n',z'.r=z.r->Pass z.M H z'.M H'->qU a H' z' toks n' S'->Q H'
 |some (.error f)=>XWM z.M K a.Refusal H (f.kind:Int) (f.place:Int) E
 |none=>False
def qfC(a:Ad)(K:γ):Sp:=fun vs H Q E=>∃(z:RA)(toks:Marks)(n:Nat)(S:MS)(k:qcn)(m:Mark)(r:Marks),vs=[.ref z.r,.str (j9 k)]/\qU a H z toks n S/\k∈j4/\CM.Jy m.tok=true/\S.ts=m::r /\
 Q1 a K z toks H (if kd m.tok=k then some (.ok ⟨r,m,S.lv,S.W,S.B,S.G⟩)else some (.error ⟨3,m.place⟩)) (Q .non) E
def qit(a:Ad)(K:γ):Sp:=fun vs H Q E=>∃(z:RA)(toks:Marks)(n:Nat)(S:MS),vs=[.ref z.r]/\qU a H z toks n S/\Q1 a K z toks H (RM.qbe .enter S.ts S.pv S.lv S.W S.B S.G) (Q .non) E
theorem qbt{toks:Marks}{n:Nat}{m:Mark}{r:Marks}(h:m::r=toks.drop n):toks[n]?=some m/\toks.drop (n+1)=r:=by
 constructor
 ·have:(toks.drop n)[0]?=some m:=by rw[<- h];rfl
  rw[YcQ]at this;exact this
 ·rw[<- YcF,<- h];rfl
theorem JU{M M1 M2:Addr->Prop}{H H1 H2:Hp}(p:Pass M H M1 H1)(q:Pass M1 H1 M2 H2):Pass M H M2 H2:=fun b o e n=>q b o (p b o e n).1 (p b o e n).2
section
variable{P:Program}{w:World}{K:γ}{mg:Str->Option Value}{base:Heap}{f:Addr}{fd:FuncData}{a:Ad}
theorem qbH:qm ["self","kind","token"] ["self","kind"] (qe z8):=⟨rfl,rfl,rfl,by decide +kernel,rfl,by decide +kernel,by decide +kernel⟩
theorem qfY(F:Fun K "read_token" "Reader.read_token" z8 f fd)(T:Tx P w K mg a)(Gx:QZ P w K mg base 2 a.WrongSyntax "WrongSyntax" ["self","place"] (spX a.WrongSyntax 3 true)):qw P w K mg base (CXR P w) 4 f fd ["self","kind"] (qfC a K):=by
 refine F.okR qbH (fun vs H Q E h=>?_) (fun cdv A outer s H vs Q E hr h=>?_)
 ·obtain⟨z,toks,n,S,k,m,r,rfl,_⟩:=h;rfl
 ·obtain⟨z,toks,n,S,k,m,r,rfl,hR,hk,hm,hts,res⟩:=h
  refine⟨_,qi (qW (i:=2) qbH.nd rfl (Or.inl rfl) (jp zu (qj (pv 0) rfl) (qj (pv 0) rfl) (fun _ _=>rfl)))
   (qi (qR (qK qo7 (qj (pv 2) rfl) (pv 1) (qX _)) (qf (Qn Gx hr (qa (qj (pv 2) rfl) qh))) zh)
   (qf (QC (pv 0) qr J4))),?_⟩
  obtain⟨as,t1,t2⟩:=hR.tks;obtain⟨e1,e2⟩:=qbt (hts.symm.trans hR.ts);obtain⟨t,ht,dx,ha,ht1,ht2,_,_⟩:=zM t2 e1;refine⟨_,rfl,z.r,_,z.dx,_,_,rfl,hR.ins,T.Yad,T.YaO,Zy _ _ _ _ _ _,_,rfl,z.r,_,z.dx,_,_,rfl,hR.ins,T.Yad,T.YaK,JZ _ _ _ _ _ _,z.ts,_,_,_,rfl,rfl,SqL.of t1.1,jM (v:=V.ref t) (by rw[Ω,ht];rfl),?_⟩;refine⟨_,rfl,t,_,dx,_,_,rfl,ht1,T.Yae,T.YaV,qfw _ _ _,_,rfl,rfl,_,rfl,?_⟩
  have iff:(V.str (j9 m.tok)=V.str (j9 k))↔kd m.tok=k:=by
   constructor
   ·intro e;injection e with e
    rw[<- qeG]at e;exact qmc _ (qbq hm) _ hk e
   ·intro e;rw[<- e,qeG]
  by_cases hkd:kd m.tok=k
  ·rw[decide_eq_true (iff.mpr hkd)];rw[if_pos hkd]at res;refine zz ⟨_,rfl,z.r,_,z.dx,_,_,rfl,hR.ins,T.Yad,T.YaK,JZ _ _ _ _ _ _,_,_,rfl,rfl,z.dx,_,hR.ins,(by show 6<1000;decide),?_⟩;exact res _ z (n+1) rfl (jW (qp.at_ z.mr)) (hR.put (n+1) S.lv r m e2.symm (by rw[show(((n+1:Nat):Int) - 1)=(n:Int) by omega];exact jM e1))
  ·rw[decide_eq_false (fun y=>hkd (iff.mp y))];rw[if_neg hkd]at res;refine zT ⟨_,rfl,t,_,dx,_,_,rfl,ht1,T.Yae,T.YaW,qbk _ _ _,?_⟩;exact Zq T.Ybh T.Yba T.YaZ T.Ya0 (XWM.on res (qp.refl _ _))
theorem qeJ:qm ["self"] ["self"] (qe zX):=⟨rfl,rfl,rfl,by decide +kernel,rfl,by decide +kernel,by decide +kernel⟩
theorem qeK(F:Fun K "enter_level" "Reader.enter_level" zX f fd)(T:Tx P w K mg a)(Gx:QZ P w K mg base 2 a.LevelTooDeep "LevelTooDeep" ["self","place"] (spX a.LevelTooDeep 4 true)):qw P w K mg base (CXR P w) 4 f fd ["self"] (qit a K):=by
 refine F.okR qeJ (fun vs H Q E h=>?_) (fun cdv A outer s H vs Q E hr h=>?_)
 ·obtain⟨z,toks,n,S,rfl,_⟩:=h;rfl
 ·obtain⟨z,toks,n,S,rfl,hR,res⟩:=h
  refine⟨_,qi (qR (qK jb (qj (pv 0) rfl) (qM T.g_MOST_LEVELS) (qX _)) (qf (Qn Gx hr (qa (qj (jp zu (qj (pv 0) rfl) (qj (pv 0) rfl) (fun _ _=>rfl)) rfl) qh))) zh)
   (qf (QC (pv 0) qr J4)),?_⟩
  refine⟨_,rfl,z.r,_,z.dx,_,_,rfl,hR.ins,T.Yad,T.YaN,qbm _ _ _ _ _ _,rfl,_,rfl,?_⟩;cases hS:S.ts with
  |nil=>rw[hS]at res;exact res.elim
  |cons m r=>
   rw[hS]at res;obtain⟨as,t1,t2⟩:=hR.tks;obtain⟨e1,e2⟩:=qbt (hS.symm.trans hR.ts);obtain⟨t,ht,dx,ha,ht1,ht2,_,_⟩:=zM t2 e1;by_cases hl:S.lv=40
   ·rw[decide_eq_true (by rw[hl];rfl)];have res:Q1 a K z toks H (if S.lv=40 then some (.error ⟨4,m.place⟩)else _) (Q .non) E:=res;rw[if_pos hl]at res;refine zT ⟨_,rfl,z.r,_,z.dx,_,_,rfl,hR.ins,T.Yad,T.YaO,Zy _ _ _ _ _ _,_,rfl,z.r,_,z.dx,_,_,rfl,hR.ins,T.Yad,T.YaK,JZ _ _ _ _ _ _,z.ts,_,_,_,rfl,rfl,SqL.of t1.1,jM (v:=V.ref t) (by rw[Ω,ht];rfl),t,_,dx,_,_,rfl,ht1,T.Yae,T.YaW,qbk _ _ _,?_⟩;exact Zq T.Ybc T.Ya5 T.YaC T.YaD (XWM.on res (qp.refl _ _))
   ·rw[decide_eq_false (fun y=>hl (by injection y with y;omega))];have res:Q1 a K z toks H (if S.lv=40 then some (.error ⟨4,m.place⟩)else some (.ok ⟨m::r,S.pv,S.lv+1,S.W,S.B,S.G⟩)) (Q .non) E:=res;rw[if_neg hl]at res;refine zz ⟨_,rfl,z.r,_,z.dx,_,_,rfl,hR.ins,T.Yad,T.YaN,qbm _ _ _ _ _ _,_,_,rfl,rfl,z.dx,_,hR.ins,(by show 6<1000;decide),?_⟩;exact res _ z n rfl (jW (qp.at_ z.mr)) (hR.put n (S.lv+1) (m::r) S.pv (by rw[<- hS];exact hR.ts) hR.pv)
end
end RT
end
section
namespace RT
open PySem PySem.Spec PyProof.Rows L2
open Vastoa (Mark Marks)
open RM (Part Sym qH kd held MS Bg)
theorem qc9{A B:Type}{R:A->B->Prop}:∀{as:List A}{bs:List B}(n:Nat),Paired R as bs->Paired R (as.take n) (bs.take n)
 |_,_,0,_=>.nil
 |_,_,_+1,.nil=>.nil
 |_,_,n+1,.cons q t=>.cons q (qc9 n t)
theorem qda{A B:Type}{R:A->B->Prop}:∀{as:List A}{bs:List B}(n:Nat),Paired R as bs->Paired R (as.drop n) (bs.drop n)
 |_,_,0,r=>r
 |_,_,_+1,.nil=>.nil
 |_,_,n+1,.cons q t=>qda n t
theorem qU.pop {a:Ad} {H:Hp} {z:RA} {toks:Marks} {n:Nat} {S:MS} {x:BA} {gs:List BA} {g:Bg} {G:List Bg} (h:qU a H z toks n S) (ez:z.gs=x::gs) (eG:S.G=g::G):
  qU a (upd H z.gl (.lst ((gs.map (·.g)).reverse.map V.ref))) {z with gs:=gs} toks n {S with G:=G}/\Pass z.M H ({z with gs:=gs}:RA).M (upd H z.gl (.lst ((gs.map (·.g)).reverse.map V.ref))) /\
  qcv a ({z with gs:=gs}:RA).M (upd H z.gl (.lst ((gs.map (·.g)).reverse.map V.ref))) x g/\¬({z with gs:=gs}:RA).M x.la:=by
 obtain⟨as,t1,t2⟩:=h.tks;obtain⟨bs,b1,b2⟩:=h.bl;obtain⟨n1,n2,n3⟩:=h.nwl;obtain⟨m1,m2⟩:=h.nbl;obtain⟨g1,g2⟩:=h.ngl;have hgs:=h.gs;rw[ez]at n3 m2 g1 g2 hgs;rw[eG]at hgs;have eo:QW (x::gs)=x.la::x.na::QW gs:=rfl;rw[eo]at n3 m2 g1 g2;simp only[Γ,not_or]at n3 m2 g1;obtain⟨nd1,nd2⟩:=Ybn.mp g2;obtain⟨nd3,nd4⟩:=Ybn.mp nd2;simp only[Γ,not_or]at nd1
 have sub:∀b,({z with gs:=gs}:RA).M b->z.M b:=fun b hb=>by
  rcases hb with hb|hb
  ·exact .inl hb
  ·refine .inr ?_;simp only[RA.own,Γ]at hb ⊢;rcases hb with hb|hb|hb|hb
   ·exact .inl hb
   ·exact .inr (.inl hb)
   ·exact .inr (.inr (.inl hb))
   ·refine .inr (.inr (.inr ?_));rw[ez,eo];exact ρ _ (ρ _ hb)
 have k:qp z.M H (upd H z.gl (.lst ((gs.map (·.g)).reverse.map V.ref))):=qp.at_ z.mg;have p:Pass z.M H ({z with gs:=gs}:RA).M (upd H z.gl (.lst ((gs.map (·.g)).reverse.map V.ref))):=fun b o e nb=>⟨k b o e nb,fun y=>nb (sub b y)⟩;have hr:∀b,b∈z.own->b≠z.r:=fun b hb=>h.nr hb;cases hgs with
 |cons q0 qs=>
  refine⟨⟨?_,⟨as,p _ _ t1.1 t1.2,qZ (fun x y q=>q.pass p) t2⟩,?_,⟨bs,?_,qA.pass p _ _ b2⟩,qc,?_,?_,h.ts,h.pv⟩,p,?_,?_⟩
  ·show upd H z.gl _ z.r=_;rw[qd (Ne.symm (h.nr (qU.og z)))];exact h.ins
  ·show upd H z.gl _ z.wl=_;rw[qd n2];exact h.wl
  ·show upd H z.gl _ z.bl=_;rw[qd m1];exact b1
  ·refine QG (fun x y hx q=>q.pass p (qd ?_) (qd ?_)) qs
   ·exact fun e=>g1.2.2 (e▸(zY hx).1)
   ·exact fun e=>g1.2.2 (e▸(zY hx).2)
  ·show(z.wl::z.bl::z.gl::QW gs).Nodup;exact Ybn.mpr ⟨by simp only[Γ,not_or];exact⟨n1,n2,n3.2.2⟩,Ybn.mpr ⟨by simp only[Γ,not_or];exact⟨m1,m2.2.2⟩,Ybn.mpr ⟨g1.2.2,nd4⟩⟩⟩
  ·exact q0.pass p (qd (Ne.symm g1.1)) (qd (Ne.symm g1.2.1))
  ·rintro(y|y)
   ·obtain⟨dx,lb,_,q2,_,_⟩:=q0;rw[y,h.ins]at q2;cases q2
   ·simp only[RA.own,Γ]at y;rcases y with y|y|y|y
    ·exact n3.1 y.symm
    ·exact m2.1 y.symm
    ·exact g1.1 y.symm
    ·exact nd1.2 y
def qfD(a:Ad):Sp:=fun vs H Q E=>∃(z:RA)(toks:Marks)(n:Nat)(S:MS)(k:qf8)(g:Bg)(G:List Bg),vs=[.ref z.r,.str (kindS k)]/\qU a H z toks n S/\S.B.length<=1000000/\S.G=g::G/\g.first<=S.B.length /\
 ∀H' z',z'.r=z.r->Pass z.M H z'.M H'->qU a H' z' toks n ⟨S.ts,S.pv,S.lv,S.W,S.B.take g.first++[.node k g.labels (S.B.drop g.first)],G⟩->Q .non H'
section
variable{P:Program}{w:World}{K:γ}{mg:Str->Option Value}{base:Heap}{f:Addr}{fd:FuncData}{a:Ad}
theorem qaC:qm ["self","kind","begun","kids"] ["self","kind"] (qe jv):=⟨rfl,rfl,rfl,by decide +kernel,rfl,by decide +kernel,by decide +kernel⟩
theorem qh1(F:Fun K "end_node" "Reader.end_node" jv f fd)(T:Tx P w K mg a)(Gn:qcg P w K mg base CX0 1 a.Node "Node" ["self","kind","labels","kids"] (qg9 a)):qw P w K mg base CX0 3 f fd ["self","kind"] (qfD a):=by
 refine F.ok qaC (fun vs H Q E h=>?_) (fun cdv A outer s H vs Q E hr h=>?_)
 ·obtain⟨z,toks,n,S,k,g,G,rfl,_⟩:=h;rfl
 ·obtain⟨z,toks,n,S,k,g,G,rfl,hR,hB,eG,hgf,res⟩:=h
  refine⟨_,qi (qW (i:=2) qaC.nd rfl (Or.inl rfl) (qb2 χ Ycp Ycq qb3 (qj (pv 0) rfl)))
   (qi (qW (i:=3) qaC.nd rfl (Or.inl rfl) (za qh))
   (qi (Q4 PassesOwn.never (qK JR (jc zD (by rfl) T.b_len PySem.boot_len (qa (qj (pv 0) rfl) qh)) (qj (pv 2) rfl) (qX _))
    (qf (qu (zP χ ώ ϊ zq (pv 3) (qa (qb2 χ Ycp Ycq qb3 (qj (pv 0) rfl)) qh)))))
   (qf (qu (zP χ ώ ϊ zq (qj (pv 0) rfl) (qa (Zb Gn hr qO (qa (pv 1) (qa (qj (pv 2) rfl) (qa (qgT (pv 3)) qh)))) qh)))))),?_⟩
  obtain⟨x,gs,ez⟩:∃x gs,z.gs=x::gs:=by
   have:=Paired.length hR.gs;rw[eG]at this;cases hz:z.gs with
   |nil=>rw[hz]at this;cases this
   |cons x gs=>exact⟨x,gs,rfl⟩
  obtain⟨R1,p1,Bx,nla⟩:=hR.pop ez eG;have hpop:(z.gs.map (·.g)).reverse.map V.ref=(gs.map (·.g)).reverse.map V.ref++[V.ref x.g]:=by rw[ez];simp
  refine⟨_,rfl,z.r,_,z.dx,_,_,rfl,hR.ins,T.Yad,T.YaL,Z9 _ _ _ _ _ _,.inl ⟨rfl,_,SqL.of hR.gl⟩,z.gl,_,V.ref x.g,rfl,rfl,hR.gl,by rw[hpop];simp,?_⟩;rw[show((z.gs.map (·.g)).reverse.map V.ref).dropLast=(gs.map (·.g)).reverse.map V.ref by rw[hpop];simp];generalize hz1:({z with gs:=gs}:RA)=z1 at R1 p1 Bx nla;have er:z1.r=z.r:=by rw[<- hz1]
  have ebl:z1.bl=z.bl:=by rw[<- hz1]
  generalize upd H z.gl (.lst ((gs.map (·.g)).reverse.map V.ref))=H1 at R1 p1 Bx ⊢;obtain⟨gdx,lb,⟨q1,q1n⟩,q2,q3,q4⟩:=Bx;obtain⟨bs,b1,b2⟩:=R1.bl;have hbl:bs.length=S.B.length:=Paired.length (qY.mp b2);refine⟨ό _,fun kl hkl=>?_⟩;have nkl:=R1.fresh hkl;have klbl:kl≠z1.bl:=fun e=>nkl (by rw[e];exact z1.mb)
  refine⟨fun m σ H'=>σ=[some (.ref z.r),some (.str (kindS k)),some (.ref x.g),some (.ref kl)]/\∃j,g.first<=j/\j<=bs.length/\H' z1.bl=some (.lst ((bs.take j).map V.ref))/\H' kl=some (.lst ((bs.drop j).reverse.map V.ref))/\(∀b o,H1 b=some o->b≠z1.bl->H' b=some o)/\j=m,
   ⟨_,rfl,bs.length,by omega,ω _,?_,?_,fun b o e _=>qo hkl _ _ e,rfl⟩,?_⟩
  ·rw[qd (Ne.symm klbl),Ycm];exact b1
  ·rw[qc,Ydx];rfl
  rintro m σ H2 ⟨rfl,j,hj1,hj2,hb2,hk2,k2,rfl⟩;have rbl:z.r≠z1.bl:=by rw[<- er];exact Ne.symm (R1.nr (qU.ob z1))
  have ins2:=k2 _ _ (er▸R1.ins) rbl;have xg2:=k2 _ _ q1 (fun e=>q1n (by rw[e];exact z1.mb));refine⟨_,rfl,z.r,_,_,_,_,rfl,ins2,T.Yad,T.YaM,Zi _ _ _ _ _ _,z1.bl,_,rfl,.inl (SqL.of hb2),_,rfl,x.g,_,gdx,_,_,rfl,xg2,T.Yaa,T.Yau,qjd _ _ _,_,_,rfl,rfl,_,rfl,?_⟩;rw[show(((bs.take j).map V.ref).length:Int)=(j:Int) by rw[τ,Ybz,Ycj hj2]];refine zR (fun hlt=>?_) fun hlt=>?_
  ·have hlt:g.first<j:=by have:=of_decide_eq_true hlt;omega
   obtain⟨j,rfl⟩:∃i,j=i+1:=⟨j - 1,by omega⟩;have hjl:j<bs.length:=by omega
   refine⟨_,fun σ' H' q=>q,?_⟩;have hlast:(bs.take (j+1)).map V.ref=(bs.take j).map V.ref++[V.ref bs[j]]:=by rw[Ydi,Θ hjl,Ybv];rfl
   refine⟨_,rfl,.inl ⟨rfl,_,SqL.of hk2⟩,_,rfl,z.r,_,_,_,_,rfl,ins2,T.Yad,T.YaM,Zi _ _ _ _ _ _,.inl ⟨rfl,_,SqL.of hb2⟩,z1.bl,_,V.ref bs[j],rfl,rfl,hb2,by rw[hlast];simp,?_⟩;rw[show((bs.take (j+1)).map V.ref).dropLast=(bs.take j).map V.ref by rw[hlast];simp];refine⟨kl,_,_,rfl,rfl,by rw[qd klbl];exact hk2,?_,?_⟩
   ·rw[τ,YbS,YbF];exact jI (by omega)
   ·refine⟨j,YbE _,rfl,j,by omega,by omega,?_,?_,fun b o e nb=>?_,rfl⟩
    ·rw[qd (Ne.symm klbl),qc]
    ·rw[qc,Ycb hjl,Ydr,Ybv];rfl
    ·rw[qd (qg e hkl),qd nb];exact k2 b o e nb
  ·have hjf:j=g.first:=by
    have:¬((g.first:Int)<(j:Int)):=fun y=>hlt (decide_eq_true y);omega
   subst hjf;refine⟨_,rfl,z.r,_,_,_,_,rfl,ins2,T.Yad,T.YaM,Zi _ _ _ _ _ _,.inl ⟨rfl,_,SqL.of hb2⟩,?_⟩;refine⟨_,rfl,_,rfl,x.g,_,gdx,_,_,rfl,xg2,T.Yaa,T.Yav,qc6 _ _ _,_,rfl,kl,_,rfl,SqL.of hk2,fun rl hrl=>?_⟩;rw[show((bs.drop g.first).reverse.map V.ref).reverse=(bs.drop g.first).map V.ref by simp];have s3:=qo (o:=.lst ((bs.drop g.first).map V.ref)) hrl;have hrl3:(upd H2 rl (.lst ((bs.drop g.first).map V.ref))) rl=some (.lst ((bs.drop g.first).map V.ref)):=qc;generalize upd H2 rl (.lst ((bs.drop g.first).map V.ref))=H3 at s3 hrl3 ⊢;intro t tdx ht htdx hne;have s4:qB H3 (upd (upd H3 tdx (.own t)) t (.ins a.Node tdx [])):=fun b o e=>by rw[qd (qg e ht),qd (qg e htdx)];exact e
   have R3:qU a H3 z1 toks n {S with G:=G,B:=S.B.take g.first}:=by
    have hT:qA a z1.M H1 (S.B.take g.first) (bs.take g.first):=qY.mpr (qc9 _ (qY.mp b2));refine(R1.putB hT).same fun b o e=>?_;by_cases hb:b=z1.bl
    ·subst hb;rw[qc]at e;rw[<- e];exact s3 _ _ hb2
    ·rw[qd hb]at e;exact s3 _ _ (k2 b o e hb)
   have P3:Pass z1.M H1 z1.M H3:=fun b o e nb=>⟨s3 _ _ (k2 b o e (fun y=>nb (by rw[y];exact z1.mb))),nb⟩;have hKd:qA a z1.M H3 (S.B.drop g.first) (bs.drop g.first):=qA.pass P3 _ _ (qY.mpr (qda _ (qY.mp b2)));have hND:=qds (qA.pass (jV s4) _ _ hKd);refine⟨t,tdx,rl,_,_,bs.drop g.first,_,rfl,qc,s4 _ _ hrl3,hND,by rw[YbF];omega,fun H5 m k5 h1 h2 ht5=>⟨rfl,?_⟩⟩;have em:=qd6 _ m h1 h2;have s5:qB H3 H5:=fun b o e=>k5 b o (s4 b o e) (qg e ht);have R5:=R3.same s5;have nt5:¬z1.M t:=R3.fresh ht
   have nrl:¬z1.M rl:=fun y=>by
    rcases y with y|y
    ·have:=k2 _ _ R1.ins (by exact Ne.symm (R1.nr (qU.ob z1)));rw[<- y,hrl]at this;cases this
    ·obtain⟨o,e,_⟩:=R1.own_some y;by_cases hb:rl=z1.bl
     ·rw[hb,hb2]at hrl;cases hrl
     ·rw[k2 _ _ e hb]at hrl;cases hrl
   have P5:Pass z1.M H1 z1.M H5:=fun b o e nb=>⟨s5 _ _ (P3 b o e nb).1,nb⟩;have hTree:qy a z1.M H5 (.node k g.labels (S.B.drop g.first)) t:=by unfold qy;refine⟨tdx,x.la,rl,lb,bs.drop g.first,⟨?_,nt5⟩,P5 _ _ q2 nla,q3.pass P5,⟨s5 _ _ hrl3,nrl⟩,qA.pass (jV s5) _ _ hKd⟩;rw[ht5,em,show(1+((Vastoa.depths (S.B.drop g.first):Nat):Int))=((Vastoa.depths (S.B.drop g.first)+1:Nat):Int) by omega]
   obtain⟨bs5,b5,c5⟩:=R5.bl;have hb5:H5 z1.bl=some (.lst ((bs.take g.first).map V.ref)):=s5 _ _ (s3 _ _ hb2)
   have e5:bs5=bs.take g.first:=by
    rw[b5]at hb5;have:=Option.some.inj hb5;injection this with this
    exact(Ydj (fun x y q=>by injection q)).mp this
   subst e5;refine⟨z1.bl,_,_,rfl,rfl,hb5,?_,?_⟩
   ·rw[τ,Ybz];exact jI (by omega)
   have c6:qA a z1.M H5 (S.B.take g.first++[.node k g.labels (S.B.drop g.first)]) (bs.take g.first++[t]):=qY.mpr (Zz (qY.mp c5) hTree);have R6:=R5.putB c6;rw[Ybv]at R6;exact res _ z1 er (JU (JU p1 P5) (jW (qp.at_ z1.mb))) R6
end
end RT
end
section
namespace RT
open PySem PySem.Spec PyProof.Rows L2
open Vastoa (Mark Marks)
open RM (Part Sym qH kd held MS Bg)
theorem qnG{α β:Type}(f:α->β)(xs:List α)(i:Int):atI (xs.map f) i=(atI xs i).map f:=by
 unfold atI;rw[τ];cases ixN xs.length i with
 |none=>rfl
 |some j=>show(xs.map f)[j]?=(xs[j]?).map f;rw[Ω]
theorem qjn{A B:Type}{R:A->B->Prop}{as:List A}{bs:List B}{i:Int}{y:B}(h:Paired R as bs)(e:atI bs i=some y):∃x,atI as i=some x/\R x y:=by
 unfold atI at e ⊢;rw[Paired.length h];cases hj:ixN bs.length i with
 |none=>rw[hj]at e;cases e
 |some j=>rw[hj]at e;exact zM h e
section
variable{a:Ad}{H H':Hp}{z:RA}{toks:Marks}{n:Nat}{S:MS}
theorem qU.head {x:BA} {gs:List BA} {g g':Bg} {G:List Bg} {b:Addr} (h:qU a H z toks n S) (ez:z.gs=x::gs) (eG:S.G=g::G) (hb:b=x.la\/b=x.na) (k:∀c o,H c=some o->c≠b->H' c=some o)
  (hx:qcv a z.M H' x g'):qU a H' z toks n {S with G:=g'::G}/\Pass z.M H z.M H':=by
 obtain⟨as,t1,t2⟩:=h.tks;obtain⟨bs,b1,b2⟩:=h.bl;obtain⟨n1,n2,n3⟩:=h.nwl;obtain⟨m1,m2⟩:=h.nbl;obtain⟨g1,g2⟩:=h.ngl
 have ho:b∈QW z.gs:=by
  rw[ez];rcases hb with rfl|rfl
  ·exact(zY π).1
  ·exact(zY π).2
 have hM:z.M b:=z.mo ho;have p:Pass z.M H z.M H':=fun c o e nc=>⟨k c o e (fun y=>nc (by rw[y];exact hM)),nc⟩;have hgs:=h.gs;rw[ez,eG]at hgs;have nd:=g2;rw[ez]at nd;have eo:QW (x::gs)=x.la::x.na::QW gs:=rfl;rw[eo]at nd;obtain⟨nd1,nd2⟩:=Ybn.mp nd;obtain⟨nd3,nd4⟩:=Ybn.mp nd2;simp only[Γ,not_or]at nd1;have hbn:b∉QW gs:=by rcases hb with rfl|rfl;exact nd1.2;exact nd3
 cases hgs with
 |cons q0 qs=>refine⟨⟨k _ _ h.ins (Ne.symm (h.nr (qU.oo z ho))),⟨as,p _ _ t1.1 t1.2,qZ (fun x y q=>q.pass p) t2⟩,k _ _ h.wl (fun e=>n3 (by rw[e];exact ho)),⟨bs,k _ _ b1 (fun e=>m2 (by rw[e];exact ho)),qA.pass p _ _ b2⟩,k _ _ h.gl (fun e=>g1 (by rw[e];exact ho)),?_,h.nd,h.ts,h.pv⟩,p⟩;rw[ez];refine .cons hx (QG (fun y g'' hy q=>?_) qs);obtain⟨dx,lb,c1,c2,c3,c4⟩:=q;exact⟨dx,lb,p _ _ c1.1 c1.2,k _ _ c2 (fun e=>hbn (e▸(zY hy).1)),c3.pass p,k _ _ c4 (fun e=>hbn (e▸(zY hy).2))⟩
theorem qU.push {H1:Hp} {x:BA} {dx:Addr} {first:Nat} (h:qU a H z toks n S) (s:qB H H1) (hg:H x.g=none) (hla:H x.la=none) (hna:H x.na=none) (ln:x.la≠x.na) (gl1:x.g≠x.la) (gn1:x.g≠x.na)
  (e1:H1 x.g=some (.ins a.Begun dx (qey (.int (first:Int)) (.ref x.la) (.ref x.na)))) (e2:H1 x.la=some (.lst [])) (e3:H1 x.na=some (.dT [])):
  qU a (upd H1 z.gl (.lst ((z.gs.map (·.g)).reverse.map V.ref++[.ref x.g]))) {z with gs:=x::z.gs} toks n {S with G:=⟨first,[],[]⟩::S.G} /\
  Pass z.M H ({z with gs:=x::z.gs}:RA).M (upd H1 z.gl (.lst ((z.gs.map (·.g)).reverse.map V.ref++[.ref x.g]))):=by
 obtain⟨as,t1,t2⟩:=h.tks;obtain⟨bs,b1,b2⟩:=h.bl;obtain⟨n1,n2,n3⟩:=h.nwl;obtain⟨m1,m2⟩:=h.nbl;obtain⟨g1,g2⟩:=h.ngl;have some_ne:∀{b:Addr},b∈z.own->b≠x.la/\b≠x.na:=fun{b} hb=>by obtain⟨o,e,_⟩:=h.own_some hb;exact⟨qg e hla,qg e hna⟩
 have inM:∀b,({z with gs:=x::z.gs}:RA).M b->z.M b\/b=x.la\/b=x.na:=fun b hb=>by
  rcases hb with hb|hb
  ·exact .inl (.inl hb)
  ·have hb:b∈z.wl::z.bl::z.gl::x.la::x.na::QW z.gs:=hb;simp only[Γ]at hb;rcases hb with hb|hb|hb|hb|hb|hb
   ·exact .inl (by rw[hb];exact z.mw)
   ·exact .inl (by rw[hb];exact z.mb)
   ·exact .inl (by rw[hb];exact z.mg)
   ·exact .inr (.inl hb)
   ·exact .inr (.inr hb)
   ·exact .inl (z.mo hb)
 have p:Pass z.M H ({z with gs:=x::z.gs}:RA).M (upd H1 z.gl (.lst ((z.gs.map (·.g)).reverse.map V.ref++[.ref x.g]))):=fun b o e nb=>by
  refine⟨?_,fun y=>?_⟩
  ·rw[qd (fun y=>nb (by rw[y];exact z.mg))];exact s b o e
  ·rcases inM b y with y|y|y
   ·exact nb y
   ·exact qg e hla y
   ·exact qg e hna y
 have own:∀b o,H b=some o->b≠z.gl->(upd H1 z.gl (.lst ((z.gs.map (·.g)).reverse.map V.ref++[.ref x.g]))) b=some o:=fun b o e nb=>by rw[qd nb];exact s b o e
 have xgl:x.g≠z.gl:=fun e=>by rw[e,h.gl]at hg;cases hg
 have nxg:¬({z with gs:=x::z.gs}:RA).M x.g:=fun y=>by
  rcases inM _ y with y|y|y
  ·exact h.fresh hg y
  ·exact gl1 y
  ·exact gn1 y
 refine⟨⟨own _ _ h.ins (Ne.symm (h.nr (qU.og z))),⟨as,p _ _ t1.1 t1.2,qZ (fun x y q=>q.pass p) t2⟩,own _ _ h.wl n2,⟨bs,own _ _ b1 m1,qA.pass p _ _ b2⟩,?_,?_,?_,h.ts,h.pv⟩,p⟩
 ·show upd H1 z.gl _ z.gl=_;rw[qc];simp
 ·refine .cons ⟨dx,[],⟨?_,nxg⟩,?_,.nil,?_⟩ (QG (fun y g'' hy q=>?_) h.gs)
  ·rw[qd xgl];exact e1
  ·rw[qd (Ne.symm (some_ne (qU.og z)).1)];exact e2
  ·rw[qd (Ne.symm (some_ne (qU.og z)).2)];exact e3
  ·obtain⟨dx,lb,c1,c2,c3,c4⟩:=q;exact⟨dx,lb,p _ _ c1.1 c1.2,own _ _ c2 (fun e=>g1 (e▸(zY hy).1)),c3.pass p,own _ _ c4 (fun e=>g1 (e▸(zY hy).2))⟩
 ·show(z.wl::z.bl::z.gl::x.la::x.na::QW z.gs).Nodup;refine Ybn.mpr ⟨?_,Ybn.mpr ⟨?_,Ybn.mpr ⟨?_,Ybn.mpr ⟨?_,Ybn.mpr ⟨?_,g2⟩⟩⟩⟩⟩
  ·simp only[Γ,not_or];exact⟨n1,n2,(some_ne (qU.ow z)).1,(some_ne (qU.ow z)).2,n3⟩
  ·simp only[Γ,not_or];exact⟨m1,(some_ne (qU.ob z)).1,(some_ne (qU.ob z)).2,m2⟩
  ·simp only[Γ,not_or];exact⟨(some_ne (qU.og z)).1,(some_ne (qU.og z)).2,g1⟩
  ·simp only[Γ,not_or];exact⟨ln,fun y=>(some_ne (qU.oo z y)).1 rfl⟩
  ·exact fun y=>(some_ne (qU.oo z y)).2 rfl
end
def qmN(a:Ad)(K:γ):Sp:=fun vs H Q E=>∃(z:RA)(toks:Marks)(n:Nat)(S:MS)(x:qg6),vs=[.ref z.r,.str (Jb x)]/\qU a H z toks n S/\S.B.length<=1000000/\RM.gw S.G<=500000 /\
 Q1 a K z toks H (RM.qbe x S.ts S.pv S.lv S.W S.B S.G) (Q .non) E
theorem qaU(x y:qg6):decide (V.str (Jb x)=V.str (Jb y))=decide (x=y):=decide_eq_decide.mpr ⟨fun e=>qnD x (qbs x) y (qbs y) (by injection e),fun e=>by rw[e]⟩
end RT
end
section
namespace RT
open PySem PySem.Spec PyProof.Rows L2
open Vastoa (Mark Marks)
open RM (Part Sym qH kd held MS Bg)
section
variable{P:Program}{w:World}{K:γ}{mg:Str->Option Value}{base:Heap}{f:Addr}{fd:FuncData}{a:Ad}
theorem qoH:qm ["self","action"] ["self","action"] (qe QB):=⟨rfl,rfl,rfl,by decide +kernel,rfl,by decide +kernel,by decide +kernel⟩
theorem qoI(F:Fun K "act" "Reader.act" QB f fd)(T:Tx P w K mg a)(Gb:qcg P w K mg base CX0 1 a.Begun "Begun" ["self","first"] (qeI a))(Gm:FnAt P w K mg base (CXR P w) 4 "meet_name" ["names","token"] (qkQ a K))
  (Ge:jn P w K mg base (CXR P w) 4 a.Reader "enter_level" ["self"] (qit a K)) (Gn:jn P w K mg base CX0 3 a.Reader "end_node" ["self","kind"] (qfD a)):qw P w K mg base (CXR P w) 5 f fd ["self","action"] (qmN a K):=by
 refine F.okR qoH (fun vs H Q E h=>?_) (fun cdv A outer s H vs Q E hr h=>?_)
 ·obtain⟨z,toks,n,S,x,rfl,_⟩:=h;rfl
 ·obtain⟨z,toks,n,S,x,rfl,hR,hB,hG,res⟩:=h;have hr2:qI 2 _:=hr.mono (by decide);have hr3:qI 3 _:=hr.mono (by decide)
  refine⟨_,qf (qR (qK jb (pv 1) qL (qX _)) (qf (qu (zP χ ώ ϊ zq (qj (pv 0) rfl) (qa (Zb Gb hr2 qO (qa (jc zD (by rfl) T.b_len PySem.boot_len (qa (qj (pv 0) rfl) qh)) qh)) qh))))
   (qf (qR (qK jb (pv 1) qL (qX _)) (qf (qu (zP χ ώ ϊ zq (qj (pv 0) rfl) (qa (Zb Gb hr2 qO (qa (j8 qdy (jc zD (by rfl) T.b_len PySem.boot_len (qa (qj (pv 0) rfl) qh)) qr) qh)) qh))))
   (qf (qR (qK jb (pv 1) qL (qX _)) (qf (qu (zP χ ώ ϊ zq (qj (jp zu (qj (pv 0) rfl) (JQ Z2 qr) (fun _ _=>rfl)) rfl) (qa (qj (jp zu (qj (pv 0) rfl) (j8 qdy (qj (pv 0) rfl) qr) (fun _ _=>rfl)) rfl) qh))))
   (qf (qR (qK jb (pv 1) qL (qX _)) (qf (qu (qT Gm hr j7 (qa (qj (jp zu (qj (pv 0) rfl) (JQ Z2 qr) (fun _ _=>rfl)) rfl) (qa (jp zu (qj (pv 0) rfl) (j8 qdy (qj (pv 0) rfl) qr) (fun _ _=>rfl)) qh)))))
   (qf (qR (qK jb (pv 1) qL (qX _)) (qf (qu (jw Ge T.Yad hr j7 (pv 0))))
   (qf (qR (qK jb (pv 1) qL (qX _)) (qf (QC (pv 0) qr qn7))
   (qf (qu (zm Gn T.Yad hr3 qO (pv 0) (qa (pv 1) qh))))))))))))))),?_⟩
  obtain⟨as,t1,t2⟩:=hR.tks;obtain⟨bs,b1,b2⟩:=hR.bl;have hbl:bs.length=S.B.length:=Paired.length (qY.mp b2);have hgl:=RM.qkr S.G;have hgz:z.gs.length=S.G.length:=Paired.length hR.gs;have glen:((z.gs.map (·.g)).reverse.map V.ref).length<Λ:=by rw[τ,YbS,τ];exact jI (by omega)
  have beg:∀(i:Int)(first:Nat),i=(first:Int)->(∀H' z' n',z'.r=z.r->Pass z.M H z'.M H'->qU a H' z' toks n' {S with G:=⟨first,[],[]⟩::S.G}->Q .non H') ->
    ∀gx dx,H gx=none->H dx=none->dx≠gx->qeI a [.ref gx,.int i] (upd (upd H dx (.own gx)) gx (.ins a.Begun dx []))
     (fun v H2=>v=.non/\qie (.ref z.gl) [.ref gx] H2 (fun _ H3=>Q .non H3)) E0:=by
   intro i first ei kk gx dx hgx hdx hne
   subst ei;have s1:qB H (upd (upd H dx (.own gx)) gx (.ins a.Begun dx [])):=fun b o e=>by rw[qd (qg e hgx),qd (qg e hdx)];exact e
   refine⟨gx,dx,first,rfl,qc,fun H2 la na k2 hla hna ln e1 e2 e3=>⟨rfl,?_⟩⟩;have s2:qB H H2:=fun b o e=>k2 b o (s1 b o e) (qg e hgx);have gla:gx≠la:=qg qc hla;have gna:gx≠na:=qg qc hna;obtain⟨R2,p2⟩:=hR.push (x:=⟨gx,la,na⟩) (first:=first) s2 hgx (s1.free hla) (s1.free hna) ln gla gna e1 e2 e3;exact⟨z.gl,_,_,rfl,rfl,s2 _ _ hR.gl,glen,kk _ {z with gs:=⟨gx,la,na⟩::z.gs} n rfl p2 R2⟩
  refine⟨_,rfl,rfl,_,rfl,?_⟩;rw[show V.str (Str.ofString "begin")=V.str (Jb .begin)from rfl,qaU];by_cases h1:x=.begin
  ·subst h1;rw[decide_eq_true rfl];refine zT ⟨_,rfl,z.r,_,z.dx,_,_,rfl,hR.ins,T.Yad,T.YaL,Z9 _ _ _ _ _ _,.inl ⟨rfl,_,SqL.of hR.gl⟩,?_⟩;refine⟨_,rfl,z.r,_,z.dx,_,_,rfl,hR.ins,T.Yad,T.YaM,Zi _ _ _ _ _ _,z.bl,_,rfl,.inl (SqL.of b1),?_⟩;exact beg _ S.B.length (by rw[τ,hbl]) res
  rw[decide_eq_false h1];refine zz ⟨_,rfl,rfl,_,rfl,?_⟩;rw[show V.str (Str.ofString "take")=V.str (Jb .take)from rfl,qaU];by_cases h2:x=.take
  ·subst h2;rw[decide_eq_true rfl];refine zT ⟨_,rfl,z.r,_,z.dx,_,_,rfl,hR.ins,T.Yad,T.YaL,Z9 _ _ _ _ _ _,.inl ⟨rfl,_,SqL.of hR.gl⟩,?_⟩;refine⟨_,rfl,z.r,_,z.dx,_,_,rfl,hR.ins,T.Yad,T.YaM,Zi _ _ _ _ _ _,z.bl,_,rfl,.inl (SqL.of b1),_,_,rfl,rfl,?_⟩;have res:Q1 a K z toks H (if S.B.length=0 then none else some (.ok {S with G:=⟨S.B.length - 1,[],[]⟩::S.G})) (Q .non) E:=res;by_cases h0:S.B.length=0
   ·rw[if_pos h0]at res;exact res.elim
   ·rw[if_neg h0]at res;exact beg _ (S.B.length - 1) (by rw[τ,hbl];omega) res
  rw[decide_eq_false h2];refine zz ⟨_,rfl,rfl,_,rfl,?_⟩;rw[show V.str (Str.ofString "label")=V.str (Jb .label)from rfl,qaU];obtain⟨t,ht,dx,ha,ht1,ht2,nt1,nt2⟩:=qjn t2 hR.pv;have htV:atI (as.map V.ref) ((n:Int) - 1)=some (.ref t):=by rw[qnG,ht];rfl
  by_cases h3:x=.label
  ·subst h3;rw[decide_eq_true rfl];cases eG:S.G with
   |nil=>rw[eG]at res;exact res.elim
   |cons g G=>
    rw[eG]at res
    obtain⟨y,gs,ez⟩:∃y gs,z.gs=y::gs:=by
     rw[eG]at hgz;cases hz:z.gs with
     |nil=>rw[hz]at hgz;cases hgz
     |cons y gs=>exact⟨y,gs,rfl⟩
    have hgs:=hR.gs;rw[ez,eG]at hgs;cases hgs with
    |cons q0 qs=>
     obtain⟨gdx,lb,⟨c1,c1n⟩,c2,c3,c4⟩:=q0;have hlast:atI ((z.gs.map (·.g)).reverse.map V.ref) (-1)=some (.ref y.g):=by rw[ez,show((y::gs).map (·.g)).reverse.map V.ref=(gs.map (·.g)).reverse.map V.ref++[V.ref y.g] by simp];exact Jh _ _
     have hlab:lb.length<1000000:=by have e1:=Paired.length c3;have e2:=RM.qgR (G:=S.G) (g:=g) (by rw[eG];exact π);omega
     refine zT ⟨_,rfl,z.r,_,z.dx,_,_,rfl,hR.ins,T.Yad,T.YaL,Z9 _ _ _ _ _ _,_,rfl,z.gl,_,_,_,rfl,rfl,SqL.of hR.gl,hlast,y.g,_,gdx,_,_,rfl,c1,T.Yaa,T.Yav,qc6 _ _ _,.inl ⟨rfl,_,SqL.of c2⟩,?_⟩;refine⟨_,rfl,z.r,_,z.dx,_,_,rfl,hR.ins,T.Yad,T.YaO,Zy _ _ _ _ _ _,_,rfl,z.r,_,z.dx,_,_,rfl,hR.ins,T.Yad,T.YaK,JZ _ _ _ _ _ _,_,_,rfl,rfl,z.ts,_,_,_,rfl,rfl,SqL.of t1.1,htV,t,_,dx,_,_,rfl,ht1,T.Yae,T.YaU,qfx _ _ _,y.la,_,_,rfl,rfl,c2,by rw[τ];exact jI (by omega),?_⟩;have yla:z.M y.la:=z.mo (by rw[ez];exact(zY π).1);have kk:qp z.M H (upd H y.la (.lst (lb.map V.ref++[.ref ha]))):=qp.at_ yla;have yn:y.na≠y.la:=qcH c4 c2 (by intro q;cases q);have bx:qcv a z.M (upd H y.la (.lst (lb.map V.ref++[.ref ha]))) y ⟨g.first,g.labels++[held S.pv.tok],g.names⟩:=by refine⟨gdx,lb++[ha],⟨kk _ _ c1 c1n,c1n⟩,by rw[qc,Ybv];rfl,Zz (c3.pass (jW kk)) ⟨kk _ _ ht2 nt2,nt2⟩,by rw[qd yn];exact c4⟩
     obtain⟨R2,p2⟩:=hR.head ez eG (.inl rfl) (fun c o e nc=>by rw[qd nc];exact e) bx;exact res _ z n rfl p2 R2
  rw[decide_eq_false h3];refine zz ⟨_,rfl,rfl,_,rfl,?_⟩;rw[show V.str (Str.ofString "fresh")=V.str (Jb .fresh)from rfl,qaU];by_cases h4:x=.fresh
  ·subst h4;rw[decide_eq_true rfl];cases eG:S.G with
   |nil=>rw[eG]at res;exact res.elim
   |cons g G=>
    rw[eG]at res
    obtain⟨y,gs,ez⟩:∃y gs,z.gs=y::gs:=by
     rw[eG]at hgz;cases hz:z.gs with
     |nil=>rw[hz]at hgz;cases hgz
     |cons y gs=>exact⟨y,gs,rfl⟩
    have hgs:=hR.gs;rw[ez,eG]at hgs;cases hgs with
    |cons q0 qs=>
     obtain⟨gdx,lb,⟨c1,c1n⟩,c2,c3,c4⟩:=q0;have hlast:atI ((z.gs.map (·.g)).reverse.map V.ref) (-1)=some (.ref y.g):=by rw[ez,show((y::gs).map (·.g)).reverse.map V.ref=(gs.map (·.g)).reverse.map V.ref++[V.ref y.g] by simp];exact Jh _ _
     have hnm:g.names.length<=1000000:=by have e2:=RM.qgR (G:=S.G) (g:=g) (by rw[eG];exact π);omega
     have res:Q1 a K z toks H (if held S.pv.tok∈g.names then some (.error ⟨5,S.pv.place⟩)else some (.ok {S with G:=⟨g.first,g.labels,g.names++[held S.pv.tok]⟩::G})) (Q .non) E:=res;refine zT ⟨_,rfl,z.r,_,z.dx,_,_,rfl,hR.ins,T.Yad,T.YaL,Z9 _ _ _ _ _ _,_,rfl,z.gl,_,_,_,rfl,rfl,SqL.of hR.gl,hlast,y.g,_,gdx,_,_,rfl,c1,T.Yaa,T.Yaw,qje _ _ _,?_⟩;refine⟨_,rfl,z.r,_,z.dx,_,_,rfl,hR.ins,T.Yad,T.YaO,Zy _ _ _ _ _ _,_,rfl,z.r,_,z.dx,_,_,rfl,hR.ins,T.Yad,T.YaK,JZ _ _ _ _ _ _,_,_,rfl,rfl,z.ts,_,_,_,rfl,rfl,SqL.of t1.1,htV,?_⟩;refine⟨y.na,t,g.names,S.pv,rfl,c4,⟨dx,ha,ht1,ht2,id,id⟩,hnm,fun hm=>?_,fun hm H2 k2 e2=>?_⟩
     ·rw[if_pos hm]at res;exact XWM.on res (qp.refl _ _)
     ·rw[if_neg hm]at res;have yna:z.M y.na:=z.mo (by rw[ez];exact(zY π).2);have p0:Pass z.M H z.M H2:=fun b o e nb=>⟨k2 b o e (fun q=>nb (by rw[q];exact yna)),nb⟩;have yn:y.la≠y.na:=qcH c2 c4 (by intro q;cases q);have bx:qcv a z.M H2 y ⟨g.first,g.labels,g.names++[held S.pv.tok]⟩:=⟨gdx,lb,p0 _ _ c1 c1n,k2 _ _ c2 yn,c3.pass p0,e2⟩;obtain⟨R2,p2⟩:=hR.head ez eG (.inr rfl) k2 bx;exact res _ z n rfl p2 R2
  rw[decide_eq_false h4];refine zz ⟨_,rfl,rfl,_,rfl,?_⟩;rw[show V.str (Str.ofString "enter")=V.str (Jb .enter)from rfl,qaU];by_cases h5:x=.enter
  ·subst h5;rw[decide_eq_true rfl];exact zT ⟨_,rfl,z.r,z.dx,_,rfl,hR.ins,qbL _ _ _ _ _ _,z,toks,n,S,rfl,hR,res⟩
  rw[decide_eq_false h5];refine zz ⟨_,rfl,rfl,_,rfl,?_⟩;rw[show V.str (Str.ofString "leave")=V.str (Jb .leave)from rfl,qaU];by_cases h6:x=.leave
  ·subst h6;rw[decide_eq_true rfl];have res:Q1 a K z toks H (if S.lv=0 then none else some (.ok {S with lv:=S.lv - 1})) (Q .non) E:=res;by_cases h0:S.lv=0
   ·rw[if_pos h0]at res;exact res.elim
   ·rw[if_neg h0]at res;refine zT ⟨_,rfl,z.r,_,z.dx,_,_,rfl,hR.ins,T.Yad,T.YaN,qbm _ _ _ _ _ _,_,_,rfl,rfl,z.dx,_,hR.ins,(by show 6<1000;decide),?_⟩;rw[show((S.lv:Int) - 1)=((S.lv - 1:Nat):Int) by omega];exact res _ z n rfl (jW (qp.at_ z.mr)) (hR.put n (S.lv - 1) S.ts S.pv hR.ts hR.pv)
  rw[decide_eq_false h6]
  obtain⟨k,rfl⟩:∃k,x=.fin k:=by
   cases x with
   |fin k=>exact⟨k,rfl⟩
   |begin=>exact absurd rfl h1
   |take=>exact absurd rfl h2
   |label=>exact absurd rfl h3
   |fresh=>exact absurd rfl h4
   |enter=>exact absurd rfl h5
   |leave=>exact absurd rfl h6
  cases eG:S.G with
  |nil=>rw[eG]at res;exact res.elim
  |cons g G=>
   rw[eG]at res;have res:Q1 a K z toks H (if g.first<=S.B.length then some (.ok ⟨S.ts,S.pv,S.lv,S.W,S.B.take g.first++[.node k g.labels (S.B.drop g.first)],G⟩)else none) (Q .non) E:=res;by_cases hf:g.first<=S.B.length
   ·rw[if_pos hf]at res;exact zz ⟨_,rfl,z.r,z.dx,_,rfl,hR.ins,qdq _ _ _ _ _ _,_,rfl,z,toks,n,S,k,g,G,rfl,hR,hB,eG,hf,fun H' z' e p R=>res H' z' n e p R⟩
   ·rw[if_neg hf]at res;exact res.elim
end
end RT
end
section
namespace RT
open PySem PySem.Spec PyProof.Rows L2
open Vastoa (Mark Marks)
open RM (Part Sym qH kd held MS Bg)
theorem Q1.on {a:Ad} {K:γ} {z:RA} {toks:Marks} {H H1:Hp} {r:Option (Except Vastoa.Fault MS)} {Q:Hp->Prop} {E:XK} (h:Q1 a K z toks H r Q E) (k:qp z.M H H1):Q1 a K z toks H1 r Q E:=by
 unfold Q1 at h ⊢
 split
 ·exact fun H' z' n' e p R=>h H' z' n' e (JU (jW k) p) R
 ·exact XWM.from h k
 ·exact h
def qkR(a:Ad)(K:γ):Sp:=fun vs H Q E=>∃(z:RA)(toks:Marks)(n:Nat)(S:MS),vs=[.ref z.r]/\qU a H z toks n S/\RM.Fits toks.length (RM.hw toks) S/\toks.length<=5000/\(∀s∈S.W,qbr s=true)/\(∀m∈toks,CM.Jy m.tok=true) /\
 Q1 a K z toks H (RM.step S) (Q .non) E
theorem qjo:∀x∈allParts,∀k∈j4,(qH x k).length<=8:=by decide +kernel
theorem qiu(s:Sym)(W:List Sym):wV (s::W)=wV W++[.str (Qr s)]:=by simp[wV]
theorem qoJ(C W:List Sym):wV W++((C.map Qr).map V.str).reverse=wV (C++W):=by unfold wV;rw[List.reverse_append,Ybv];simp
theorem qoK(W:List Sym):(wV W).length=W.length:=by simp[wV]
section
variable{P:Program}{w:World}{K:γ}{mg:Str->Option Value}{base:Heap}{f:Addr}{fd:FuncData}{a:Ad}
theorem qeL:qm ["self","symbol","chosen"] ["self"] (qe Qj):=⟨rfl,rfl,rfl,by decide +kernel,rfl,by decide +kernel,by decide +kernel⟩
theorem qnH(F:Fun K "step" "Reader.step" Qj f fd)(T:Tx P w K mg a)(Gc:FnAt P w K mg base CX0 2 "choose" ["part","kind"] (qg8 a))(Ga:jn P w K mg base (CXR P w) 5 a.Reader "act" ["self","action"] (qmN a K))
  (Gr:jn P w K mg base (CXR P w) 4 a.Reader "read_token" ["self","kind"] (qfC a K)):qw P w K mg base (CXR P w) 6 f fd ["self"] (qkR a K):=by
 refine F.okR qeL (fun vs H Q E h=>?_) (fun cdv A outer s H vs Q E hr h=>?_)
 ·obtain⟨z,toks,n,S,rfl,_⟩:=h;rfl
 ·obtain⟨z,toks,n,S,rfl,hR,hF,hlen,hW,hT,res⟩:=h;have hr2:qI 2 _:=hr.mono (by decide);have hr4:qI 4 _:=hr.mono (by decide)
  refine⟨_,qi (qW (i:=1) qeL.nd rfl (Or.inl rfl) (qb2 χ Ycp Ycq qb3 (qj (pv 0) rfl)))
   (qf (qR (qge (qoy (pv 1) (qM T.Yaj)))
    (qi (qW (i:=2) qeL.nd rfl (Or.inl rfl) (qT Gc hr2 qO (qa (pv 1) (qa (qj (jp zu (qj (pv 0) rfl) (qj (pv 0) rfl) (fun _ _=>rfl)) rfl) qh))))
     (qf (qu (zP χ YbA YbB jU (qj (pv 0) rfl) (qa (qgT (pv 2)) qh)))))
    (qf (qR (Q3 (qpe PySem.F.slot_str_startswith PySem.F.type_str_startswith qfN (pv 1) qL)) (qf (qu (zm Ga T.Yad hr j7 (pv 0) (qa (ZJ qol (pv 1) (Qv qr) qcL) qh))))
     (qf (qu (zm Gr T.Yad hr4 j7 (pv 0) (qa (pv 1) qh)))))))),?_⟩
  obtain⟨hw1,hw2,hw3⟩:=hF.small hlen;cases eW:S.W with
  |nil=>
   have:RM.step S=none:=by unfold RM.step;rw[eW]
   rw[this]at res;exact res.elim
  |cons y W=>
   have hwl:H z.wl=some (.lst (wV (y::W))):=by rw[<- eW];exact hR.wl
   refine⟨_,rfl,z.r,_,z.dx,_,_,rfl,hR.ins,T.Yad,T.YaP,qac _ _ _ _ _ _,.inl ⟨rfl,_,SqL.of hwl⟩,z.wl,_,.str (Qr y),rfl,rfl,hwl,by rw[qiu];simp,?_⟩;rw[show(wV (y::W)).dropLast=wV W by rw[qiu];simp];have R1:=hR.putW W;have k1:qp z.M H (upd H z.wl (.lst (wV W))):=qp.at_ z.mw;have res1:=res.on k1;have hwl1:(upd H z.wl (.lst (wV W))) z.wl=some (.lst (wV W)):=qc;generalize upd H z.wl (.lst (wV W))=H1 at R1 k1 res1 hwl1 ⊢;have hlW:W.length<=200000:=by rw[eW]at hw1;simp at hw1;omega
   refine⟨_,rfl,a.GRAMMAR,_,Sum.inr (Qr y),rfl,T.d_GRAMMAR,rfl,_,rfl,?_⟩;rw[qeH];cases y with
   |p x=>
    rw[if_pos (show Qr (.p x)∈Zh.map (·.1)from qg7 x (Zd x))];cases hS:S.ts with
    |nil=>
     have:RM.step S=none:=by unfold RM.step;rw[eW,hS]
     rw[this]at res;exact res.elim
    |cons m r=>
     have est:RM.step S=some (.ok {S with W:=qH x (kd m.tok)++W}):=by unfold RM.step;rw[eW,hS]
     rw[est]at res1;obtain⟨as,t1,t2⟩:=R1.tks;obtain⟨e1,e2⟩:=qbt (hS.symm.trans hR.ts);obtain⟨t,ht,dx,ha,ht1,ht2,_,_⟩:=zM t2 e1;have hm:=hT m (YbD e1);refine zT ⟨_,rfl,_,rfl,z.r,_,z.dx,_,_,rfl,R1.ins,T.Yad,T.YaO,Zy _ _ _ _ _ _,_,rfl,z.r,_,z.dx,_,_,rfl,R1.ins,T.Yad,T.YaK,JZ _ _ _ _ _ _,z.ts,_,_,_,rfl,rfl,SqL.of t1.1,jM (v:=V.ref t) (by rw[Ω,ht];rfl),t,_,dx,_,_,rfl,ht1,T.Yae,T.YaV,qfw _ _ _,?_⟩;refine⟨x,kd m.tok,by rw[qeG];rfl,qbq hm,fun H2 p s2 hp hp2=>?_⟩;have R2:=R1.same s2;refine⟨_,rfl,z.r,_,z.dx,_,_,rfl,R2.ins,T.Yad,T.YaP,qac _ _ _ _ _ _,.inl ⟨rfl,_,SqL.of (s2 _ _ hwl1)⟩,_,rfl,p,_,rfl,SqL.of hp2,fun q hq=>?_⟩;have s3:=qo (o:=.lst (((qH x (kd m.tok)).map Qr).map V.str).reverse) hq;refine⟨z.wl,q,_,_,rfl,rfl,s3 _ _ (s2 _ _ hwl1),qc,?_,?_⟩
     ·rw[qoK,YbS,τ,τ];have hc:(qH x (kd m.tok)).length<=8:=by have:=qjo x (Zd x) _ (qbq hm);exact this
      have:(1000000:Nat)<Λ:=by decide
      omega
     ·rw[qoJ];have R4:=(R2.same s3).putW (qH x (kd m.tok)++W);exact res1 _ z n rfl (JU (jV (s2.trans s3)) (jW (qp.at_ z.mw))) R4
   |t k=>
    have hk:k∈j4:=Ybq.mp (hW (.t k) (by rw[eW];exact π));rw[if_neg (show ¬Qr (.t k)∈Zh.map (·.1)from qnB k hk)];refine zz ⟨_,rfl,⟨_,rfl⟩,_,_,rfl,rfl,_,rfl,?_⟩;rw[show Txt.startswith (Qr (.t k)) "@"=false from qoG k hk];cases hS:S.ts with
    |nil=>
     have:RM.step S=none:=by unfold RM.step;rw[eW,hS]
     rw[this]at res;exact res.elim
    |cons m r=>
     have est:RM.step S=(if kd m.tok=k then some (.ok ⟨r,m,S.lv,W,S.B,S.G⟩)else some (.error ⟨3,m.place⟩)):=by unfold RM.step;rw[eW,hS]
     rw[est]at res1;obtain⟨e1,e2⟩:=qbt (hS.symm.trans hR.ts);exact zz ⟨_,rfl,z.r,z.dx,_,rfl,R1.ins,qck _ _ _ _ _ _,_,rfl,z,toks,n,{S with W:=W},k,m,r,rfl,R1,hk,hT m (YbD e1),hS,res1⟩
   |a x=>
    rw[if_neg (show ¬Qr (.a x)∈Zh.map (·.1)from qnC x (qbs x))];obtain⟨a1,a2,a3⟩:=qoF x (qbs x);refine zz ⟨_,rfl,⟨_,rfl⟩,_,_,rfl,rfl,_,rfl,?_⟩;rw[show Txt.startswith (Qr (.a x)) (Str.ofString "@")=true from a1];have est:RM.step S=RM.qbe x S.ts S.pv S.lv W S.B S.G:=by unfold RM.step;rw[eW]
    rw[est]at res1;refine zT ⟨_,rfl,z.r,z.dx,_,rfl,R1.ins,qhS _ _ _ _ _ _,_,rfl,_,rfl,Qr (.a x),rfl,Yb2 (Q7 a3),?_⟩;rw[show qgu (Qr (.a x)) (some 1) none=Jb x from a2];exact⟨z,toks,n,{S with W:=W},x,rfl,R1,(by show S.B.length<=1000000;omega),(by show RM.gw S.G<=500000;omega),res1⟩
end
end RT
end
section
namespace RT
open PySem PySem.Spec PyProof.Rows L2
open Vastoa (Mark Marks)
open RM (Part Sym qH kd held MS Bg)
noncomputable def qhc(toks:Marks)(pv:Mark):MS:=⟨toks,pv,0,[.p .EXPR,.t .fin],[],[]⟩
def qcw(a:Ad):Sp:=fun vs H Q E=>∃(r dx tl:Addr)(as:List Addr)(toks:Marks)(pv:Mark),vs=[.ref r,.ref tl]/\H r=some (.ins a.Reader dx [])/\H tl=some (.lst (as.map V.ref))/\Paired (Qp a M0 H) as toks/\atI toks (-1)=some pv /\
 ∀H' z,z.r=r->(∀b,z.M b->b=r\/H b=none)->(∀b o,H b=some o->b≠r->H' b=some o)->qU a H' z toks 0 (qhc toks pv)->Q .non H'
def qd7(a:Ad)(K:γ):Sp:=fun vs H Q E=>∃(t:Addr)(T:Vastoa.Tree),vs=[.ref t]/\qy a M0 H T t/\(40<Vastoa.depth T->XW K a.Refusal H 6 0 E)/\(¬40<Vastoa.depth T->Q .non H)
def qcx(a:Ad)(K:γ):Sp:=fun vs H Q E=>∃(ta:Addr)(txt:List Nat),vs=[.ref ta]/\SqL K H ta (nt txt) /\
 (∀T,Vastoa.read txt=.ok T->RM.good T=true->RM.tw T<=200000->RM.lw T<=2048->∀H' t,qB H H'->qy a M0 H' T t->Q (.ref t) H')/\∀x,Vastoa.read txt=.error x->XW K a.Refusal H (x.kind:Int) (x.place:Int) E
noncomputable def qcU(ts:Marks):Except Vastoa.Fault Vastoa.Tree:=(Vastoa.level Vastoa.DEEP ts).bind fun e=>(Vastoa.expect .fin e.2).bind fun _=>.ok e.1
theorem qkS{txt:List Nat}(h:2048<txt.length):Vastoa.read txt=.error ⟨1,0⟩:=by unfold Vastoa.read;rw[if_pos (show Vastoa.MOST<txt.length from h)]
theorem qmf{txt:List Nat}{x:Vastoa.Fault}(h:¬2048<txt.length)(e:Vastoa.tokens txt=.error x):Vastoa.read txt=.error x:=by unfold Vastoa.read;rw[if_neg (show ¬Vastoa.MOST<txt.length from h),e];rfl
theorem qkT{txt:List Nat}{ts:Marks}(h:¬2048<txt.length)(e:Vastoa.tokens txt=.ok ts):Vastoa.read txt=(qcU ts).bind fun t=>if 40<Vastoa.depth t then .error ⟨6,0⟩else .ok t:=by
 unfold Vastoa.read qcU;rw[if_neg (show ¬Vastoa.MOST<txt.length from h),e];show(Vastoa.level Vastoa.DEEP ts).bind _=_;cases Vastoa.level Vastoa.DEEP ts with
 |error x=>rfl
 |ok e=>
  show(Vastoa.expect .fin e.2).bind _=((Vastoa.expect .fin e.2).bind _).bind _;cases Vastoa.expect .fin e.2 with
  |error x=>rfl
  |ok u=>rfl
theorem qmg{S S':MS}(h:∀s∈S.W,qbr s=true)(ht:∀m∈S.ts,CM.Jy m.tok=true)(e:RM.step S=some (.ok S')):∀s∈S'.W,qbr s=true:=by
 obtain⟨ts,pv,lv,W,B,G⟩:=S;cases W with
 |nil=>cases e
 |cons y W=>
  have hW:∀s∈W,qbr s=true:=fun s hs=>h s (ρ _ hs);cases y with
  |p x=>
   cases ts with
   |nil=>cases e
   |cons m r=>
    cases e;intro s hs;rcases YbK.mp hs with hs|hs
    ·exact YcH.mp (qkK x (Zd x) _ (qbq (ht m π))) s hs
    ·exact hW s hs
  |t k=>
   cases ts with
   |nil=>cases e
   |cons m r=>
    have e:(if kd m.tok=k then some (.ok ⟨r,m,lv,W,B,G⟩)else some (.error ⟨3,m.place⟩):Option (Except Vastoa.Fault MS))=some (Except.ok S'):=e
    split at e
    ·cases e;exact hW
    ·cases e
  |a x=>
   have e:RM.qbe x ts pv lv W B G=some (.ok S'):=e;unfold RM.qbe at e
   split at e
   ·cases e;exact hW
   ·split at e
    ·cases e
    ·cases e;exact hW
   ·split at e
    ·cases e
    ·cases e;exact hW
   ·split at e
    ·cases e
    ·split at e
     ·cases e
     ·cases e;exact hW
   ·split at e
    ·cases e
    ·split at e
     ·cases e
     ·cases e;exact hW
   ·split at e
    ·cases e
    ·cases e;exact hW
   ·split at e
    ·cases e
    ·split at e
     ·cases e;exact hW
     ·cases e
theorem qnI{α:Type}{l:List α}(h:l≠[]):∃y,atI l (-1)=some y:=by obtain⟨l',y,rfl⟩:∃l' y,l=l'++[y]:=⟨l.dropLast,l.getLast h,(Ycw h).symm⟩;exact⟨y,Jh _ _⟩
section
variable{P:Program}{w:World}{K:γ}{mg:Str->Option Value}{base:Heap}{f:Addr}{fd:FuncData}{a:Ad}
theorem qeM:qm ["self","tokens"] ["self","tokens"] (qe Qi):=⟨rfl,rfl,rfl,by decide +kernel,rfl,by decide +kernel,by decide +kernel⟩
theorem qeN(F:Fun K "__init__" "Reader.__init__" Qi f fd)(T:Tx P w K mg a):qw P w K mg base CX0 1 f fd ["self","tokens"] (qcw a):=by
 refine F.ok qeM (fun vs H Q E h=>?_) (fun cdv A outer s H vs Q E hr h=>?_)
 ·obtain⟨r,dx,tl,as,toks,pv,rfl,_⟩:=h;rfl
 ·obtain⟨r,dx,tl,as,toks,pm,rfl,hc,htl,hts,hpv,k⟩:=h;refine⟨_,qi (zA (pv 0) (pv 1) rfl) (qi (zA (pv 0) qr rfl) (qi (zA (pv 0) qr rfl) (qi (zA (pv 0) (za (qa qL (qa qL qh))) rfl) (qi (zA (pv 0) (za qh) rfl) (qf (zA (pv 0) (za qh) rfl)))))),?_⟩;refine⟨_,rfl,_,rfl,r,_,dx,_,rfl,hc,T.Yad,T.YaO,(by show 0<1000;decide),?_⟩;refine⟨_,rfl,r,_,dx,_,rfl,qc,T.Yad,T.YaK,(by show 1<1000;decide),?_⟩;refine⟨_,rfl,r,_,dx,_,rfl,qc,T.Yad,T.YaN,(by show 2<1000;decide),?_⟩;rw[jX,jX];have k1:∀b o,H b=some o->b≠r->(upd H r (.ins a.Reader dx (zd "level" (.int 0) (zd "at" (.int 0) (zd "tokens" (.ref tl) []))))) b=some o:=fun b o e n=>by rw[qd n];exact e
  have f1:∀b,(upd H r (.ins a.Reader dx (zd "level" (.int 0) (zd "at" (.int 0) (zd "tokens" (.ref tl) []))))) b=none->H b=none/\b≠r:=fun b e=>by
   have:b≠r:=fun y=>by rw[y,qc]at e;cases e
   rw[qd this]at e;exact⟨e,this⟩
  have r1:(upd H r (.ins a.Reader dx (zd "level" (.int 0) (zd "at" (.int 0) (zd "tokens" (.ref tl) []))))) r=some _:=qc;generalize upd H r (.ins a.Reader dx (zd "level" (.int 0) (zd "at" (.int 0) (zd "tokens" (.ref tl) []))))=H1 at k1 f1 r1 ⊢;refine⟨(by show 2<=Λ;decide),fun wl hwl=>?_⟩;obtain⟨w1,w2⟩:=f1 wl hwl;refine⟨_,rfl,r,_,dx,_,rfl,(qd (Ne.symm w2)).trans r1,T.Yad,T.YaP,(by show 3<1000;decide),?_⟩;refine⟨ό _,fun bl hbl=>?_⟩;have b2:bl≠r:=fun y=>by rw[y,qc]at hbl;cases hbl
  rw[qd b2]at hbl;have b3:bl≠wl:=fun y=>by rw[y,qc]at hbl;cases hbl
  rw[qd b3]at hbl;obtain⟨b1,_⟩:=f1 bl hbl;refine⟨_,rfl,r,_,dx,_,rfl,(qd (Ne.symm b2)).trans qc,T.Yad,T.YaM,(by show 4<1000;decide),?_⟩;refine⟨ό _,fun gl hgl=>?_⟩;have g2:gl≠r:=fun y=>by rw[y,qc]at hgl;cases hgl
  rw[qd g2]at hgl;have g4:gl≠bl:=fun y=>by rw[y,qc]at hgl;cases hgl
  rw[qd g4,qd g2]at hgl;have g3:gl≠wl:=fun y=>by rw[y,qc]at hgl;cases hgl
  rw[qd g3]at hgl;obtain⟨g1,_⟩:=f1 gl hgl;refine⟨_,rfl,r,_,dx,_,rfl,(qd (Ne.symm g2)).trans qc,T.Yad,T.YaL,(by show 5<1000;decide),?_⟩
  have inM:∀b,(⟨r,dx,tl,wl,bl,gl,[]⟩:RA).M b->b=r\/H b=none:=fun b hb=>by
   rcases hb with hb|hb
   ·exact .inl hb
   ·have hb:b∈[wl,bl,gl]:=hb;simp only[Γ,YcI,or_false]at hb;rcases hb with rfl|rfl|rfl
    ·exact .inr w1
    ·exact .inr b1
    ·exact .inr g1
  have keep:∀b o,H b=some o->b≠r->upd (upd (upd (upd (upd (upd H1 wl (.lst [.str "end",.str "EXPR"])) r (.ins a.Reader dx (zd "waiting" (.ref wl) (zd "level" (.int 0) (zd "at" (.int 0) (zd "tokens" (.ref tl) [])))))) bl (.lst [])) r (.ins a.Reader dx (zd "built" (.ref bl) (zd "waiting" (.ref wl) (zd "level" (.int 0) (zd "at" (.int 0) (zd "tokens" (.ref tl) []))))))) gl (.lst [])) r (.ins a.Reader dx (Zt (.ref tl) (.int 0) (.int 0) (.ref wl) (.ref bl) (.ref gl))) b=some o:=fun b o e n=>by rw[qd n,qd (qg e g1),qd n,qd (qg e b1),qd n,qd (qg e w1)];exact k1 b o e n
  have pass:∀b o,H b=some o->(∀d,o≠.ins a.Reader d [])->¬(⟨r,dx,tl,wl,bl,gl,[]⟩:RA).M b:=fun b o e ni y=>by
   rcases inM b y with y|y
   ·rw[y,hc]at e;cases e;exact ni _ rfl
   ·rw[y]at e;cases e
  have ner:∀b o,H b=some o->(∀d,o≠.ins a.Reader d [])->b≠r:=fun b o e ni y=>pass b o e ni (.inl y);refine k _ ⟨r,dx,tl,wl,bl,gl,[]⟩ rfl inM keep ⟨qc,⟨as,⟨keep _ _ htl (ner _ _ htl fun d q=>by cases q),pass _ _ htl fun d q=>by cases q⟩,?_⟩,?_,⟨[],?_,?_⟩,?_,.nil,?_,rfl,hpv⟩
  ·refine qZ (fun t m q=>?_) hts;obtain⟨d,ha,q1,q2,_,_⟩:=q;have i1:∀d',HO.ins a.Token d (tokF (.str (j9 m.tok)) (.int m.place) (.ref ha))≠.ins a.Reader d' []:=fun d' q=>by injection q with _ _ q;cases q
   exact⟨d,ha,keep _ _ q1 (ner _ _ q1 i1),keep _ _ q2 (ner _ _ q2 fun d q=>by cases q),pass _ _ q1 i1,pass _ _ q2 fun d q=>by cases q⟩
  ·show upd _ r _ wl=_;rw[qd w2,qd (Ne.symm g3),qd w2,qd (Ne.symm b3),qd w2,qc];rfl
  ·show upd _ r _ bl=_;rw[qd b2,qd (Ne.symm g4),qd b2,qc];rfl
  ·unfold qhc qA;rfl
  ·show upd _ r _ gl=_;rw[qd g2,qc];rfl
  ·show [wl,bl,gl].Nodup;exact Ybn.mpr ⟨by simp only[Γ,YcI,or_false,not_or];exact⟨Ne.symm b3,Ne.symm g3⟩,Ybn.mpr ⟨by simp only[Γ,YcI,or_false];exact Ne.symm g4,Ybn.mpr ⟨by simp,List.nodup_nil⟩⟩⟩
theorem qeO:qm ["tree"] ["tree"] (qe Qa):=⟨rfl,rfl,rfl,by decide +kernel,rfl,by decide +kernel,by decide +kernel⟩
theorem qeP(F:Fun K "refuse_deep" "refuse_deep" Qa f fd)(T:Tx P w K mg a)(Gx:QZ P w K mg base 2 a.TreeTooDeep "TreeTooDeep" ["self"] (spX a.TreeTooDeep 6 false)):qw P w K mg base (CXR P w) 4 f fd ["tree"] (qd7 a K):=by
 refine F.okR qeO (fun vs H Q E h=>?_) (fun cdv A outer s H vs Q E hr h=>?_)
 ·obtain⟨t,U,rfl,_⟩:=h;rfl
 ·obtain⟨t,U,rfl,hU,kx,ko⟩:=h;refine⟨_,qf (qR (qK JR (qj (pv 0) rfl) (qM T.g_MOST_DEPTH) (qX _)) (qf (Z8 Gx hr)) zh),?_⟩;obtain⟨dx,x,y,z,ht⟩:=hU.depth;refine⟨_,rfl,t,_,dx,_,_,rfl,ht,T.Yac,T.YaG,qdY _ _ _ _,_,_,rfl,rfl,_,rfl,zR (fun e=>?_) fun e=>?_⟩
  ·have e:40<Vastoa.depth U:=by have:=of_decide_eq_true e;omega
   exact qaM T.Ybg T.Ya9 T.YaX T.YaY (kx e)
  ·exact ko fun y=>e (decide_eq_true (by omega))
end
end RT
end
section
namespace RT
open PySem PySem.Spec PyProof.Rows L2
open Vastoa (Mark Marks)
open RM (Part Sym qH kd held MS Bg)
theorem qmh:∀s∈([.p .EXPR,.t .fin]:List Sym),qbr s=true:=by decide +kernel
section
variable{P:Program}{w:World}{K:γ}{mg:Str->Option Value}{base:Heap}{f:Addr}{fd:FuncData}{a:Ad}
theorem qeQ:qm ["text","reader","tree"] ["text"] (qe qaL):=⟨rfl,rfl,rfl,by decide +kernel,rfl,by decide +kernel,by decide +kernel⟩
theorem qnJ(F:Fun K "read" "read" qaL f fd)(T:Tx P w K mg a)(Gx:QZ P w K mg base 2 a.TextTooLong "TextTooLong" ["self"] (spX a.TextTooLong 1 false))(Gc:FnAt P w K mg base (CXR P w) 7 "cut" ["text"] (qmM a K))
  (Gi:qcg P w K mg base CX0 1 a.Reader "Reader" ["self","tokens"] (qcw a)) (Gs:jn P w K mg base (CXR P w) 6 a.Reader "step" ["self"] (qkR a K)) (Gd:FnAt P w K mg base (CXR P w) 4 "refuse_deep" ["tree"] (qd7 a K)):
  qw P w K mg base (CXR P w) 8 f fd ["text"] (qcx a K):=by
 refine F.okR qeQ (fun vs H Q E h=>?_) (fun cdv A outer s H vs Q E hr h=>?_)
 ·obtain⟨ta,txt,rfl,_⟩:=h;rfl
 ·obtain⟨ta,txt,rfl,ht,ko,kx⟩:=h;have hr2:qI 2 _:=hr.mono (by decide);have hr3:qI 3 _:=hr.mono (by decide);have hr4:qI 4 _:=hr.mono (by decide);have hr6:qI 6 _:=hr.mono (by decide)
  refine⟨_,qi (qR (qK JR (jc zD (by rfl) T.b_len PySem.boot_len (qa (pv 0) qh)) (qM T.g_MOST_TEXT_BYTES) (qX _)) (qf (Z8 Gx hr3)) zh)
   (qi (qW (i:=1) qeQ.nd rfl (Or.inl rfl) (Zb Gi hr2 qO (qa (qT Gc hr j7 (qa (pv 0) qh)) qh)))
   (qi (Q4 PassesOwn.leaving (Q6 (qj (pv 1) rfl) (by intro _;rfl)) (qf (qu (jw Gs T.Yad hr6 j7 (pv 1)))))
   (qi (qW (i:=2) qeQ.nd rfl (Or.inl rfl) (jp zu (qj (pv 1) rfl) qr (fun _ _=>rfl)))
   (qi (qu (qT Gd hr4 j7 (qa (pv 2) qh)))
   (qf (qG (pv 2))))))),?_⟩
  refine⟨_,rfl,ta,_,rfl,.inl ht,_,_,rfl,rfl,_,rfl,zR (fun hl=>?_) fun hl=>?_⟩
  ·have hl:2048<txt.length:=by have:=of_decide_eq_true hl;rw[zw]at this;omega
   exact qaM T.Ybf T.Ya8 T.YaS T.YaT (kx _ (qkS hl))
  have hl:¬2048<txt.length:=fun y=>hl (decide_eq_true (by rw[zw];omega));refine⟨_,rfl,ta,txt,rfl,ht,by omega,fun H1 tl as toks s1 etk ltk htl hts=>?_,fun p hp=>kx _ (qmf hl hp)⟩;obtain⟨hEnds,hok⟩:=CM.qhO etk;have hrt:=qkT hl etk;have hne:toks≠[]:=by obtain⟨pre,q,e,_⟩:=hEnds;rw[e];simp
  obtain⟨pm,hpm⟩:=qnI hne;intro r dx hrn hdx hneq;have s2:qB H1 (upd (upd H1 dx (.own r)) r (.ins a.Reader dx [])):=fun b o e=>by rw[qd (qg e hrn),qd (qg e hdx)];exact e
  refine⟨r,dx,tl,as,toks,pm,rfl,qc,s2 _ _ htl,qZ (fun t m q=>q.keep (qp.of s2)) hts,hpm,fun H2 z ez inM k2 R2=>⟨rfl,?_⟩⟩;have s3:qB H1 H2:=fun b o e=>k2 b o (s2 b o e) (qg e hrn)
  have out:∀b o,H1 b=some o->¬z.M b:=fun b o e y=>by
   rcases inM b y with y|y
   ·rw[y,hrn]at e;cases e
   ·rw[s2 b o e]at y;cases y
  obtain⟨cnt,hrun⟩:=(RM.machine (Q:=fun S=>∃e u pv',S=⟨u,pv',0,[],[e],[]⟩/\qcU toks=.ok e/\RM.good e=true) (E:=fun y=>qcU toks=.error y) (ts:=toks) (pv:=pm) hEnds (fun e u pv' h1 h2=>⟨e,u,pv',rfl,h1,h2⟩) (fun y h=>h)).count
  refine⟨fun m σ H'=>∃(z':RA)(n:Nat)(S:MS),σ=[some (.ref ta),some (.ref z'.r),none]/\qU a H' z' toks n S/\RM.Fits toks.length (RM.hw toks) S/\(∀s∈S.W,qbr s=true)/\(∀b o,H1 b=some o->H' b=some o/\¬z'.M b) /\
   RM.qer (fun S=>∃e u pv',S=⟨u,pv',0,[],[e],[]⟩/\qcU toks=.ok e/\RM.good e=true) (fun y=>qcU toks=.error y) m S,
   ⟨cnt,z,0,qhc toks pm,by rw[ez];rfl,R2,RM.qjb toks pm,qmh,fun b o e=>⟨s3 b o e,out b o e⟩,hrun⟩,?_⟩
  rintro m σ H3 ⟨z3,n,S,rfl,R3,hF,hW,fr,run⟩;refine⟨_,rfl,z3.r,_,z3.dx,_,_,rfl,R3.ins,T.Yad,T.YaP,qac _ _ _ _ _ _,_,.inl ⟨_,SqL.of R3.wl,rfl⟩,?_⟩;have hts':∀m∈S.ts,CM.Jy m.tok=true:=fun m hm=>hok m (by rw[R3.ts]at hm;exact List.mem_of_mem_drop hm)
  have ne:∀r',RM.step S=some r'->(!(S.W.reverse.map fun s=>V.str (Qr s)).isEmpty)=true:=fun r' e=>by
   cases hw:S.W with
   |nil=>unfold RM.step at e;rw[hw]at e;cases e
   |cons y W=>simp
  cases run with
  |done q=>
   obtain⟨e,u,pv',rfl,e1,e2⟩:=q;refine zz ?_;obtain⟨bs,b1,b2⟩:=R3.bl;have b2:qA a z3.M H3 [e] bs:=b2;unfold qA at b2;obtain⟨t,r',rfl,hT,h0⟩:=b2;unfold qA at h0;subst h0;refine⟨_,rfl,z3.r,_,z3.dx,_,_,rfl,R3.ins,T.Yad,T.YaM,Zi _ _ _ _ _ _,z3.bl,_,_,_,rfl,rfl,SqL.of b1,jM (j:=0) (v:=V.ref t) rfl,?_⟩;have hT0:qy a M0 H3 e t:=qy.pass (fun b o e _=>⟨e,id⟩) _ _ hT;rw[e1]at hrt;refine⟨_,rfl,t,e,rfl,hT0,fun hd=>?_,fun hd=>?_⟩
   ·have:Vastoa.read txt=.error ⟨6,0⟩:=by rw[hrt];show(if 40<Vastoa.depth e then _ else _)=_;rw[if_pos hd]
    exact fun C dx' H' s' x=>kx _ this C dx' H' ((s1.trans fun b o e=>(fr b o e).1).trans s') x
   ·have:Vastoa.read txt=.ok e:=by rw[hrt];show(if 40<Vastoa.depth e then _ else _)=_;rw[if_neg hd]
    have hb:=hF.tree (by omega);have hh:=CM.qhR etk;have e3:RM.tw e<=200000:=by have:=hb.1;simp only[RM.jJ]at this;omega
    have e4:RM.lw e<=2048:=by have:=hb.2;simp only[RM.Q9]at this;omega
    exact⟨_,rfl,ko e this e2 e3 e4 H3 t (s1.trans fun b o e=>(fr b o e).1) hT0⟩
  | @next k S0 S' e run'=>rw[ne _ e];refine zT ⟨_,fun σ' H' q=>q,?_⟩;refine⟨_,rfl,z3.r,z3.dx,_,rfl,R3.ins,qcj _ _ _ _ _ _,z3,toks,n,S,rfl,R3,hF,by omega,hW,hok,?_⟩;rw[e];exact fun H' z' n' er p R=>⟨k,YbE _,z',n',S',by rw[er],R,hF.step e,qmg hW hts' e,fun b o eb=>p b o (fr b o eb).1 (fr b o eb).2,run'⟩
  | @fail k S0 x e hx=>rw[ne _ e];refine zT ⟨_,fun σ' H' q=>q,?_⟩;refine⟨_,rfl,z3.r,z3.dx,_,rfl,R3.ins,qcj _ _ _ _ _ _,z3,toks,n,S,rfl,R3,hF,by omega,hW,hok,?_⟩;rw[e];rw[hx]at hrt;exact fun C dx' H' k' x'=>kx x hrt C dx' H' (s1.trans fun b o eb=>k' b o (fr b o eb).1 (fr b o eb).2) x'
end
end RT
end
section
namespace L2
open PySem PySem.Spec PyProof.Rows
noncomputable def qf9:List Str->List Value->Bool
 |[],[]=>true
 |x::xs,.str y _::us=>x==y&&qf9 xs us
 |_,_=>false
theorem qfE:∀{xs:List Str}{us:List Value},qf9 xs us=true->qD (xs.map V.str) us
 |[],[],_=>.nil
 |x::xs,.str y t::us,h=>by simp only[qf9,Ybm,beq_iff_eq]at h;obtain⟨rfl,h⟩:=h;exact .cons ⟨t,rfl⟩ (qfE h)
noncomputable def JV(K:γ)(a:Addr)(xs:List Str):Bool:=match K.lookup a with
 |some ⟨.type ty,_,.seq its _,_⟩=>ty=="tuple"&&decide (its.size<=1000)&&qf9 xs its.toList
 |_=>false
theorem Js{K:γ}{a:Addr}{xs:List Str}(h:JV K a xs=true):qay K a (xs.map V.str):=by
 unfold JV at h
 split at h
 ·rename_i ty _ its n sl e;simp only[Ybm,beq_iff_eq,decide_eq_true_eq]at h;obtain⟨⟨rfl,h2⟩,h3⟩:=h;exact⟨_,its,n,e,rfl,rfl,Yb2 (Q7 h2),qfE h3⟩
 ·cases h
noncomputable def ZH(K:γ)(C S:Addr):Bool:=(YcN K C).any fun cd=>cd.mro.contains (.ref S)
theorem ZB{K:γ}{C S:Addr}(h:ZH K C S=true):subB K C S:=by
 unfold ZH at h;cases e:YcN K C with
 |none=>rw[e]at h;cases h
 |some cd=>rw[e]at h;exact⟨cd,e,h⟩
def qcV(w:World)(kv:Key×V)(e:DictEntry):Prop:=e.hash=qlr w kv.1/\JP kv.1 e.key=true/\RelV kv.2 e.val
theorem qbu{P:Program}{w:World}{K:γ}{a:Addr}{es:Array DictEntry}{ep:Nat}{kvs:List (Key×V)}(lk:K.lookup a=some ⟨.type "dict",none,.dict es ep,#[]⟩)(ha:(a==sysModules)=false)(h:Paired (qcV w) kvs es.toList)(nd:(kvs.map (·.1)).Nodup):
  Q0 P w K a kvs:=by
 have key:∀{l:List (Key×V)}{m:List DictEntry},Paired (qcV w) l m->∃vs:List (Key×Value),KV l vs/\Pairs (zZ P w) m vs/\vs.map (·.1)=l.map (·.1)/\∀e∈m,∃k,JP k e.key=true/\e.hash=qlr w k:=by
  intro l m q
  induction q with
  |nil=>exact⟨[],.nil,.nil,rfl,fun e he=>by cases he⟩
  | @cons kv e l m q t ih=>
   obtain⟨vs,h1,h2,h3,h4⟩:=ih;obtain⟨q1,q2,q3⟩:=q;refine⟨(kv.1,e.val)::vs,.cons ⟨rfl,q3⟩ h1,.cons q2 rfl h2,by rw[Ybp,Ybp,h3],fun e' he=>?_⟩;rcases Γ.mp he with rfl|he
   ·exact⟨kv.1,q2,q1⟩
   ·exact h4 e' he
 obtain⟨vs,h1,h2,h3,h4⟩:=key h;refine⟨ha,vs,h1,fun hp hk=>⟨_,es,ep,hk _ _ lk,⟨rfl,rfl,rfl⟩,rfl,fun e he=>h4 e (YdH.mpr he),h2,by rw[h3];exact nd⟩⟩
theorem qkU{K:γ}{h:Heap}{mg:Str->Option Value}{n:Str}{u:Value}{v:V}(X:K.In h)(G:h.Ns η mg)(e:θ K η n=some (some u))(r:RelV v u):GlV mg n v:=⟨u,υ X G e,r⟩
theorem zH{K:γ}{h:Heap}{mg:Str->Option Value}{n:Str}{i:Int}{t:Tok}(X:K.In h)(G:h.Ns η mg)(e:θ K η n=some (some (.int i t))):GlV mg n (.int i):=qkU X G e ⟨t,rfl⟩
theorem QT{K:γ}{h:Heap}{mg:Str->Option Value}{n:Str}{a:Addr}(X:K.In h)(G:h.Ns η mg)(e:θ K η n=some (some (.ref a))):GlV mg n (.ref a):=qkU X G e rfl
noncomputable def Jt(es:Array DictEntry)(x:Str):Addr:=match es.toList.find? fun e=>JP (Sum.inr x) e.key with
 |some ⟨_,_,.ref a⟩=>a
 |_=>0
end L2
namespace RT
open PySem PySem.Spec PyProof.Rows L2
theorem qiv(l:List Int)(h:NeutralIO.bytes l=true):nt (VastoaNeutral.text l)=l.map V.int:=by unfold nt VastoaNeutral.text;rw[YcJ];refine YcM fun x hx=>?_;have:=YcH.mp h x hx;simp only[Ybm,decide_eq_true_eq]at this;show V.int ((x.toNat:Nat):Int)=V.int x;rw[Yc8 this.1]
abbrev VT:=Vastoa.Tree
inductive Pt where
 |s (x:Str)
 |t (T:VT)
 |l (b:List Nat)
noncomputable def bts(x:Str):List Nat:=x.cps.toList
noncomputable def z9:Pt->List Nat
 | .s x=>bts x
 | .t T=>Vastoa.shown T
 | .l b=>b
noncomputable abbrev qV(L:List Pt):List Nat:=L.flatMap z9
noncomputable def ps(x:String):Pt:=.s (Str.ofString x)
noncomputable def atP(U:VT)(r:Nat):List Pt:=if U.kind.rank<r then [ps "(",.t U,ps ")"]else [.t U]
noncomputable def btw(m:Pt):List (List Pt)->List Pt
 |[]=>[]
 |[g]=>g
 |g::r=>g++(m::btw m r)
noncomputable def jL(U:VT):List Pt:=if U.kind=.piece then [.t U]else [ps "${",.t U,ps "}"]
noncomputable def ja(ls:List (List Nat))(l:List VT):List (List Pt):=(ls.zip l).map fun p=>[.l p.1,ps " = ",.t p.2,ps ";"]
noncomputable def Qq(ls:List (List Nat))(l:List VT):List Pt:=btw (ps " ") (ja ls l)
noncomputable def Zu(ls:List (List Nat))(l:List VT):List Pt:=if ls.isEmpty then [ps "{}"]else [ps "{ "]++Qq ls l++[ps " }"]
noncomputable def ones(l:List VT):List (List Pt):=l.map fun U=>[.t U]
noncomputable def fnP(l:List VT)(dots:List (List Pt)):List Pt:=match l.getLast? with
 |some e=>[ps "fn {"]++btw (ps ", ") (ones l.dropLast++dots)++[ps "}: ",.t e]
 |none=>[]
noncomputable def jy(ls:List (List Nat)):List Pt:=ls.flatMap fun x=>[ps ".",.l x]
noncomputable def qJ:VT->List Pt
 | .node k ls l=>match k,ls,l with
  | .piece,[x],[]=>[.l (x.flatMap Vastoa.escaped)]
  | .num,[x],[]=>[.l x]
  | .yes,[],[]=>[ps "true"]
  | .no,[],[]=>[ps "false"]
  | .none,[],[]=>[ps "none"]
  | .name,[x],[]=>[.l x]
  | .text,[],l=>[ps "\""]++l.flatMap jL++[ps "\""]
  | .list,[],l=>[ps "["]++btw (ps ", ") (ones l)++[ps "]"]
  | .record,ls,l=>Zu ls l
  | .recur,ls,l=>[ps "rec "]++Zu ls l
  | .get,ls,[a]=>atP a 12++jy ls
  | .get,ls,[a,d]=>atP a 12++jy ls++[ps " ? "]++atP d 12
  | .app,[],[f,x]=>atP f 10++[ps " "]++atP x 11
  | .neg,[],[e]=>[ps "-"]++atP e 9
  | .not,[],[e]=>[ps "not "]++atP e 3
  | .has,[x],[e]=>atP e 5++[ps " has ",.l x]
  | .fn,[x],[e]=>[ps "fn ",.l x,ps ": ",.t e]
  | .fields,[],l=>fnP l []
  | .openFields,[],l=>fnP l [[ps ".."]]
  | .param,[x],[]=>[.l x]
  | .param,[x],[d]=>[.l x,ps " ? ",.t d]
  | .letIn,ls,l=>match l.getLast? with
   |some e=>[ps "let "]++Qq ls l++[ps " in ",.t e]
   |none=>[]
  | .cond,[],[a,b,c]=>[ps "if ",.t a,ps " then ",.t b,ps " else ",.t c]
  | .must,[],[a,b]=>[ps "must ",.t a,ps "; ",.t b]
  | .op o,[],[a,b]=>atP a o.leftRank++[ps " ",.s (kindS (.op o)),ps " "]++atP b o.rightRank
  |_,_,_=>[]
theorem ze(a b:List Pt):qV (a++b)=qV a++qV b:=Yc9
theorem QU(U:VT)(r:Nat):qV (atP U r)=Vastoa.Kid.at_ (U.kind,Vastoa.shown U) r:=by
 unfold atP Vastoa.Kid.at_
 split<;>simp[qV,z9,ps,bts]<;>rfl
theorem qbv(m:Pt):∀gs:List (List Pt),qV (btw m gs)=Vastoa.between (z9 m) (gs.map qV)
 |[]=>rfl
 |[g]=>rfl
 |g::h::r=>by show qV (g++(m::btw m (h::r)))=qV g++z9 m++Vastoa.between (z9 m) ((h::r).map qV);rw[<- qbv m (h::r)];simp[qV]
theorem zC:∀l:List VT,Vastoa.shownKids l=l.map fun U=>(U.kind,Vastoa.shown U)
 |[]=>by unfold Vastoa.shownKids;rfl
 |t::r=>by unfold Vastoa.shownKids;rw[zC r];rfl
theorem qmi(ls:List (List Nat))(l:List VT):(ja ls l).map qV=(ls.zip (Vastoa.shownKids l)).map fun p=>p.1++[32,61,32]++p.2.2++[59]:=by rw[zC,List.zip_map_right];unfold ja;rw[YcJ,YcJ];refine YcM fun p _=>?_;simp[qV,z9,ps,bts];rfl
theorem qd8(ls:List (List Nat))(l:List VT):qV (Qq ls l)=Vastoa.shownBinds ls (Vastoa.shownKids l):=by unfold Qq Vastoa.shownBinds;rw[qbv,qmi];rfl
theorem qhd(ls:List (List Nat))(l:List VT):qV (Zu ls l)=Vastoa.shownRecord ls (Vastoa.shownKids l):=by
 unfold Zu Vastoa.shownRecord
 split
 ·rfl
 ·rw[ze,ze,qd8];rfl
theorem qfF(l:List VT):(ones l).map qV=(Vastoa.shownKids l).map fun p=>p.2:=by rw[zC];unfold ones;rw[YcJ,YcJ];refine YcM fun p _=>?_;simp[qV,z9]
theorem qdb:∀l:List VT,qV (l.flatMap jL)=(Vastoa.shownKids l).flatMap Vastoa.shownPiece
 |[]=>by rw[zC];rfl
 |U::r=>by
  have:=qdb r;rw[zC]at this ⊢;rw[Ycg,ze,this,Ybp,Ycg];congr 1;unfold jL Vastoa.shownPiece;show qV (if U.kind=.piece then _ else _)=if U.kind=.piece then _ else _
  split<;>simp[qV,z9,ps,bts]<;>rfl
theorem qcy:∀ls:List (List Nat),qV (jy ls)=ls.flatMap fun x=>46::x
 |[]=>rfl
 |x::r=>by have:=qcy r;unfold jy at this ⊢;rw[Ycg,ze,this,Ycg];congr 1;simp[qV,z9,ps,bts];rfl
theorem qiw(l:List VT)(dots:List (List Pt))(dt:List (List Nat))(hd:dots.map qV=dt)(hl:l≠[]):qV (fnP l dots)=Vastoa.shownFn (Vastoa.shownKids l) dt:=by have e1:l.getLast?=some (l.getLast hl):=List.getLast?_eq_some_getLast hl;unfold fnP Vastoa.shownFn;rw[e1];show qV ([ps "fn {"]++_++[ps "}: ",.t _])=_;rw[ze,ze,qbv,Ybv,qfF,hd,zC,zC,<- List.map_dropLast,List.getLast?_map,e1];simp[qV,z9,ps,bts,Vastoa.wFn];rfl
inductive Shp:VT->Prop
 |piece (x):Shp (.node .piece [x] [])
 |num (x):Shp (.node .num [x] [])
 |yes:Shp (.node .yes [] [])
 |no:Shp (.node .no [] [])
 |none:Shp (.node .none [] [])
 |name (x):Shp (.node .name [x] [])
 |text (l):Shp (.node .text [] l)
 |list (l):Shp (.node .list [] l)
 |record (ls l) (h:ls.length=l.length):Shp (.node .record ls l)
 |recur (ls l) (h:ls.length=l.length):Shp (.node .recur ls l)
 |get1 (ls a):Shp (.node .get ls [a])
 |get2 (ls a d):Shp (.node .get ls [a,d])
 |app (f x):Shp (.node .app [] [f,x])
 |neg (e):Shp (.node .neg [] [e])
 |not (e):Shp (.node .not [] [e])
 |has (x e):Shp (.node .has [x] [e])
 |fn (x e):Shp (.node .fn [x] [e])
 |fields (l e):Shp (.node .fields [] (l++[e]))
 |opens (l e):Shp (.node .openFields [] (l++[e]))
 |param0 (x):Shp (.node .param [x] [])
 |param1 (x d):Shp (.node .param [x] [d])
 |letIn (ls l e) (h:ls.length=l.length):Shp (.node .letIn ls (l++[e]))
 |cond (a b c):Shp (.node .cond [] [a,b,c])
 |must (a b):Shp (.node .must [] [a,b])
 |op (o a b):Shp (.node (.op o) [] [a,b])
theorem JN{α:Type}{l:List α}(h:l.length=1):∃x,l=[x]:=by
 match l,h with
 |[x],_=>exact⟨x,rfl⟩
theorem qjp{α:Type}{l:List α}(h:l.length=2):∃x y,l=[x,y]:=by
 match l,h with
 |[x,y],_=>exact⟨x,y,rfl⟩
theorem qpO{α:Type}{l:List α}(h:l.length=3):∃x y z,l=[x,y,z]:=by
 match l,h with
 |[x,y,z],_=>exact⟨x,y,z,rfl⟩
theorem qmj{α:Type}{l:List α}(h:l≠[]):∃y x,l=y++[x]:=⟨_,_,(Ycw h).symm⟩
theorem qd9:∀{T:VT},RM.good T=true->Shp T
 | .node k ls l,h=>by
  unfold RM.good at h;rw[Ybm]at h;have h:=h.2;cases k<;>simp only[Ybm,YcP,beq_iff_eq,List.isEmpty_iff,Bool.not_eq_true',List.isEmpty_eq_false_iff]at h
  case piece=>obtain⟨x,rfl⟩:=JN h.1;rw[h.2];exact .piece x
  case num=>obtain⟨x,rfl⟩:=JN h.1;rw[h.2];exact .num x
  case yes=>rw[h.1,h.2];exact .yes
  case no=>rw[h.1,h.2];exact .no
  case none=>rw[h.1,h.2];exact .none
  case name=>obtain⟨x,rfl⟩:=JN h.1;rw[h.2];exact .name x
  case text=>rw[h];exact .text l
  case list=>rw[h];exact .list l
  case record=>exact .record ls l h
  case recur=>exact .recur ls l h
  case get=>
   rcases h with h|h
   ·obtain⟨x,rfl⟩:=JN h;exact .get1 ls x
   ·obtain⟨x,y,rfl⟩:=qjp h;exact .get2 ls x y
  case app=>obtain⟨x,y,rfl⟩:=qjp h.2;rw[h.1];exact .app x y
  case neg=>obtain⟨x,rfl⟩:=JN h.2;rw[h.1];exact .neg x
  case not=>obtain⟨x,rfl⟩:=JN h.2;rw[h.1];exact .not x
  case has=>obtain⟨x,rfl⟩:=JN h.1;obtain⟨y,rfl⟩:=JN h.2;exact .has x y
  case fn=>obtain⟨x,rfl⟩:=JN h.1;obtain⟨y,rfl⟩:=JN h.2;exact .fn x y
  case fields=>obtain⟨y,x,rfl⟩:=qmj h.2;rw[h.1];exact .fields y x
  case openFields=>obtain⟨y,x,rfl⟩:=qmj h.2;rw[h.1];exact .opens y x
  case param=>
   obtain⟨x,rfl⟩:=JN h.1;rcases h.2 with h|h
   ·rw[YcR.mp h];exact .param0 x
   ·obtain⟨y,rfl⟩:=JN h;exact .param1 x y
  case letIn=>obtain⟨y,x,rfl⟩:=qmj (l:=l) (by intro e;subst e;simp at h);exact .letIn ls y x (by simpa using h)
  case cond=>obtain⟨x,y,z,rfl⟩:=qpO h.2;rw[h.1];exact .cond x y z
  case must=>obtain⟨x,y,rfl⟩:=qjp h.2;rw[h.1];exact .must x y
  case op=>obtain⟨x,y,rfl⟩:=qjp h.2;rw[h.1];exact .op _ x y
mutual
noncomputable def wt:VT->Nat
 | .node _ ls l=>12 * (2+ls.length+l.length)+2 * (ls.map Ycs).sum+zg l
noncomputable def zg:List VT->Nat
 |[]=>0
 |t::r=>wt t+zg r
end
noncomputable def wp:Pt->Nat
 | .s x=>1+x.cps.size
 | .t T=>wt T
 | .l b=>1+b.length
noncomputable def wP(L:List Pt):Nat:=(L.map wp).sum
theorem J0(x:Pt)(L:List Pt):wP (x::L)=wp x+wP L:=by simp[wP]
theorem zp(a b:List Pt):wP (a++b)=wP a+wP b:=by simp[wP]
theorem qbw:∀a b:List VT,zg (a++b)=zg a+zg b
 |[],b=>by simp[zg]
 |t::r,b=>by simp only[YbP,zg,qbw r b];omega
theorem qoL(T:VT):24<=wt T:=by cases T;unfold wt;omega
theorem qkV(x:Pt):1<=wp x:=by
 cases x with
 |s x=>show 1<=1+_;omega
 |t T=>have:=qoL T;show 1<=wt T;omega
 |l b=>show 1<=1+_;omega
theorem qea:∀L:List Pt,L.length<=wP L
 |[]=>ό _
 |x::L=>by have:=qea L;have:=qkV x;rw[J0,ξ];omega
noncomputable def wG(gs:List (List Pt)):Nat:=(gs.map wP).sum
theorem qcW(g:List Pt)(gs:List (List Pt)):wG (g::gs)=wP g+wG gs:=by simp[wG]
theorem qoM(a b:List (List Pt)):wG (a++b)=wG a+wG b:=by simp[wG]
theorem qcz(m:Pt):∀gs:List (List Pt),wP (btw m gs)<=wG gs+wp m * gs.length
 |[]=>ό _
 |[g]=>by show wP g<=_;rw[qcW];omega
 |g::h::r=>by show wP (g++(m::btw m (h::r)))<=_;have:=qcz m (h::r);rw[zp,J0,qcW,ξ,Nat.mul_add];omega
theorem qcX:∀l:List VT,wG (ones l)=zg l
 |[]=>by unfold zg;rfl
 |t::r=>by have:=qcX r;unfold ones at this ⊢;unfold zg;rw[Ybp,qcW,this];simp[wP,wp]
theorem qhe:∀(ls:List (List Nat))(l:List VT),ls.length=l.length->wG (ja ls l)=7 * ls.length+(ls.map Ycs).sum+zg l
 |[],[],_=>by unfold zg;rfl
 |x::ls,t::l,h=>by
  have:=qhe ls l (by simpa using h);unfold ja at this ⊢;unfold zg;rw[Ydk,Ybp,qcW,this];have e:wP [.l x,ps " = ",.t t,ps ";"]=7+x.length+wt t:=by show 1+x.length+(4+(wt t+(2+0)))=_;omega
  rw[e,Ybp,YbQ,ξ];omega
theorem qjq(ls:List (List Nat))(l:List VT)(h:ls.length=l.length):(ja ls l).length=ls.length:=by unfold ja;simp[h]
theorem qhf(ls:List (List Nat))(l:List VT)(h:ls.length=l.length):wP (Qq ls l)<=9 * ls.length+(ls.map Ycs).sum+zg l:=by have:=qcz (ps " ") (ja ls l);rw[qhe ls l h,qjq ls l h]at this;have e:wp (ps " ")=2:=rfl;rw[e]at this;unfold Qq;omega
theorem qkW(ls:List (List Nat))(l:List VT)(h:ls.length=l.length):wP (Zu ls l)<=9 * ls.length+(ls.map Ycs).sum+zg l+6:=by
 unfold Zu
 split
 ·show 3+0<=_;omega
 ·have:=qhf ls l h;rw[zp,zp];have e1:wP [ps "{ "]=3:=rfl;have e2:wP [ps " }"]=3:=rfl;omega
theorem JC(U:VT)(r:Nat):wP (atP U r)<=wt U+4:=by
 unfold atP
 split
 ·show 2+(wt U+(2+0))<=_;omega
 ·show wt U+0<=_;omega
theorem qfG:∀l:List VT,wP (l.flatMap jL)<=zg l+5 * l.length
 |[]=>ό _
 |U::r=>by
  have:=qfG r;rw[Ycg,zp,ξ];unfold zg
  have:wP (jL U)<=wt U+5:=by
   unfold jL
   split
   ·show wt U+0<=_;omega
   ·show 3+(wt U+(2+0))<=_;omega
  omega
theorem qeR:∀ls:List (List Nat),wP (jy ls)=3 * ls.length+(ls.map Ycs).sum
 |[]=>rfl
 |x::r=>by
  have:=qeR r;unfold jy at this ⊢;rw[Ycg,zp,this];have:wP [ps ".",.l x]=3+x.length:=by show 2+(1+x.length+0)=_;omega
  rw[this,Ybp,YbQ,ξ];omega
theorem qeS:∀x:List Nat,(x.flatMap Vastoa.escaped).length<=2 * x.length
 |[]=>ό _
 |c::r=>by
  have:=qeS r;rw[Ycg,ν,ξ];have:(Vastoa.escaped c).length<=2:=by unfold Vastoa.escaped;split<;>(try split)<;>(try split)<;>simp
  omega
theorem JK{α:Type}(l:List α)(e:α):(l++[e]).getLast?=some e:=by simp
theorem qaV(l:List VT)(e:VT)(dots:List (List Pt)):fnP (l++[e]) dots=[ps "fn {"]++btw (ps ", ") (ones l++dots)++[ps "}: ",.t e]:=by unfold fnP;rw[JK,List.dropLast_concat]
theorem qhg(e:VT):∀(ls:List (List Nat))(l:List VT),ls.length=l.length->ls.zip (l++[e])=ls.zip l
 |[],[],_=>rfl
 |x::ls,y::l,h=>by rw[YbP,Ydk,Ydk,qhg e ls l (by simpa using h)]
theorem qh2(ls:List (List Nat))(l:List VT)(e:VT)(h:ls.length=l.length):ja ls (l++[e])=ja ls l:=by unfold ja;rw[qhg e ls l h]
theorem qeb(ls:List (List Nat))(l:List VT)(e:VT):qJ (.node .letIn ls (l++[e]))=[ps "let "]++Qq ls (l++[e])++[ps " in ",.t e]:=by
 show(match(l++[e]).getLast? with
  |some e'=>[ps "let "]++Qq ls (l++[e])++[ps " in ",.t e']
  | none=>[])=_
 rw[JK]
theorem qhh{T:VT}(h:Shp T):wP (qJ T)<wt T:=by
 cases h with
 |piece x=>have:=qeS x;show(1+(x.flatMap Vastoa.escaped).length)+0<_;simp only[wt,zg,Yb8,YbQ,YbO,ξ,Ψ];omega
 |num x=>show(1+x.length)+0<_;simp only[wt,zg,Yb8,YbQ,YbO,ξ,Ψ];omega
 |yes=>show 5<_;unfold wt zg;decide
 |no=>show 6<_;unfold wt zg;decide
 |none=>show 5<_;unfold wt zg;decide
 |name x=>show(1+x.length)+0<_;simp only[wt,zg,Yb8,YbQ,YbO,ξ,Ψ];omega
 |text l=>have:=qfG l;show wP ([ps "\""]++l.flatMap jL++[ps "\""])<_;rw[zp,zp];have e1:wP [ps "\""]=2:=rfl;simp only[wt,Yb8,YbO,Ψ];omega
 |list l=>have:=qcz (ps ", ") (ones l);rw[qcX,show(ones l).length=l.length by simp[ones],show wp (ps ", ")=3 from rfl]at this;show wP ([ps "["]++btw (ps ", ") (ones l)++[ps "]"])<_;rw[zp,zp];have e1:wP [ps "["]=2:=rfl;have e2:wP [ps "]"]=2:=rfl;simp only[wt,Yb8,YbO,Ψ];omega
 |record ls l h=>have:=qkW ls l h;show wP (Zu ls l)<_;simp only[wt];omega
 |recur ls l h=>have:=qkW ls l h;show wP ([ps "rec "]++Zu ls l)<_;rw[zp];have e1:wP [ps "rec "]=5:=rfl;simp only[wt];omega
 |get1 ls a=>have:=JC a 12;have:=qeR ls;show wP (atP a 12++jy ls)<_;rw[zp];simp only[wt,zg,ξ,Ψ];omega
 |get2 ls a d=>have:=JC a 12;have:=JC d 12;have:=qeR ls;show wP (atP a 12++jy ls++[ps " ? "]++atP d 12)<_;rw[zp,zp,zp];have e1:wP [ps " ? "]=4:=rfl;simp only[wt,zg,ξ,Ψ];omega
 |app f x=>have:=JC f 10;have:=JC x 11;show wP (atP f 10++[ps " "]++atP x 11)<_;rw[zp,zp];have e1:wP [ps " "]=2:=rfl;simp only[wt,zg,ξ,Ψ];omega
 |neg e=>have:=JC e 9;show wP ([ps "-"]++atP e 9)<_;rw[zp];have e1:wP [ps "-"]=2:=rfl;simp only[wt,zg,ξ,Ψ];omega
 |not e=>have:=JC e 3;show wP ([ps "not "]++atP e 3)<_;rw[zp];have e1:wP [ps "not "]=5:=rfl;simp only[wt,zg,ξ,Ψ];omega
 |has x e=>
  have:=JC e 5;show wP (atP e 5++[ps " has ",.l x])<_;rw[zp];have e1:wP [ps " has ",.l x]=7+x.length:=by show 6+(1+x.length+0)=_;omega
  simp only[wt,zg,ξ,Ψ,Yb8,YbQ,YbO];omega
 |fn x e=>show 4+((1+x.length)+(3+(wt e+0)))<_;simp only[wt,zg,ξ,Ψ,Yb8,YbQ,YbO];omega
 |fields l e=>have:=qcz (ps ", ") (ones l);rw[qcX,show(ones l).length=l.length by simp[ones],show wp (ps ", ")=3 from rfl]at this;show wP (fnP (l++[e]) [])<_;rw[qaV,zp,zp,Ybs];have e1:wP [ps "fn {"]=5:=rfl;have e2:wP [ps "}: ",.t e]=4+wt e:=rfl;simp only[wt,qbw,zg,ν,ξ,Ψ];omega
 |opens l e=>have:=qcz (ps ", ") (ones l++[[ps ".."]]);rw[qoM,qcX,ν,show(ones l).length=l.length by simp[ones],show wp (ps ", ")=3 from rfl,show wG [[ps ".."]]=3 from rfl]at this;show wP (fnP (l++[e]) [[ps ".."]])<_;rw[qaV,zp,zp];have e1:wP [ps "fn {"]=5:=rfl;have e2:wP [ps "}: ",.t e]=4+wt e:=rfl;simp only[wt,qbw,zg,ν,ξ,Ψ]at this ⊢;omega
 |param0 x=>show(1+x.length)+0<_;simp only[wt,zg,Yb8,YbQ,YbO,ξ,Ψ];omega
 |param1 x d=>show(1+x.length)+(4+(wt d+0))<_;simp only[wt,zg,ξ,Ψ,Yb8,YbQ,YbO];omega
 |letIn ls l e h=>
  have:=qhf ls l h;rw[qeb,zp,zp];have e0:Qq ls (l++[e])=Qq ls l:=by unfold Qq;rw[qh2 ls l e h]
  have e1:wP [ps "let "]=5:=rfl;have e2:wP [ps " in ",.t e]=5+wt e:=rfl;rw[e0];simp only[wt,qbw,zg,ν,ξ,Ψ];omega
 |cond a b c=>show 4+(wt a+(7+(wt b+(7+(wt c+0)))))<_;simp only[wt,zg,ξ,Ψ,Yb8,YbQ,YbO];omega
 |must a b=>show 6+(wt a+(3+(wt b+0)))<_;simp only[wt,zg,ξ,Ψ,Yb8,YbQ,YbO];omega
 |op o a b=>
  have:=JC a o.leftRank;have:=JC b o.rightRank;show wP (atP a o.leftRank++[ps " ",.s (kindS (.op o)),ps " "]++atP b o.rightRank)<_;rw[zp,zp];have e1:wP [ps " ",.s (kindS (.op o)),ps " "]<=8:=by cases o<;>decide +kernel
  simp only[wt,zg,ξ,Ψ,Yb8,YbQ,YbO];omega
theorem zb(k:Vastoa.Kind)(ls:List (List Nat))(l:List VT):Vastoa.shown (.node k ls l)=Vastoa.shownNode k ls (Vastoa.shownKids l):=by rw[Vastoa.shown]
theorem qhi{T:VT}(h:Shp T):Vastoa.shown T=qV (qJ T):=by
 cases h with
 |piece x=>rw[zb];show x.flatMap Vastoa.escaped=qV [.l (x.flatMap Vastoa.escaped)];simp[qV,z9]
 |num x=>rw[zb];show x=qV [.l x];simp[qV,z9]
 |yes=>unfold Vastoa.shown Vastoa.shownKids;rfl
 |no=>unfold Vastoa.shown Vastoa.shownKids;rfl
 |none=>unfold Vastoa.shown Vastoa.shownKids;rfl
 |name x=>rw[zb];show x=qV [.l x];simp[qV,z9]
 |text l=>show _=qV ([ps "\""]++l.flatMap jL++[ps "\""]);rw[ze,ze,qdb];rw[zb];rfl
 |list l=>show _=qV ([ps "["]++btw (ps ", ") (ones l)++[ps "]"]);rw[ze,ze,qbv,qfF];rw[zb];rfl
 |record ls l h=>show _=qV (Zu ls l);rw[qhd];rw[zb];rfl
 |recur ls l h=>show _=qV ([ps "rec "]++Zu ls l);rw[ze,qhd];rw[zb];rfl
 |get1 ls a=>show _=qV (atP a 12++jy ls);rw[ze,QU,qcy];rw[zb,zC];rfl
 |get2 ls a d=>show _=qV (atP a 12++jy ls++[ps " ? "]++atP d 12);rw[ze,ze,ze,QU,QU,qcy];rw[zb,zC];rfl
 |app f x=>show _=qV (atP f 10++[ps " "]++atP x 11);rw[ze,ze,QU,QU];rw[zb,zC];rfl
 |neg e=>show _=qV ([ps "-"]++atP e 9);rw[ze,QU];rw[zb,zC];rfl
 |not e=>show _=qV ([ps "not "]++atP e 3);rw[ze,QU];rw[zb,zC];rfl
 |has x e=>show _=qV (atP e 5++[ps " has ",.l x]);rw[ze,QU];rw[zb,zC];show Vastoa.Kid.at_ (e.kind,Vastoa.shown e) 5++[32]++Vastoa.wHas++[32]++x=_;simp[qV,z9,ps,bts,Vastoa.wHas];rfl
 |fn x e=>rw[zb,zC];show Vastoa.wFn++[32]++x++[58,32]++Vastoa.shown e=qV [ps "fn ",.l x,ps ": ",.t e];simp[qV,z9,ps,bts,Vastoa.wFn];rfl
 |fields l e=>show _=qV (fnP (l++[e]) []);rw[qiw _ [] [] rfl (by simp)];rw[zb];rfl
 |opens l e=>show _=qV (fnP (l++[e]) [[ps ".."]]);rw[qiw _ _ [[46,46]] rfl (by simp)];rw[zb];rfl
 |param0 x=>rw[zb];show x=qV [.l x];simp[qV,z9]
 |param1 x d=>rw[zb,zC];show x++[32,63,32]++Vastoa.shown d=qV [.l x,ps " ? ",.t d];simp[qV,z9,ps,bts];rfl
 |letIn ls l e h=>rw[qeb,ze,ze,qd8];rw[zb];show Vastoa.wLet++[32]++Vastoa.shownBinds ls (Vastoa.shownKids (l++[e]))++[32]++Vastoa.wIn++[32]++(((Vastoa.shownKids (l++[e])).getLast?.map fun p=>p.2).getD [])=_;rw[show((Vastoa.shownKids (l++[e])).getLast?.map fun p=>p.2).getD []=Vastoa.shown e by rw[zC,List.getLast?_map,JK];rfl];simp[qV,z9,ps,bts,Vastoa.wLet,Vastoa.wIn];rfl
 |cond a b c=>rw[zb,zC];show Vastoa.wIf++[32]++Vastoa.shown a++[32]++Vastoa.wThen++[32]++Vastoa.shown b++[32]++Vastoa.wElse++[32]++Vastoa.shown c=qV [ps "if ",.t a,ps " then ",.t b,ps " else ",.t c];simp[qV,z9,ps,bts,Vastoa.wIf,Vastoa.wThen,Vastoa.wElse];rfl
 |must a b=>rw[zb,zC];show Vastoa.wMust++[32]++Vastoa.shown a++[59,32]++Vastoa.shown b=qV [ps "must ",.t a,ps "; ",.t b];simp[qV,z9,ps,bts,Vastoa.wMust];rfl
 |op o a b=>
  show _=qV (atP a o.leftRank++[ps " ",.s (kindS (.op o)),ps " "]++atP b o.rightRank);rw[ze,ze,QU,QU];rw[zb,zC];have e:qV [ps " ",.s (kindS (.op o)),ps " "]=[32]++o.sign++[32]:=by cases o<;>decide +kernel
  rw[e];show Vastoa.Kid.at_ (a.kind,Vastoa.shown a) o.leftRank++[32]++o.sign++[32]++Vastoa.Kid.at_ (b.kind,Vastoa.shown b) o.rightRank=_;simp
end RT
end
section
namespace L2
open PySem PySem.Spec PyProof.Rows
theorem PE.weak {X:Cx} {e:Expr} {t t':TE} (h:PE X e t) (w:∀σ H Q,t' σ H Q->t σ H Q):PE X e t':=fun pins s σ H Q I q=>h pins s σ H Q I (w σ H Q q)
theorem PA.weak {X:Cx} {es:List Expr} {t t':TA} (h:PA X es t) (w:∀σ H Q,t' σ H Q->t σ H Q):PA X es t':=fun pos pins s σ H Q I q=>h pos pins s σ H Q I (w σ H Q q)
section
variable{X:Cx}{k:Nat}{pos apos cpos p:Pos}{fn o e g:Expr}{es:List Expr}{tf td ty tx:TE}{t:TA}
def qkX(P:Program)(w:World)(K:γ)(mg:Str->Option Value)(base:Heap)(k:Nat)(tf:TE)(t:TA):TE:=fun σ H Q=>tf σ H fun x H1=>∃f fd ps sp,x=.ref f/\qw P w K mg base CX0 k f fd ps sp/\ζ K (.ref f)=true/\Binds K fd ps []/\t σ H1 fun vs H2=>sp vs H2 Q E0
theorem qmk(hf:PE X fn tf)(hr:qI k X.A)(ha:PA X (e::es) t)(hc:eval (.Call fn (e::es) [] pos) X.env=(do callWith pos (<- eval fn X.env) [] (backTo pos (starEach (e::es) X.env)) (backToKw pos (keywordEach [] X.env))):=by rfl)
  (he:starEach (e::es) X.env=(false,eval e X.env)::starEach es X.env:=by rfl) (hpl:(backTo pos (starEach es X.env)).any (·.1)=false:=by rfl):PE X (.Call fn (e::es) [] pos) (qkX X.prog X.w X.K X.mg X.base k tf t):=by
 intro pins s σ H Q I h;refine Call_ (thn (hf pins s σ H _ I h) fun u s1 ⟨x,H1,I1,rx,f,fd,ps,sp,ex,F,hk,hb,q⟩=>?_) hc;subst ex;obtain rfl:u=Value.ref f:=rx;refine Yb3 (h₀:=X.base) I1.ok.mod.kin hk (thn (ha pos pins s1 σ H1 _ I1 q) fun us s2 ⟨vs,H2,I2,r,q2⟩=>⟨I2.kIn,?_⟩) he hpl;exact qbY F hr hb .nil qO I2 r (by rw[Ybs];exact q2)
theorem qoN{pins:List (Addr×Obj)}{σ:St}{H:Hp}{s:Shared}{A:Around}{E:Value->Shared->Prop}{a:Addr}{kvs:List (Key×V)}{k:Key}{z:V}{u r:Value}{Q:Value->Shared->Prop}(I:Inv X pins σ H s)(d:Q0 X.prog X.w X.K a kvs)(ry:RelV (kV k) u)(rz:RelV z r)(h:∀w' s',Inv X pins σ H s'->RelV ((zB kvs k).getD z) w'->Q w' s'):
  wpAny (model X.prog X.w) A (call (.builtin "dict.get") [.ref a,u,r]) Q E s:=by
 obtain⟨hd,vs,rel,dd⟩:=d;have dd:=dd _ I.kIn;refine call_meetsIn YcB dd.typeIs Ydy (PySem.F.args_dict_get_3 _ _ _) (meets_dict_get_default (zZ X.prog X.w) a (qa9 ry) hd r) ⟨_,dd.mapOf,h _ _ (I.tok _) ?_⟩;exact(rel.val k).getD rz
def qoO(P:Program)(w:World)(K:γ)(td ty tx:TE):TE:=fun σ H Q=>td σ H fun x H1=>∃a kvs,x=.ref a/\Q0 P w K a kvs/\ty σ H1 fun y H2=>∃k,y=kV k/\tx σ H2 fun z H3=>Q ((zB kvs k).getD z) H3
theorem qml(ho:PE X o td)(he:PE X e ty)(hf:PE X g tx)(m:M2 X o "get" apos e g cpos):PE X (.Call (.Attribute o "get" apos) [e,g] [] cpos) (qoO X.prog X.w X.K td ty tx):=by
 intro pins s σ H Q I h;refine wpAny_Call_method m.base m.few m.line Ydw YcB YdG (thn (ho pins s σ H _ I h) fun u s1 ⟨x,H1,I1,rx,a,kvs,ex,d,q1⟩=>?_);subst ex;obtain rfl:u=Value.ref a:=rx;obtain⟨t1,t2⟩:=qdm I1 d;refine⟨t1,t2,?_⟩;rw[m.trees]
 refine Calls.callWith_builtin rfl (Calls.evalArgs_plain (Calls.spliced_cons (thn (he pins s1 σ H1 _ I1 q1) fun iv s2 ⟨y,H2,I2,ry,k,ey,q2⟩=>
  Calls.spliced_cons (thn (hf pins s2 σ H2 _ I2 q2) fun fv s3 ⟨z,H3,I3,rz,q3⟩=>Calls.spliced_nil ?_))))
 subst ey;exact qoN I3 d ry rz fun w' s4 I4 rw'=>⟨_,H3,I4,rw',q3⟩
def qpi(K:γ)(c:Value)(te:TE):TE:=fun σ H Q=>te σ H fun x H1=>∃t b,Jg K H1 x t/\YbV K t c=some b/\Q (.bl b) H1
theorem qix{c:Value}{cn:Str}{p2:Pos}{te:TE}(he:PE X e te)(hm:X.mg "isinstance"=none)
  (hc:∀(pins:List (Addr×Obj))(s:Shared)(σ:St)(H:Hp)(Q:Value->Shared->Prop),Inv X pins σ H s->Q c s->wpAny (model X.prog X.w) X.A (eval (.Name cn p2) X.env) Q X.xe s) (hg:Gl X "isinstance":=by rfl)
  (hs:starEach [e,.Name cn p2] X.env=[(false,eval e X.env),(false,eval (.Name cn p2) X.env)]:=by rfl):PE X (.Call (.Name "isinstance" p) [e,.Name cn p2] [] pos) (qpi X.K c te):=by
 intro pins s σ H Q I h;refine Call_ (Zv I hg hm (by decide +kernel:bootBuiltins "isinstance"=some (.builtin "isinstance")) ?_);rw[hs]
 refine Calls.callWith_builtin rfl (Calls.evalArgs_plain (Calls.spliced_cons (thn (he pins s σ H _ I h) fun u s1 ⟨x,H1,I1,rx,t,b,ty,ek,q⟩=>
  Calls.spliced_cons (hc pins s1 σ H1 _ I1 (Calls.spliced_nil ?_)))))
 exact qjY I1 rx ty ek fun tk=>⟨.bl b,H1,I1.tok _,rfl,q⟩
end
end L2
end
section
namespace RT
open PySem PySem.Spec PyProof.Rows L2
theorem qkY{M:Addr->Prop}{H H':Hp}(s:qB H H'):Pass M H M H':=fun b o e n=>⟨s b o e,n⟩
theorem qA.s {a:Ad} {M:Addr->Prop} {H H':Hp} (s:qB H H') {l:List VT} {ks:List Addr} (h:qA a M H l ks):qA a M H' l ks:=qA.pass (qkY s) _ _ h
theorem qy.s {a:Ad} {M:Addr->Prop} {H H':Hp} (s:qB H H') {T:VT} {t:Addr} (h:qy a M H T t):qy a M H' T t:=qy.pass (qkY s) _ _ h
theorem same_none{H H':Hp}(s:qB H H'){p:Addr}(h:H' p=none):H p=none:=by
 cases e:H p with
 |none=>rfl
 |some o=>rw[s _ _ e]at h;cases h
def qcA(a:Ad)(M:Addr->Prop)(H:Hp):Pt->V->Prop
 | .s x,v=>v=.str x
 | .t T,v=>∃u,v=.ref u/\qy a M H T u
 | .l b,v=>∃u,v=.ref u/\H u=some (.lst (nt b))/\¬M u
theorem qcA.s {a:Ad} {M:Addr->Prop} {H H':Hp} (s:qB H H'):∀{x:Pt}{v:V},qcA a M H x v->qcA a M H' x v
 | .s _,_,h=>h
 | .t _,_,⟨u,e,h⟩=>⟨u,e,h.s s⟩
 | .l _,_,⟨u,e,h,n⟩=>⟨u,e,s _ _ h,n⟩
def Parts(a:Ad)(M:Addr->Prop)(H:Hp)(L:List Pt)(vs:List V):Prop:=Paired (fun v x=>qcA a M H x v) vs L
theorem Parts.s {a:Ad} {M:Addr->Prop} {H H':Hp} (s:qB H H') {L:List Pt} {vs:List V} (h:Parts a M H L vs):Parts a M H' L vs:=qZ (fun _ _ q=>q.s s) h
theorem Parts.app {a:Ad} {M:Addr->Prop} {H:Hp}:∀{L L':List Pt}{vs ws:List V},Parts a M H L vs->Parts a M H L' ws->Parts a M H (L++L') (vs++ws)
 |_,_,_,_,.nil,h=>h
 |_,_,_,_,.cons q r,h=>.cons q (Parts.app r h)
def qaW(a:Ad)(M:Addr->Prop)(H:Hp)(v:V)(g:List Pt):Prop:=∃p ws,v=.ref p/\H p=some (.lst ws)/\Parts a M H g ws
theorem qaW.s {a:Ad} {M:Addr->Prop} {H H':Hp} (s:qB H H') {v:V} {g:List Pt}:qaW a M H v g->qaW a M H' v g:=fun⟨p,ws,e,h,q⟩=>⟨p,ws,e,s _ _ h,q.s s⟩
def JL(a:Ad)(M:Addr->Prop)(H:Hp)(gs:List (List Pt))(gv:List V):Prop:=Paired (qaW a M H) gv gs
theorem JL.s {a:Ad} {M:Addr->Prop} {H H':Hp} (s:qB H H') {gs:List (List Pt)} {gv:List V} (h:JL a M H gs gv):JL a M H' gs gv:=qZ (fun _ _ q=>q.s s) h
abbrev NP:=L2.St->Hp->Prop
def qhj(N:NP):Prop:=∀σ H H',qB H H'->N σ H->N σ H'
def jA(a:Ad)(M:Addr->Prop)(T:VT):NP:=fun σ H=>∃t,σ[0]?=some (some (.ref t))/\qy a M H T t
theorem jS{a:Ad}{M:Addr->Prop}{T:VT}:qhj (jA a M T):=fun _ _ _ s ⟨t,e,h⟩=>⟨t,e,h.s s⟩
def tMk(a:Ad)(M:Addr->Prop)(N:NP)(L:List Pt):TE:=fun σ H Q=>N σ H/\∀H' p vs,qB H H'->H p=none->H' p=some (.lst vs)->Parts a M H' L vs->Q (.ref p) H'
def tIt(a:Ad)(M:Addr->Prop)(N:NP)(x:Pt):TE:=fun σ H Q=>N σ H/\∀v,qcA a M H x v->Q v H
def qjr(a:Ad)(M:Addr->Prop)(N:NP)(xs:List Pt):TA:=fun σ H Q=>N σ H/\∀vs,Parts a M H xs vs->Q vs H
def tGr(a:Ad)(M:Addr->Prop)(N:NP)(gs:List (List Pt)):TE:=fun σ H Q=>N σ H/\∀H' p gv,qB H H'->H p=none->H' p=some (.lst gv)->JL a M H' gs gv->Q (.ref p) H'
noncomputable def Bd:Nat:=16000000
theorem ZY:Bd<sizeLine:=by decide
noncomputable def atV(U:VT)(r:Nat)(u:Addr):List V:=if U.kind.rank<r then [.str "(",.ref u,.str ")"]else [.ref u]
theorem qbx{a:Ad}{M:Addr->Prop}{H:Hp}{U:VT}{r:Nat}{u:Addr}(h:qy a M H U u):Parts a M H (atP U r) (atV U r u):=by
 unfold atP atV
 split
 ·exact .cons rfl (.cons ⟨u,rfl,h⟩ (.cons rfl .nil))
 ·exact .cons ⟨u,rfl,h⟩ .nil
def qcB(a:Ad):Sp:=fun vs H Q E=>∃(M:Addr->Prop)(u:Addr)(U:VT)(r:Nat),vs=[.ref u,.int r]/\qy a M H U u/\∀H' p,qB H H'->H p=none->H' p=some (.lst (atV U r u))->Q (.ref p) H'
def qcY(a:Ad):Sp:=fun vs H Q E=>∃(M:Addr->Prop)(g:Addr)(gs:List (List Pt))(gv:List V)(x:Str),vs=[.ref g,.str x]/\H g=some (.lst gv)/\JL a M H gs gv/\(btw (.s x) gs).length<=Bd /\
 ∀H' p ws,qB H H'->H p=none->H' p=some (.lst ws)->Parts a M H' (btw (.s x) gs) ws->Q (.ref p) H'
def spL(a:Ad)(Sh:VT->Prop)(Lf:VT->List Pt):Sp:=fun vs H Q E=>∃(M:Addr->Prop)(t:Addr)(T:VT),vs=[.ref t]/\qy a M H T t/\Sh T/\(Lf T).length<=Bd/\∀H' p ws,qB H H'->H p=none->H' p=some (.lst ws)->Parts a M H' (Lf T) ws->Q (.ref p) H'
section
variable{X:Cx}{a:Ad}{M:Addr->Prop}{N:NP}{e e1 e2:Expr}{es:List Expr}{x:Pt}{xs L L1 L2:List Pt}{gs:List (List Pt)}{pos p p2:Pos}{k:Nat}{U:VT}
theorem le_app{A C:List Pt}(h:(A++C).length<=Bd):A.length<=Bd:=by rw[ν]at h;omega
theorem qaX{A C:List Pt}(h:(A++C).length<=Bd):C.length<=Bd:=by rw[ν]at h;omega
theorem zn:PA X [] (qjr a M N []):=qh.weak fun σ H Q h=>h.2 [] .nil
theorem qF(he:PE X e (tIt a M N x))(hr:PA X es (qjr a M N xs))(hs:starEach (e::es) X.env=(false,eval e X.env)::starEach es X.env:=by rfl):PA X (e::es) (qjr a M N (x::xs)) :=(qa he hr hs).weak fun σ H Q h=>⟨h.1,fun v hv=>⟨h.1,fun vs hvs=>h.2 _ (.cons hv hvs)⟩⟩
theorem zy{x:Str}{j}:PE X (.Constant (.str x) j pos) (tIt a M N (.s x)):=qL.weak fun σ H Q h=>h.2 _ rfl
theorem zE(h:PA X es (qjr a M N L))(hl:L.length<=1000:=by exact Nat.le_of_ble_eq_true rfl):PE X (.List es pos) (tMk a M N L) :=(za h).weak fun σ H Q h=>⟨h.1,fun vs hvs=>⟨by rw[Paired.length hvs];exact Yb2 (Q7 hl),fun p hp=>h.2 _ p vs (qo hp) hp qc (hvs.s (qo hp))⟩⟩
theorem jT(sN:qhj N)(h1:PE X e1 (tMk a M N L1))(h2:PE X e2 (tMk a M N L2))(hl:(L1++L2).length<=Bd):PE X (.BinOp e1 .Add e2 pos) (tMk a M N (L1++L2)) :=
 (j8 qb4 h1 h2).weak fun σ H Q h=>⟨h.1,fun H1 p1 v1 s1 f1 q1 r1=>⟨sN _ _ _ s1 h.1,fun H2 p2 v2 s2 f2 q2 r2=>⟨p1,p2,v1,v2,rfl,rfl,s2 _ _ q1,q2,by
   rw[Paired.length r1,Paired.length r2,<- ν];exact Yb2 (Ycn hl ZY),fun p hp=>
  h.2 _ p _ (s1.trans (s2.trans (qo hp))) (same_none (s1.trans s2) hp) qc (Parts.app (r1.s (s2.trans (qo hp))) (r2.s (qo hp)))⟩⟩⟩
theorem qby(G:FnAt X.prog X.w X.K X.mg X.base CX0 k "at" ["kid","rank"] (qcB a))(hr:qI k X.A){te:TE}{r:Nat}(hk:PE X e (tIt a M N (.t U)))(h2:PE X e2 te)(w:∀σ H Q,N σ H->Q (.int (r:Nat)) H->te σ H Q)
  (hg:Gl X "at":=by rfl) (he:starEach [e,e2] X.env=(false,eval e X.env)::starEach [e2] X.env:=by rfl) (he2:starEach [e2] X.env=(false,eval e2 X.env)::starEach [] X.env:=by rfl) (hpl:(backTo pos (starEach [e2] X.env)).any (·.1)=false:=by rfl):
  PE X (.Call (.Name "at" p) [e,e2] [] pos) (tMk a M N (atP U r)) :=
 (qT G hr qO (qa hk (qa h2 qh he2) he) hg (by decide) he hpl).weak fun σ H Q h=>⟨h.1,fun v ⟨u,ev,hu⟩=>w _ _ _ h.1 ⟨M,u,U,r,by rw[ev];rfl,hu,fun H' p s f q=>h.2 H' p _ s f q (qbx (hu.s s))⟩⟩
theorem qkZ(G:FnAt X.prog X.w X.K X.mg X.base CX0 k "put_between" ["groups","mark"] (qcY a))(hr:qI k X.A){x:Str}{j}(hk:PE X e (tGr a M N gs))(hl:(btw (.s x) gs).length<=Bd)
  (hg:Gl X "put_between":=by rfl) (he:starEach [e,.Constant (.str x) j p2] X.env=(false,eval e X.env)::starEach [.Constant (.str x) j p2] X.env:=by rfl) (he2:starEach [.Constant (.str x) j p2] X.env=(false,eval (.Constant (.str x) j p2) X.env)::starEach [] X.env:=by rfl) (hpl:(backTo pos (starEach [.Constant (.str x) j p2] X.env)).any (·.1)=false:=by rfl):
  PE X (.Call (.Name "put_between" p) [e,.Constant (.str x) j p2] [] pos) (tMk a M N (btw (.s x) gs)) :=
 (qT G hr qO (qa hk (qa qL qh he2) he) hg (by decide) he hpl).weak fun σ H Q h=>⟨h.1,fun H1 g gv s1 f1 q1 r1=>⟨M,g,gs,gv,x,rfl,q1,r1,hl,fun H' p ws s f q r=>h.2 H' p ws (s1.trans s) (same_none s1 f) q r⟩⟩
theorem qnK(G:FnAt X.prog X.w X.K X.mg X.base CX0 k "put_between" ["groups","mark"] (qcY a))(hr:qI k X.A){te:TE}{x:Str}{j}(hk:PE X e te)(w:∀σ H Q,N σ H->(∀g gv,H g=some (.lst gv)->JL a M H gs gv->Q (.ref g) H)->te σ H Q)(hl:(btw (.s x) gs).length<=Bd)
  (hg:Gl X "put_between":=by rfl) (he:starEach [e,.Constant (.str x) j p2] X.env=(false,eval e X.env)::starEach [.Constant (.str x) j p2] X.env:=by rfl) (he2:starEach [.Constant (.str x) j p2] X.env=(false,eval (.Constant (.str x) j p2) X.env)::starEach [] X.env:=by rfl) (hpl:(backTo pos (starEach [.Constant (.str x) j p2] X.env)).any (·.1)=false:=by rfl):
  PE X (.Call (.Name "put_between" p) [e,.Constant (.str x) j p2] [] pos) (tMk a M N (btw (.s x) gs)) :=
 (qT G hr qO (qa hk (qa qL qh he2) he) hg (by decide) he hpl).weak fun σ H Q h=>w _ _ _ h.1 fun g gv q1 r1=>⟨M,g,gs,gv,x,rfl,q1,r1,hl,fun H' p ws s f q r=>h.2 H' p ws s f q r⟩
theorem qhk{fn:Str}{Sh:VT->Prop}{Lf:VT->List Pt}{T:VT}{ty:Pos}{n:Str}(G:FnAt X.prog X.w X.K X.mg X.base CX0 k fn ["node"] (spL a Sh Lf))(hr:qI k X.A)(hS:Sh T)(hl:(Lf T).length<=Bd)
  (hv:PE X (.Name n ty) (zt 0)) (hg:Gl X fn:=by rfl) (hdb:(fn==("__debug__":Str))=false:=by decide) (he:starEach [.Name n ty] X.env=(false,eval (.Name n ty) X.env)::starEach [] X.env:=by rfl):
  PE X (.Call (.Name fn p) [.Name n ty] [] pos) (tMk a M (jA a M T) (Lf T)) :=
 (qT G hr qO (qa hv qh he) hg hdb he rfl).weak fun σ H Q ⟨⟨t,et,ht⟩,h⟩=>⟨.ref t,et,M,t,T,rfl,ht,hS,hl,h⟩
variable{kd:Vastoa.Kind}{ls:List (List Nat)}{l:List VT}
def qjs(a:Ad)(M:Addr->Prop)(N:NP)(l:List VT):TE:=fun σ H Q=>N σ H/\∀ka ks,H ka=some (.lst (ks.map V.ref))->qA a M H l ks->Q (.ref ka) H
def qmO(M:Addr->Prop)(N:NP)(ls:List (List Nat)):TE:=fun σ H Q=>N σ H/\∀la lb,H la=some (.lst (lb.map V.ref))->qaT M H lb ls->Q (.ref la) H
theorem QH(hN:∀σ H,N σ H->jA a M (.node kd ls l) σ H)(c:Cls X.K a.Node)(n:qv X.K a.Node "kids")(h:PE X e (qaq X.K (zt 0) "kids")):PE X e (qjs a M N l) :=h.weak fun σ H Q ⟨hn,q⟩=>by obtain⟨t,et,ht⟩:=hN _ _ hn;unfold qy at ht;obtain⟨dx,la,ka,lb,ks,h1,h2,h3,h4,h5⟩:=ht;exact⟨_,et,t,_,dx,_,_,rfl,h1.1,c,n,Qo _ _ _ _,q ka ks h4.1 h5⟩
theorem qdt(hN:∀σ H,N σ H->jA a M (.node kd ls l) σ H)(c:Cls X.K a.Node)(n:qv X.K a.Node "labels")(h:PE X e (qaq X.K (zt 0) "labels")):PE X e (qmO M N ls) :=h.weak fun σ H Q ⟨hn,q⟩=>by obtain⟨t,et,ht⟩:=hN _ _ hn;unfold qy at ht;obtain⟨dx,la,ka,lb,ks,h1,h2,h3,h4,h5⟩:=ht;exact⟨_,et,t,_,dx,_,_,rfl,h1.1,c,n,JA _ _ _ _,q la lb h2.1 h3⟩
theorem qmm(hN:∀σ H,N σ H->jA a M (.node kd ls l) σ H)(c:Cls X.K a.Node)(n:qv X.K a.Node "kind")(h:PE X e (qaq X.K (zt 0) "kind")):PE X e (tIt a M N (.s (kindS kd))) :=h.weak fun σ H Q ⟨hn,q⟩=>by obtain⟨t,et,ht⟩:=hN _ _ hn;unfold qy at ht;obtain⟨dx,la,ka,lb,ks,h1,h2,h3,h4,h5⟩:=ht;exact⟨_,et,t,_,dx,_,_,rfl,h1.1,c,n,jK _ _ _ _,q _ rfl⟩
theorem Ze{H:Hp}{i:Nat}(hi:l[i]?=some U){ks:List Addr}(h:qA a M H l ks):∃u,ks[i]?=some u/\qy a M H U u:=by obtain⟨u,e1,e2⟩:=zM (qY.mp h) hi;exact⟨u,e1,e2⟩
theorem qhl{i:Nat}{ti:TE}(hk:PE X e (qjs a M N l))(h2:PE X e2 ti)(w:∀σ H Q,Q (.int (i:Nat)) H->ti σ H Q)(hi:l[i]?=some U)(hs:qcM e2):PE X (.Subscript e e2 pos) (tIt a M N (.t U)) :=
 (jp zu hk h2 hs).weak fun σ H Q ⟨hn,q⟩=>⟨hn,fun ka ks h1 h3=>w _ _ _ (by
  obtain⟨u,e1,e2⟩:=Ze hi h3
  exact⟨ka,_,_,_,rfl,rfl,SqL.of h1,jM (j:=i) (v:=V.ref u) (by rw[Ω,e1];rfl),q _ ⟨u,rfl,e2⟩⟩)⟩
theorem qiy{ti:TE}(hk:PE X e (qjs a M N l))(h2:PE X e2 ti)(w:∀σ H Q,Q (.int (-1)) H->ti σ H Q)(hi:l.getLast?=some U)(hs:qcM e2):PE X (.Subscript e e2 pos) (tIt a M N (.t U)) :=
 (jp zu hk h2 hs).weak fun σ H Q ⟨hn,q⟩=>⟨hn,fun ka ks h1 h3=>w _ _ _ (by
  have hl:ks.length=l.length:=Paired.length (qY.mp h3);have hne:l≠[]:=fun y=>by rw[y]at hi;cases hi
  have hpos:0<l.length:=List.length_pos_iff.mpr hne;rw[List.getLast?_eq_getElem?]at hi;obtain⟨u,e1,e2⟩:=Ze hi h3
  have e3:ks=ks.dropLast++[u]:=by
   have hn':ks≠[]:=fun y=>by rw[y]at hl;simp at hl;omega
   have:=Ycw hn';rw[List.getLast_eq_getElem]at this;have hq:ks[ks.length - 1]'(by omega)=u:=by rw[<- hl]at e1;exact(Δ.mp e1).2
   rw[hq]at this;exact this.symm
  refine⟨ka,_,_,_,rfl,rfl,SqL.of h1,?_,q (V.ref u) ⟨u,rfl,e2⟩⟩;rw[e3,Ybv]
  exact Jh _ _)⟩
theorem qoP{i:Nat}{ti:TE}{b:List Nat}(hk:PE X e (qmO M N ls))(h2:PE X e2 ti)(w:∀σ H Q,Q (.int (i:Nat)) H->ti σ H Q)(hi:ls[i]?=some b)(hs:qcM e2):PE X (.Subscript e e2 pos) (tIt a M N (.l b)) :=
 (jp zu hk h2 hs).weak fun σ H Q ⟨hn,q⟩=>⟨hn,fun la lb h1 h3=>w _ _ _ (by
  obtain⟨u,e1,e2⟩:=zM h3 hi
  exact⟨la,_,_,_,rfl,rfl,SqL.of h1,jM (j:=i) (v:=V.ref u) (by rw[Ω,e1];rfl),q _ ⟨u,rfl,e2⟩⟩)⟩
theorem ZI(i:Nat){n:Str}{j}{p1 p3:Pos}(c:Cls X.K a.Node)(nk:qv X.K a.Node "kids")(hi:l[i]?=some U)(hv:PE X (.Name n p) (zt 0))(hb:attributeBase (.Name n p) "kids" X.env (eval (.Name n p) X.env)=eval (.Name n p) X.env:=by rfl):
  PE X (.Subscript (.Attribute (.Name n p) "kids" p1) (.Constant (.int (i:Nat)) j p3) pos) (tIt a M (jA a M (.node kd ls l)) (.t U)) :=
 qhl (i:=i) (QH (fun _ _ h=>h) c nk (qj hv hb)) qr (fun _ _ _ h=>h) hi (fun _ _=>rfl)
theorem qcZ{b:List Nat}(i:Nat){n:Str}{j}{p1 p3:Pos}(c:Cls X.K a.Node)(nk:qv X.K a.Node "labels")(hi:ls[i]?=some b)(hv:PE X (.Name n p) (zt 0))(hb:attributeBase (.Name n p) "labels" X.env (eval (.Name n p) X.env)=eval (.Name n p) X.env:=by rfl):
  PE X (.Subscript (.Attribute (.Name n p) "labels" p1) (.Constant (.int (i:Nat)) j p3) pos) (tIt a M (jA a M (.node kd ls l)) (.l b)) :=
 qoP (i:=i) (qdt (fun _ _ h=>h) c nk (qj hv hb)) qr (fun _ _ _ h=>h) hi (fun _ _=>rfl)
theorem qoQ{n:Str}{j}{p1 p3 p4:Pos}(c:Cls X.K a.Node)(nk:qv X.K a.Node "kids")(hi:l.getLast?=some U)(hv:PE X (.Name n p) (zt 0))(hb:attributeBase (.Name n p) "kids" X.env (eval (.Name n p) X.env)=eval (.Name n p) X.env:=by rfl):
  PE X (.Subscript (.Attribute (.Name n p) "kids" p1) (.UnaryOp .USub (.Constant (.int 1) j p3) p4) pos) (tIt a M (jA a M (.node kd ls l)) (.t U)) :=
 qiy (QH (fun _ _ h=>h) c nk (qj hv hb)) (JQ Z2 qr) (fun _ _ _ h=>⟨_,rfl,h⟩) hi (fun _ _=>rfl)
end
end RT
end
section
namespace L2
open PySem PySem.Spec PyProof.Rows
theorem qmn{K:γ}{a:Addr}{xs:List V}{g:TG}{tb:TS}{D:Ends}{σ:L2.St}{H:Hp}(Pv:Nat->L2.St->Hp->Prop)(h0:Pv 0 σ H)(hl:∀i σ H,i<=xs.length->Pv i σ H->SqL K H a xs)
  (hs:∀i x σ H T,xs[i]?=some x->Pv i σ H->H T=none->g (.ref T) σ (upd H T (.tup [.int (i:Nat),x])) fun σ2 H2=>tb {D with nx:=Pv (i+1),ct:=Pv (i+1),bk:=D.nx} σ2 H2) (hd:∀σ H,Pv xs.length σ H->D.nx σ H):
  ∃W:Nat->Nat->L2.St->Hp->Prop,(∃m,W 0 m σ H)/\∀i m σ H,W i m σ H ->
   ((Ite K a).stop i H/\D.nx σ H)\/((Ite K a).go i H/\∃N:L2.St->Hp->Prop,(∀σ' H',N σ' H'->∃m',m'<m/\W (i+1) m' σ' H')/\∀x H',(Ite K a).yld i H x H'->g x σ H' fun σ2 H2=>tb {D with nx:=N,ct:=N,bk:=D.nx} σ2 H2):=by
 refine⟨fun i m σ H=>m=xs.length - i/\i<=xs.length/\Pv i σ H,⟨xs.length,by simp,ό _,h0⟩,?_⟩;rintro i m σ H ⟨rfl,hi,p⟩;have q:=hl i σ H hi p;by_cases hlt:i<xs.length
 ·refine .inr ⟨⟨xs,xs[i],q,by simp[hlt]⟩,Pv (i+1),fun σ' H' p'=>⟨xs.length - (i+1),by omega,rfl,hlt,p'⟩,fun x H' y=>?_⟩;obtain⟨T,z,rfl,hT,rfl,y⟩:=y;exact hs i z σ _ T (y xs q) p hT
 ·have e:i=xs.length:=by omega
  subst e;exact .inl ⟨⟨xs,q,ω _⟩,hd σ H p⟩
theorem qoR{K:γ}{a b:Addr}{xs ys:List V}(hxy:xs.length<=ys.length){g:TG}{tt:TT}{te:TE}{vs:List Nat}{σ:L2.St}{H1:Hp}{D:Addr}{Qd:Hp->Prop}(Pv:Nat->Hp->Prop)(h0:Pv 0 (upd H1 D (.lst [])))(hl:∀i H,i<=xs.length->Pv i H->SqL K H a xs/\SqL K H b ys)
  (hs:∀i x y H T,xs[i]?=some x->ys[i]?=some y->Pv i H->H T=none->g (.ref T) (wipe σ vs) (upd H T (.tup [x,y])) fun σ2 H2=>wipe σ2 vs=wipe σ vs/\tt σ2 H2 fun b H3=>
   if b=true then te σ2 H3 fun y H4=>∃acc,H4 D=some (.lst acc)/\acc.length<Λ/\Pv (i+1) (upd H4 D (.lst (acc++[y])))else Pv (i+1) H3) (hd:∀H,Pv xs.length H->Qd H):
  ∃W:Nat->Nat->Hp->Prop,(∃m,W 0 m (upd H1 D (.lst [])))/\∀i m H,W i m H ->
   ((Itz K a b).stop i H/\Qd H)\/((Itz K a b).go i H/\∃Nx:Hp->Prop,(∀H',Nx H'->∃m',m'<m/\W (i+1) m' H')/\∀x H',(Itz K a b).yld i H x H'->g x (wipe σ vs) H' fun σ2 H2=>wipe σ2 vs=wipe σ vs/\tt σ2 H2 fun b H3=>
    if b=true then te σ2 H3 fun y H4=>∃acc,H4 D=some (.lst acc)/\acc.length<Λ/\Nx (upd H4 D (.lst (acc++[y])))else Nx H3):=by
 refine⟨fun i m H=>m=xs.length - i/\i<=xs.length/\Pv i H,⟨xs.length,by simp,ό _,h0⟩,?_⟩;rintro i m H ⟨rfl,hi,p⟩;obtain⟨q,q2⟩:=hl i H hi p;by_cases hlt:i<xs.length
 ·have hly:i<ys.length:=by omega
  refine .inr ⟨⟨xs,ys,xs[i],ys[i],q,q2,by simp[hlt],by simp[hly]⟩,Pv (i+1),fun H' p'=>⟨xs.length - (i+1),by omega,rfl,hlt,p'⟩,fun x H' y=>?_⟩;obtain⟨T,z,z',rfl,hT,rfl,y,y'⟩:=y;exact hs i z z' _ T (y xs q) (y' ys q2) p hT
 ·have e:i=xs.length:=by omega
  subst e;exact .inl ⟨⟨xs,ys,q,q2,.inl (ω _)⟩,hd H p⟩
end L2
namespace RT
open PySem PySem.Spec PyProof.Rows L2
noncomputable def JD:List (Key×V):=([("fn",0),("fields",0),("fields..",0),("let",0),("if",0),("must",0),("or",1),("and",2),("not",3),("==",4),("!=",4),("<",4),("<=",4),("has",4),("//",5),("++",6),("+",7),("-",7),("*",8),("neg",9),("app",10),("get",11)]:List (String×Int)).map fun p=>(Sum.inr (Str.ofString p.1),V.int p.2)
noncomputable def qec:List Str:=["or","and","+","-","*"].map Str.ofString
noncomputable def qag:List Str:=["//","++"].map Str.ofString
structure Ap where
 ranks:Addr
 left:Addr
 right:Addr
structure Tp(P:Program)(w:World)(K:γ)(mg:Str->Option Value)(r:Ap):Prop where
 gR:GlV mg "RANKS" (.ref r.ranks)
 dR:Q0 P w K r.ranks JD
 gH:GlV mg "HIGHEST_RANK" (.int 12)
 gL:GlV mg "GATHERED_FROM_LEFT" (.ref r.left)
 tL:qay K r.left (qec.map V.str)
 gG:GlV mg "GATHERED_FROM_RIGHT" (.ref r.right)
 tG:qay K r.right (qag.map V.str)
 bE:mg "enumerate"=none
 bZ:mg "zip"=none
 bI:mg "isinstance"=none
 bS:mg "str"=none
theorem qmo(k:Vastoa.Kind):(zB JD (Sum.inr (kindS k))).getD (.int 12)=.int (k.rank:Nat):=by
 cases k with
 |op o=>cases o<;>kernel_rfl
 |_=>kernel_rfl
section
variable{P:Program}{w:World}{K:γ}{mg:Str->Option Value}{base:Heap}{f:Addr}{fd:FuncData}{a:Ad}{r:Ap}
theorem qpj:qm ["kid","rank"] ["kid","rank"] (qe qez):=⟨rfl,rfl,rfl,by decide +kernel,rfl,by decide +kernel,by decide +kernel⟩
theorem qpk(F:Fun K "at" "at" qez f fd)(T:Tx P w K mg a)(R:Tp P w K mg r):qw P w K mg base CX0 1 f fd ["kid","rank"] (qcB a):=by
 refine F.ok qpj (fun vs H Q E h=>?_) (fun cdv A outer s H vs Q E hr h=>?_)
 ·obtain⟨M,u,U,n,rfl,_⟩:=h;rfl
 ·obtain⟨M,u,U,n,rfl,hU,k⟩:=h
  refine⟨_,qi (qR (qK qf3 (qml (qM R.gR) (qj (pv 0) rfl) (qM R.gH) ⟨rfl,rfl,rfl,rfl⟩) (pv 1) (qX _)) (qf (qG (za (qa qL (qa (pv 0) (qa qL qh)))))) zh)
   (qf (qG (za (qa (pv 0) qh)))),?_⟩
  cases U with
  |node kd ls l=>
  have hU':=hU;unfold qy at hU';obtain⟨dx,la,ka,lb,ks,⟨h1,_⟩,_⟩:=hU';refine⟨r.ranks,_,rfl,R.dR,_,rfl,u,_,dx,_,_,rfl,h1,T.Yac,T.YaI,jK _ _ _ _,Sum.inr (kindS kd),rfl,_,rfl,_,_,qmo kd,rfl,_,rfl,zR (fun e=>?_) fun e=>?_⟩
  ·have e:kd.rank<n:=by have:=of_decide_eq_true e;omega
   refine⟨_,rfl,(by show 3<=Λ;decide),fun p hp=>k _ p (qo hp) hp ?_⟩;unfold atV;rw[if_pos (show(Vastoa.Tree.node kd ls l).kind.rank<n from e)];exact qc
  ·have e:¬kd.rank<n:=fun y=>e (decide_eq_true (by omega));refine⟨_,rfl,(by show 1<=Λ;decide),fun p hp=>k _ p (qo hp) hp ?_⟩;unfold atV;rw[if_neg (show ¬(Vastoa.Tree.node kd ls l).kind.rank<n from e)];exact qc
theorem qmp{m:Pt}{gs:List (List Pt)}{i:Nat}{g:List Pt}(h:gs[i]?=some g):btw m (gs.take (i+1))=btw m (gs.take i)++((if 0<i then [m]else [])++g):=by
 induction gs generalizing i with
 |nil=>cases h
 |cons x gs ih=>
  cases i with
  |zero=>cases h;simp[btw]
  |succ i=>
   have h:gs[i]?=some g:=by simpa using h
   have:=ih h;rw[Yb9,Yb9,if_pos (YcX i)];cases hg:gs with
   |nil=>rw[hg]at h;cases h
   |cons y gs'=>
    rw[hg]at this;show x++(m::btw m (y::gs'.take i))=_;rw[Yb9]at this;rw[this];cases i with
    |zero=>simp[btw]
    |succ i=>rw[Yb9,if_pos (YcX i)];show _=(x++(m::btw m (y::gs'.take i)))++_;simp
theorem qk0(m:Pt):∀(gs:List (List Pt))(i:Nat),(btw m (gs.take i)).length<=(btw m gs).length
 |[],i=>by simp
 |[x],0=>by simp[btw]
 |[x],i+1=>by simp
 |x::y::gs,0=>by simp[btw]
 |x::y::gs,1=>by simp[btw]
 |x::y::gs,i+2=>by have:=qk0 m (y::gs) (i+1);rw[Yb9]at this ⊢;rw[Yb9];show(x++(m::btw m (y::gs.take i))).length<=(x++(m::btw m (y::gs))).length;rw[ν,ν,ξ,ξ];omega
theorem Zr:qm ["groups","mark","parts","k","group"] ["groups","mark"] (qe Qb):=⟨rfl,rfl,rfl,by decide +kernel,rfl,by decide +kernel,by decide +kernel⟩
theorem qeT(F:Fun K "put_between" "put_between" Qb f fd)(R:Tp P w K mg r):qw P w K mg base CX0 1 f fd ["groups","mark"] (qcY a):=by
 refine F.ok Zr (fun vs H Q E h=>?_) (fun cdv A outer s H vs Q E hr h=>?_)
 ·obtain⟨M,g,gs,gv,x,rfl,_⟩:=h;rfl
 ·obtain⟨M,g,gs,gv,x,rfl,hg,hgs,hlen,k⟩:=h
  refine⟨_,qi (qW (i:=2) Zr.nd rfl (Or.inl rfl) (za qh))
   (qi (Z0 PassesOwn.never rfl (qne rfl R.bE (qa (pv 0) qh)) (qgg rfl (Je (jd (i:=3) Zr.nd rfl (Or.inl rfl)) (Je (jd (i:=4) Zr.nd rfl (Or.inl rfl)) qej)))
    (qi (qR (qK JR (pv 3) qr (qX _)) (qf (qu (zP χ ώ ϊ zq (pv 2) (qa (pv 1) qh)))) zh)
    (qf (qu (zP χ YbA YbB jU (pv 2) (qa (pv 4) qh))))))
   (qf (qG (pv 2)))),?_⟩
  have lg:gv.length=gs.length:=Paired.length hgs;have big:=ZY;refine⟨ό _,fun q hq=>?_⟩
  refine⟨_,rfl,g,gv,rfl,SqL.of (qo hq _ _ hg),qmn (K:=K) (a:=g) (xs:=gv) (fun i σ H'=>∃(v v':Option V)(ws:List V),σ=[some (.ref g),some (.str x),some (.ref q),v,v']/\qB H H'/\H' q=some (.lst ws)/\Parts a M H (btw (.s x) (gs.take i)) ws)
   ⟨none,none,[],rfl,qo hq,qc,.nil⟩ (fun i σ H' _ ⟨_,_,_,_,s1,_⟩=>SqL.of (s1 _ _ hg)) ?_ ?_⟩
  ·rintro i y σ H1 D hi ⟨v,v',ws,rfl,s1,h1,hp⟩ hD
   obtain⟨gr,hgr,p,us,ey,hpu,hus⟩:∃gr,gs[i]?=some gr/\qaW a M H y gr:=by
    have hi':i<gs.length:=by have:=(Δ.mp hi).1;omega
    obtain⟨x',e1,e2⟩:=zM hgs (Θ hi');rw[hi]at e1;cases e1;exact⟨_,Θ hi',e2⟩
   subst ey;have lt:=qmp (m:=.s x) hgr;have le:=qk0 (.s x) gs (i+1);have lp:=Paired.length hp;have lu:=Paired.length hus;rw[lt,ν,ν]at le;have sD:=qo (o:=.tup [.int (i:Nat),.ref p]) hD;have hDt:upd H1 D (.tup [.int (i:Nat),.ref p]) D=some (.tup [.int (i:Nat),.ref p]):=qc;have h1':=sD _ _ h1;have s1':=s1.trans sD;generalize upd H1 D (.tup [.int (i:Nat),.ref p])=H2 at sD hDt h1' s1' ⊢;have pq:p≠q:=qg hpu hq;refine⟨D,_,rfl,SqT.of hDt,rfl,_,_,rfl,_,_,rfl,rfl,?_⟩;refine⟨_,rfl,_,_,rfl,rfl,_,rfl,zR (fun e=>?_) fun e=>?_⟩
   ·have e:0<i:=by have:=of_decide_eq_true e;omega
    rw[if_pos e]at lt le;refine⟨_,rfl,.inl ⟨rfl,_,SqL.of h1'⟩,_,rfl,q,ws,_,rfl,rfl,h1',?_,?_⟩
    ·simp only[ξ,Ψ]at le;omega
    refine⟨_,rfl,.inl ⟨rfl,_,SqL.of qc⟩,_,rfl,q,p,_,_,rfl,rfl,qc,(qd pq).trans (s1' _ _ hpu),?_,?_⟩
    ·simp only[ν,ξ,Ψ]at le ⊢;omega
    refine⟨_,_,_,rfl,fun b o e=>?_,qc,?_⟩
    ·rw[qd (qg e hq),qd (qg e hq)];exact s1' b o e
    ·rw[lt,Yby];exact Parts.app hp (Parts.app (.cons rfl .nil) hus)
   ·have e:¬0<i:=fun y=>e (decide_eq_true (by omega));rw[if_neg e]at lt le;refine⟨_,rfl,.inl ⟨rfl,_,SqL.of h1'⟩,_,rfl,q,p,_,_,rfl,rfl,h1',s1' _ _ hpu,?_,?_⟩
    ·simp only[Ψ]at le;omega
    refine⟨_,_,_,rfl,fun b o e=>?_,qc,?_⟩
    ·rw[qd (qg e hq)];exact s1' b o e
    ·rw[lt];exact Parts.app hp hus
  ·rintro σ H1 ⟨v,v',ws,rfl,s1,h1,hp⟩;rw[lg,Ycm]at hp;exact⟨_,rfl,k H1 q ws s1 hq h1 (hp.s s1)⟩
end
theorem qoS:zB JD (Sum.inr (Str.ofString "app"))=some (.int (10:Nat)):=by kernel_rfl
theorem qoT:zB JD (Sum.inr (Str.ofString "get"))=some (.int (11:Nat)):=by kernel_rfl
theorem qoU:zB JD (Sum.inr (Str.ofString "neg"))=some (.int (9:Nat)):=by kernel_rfl
theorem qoV:zB JD (Sum.inr (Str.ofString "not"))=some (.int (3:Nat)):=by kernel_rfl
theorem qoW:zB JD (Sum.inr (Str.ofString "has"))=some (.int (4:Nat)):=by kernel_rfl
section
variable{P:Program}{w:World}{K:γ}{mg:Str->Option Value}{base:Heap}{f:Addr}{fd:FuncData}{a:Ad}{r:Ap}
theorem qhm:qm ["node"] ["node"] (qe QL):=⟨rfl,rfl,rfl,by decide +kernel,rfl,by decide +kernel,by decide +kernel⟩
theorem qhn(F:Fun K "lay_label" "lay_label" QL f fd)(T:Tx P w K mg a):qw P w K mg base CX0 2 f fd ["node"] (spL a (fun U=>(∃x,U=.node .num [x] [])\/∃x,U=.node .name [x] []) qJ):=by
 refine F.ok qhm (fun vs H Q E h=>?_) (fun cdv A outer s H vs Q E hr h=>?_)
 ·obtain⟨M,t,U,rfl,_⟩:=h;rfl
 ·obtain⟨M,t,_,rfl,hU,⟨x,rfl⟩|⟨x,rfl⟩,hl,k⟩:=h
  ·exact⟨_,qf (qG (zE (qF (qcZ 0 T.Yac T.YaJ rfl (pv 0)) zn))),⟨t,rfl,hU⟩,k⟩
  ·exact⟨_,qf (qG (zE (qF (qcZ 0 T.Yac T.YaJ rfl (pv 0)) zn))),⟨t,rfl,hU⟩,k⟩
theorem qjt:qm ["node"] ["node"] (qe ZP):=⟨rfl,rfl,rfl,by decide +kernel,rfl,by decide +kernel,by decide +kernel⟩
theorem qju(F:Fun K "lay_yes" "lay_yes" ZP f fd):qw P w K mg base CX0 2 f fd ["node"] (spL a (· = .node .yes [] []) qJ):=by
 refine F.ok qjt (fun vs H Q E h=>?_) (fun cdv A outer s H vs Q E hr h=>?_)
 ·obtain⟨M,t,U,rfl,_⟩:=h;rfl
 ·obtain⟨M,t,_,rfl,hU,rfl,hl,k⟩:=h;exact⟨_,qf (qG (zE (a:=a) (M:=M) (N:=fun _ _=>True) (qF zy zn))),trivial,k⟩
theorem qk1:qm ["node"] ["node"] (qe Jn):=⟨rfl,rfl,rfl,by decide +kernel,rfl,by decide +kernel,by decide +kernel⟩
theorem qk2(F:Fun K "lay_no" "lay_no" Jn f fd):qw P w K mg base CX0 2 f fd ["node"] (spL a (· = .node .no [] []) qJ):=by
 refine F.ok qk1 (fun vs H Q E h=>?_) (fun cdv A outer s H vs Q E hr h=>?_)
 ·obtain⟨M,t,U,rfl,_⟩:=h;rfl
 ·obtain⟨M,t,_,rfl,hU,rfl,hl,k⟩:=h;exact⟨_,qf (qG (zE (a:=a) (M:=M) (N:=fun _ _=>True) (qF zy zn))),trivial,k⟩
theorem qh3:qm ["node"] ["node"] (qe Zk):=⟨rfl,rfl,rfl,by decide +kernel,rfl,by decide +kernel,by decide +kernel⟩
theorem qh4(F:Fun K "lay_none" "lay_none" Zk f fd):qw P w K mg base CX0 2 f fd ["node"] (spL a (· = .node .none [] []) qJ):=by
 refine F.ok qh3 (fun vs H Q E h=>?_) (fun cdv A outer s H vs Q E hr h=>?_)
 ·obtain⟨M,t,U,rfl,_⟩:=h;rfl
 ·obtain⟨M,t,_,rfl,hU,rfl,hl,k⟩:=h;exact⟨_,qf (qG (zE (a:=a) (M:=M) (N:=fun _ _=>True) (qF zy zn))),trivial,k⟩
theorem qk3:qm ["node"] ["node"] (qe Jo):=⟨rfl,rfl,rfl,by decide +kernel,rfl,by decide +kernel,by decide +kernel⟩
theorem qk4(F:Fun K "lay_fn" "lay_fn" Jo f fd)(T:Tx P w K mg a):qw P w K mg base CX0 2 f fd ["node"] (spL a (fun U=>∃x e,U=.node .fn [x] [e]) qJ):=by
 refine F.ok qk3 (fun vs H Q E h=>?_) (fun cdv A outer s H vs Q E hr h=>?_)
 ·obtain⟨M,t,U,rfl,_⟩:=h;rfl
 ·obtain⟨M,t,_,rfl,hU,⟨x,e,rfl⟩,hl,k⟩:=h;exact⟨_,qf (qG (zE (qF zy (qF (qcZ 0 T.Yac T.YaJ rfl (pv 0)) (qF zy (qF (ZI 0 T.Yac T.YaH rfl (pv 0)) zn)))))),⟨t,rfl,hU⟩,k⟩
theorem qk5:qm ["node"] ["node"] (qe Jp):=⟨rfl,rfl,rfl,by decide +kernel,rfl,by decide +kernel,by decide +kernel⟩
theorem qk6(F:Fun K "lay_if" "lay_if" Jp f fd)(T:Tx P w K mg a):qw P w K mg base CX0 2 f fd ["node"] (spL a (fun U=>∃x y z,U=.node .cond [] [x,y,z]) qJ):=by
 refine F.ok qk5 (fun vs H Q E h=>?_) (fun cdv A outer s H vs Q E hr h=>?_)
 ·obtain⟨M,t,U,rfl,_⟩:=h;rfl
 ·obtain⟨M,t,_,rfl,hU,⟨x,y,z,rfl⟩,hl,k⟩:=h;exact⟨_,qf (qG (zE (qF zy (qF (ZI 0 T.Yac T.YaH rfl (pv 0)) (qF zy (qF (ZI 1 T.Yac T.YaH rfl (pv 0)) (qF zy (qF (ZI 2 T.Yac T.YaH rfl (pv 0)) zn)))))))),⟨t,rfl,hU⟩,k⟩
theorem qh5:qm ["node"] ["node"] (qe Zn):=⟨rfl,rfl,rfl,by decide +kernel,rfl,by decide +kernel,by decide +kernel⟩
theorem qh6(F:Fun K "lay_must" "lay_must" Zn f fd)(T:Tx P w K mg a):qw P w K mg base CX0 2 f fd ["node"] (spL a (fun U=>∃x y,U=.node .must [] [x,y]) qJ):=by
 refine F.ok qh5 (fun vs H Q E h=>?_) (fun cdv A outer s H vs Q E hr h=>?_)
 ·obtain⟨M,t,U,rfl,_⟩:=h;rfl
 ·obtain⟨M,t,_,rfl,hU,⟨x,y,rfl⟩,hl,k⟩:=h;exact⟨_,qf (qG (zE (qF zy (qF (ZI 0 T.Yac T.YaH rfl (pv 0)) (qF zy (qF (ZI 1 T.Yac T.YaH rfl (pv 0)) zn)))))),⟨t,rfl,hU⟩,k⟩
theorem qjv:qm ["node"] ["node"] (qe ZS):=⟨rfl,rfl,rfl,by decide +kernel,rfl,by decide +kernel,by decide +kernel⟩
theorem qjw(F:Fun K "lay_neg" "lay_neg" ZS f fd)(T:Tx P w K mg a)(R:Tp P w K mg r)(G:FnAt P w K mg base CX0 1 "at" ["kid","rank"] (qcB a)):qw P w K mg base CX0 2 f fd ["node"] (spL a (fun U=>∃x,U=.node .neg [] [x]) qJ):=by
 refine F.ok qjv (fun vs H Q E h=>?_) (fun cdv A outer s H vs Q E hr h=>?_)
 ·obtain⟨M,t,U,rfl,_⟩:=h;rfl
 ·obtain⟨M,t,_,rfl,hU,⟨x,rfl⟩,hl,k⟩:=h;exact⟨_,qf (qG (jT jS (zE (qF zy zn)) (qby G hr (ZI 0 T.Yac T.YaH rfl (pv 0)) (ZN (qM R.gR) qL (fun _ _=>rfl)) (fun _ _ _ _ h=>⟨_,_,Sum.inr _,_,rfl,R.dR,rfl,qoU,h⟩)) hl)),⟨t,rfl,hU⟩,k⟩
theorem qjx:qm ["node"] ["node"] (qe ZT):=⟨rfl,rfl,rfl,by decide +kernel,rfl,by decide +kernel,by decide +kernel⟩
theorem qjy(F:Fun K "lay_not" "lay_not" ZT f fd)(T:Tx P w K mg a)(R:Tp P w K mg r)(G:FnAt P w K mg base CX0 1 "at" ["kid","rank"] (qcB a)):qw P w K mg base CX0 2 f fd ["node"] (spL a (fun U=>∃x,U=.node .not [] [x]) qJ):=by
 refine F.ok qjx (fun vs H Q E h=>?_) (fun cdv A outer s H vs Q E hr h=>?_)
 ·obtain⟨M,t,U,rfl,_⟩:=h;rfl
 ·obtain⟨M,t,_,rfl,hU,⟨x,rfl⟩,hl,k⟩:=h;exact⟨_,qf (qG (jT jS (zE (qF zy zn)) (qby G hr (ZI 0 T.Yac T.YaH rfl (pv 0)) (ZN (qM R.gR) qL (fun _ _=>rfl)) (fun _ _ _ _ h=>⟨_,_,Sum.inr _,_,rfl,R.dR,rfl,qoV,h⟩)) hl)),⟨t,rfl,hU⟩,k⟩
theorem qjz:qm ["node"] ["node"] (qe ZR):=⟨rfl,rfl,rfl,by decide +kernel,rfl,by decide +kernel,by decide +kernel⟩
theorem qjA(F:Fun K "lay_app" "lay_app" ZR f fd)(T:Tx P w K mg a)(R:Tp P w K mg r)(G:FnAt P w K mg base CX0 1 "at" ["kid","rank"] (qcB a)):qw P w K mg base CX0 2 f fd ["node"] (spL a (fun U=>∃x y,U=.node .app [] [x,y]) qJ):=by
 refine F.ok qjz (fun vs H Q E h=>?_) (fun cdv A outer s H vs Q E hr h=>?_)
 ·obtain⟨M,t,U,rfl,_⟩:=h;rfl
 ·obtain⟨M,t,_,rfl,hU,⟨x,y,rfl⟩,hl,k⟩:=h
  exact⟨_,qf (qG (jT jS (jT jS (qby G hr (ZI 0 T.Yac T.YaH rfl (pv 0)) (ZN (qM R.gR) qL (fun _ _=>rfl)) (fun _ _ _ _ h=>⟨_,_,Sum.inr _,_,rfl,R.dR,rfl,qoS,h⟩)) (zE (qF zy zn)) (le_app (C:=atP y 11) hl))
   (qby G hr (ZI 1 T.Yac T.YaH rfl (pv 0)) (ZN (qM R.gR) qL (fun _ _=>rfl)) (fun _ _ _ _ h=>⟨_,_,Sum.inr _,_,rfl,R.dR,rfl,qoT,h⟩)) hl)),⟨t,rfl,hU⟩,k⟩
theorem qjB:qm ["node"] ["node"] (qe ZU):=⟨rfl,rfl,rfl,by decide +kernel,rfl,by decide +kernel,by decide +kernel⟩
theorem qjC(F:Fun K "lay_has" "lay_has" ZU f fd)(T:Tx P w K mg a)(R:Tp P w K mg r)(G:FnAt P w K mg base CX0 1 "at" ["kid","rank"] (qcB a)):qw P w K mg base CX0 2 f fd ["node"] (spL a (fun U=>∃x y,U=.node .has [x] [y]) qJ):=by
 refine F.ok qjB (fun vs H Q E h=>?_) (fun cdv A outer s H vs Q E hr h=>?_)
 ·obtain⟨M,t,U,rfl,_⟩:=h;rfl
 ·obtain⟨M,t,_,rfl,hU,⟨x,y,rfl⟩,hl,k⟩:=h;exact⟨_,qf (qG (jT jS (qby G hr (r:=5) (ZI 0 T.Yac T.YaH rfl (pv 0)) (j8 Z1 (ZN (qM R.gR) qL (fun _ _=>rfl)) qr) (fun _ _ _ _ h=>⟨_,_,Sum.inr _,_,rfl,R.dR,rfl,qoW,_,_,rfl,rfl,h⟩)) (zE (qF zy (qF (qcZ 0 T.Yac T.YaJ rfl (pv 0)) zn))) hl)),⟨t,rfl,hU⟩,k⟩
end
def QV(a:Ad)(M:Addr->Prop)(H H':Hp)(D:Addr)(gs:List (List Pt))(gv:List V):Prop:=Paired (fun v g=>∃p ws,v=V.ref p/\p≠D/\H' p=some (.lst ws)/\Parts a M H g ws) gv gs
theorem QV.done {a:Ad} {M:Addr->Prop} {H H':Hp} {D:Addr} {gs:List (List Pt)} {gv:List V} (s:qB H H') (h:QV a M H H' D gs gv):JL a M H' gs gv:=qZ (fun _ _ ⟨p,ws,e,_,h1,h2⟩=>⟨p,ws,e,h1,h2.s s⟩) h
theorem QV.snoc {a:Ad} {M:Addr->Prop} {H H' H2:Hp} {D:Addr} {gs:List (List Pt)} {gv:List V} {g:List Pt} {p:Addr} {ws:List V} (h:QV a M H H' D gs gv) (k:∀b o,H' b=some o->b≠D->H2 b=some o) (hp:H2 p=some (.lst ws)) (pD:p≠D) (hw:Parts a M H g ws):QV a M H H2 D (gs++[g]) (gv++[.ref p]):=by
 have h':QV a M H H2 D gs gv:=qZ (fun _ _ ⟨p,ws,e,n,h1,h2⟩=>⟨p,ws,e,n,k _ _ h1 n,h2⟩) h;clear h
 induction h' with
 |nil=>exact .cons ⟨p,ws,rfl,pD,hp,hw⟩ .nil
 |cons q r ih=>exact .cons q ih
theorem take_snoc{α:Type}{l:List α}{i:Nat}{x:α}(h:l[i]?=some x):l.take (i+1)=l.take i++[x]:=by rw[Ydi,h];rfl
def qga(a:Ad)(M:Addr->Prop)(T:VT):NP:=fun σ H=>∃t v v',σ=[some (.ref t),v,v']/\qy a M H T t
def qgb(a:Ad)(M:Addr->Prop)(T:VT):NP:=fun σ H=>∃t v,σ=[some (.ref t),v]/\qy a M H T t
theorem qmP{a:Ad}{M:Addr->Prop}{T:VT}:∀σ H,qga a M T σ H->jA a M T σ H:=fun _ _ ⟨t,_,_,e,h⟩=>⟨t,by rw[e];rfl,h⟩
theorem qpl{a:Ad}{M:Addr->Prop}{T:VT}:∀σ H,qgb a M T σ H->jA a M T σ H:=fun _ _ ⟨t,_,e,h⟩=>⟨t,by rw[e];rfl,h⟩
theorem qmQ{a:Ad}{M:Addr->Prop}{T:VT}:qhj (qgb a M T):=fun _ _ _ s ⟨t,v,e,h⟩=>⟨t,v,e,h.s s⟩
noncomputable def bindL:VT->List Pt
 | .node _ ls l=>Qq ls l
noncomputable def qmq:VT->List Pt
 | .node _ ls l=>Zu ls l
def ShB(U:VT):Prop:=∃k ls l,U=.node k ls l/\ls.length<=l.length
theorem qdu(m:Pt):∀gs:List (List Pt),(∀g∈gs,0<g.length)->gs.length<=(btw m gs).length
 |[],_=>ό _
 |[g],h=>by have:=h g (by simp);show 1<=g.length;omega
 |g::h::r,hh=>by
  have:=qdu m (h::r) fun x hx=>hh x (ρ _ hx);have e:(btw m (g::h::r)).length=g.length+((btw m (h::r)).length+1):=by show(g++(m::btw m (h::r))).length=_;rw[ν,ξ]
  rw[e];simp only[ξ]at this ⊢;omega
section
variable{P:Program}{w:World}{K:γ}{mg:Str->Option Value}{base:Heap}{f:Addr}{fd:FuncData}{a:Ad}{r:Ap}
theorem Jc:qm ["node","label","kid"] ["node"] (qe QN):=⟨rfl,rfl,rfl,by decide +kernel,rfl,by decide +kernel,by decide +kernel⟩
theorem qho(F:Fun K "lay_binds" "lay_binds" QN f fd)(T:Tx P w K mg a)(R:Tp P w K mg r)(G:FnAt P w K mg base CX0 1 "put_between" ["groups","mark"] (qcY a)):qw P w K mg base CX0 2 f fd ["node"] (spL a ShB bindL):=by
 refine F.ok Jc (fun vs H Q E h=>?_) (fun cdv A outer s H vs Q E hr h=>?_)
 ·obtain⟨M,t,U,rfl,_⟩:=h;rfl
 ·obtain⟨M,t,_,rfl,hU,⟨kd,ls,l,rfl,hll⟩,hl,k⟩:=h;have hl:(btw (ps " ") (ja ls l)).length<=Bd:=hl
  have hgl:(ja ls l).length<=Bd:=Ybx (qdu _ _ fun g hg=>by
   unfold ja at hg;obtain⟨p,_,rfl⟩:=Yb7.mp hg
   exact YcX _) hl
  refine⟨_,qf (qG (qkZ (a:=a) (N:=qga a M (.node kd ls l)) (gs:=ja ls l) G hr ?_ hl)),⟨t,none,none,rfl,hU⟩,k⟩
  refine PE.weak (qf4 (own:=[("label",1),("kid",2)]) (g:=qn1 K 2 (qiM (QX 1) (qiM (QX 2) qn0))) (te:=qbX (zO (zt 1) (zO (tC (.str " = ")) (zO (zt 2) (zO (tC (.str ";")) jN))))) rfl Jc.nd
    (qok rfl R.bZ (qa (qdt (N:=qga a M (.node kd ls l)) qmP T.Yac T.YaJ (qj (pv 0) rfl)) (qa (QH (N:=qga a M (.node kd ls l)) qmP T.Yac T.YaH (qj (pv 0) rfl)) qh)))
    (J6 rfl) (fun _ _ _ _ _=>qgg rfl (Je (jd (i:=1) Jc.nd rfl (Or.inl rfl)) (Je (jd (i:=2) Jc.nd rfl (Or.inl rfl)) qej))) (fun _ _ _ _ _=>qaH)
    (fun _ _ _ _ _=>za (qa (pv 1) (qa qL (qa (pv 2) (qa qL qh)))))) ?_
  rintro σ H Q ⟨hN,q⟩;obtain⟨t',v,v',rfl,_⟩:=id hN;refine⟨hN,fun la lb h1 h3=>⟨hN,fun ka ks h4 h5=>⟨la,ka,_,_,rfl,SqL.of h1,SqL.of h4,fun D hD=>?_⟩⟩⟩;have l1:lb.length=ls.length:=Paired.length h3;have l2:ks.length=l.length:=Paired.length (qY.mp h5)
  refine qoR (K:=K) (a:=la) (b:=ka) (xs:=lb.map V.ref) (ys:=ks.map V.ref) (by rw[τ,τ];omega) (fun i H'=>qB H H'/\∃gv,H' D=some (.lst gv)/\QV a M H H' D ((ja ls l).take i) gv)
   ⟨qo hD,[],qc,.nil⟩ (fun i H' _ ⟨s1,_⟩=>⟨SqL.of (s1 _ _ h1),SqL.of (s1 _ _ h4)⟩) ?_ ?_
  ·rintro i x y H1 Tu hx hy ⟨s1,gv,g1,g2⟩ hTu;obtain⟨xa,hxa,rfl⟩:∃z,lb[i]?=some z/\V.ref z=x:=by rw[Ω]at hx;exact Ybu.mp hx
   obtain⟨ya,hya,rfl⟩:∃z,ks[i]?=some z/\V.ref z=y:=by rw[Ω]at hy;exact Ybu.mp hy
   have hi1:i<ls.length:=by have:=(Δ.mp hxa).1;omega
   have hi2:i<l.length:=by omega
   obtain⟨x',e1,e2⟩:=zM h3 (Θ hi1);rw[hxa]at e1;cases e1;obtain⟨y',e3,e4⟩:=Ze (Θ hi2) h5;rw[hya]at e3;cases e3;have hb:(ja ls l)[i]?=some [.l ls[i],ps " = ",.t l[i],ps ";"]:=by unfold ja;rw[Ω,YcL (z:=(ls[i],l[i]))|>.mpr ⟨Θ hi1,Θ hi2⟩];rfl
   have lgv:gv.length=((ja ls l).take i).length:=Paired.length g2;refine⟨Tu,_,rfl,SqT.of qc,rfl,_,_,rfl,_,_,rfl,rfl,rfl,?_⟩;have sT:=qo (o:=.tup [V.ref xa,V.ref ya]) hTu;refine⟨_,rfl,_,rfl,(by show 4<=Λ;decide),fun p hp=>?_⟩;have sp:=sT.trans (qo (o:=.lst [.ref xa,.str " = ",.ref ya,.str ";"]) hp);have pD:p≠D:=fun e=>by rw[e,sT _ _ g1]at hp;cases hp
   refine⟨gv,sp _ _ g1,?_,fun b o e=>?_,_,qc,?_⟩
   ·rw[lgv,Ybz];have:=ZY;omega
   ·rw[qd (qg e hD)];exact sp _ _ (s1 _ _ e)
   ·rw[take_snoc hb];exact g2.snoc (fun b o e n=>by rw[qd n];exact sp _ _ e) (by rw[qd pD];exact qc) pD (.cons ⟨xa,rfl,e2⟩ (.cons rfl (.cons ⟨ya,rfl,e4⟩ (.cons rfl .nil))))
  ·rintro H1 ⟨s1,gv,g1,g2⟩;refine q H1 D gv s1 hD g1 ?_;rw[YbZ (by rw[τ,l1];unfold ja;simp;omega)]at g2;exact g2.done s1
theorem qaD:qm ["node","kid"] ["node"] (qe Zm):=⟨rfl,rfl,rfl,by decide +kernel,rfl,by decide +kernel,by decide +kernel⟩
theorem qiz{M:Addr->Prop}{j:Nat}{l:List VT}{ks:List Addr}{ka:Addr}{σ:L2.St}{H:Hp}{D:Addr}{Qd:Hp->Prop}(hw:∀v,wipe ((wipe σ [j]).set j (some v)) [j]=wipe σ [j])(hv:∀v,((wipe σ [j]).set j (some v))[j]?=some (some v))(h4:H ka=some (.lst (ks.map V.ref)))(h5:qA a M H l ks)(hl:l.length<=Bd)
  (hD:H D=none) (q:∀H' gv,qB H H'->H' D=some (.lst gv)->QV a M H H' D (ones l) gv->Qd H'):
  ∃W:Nat->Nat->Hp->Prop,(∃m,W 0 m (upd H D (.lst [])))/\∀i m H,W i m H ->
   ((Itl K ka).stop i H/\Qd H)\/((Itl K ka).go i H/\∃Nx:Hp->Prop,(∀H',Nx H'->∃m',m'<m/\W (i+1) m' H')/\∀x H',(Itl K ka).yld i H x H'->QX j x (wipe σ [j]) H' fun σ2 H2=>wipe σ2 [j]=wipe σ [j]/\qlD σ2 H2 fun b H3=>
    if b=true then qbX (zO (zt j) jN) σ2 H3 fun y H4=>∃acc,H4 D=some (.lst acc)/\acc.length<Λ/\Nx (upd H4 D (.lst (acc++[y])))else Nx H3):=by
 have l2:ks.length=l.length:=Paired.length (qY.mp h5)
 refine qig (K:=K) (a:=ka) (xs:=ks.map V.ref) (fun i H'=>qB H H'/\∃gv,H' D=some (.lst gv)/\QV a M H H' D ((ones l).take i) gv)
   ⟨qo hD,[],qc,.nil⟩ (fun i H' _ ⟨s1,_⟩=>SqL.of (s1 _ _ h4)) ?_ ?_
 ·rintro i x H1 hx ⟨s1,gv,g1,g2⟩;obtain⟨xa,hxa,rfl⟩:∃z,ks[i]?=some z/\V.ref z=x:=by rw[Ω]at hx;exact Ybu.mp hx
  have hi2:i<l.length:=by have:=(Δ.mp hxa).1;omega
  obtain⟨y',e3,e4⟩:=Ze (Θ hi2) h5;rw[hxa]at e3;cases e3;have hb:(ones l)[i]?=some [.t l[i]]:=by unfold ones;rw[Ω,Θ hi2];rfl
  have lgv:gv.length=((ones l).take i).length:=Paired.length g2;refine⟨hw _,⟨_,hv _,(by show 1<=Λ;decide),fun p hp=>?_⟩⟩;have sp:=qo (o:=.lst [.ref xa]) hp;have pD:p≠D:=fun e=>by rw[e,g1]at hp;cases hp
  refine⟨gv,sp _ _ g1,?_,fun b o e=>?_,_,qc,?_⟩
  ·rw[lgv,Ybz];unfold ones;rw[τ];have:=ZY;omega
  ·rw[qd (qg e hD)];exact sp _ _ (s1 _ _ e)
  ·rw[take_snoc hb];exact g2.snoc (fun b o e n=>by rw[qd n];exact sp _ _ e) (by rw[qd pD];exact qc) pD (.cons ⟨xa,rfl,e4⟩ .nil)
 ·rintro H1 ⟨s1,gv,g1,g2⟩;refine q H1 gv s1 g1 ?_;rw[YbZ (by rw[τ,l2];unfold ones;simp)]at g2;exact g2
end
theorem qiA{l:List VT}{m:Pt}{d:List (List Pt)}(h:(btw m (ones l++d)).length<=Bd)(hd:∀g∈d,0<g.length):l.length<=Bd:=by
 have:=qdu m (ones l++d) (fun g hg=>by
  rcases YbK.mp hg with hg|hg
  ·unfold ones at hg;obtain⟨p,_,rfl⟩:=Yb7.mp hg;exact YcX _
  ·exact hd g hg)
 have e:(ones l).length=l.length:=by simp[ones]
 rw[ν,e]at this;omega
section
variable{P:Program}{w:World}{K:γ}{mg:Str->Option Value}{base:Heap}{f:Addr}{fd:FuncData}{a:Ad}{r:Ap}
theorem qh7(F:Fun K "lay_list" "lay_list" Zm f fd)(T:Tx P w K mg a)(G:FnAt P w K mg base CX0 1 "put_between" ["groups","mark"] (qcY a)):qw P w K mg base CX0 2 f fd ["node"] (spL a (fun U=>∃l,U=.node .list [] l) qJ):=by
 refine F.ok qaD (fun vs H Q E h=>?_) (fun cdv A outer s H vs Q E hr h=>?_)
 ·obtain⟨M,t,U,rfl,_⟩:=h;rfl
 ·obtain⟨M,t,_,rfl,hU,⟨l,rfl⟩,hl,k⟩:=h;have hl:([ps "["]++btw (ps ", ") (ones l)++[ps "]"]).length<=Bd:=hl;have h2:=qaX (le_app hl);have hll:l.length<=Bd:=qiA (m:=ps ", ") (d:=[]) (by rw[Ybs];exact h2) (fun g hg=>by cases hg);refine⟨_,qf (qG (jT qmQ (jT qmQ (zE (qF zy zn)) (qkZ (a:=a) (N:=qgb a M (.node .list [] l)) (gs:=ones l) G hr ?_ h2) (le_app hl)) (zE (qF zy zn)) hl)),⟨t,none,rfl,hU⟩,k⟩
  refine PE.weak (qf4 (own:=[("kid",1)]) (te:=qbX (zO (zt 1) jN)) rfl qaD.nd (Jf (QH (N:=qgb a M (.node .list [] l)) qpl T.Yac T.YaH (qj (pv 0) rfl)))
    (J6 rfl) (fun _ _ _ _ _=>jd (i:=1) qaD.nd rfl (Or.inl rfl)) (fun _ _ _ _ _=>qaH) (fun _ _ _ _ _=>za (qa (pv 1) qh))) ?_
  rintro σ H Q ⟨hN,q⟩;obtain⟨t',v,rfl,_⟩:=id hN;exact⟨hN,fun ka ks h4 h5=>⟨ka,rfl,⟨_,SqL.of h4⟩,fun D hD=>qiz (fun _=>rfl) (fun _=>rfl) h4 h5 hll hD (fun H' gv s e g=>q H' D gv s hD e (g.done s))⟩⟩
theorem qfZ:qm ["node"] ["node"] (qe Qw):=⟨rfl,rfl,rfl,by decide +kernel,rfl,by decide +kernel,by decide +kernel⟩
theorem qf0(F:Fun K "lay_record" "lay_record" Qw f fd)(T:Tx P w K mg a)(G:FnAt P w K mg base CX0 2 "lay_binds" ["node"] (spL a ShB bindL)):qw P w K mg base CX0 3 f fd ["node"] (spL a ShB qmq):=by
 refine F.ok qfZ (fun vs H Q E h=>?_) (fun cdv A outer s H vs Q E hr h=>?_)
 ·obtain⟨M,t,U,rfl,_⟩:=h;rfl
 ·obtain⟨M,t,_,rfl,hU,⟨kd,ls,l,rfl,hll⟩,hl,k⟩:=h
  have hb:([ps "{ "]++Qq ls l++[ps " }"]).length<=Bd:=by
   have hl:(Zu ls l).length<=Bd:=hl;unfold Zu at hl;cases ls with
   |nil=>show 2<=Bd;decide
   |cons x ls=>exact hl
  refine⟨_,qi (qR (qbU (Q6 (qdt (N:=jA a M (.node kd ls l)) (fun _ _ h=>h) T.Yac T.YaJ (qj (pv 0) rfl)) (by intro _;rfl))) (qf (qG (zE (a:=a) (M:=M) (N:=jA a M (.node kd ls l)) (qF zy zn)))) zh)
   (qf (qG (jT jS (jT jS (zE (qF zy zn)) (qhk (M:=M) (T:=.node kd ls l) G hr ⟨kd,ls,l,rfl,hll⟩ (qaX (le_app hb)) (pv 0)) (le_app hb)) (zE (qF zy zn)) hb))),?_⟩
  refine⟨⟨t,rfl,hU⟩,fun la lb h1 h3=>⟨_,.inl ⟨_,SqL.of h1,rfl⟩,?_⟩⟩;have ll:lb.length=ls.length:=Paired.length h3;cases ls with
  |nil=>have:lb=[]:=YcR.mp ll;subst this;exact zT ⟨⟨t,rfl,hU⟩,k⟩
  |cons x ls=>
   cases lb with
   |nil=>cases ll
   |cons y lb=>exact zz ⟨⟨t,rfl,hU⟩,k⟩
theorem qhp:qm ["node"] ["node"] (qe QO):=⟨rfl,rfl,rfl,by decide +kernel,rfl,by decide +kernel,by decide +kernel⟩
theorem qhq(F:Fun K "lay_recur" "lay_recur" QO f fd)(G:FnAt P w K mg base CX0 3 "lay_record" ["node"] (spL a ShB qmq)):qw P w K mg base CX0 4 f fd ["node"] (spL a (fun U=>∃ls l,U=.node .recur ls l/\ls.length=l.length) qJ):=by
 refine F.ok qhp (fun vs H Q E h=>?_) (fun cdv A outer s H vs Q E hr h=>?_)
 ·obtain⟨M,t,U,rfl,_⟩:=h;rfl
 ·obtain⟨M,t,_,rfl,hU,⟨ls,l,rfl,hll⟩,hl,k⟩:=h;have hl:([ps "rec "]++Zu ls l).length<=Bd:=hl;exact⟨_,qf (qG (jT jS (zE (qF zy zn)) (qhk (M:=M) (T:=.node .recur ls l) G hr ⟨_,ls,l,rfl,YcT hll⟩ (qaX hl) (pv 0)) hl)),⟨t,rfl,hU⟩,k⟩
theorem qjD:qm ["node"] ["node"] (qe ZV):=⟨rfl,rfl,rfl,by decide +kernel,rfl,by decide +kernel,by decide +kernel⟩
theorem qjE(F:Fun K "lay_let" "lay_let" ZV f fd)(T:Tx P w K mg a)(G:FnAt P w K mg base CX0 2 "lay_binds" ["node"] (spL a ShB bindL)):qw P w K mg base CX0 3 f fd ["node"] (spL a (fun U=>∃ls l e,U=.node .letIn ls (l++[e])/\ls.length=l.length) qJ):=by
 refine F.ok qjD (fun vs H Q E h=>?_) (fun cdv A outer s H vs Q E hr h=>?_)
 ·obtain⟨M,t,U,rfl,_⟩:=h;rfl
 ·obtain⟨M,t,_,rfl,hU,⟨ls,l,e,rfl,hll⟩,hl,k⟩:=h;rw[qeb]at hl k
  exact⟨_,qf (qG (jT jS (jT jS (zE (qF zy zn)) (qhk (M:=M) (T:=.node .letIn ls (l++[e])) G hr ⟨_,ls,_,rfl,by rw[ν,hll];omega⟩ (qaX (le_app hl)) (pv 0)) (le_app hl))
   (zE (qF zy (qF (qoQ T.Yac T.YaH (JK l e) (pv 0)) zn))) hl)),⟨t,rfl,hU⟩,k⟩
theorem qhr:qm ["node"] ["node"] (qe QP):=⟨rfl,rfl,rfl,by decide +kernel,rfl,by decide +kernel,by decide +kernel⟩
theorem qhs(F:Fun K "lay_param" "lay_param" QP f fd)(T:Tx P w K mg a):qw P w K mg base CX0 2 f fd ["node"] (spL a (fun U=>(∃x,U=.node .param [x] [])\/∃x d,U=.node .param [x] [d]) qJ):=by
 refine F.ok qhr (fun vs H Q E h=>?_) (fun cdv A outer s H vs Q E hr h=>?_)
 ·obtain⟨M,t,U,rfl,_⟩:=h;rfl
 ·obtain⟨M,t,_,rfl,hU,⟨x,rfl⟩|⟨x,d,rfl⟩,hl,k⟩:=h
  ·refine⟨_,qi (qR (qbU (Q6 (QH (N:=jA a M (.node .param [x] [])) (fun _ _ h=>h) T.Yac T.YaH (qj (pv 0) rfl)) (by intro _;rfl))) (qf (qG (zE (M:=M) (N:=jA a M (.node .param [x] [])) (qF (qcZ 0 T.Yac T.YaJ rfl (pv 0)) zn)))) zh)
    (qf (qG (za (qa (jp zu (qj (pv 0) rfl) qr (fun _ _=>rfl)) (qa qL (qa (jp zu (qj (pv 0) rfl) qr (fun _ _=>rfl)) qh)))))),?_⟩
   refine⟨⟨t,rfl,hU⟩,fun ka ks h4 h5=>⟨_,.inl ⟨_,SqL.of h4,rfl⟩,?_⟩⟩;unfold qA at h5;subst h5;exact zT ⟨⟨t,rfl,hU⟩,k⟩
  ·refine⟨_,qi (qR (qbU (Q6 (QH (N:=jA a M (.node .param [x] [d])) (fun _ _ h=>h) T.Yac T.YaH (qj (pv 0) rfl)) (by intro _;rfl))) (qf (qG (za (qa (jp zu (qj (pv 0) rfl) qr (fun _ _=>rfl)) qh)))) zh)
    (qf (qG (zE (M:=M) (N:=jA a M (.node .param [x] [d])) (qF (qcZ 0 T.Yac T.YaJ rfl (pv 0)) (qF zy (qF (ZI 0 T.Yac T.YaH rfl (pv 0)) zn)))))),?_⟩
   refine⟨⟨t,rfl,hU⟩,fun ka ks h4 h5=>⟨_,.inl ⟨_,SqL.of h4,rfl⟩,?_⟩⟩;unfold qA at h5;obtain⟨u,ks',rfl,_,_⟩:=h5;exact zz ⟨⟨t,rfl,hU⟩,k⟩
end
theorem qcC{α β:Type}{f:α->List β}{l:List α}{i:Nat}{x:α}(h:l[i]?=some x):(l.take (i+1)).flatMap f=(l.take i).flatMap f++f x:=by rw[take_snoc h,Yc9];simp
theorem qiB{α β:Type}(f:α->List β)(l:List α)(i:Nat):((l.take i).flatMap f).length<=(l.flatMap f).length:=by
 have:l.flatMap f=(l.take i).flatMap f++(l.drop i).flatMap f:=by rw[<- Yc9,YcA]
 rw[this,ν];omega
theorem qdc(k:Vastoa.Kind):(V.str (kindS k)=V.str (Str.ofString "piece"))↔k=.piece:=by
 constructor
 ·intro h;have h:kindS k=Str.ofString "piece":=by injection h
  revert h;cases k with
  |op o=>cases o<;>decide +kernel
  |_=>decide +kernel
 ·rintro rfl;rfl
section
variable{P:Program}{w:World}{K:γ}{mg:Str->Option Value}{base:Heap}{f:Addr}{fd:FuncData}{a:Ad}{r:Ap}
theorem qaE:qm ["node","parts","kid"] ["node"] (qe Zl):=⟨rfl,rfl,rfl,by decide +kernel,rfl,by decide +kernel,by decide +kernel⟩
theorem qh8(F:Fun K "lay_text" "lay_text" Zl f fd)(T:Tx P w K mg a):qw P w K mg base CX0 2 f fd ["node"] (spL a (fun U=>∃l,U=.node .text [] l) qJ):=by
 refine F.ok qaE (fun vs H Q E h=>?_) (fun cdv A outer s H vs Q E hr h=>?_)
 ·obtain⟨M,t,U,rfl,_⟩:=h;rfl
 ·obtain⟨M,t,_,rfl,hU,⟨l,rfl⟩,hl,k⟩:=h;have hl:([ps "\""]++l.flatMap jL++[ps "\""]).length<=Bd:=hl;have big:=ZY;simp only[ν,ξ,Ψ]at hl
  refine⟨_,qi (qW (i:=1) qaE.nd rfl (Or.inl rfl) (za (qa qL qh)))
   (qi (Z0 PassesOwn.never rfl (Jf (qj (pv 0) rfl)) (jd (i:=2) qaE.nd rfl (Or.inl rfl))
    (qf (qR (qK jb (qj (pv 2) rfl) qL (qX _)) (qf (qu (zP χ ώ ϊ zq (pv 1) (qa (pv 2) qh))))
     (qf (qu (zP χ YbA YbB jU (pv 1) (qa (za (qa qL (qa (pv 2) (qa qL qh)))) qh)))))))
   (qf (qG (j8 qb4 (pv 1) (za (qa qL qh)))))),?_⟩
  have hU':=hU;unfold qy at hU';obtain⟨dx,la,ka,lb,ks,⟨h1,_⟩,_,_,⟨h4,_⟩,h5⟩:=hU';have lk:ks.length=l.length:=Paired.length (qY.mp h5);refine⟨(by show 1<=Λ;decide),fun q hq=>?_⟩;have sq:=qo (o:=.lst [V.str "\""]) hq
  refine⟨_,rfl,t,_,dx,_,_,rfl,sq _ _ h1,T.Yac,T.YaH,Qo _ _ _ _,ka,rfl,⟨_,SqL.of (sq _ _ h4)⟩,qa5 (K:=K) (a:=ka) (xs:=ks.map V.ref) (fun i σ H'=>∃(v:Option V)(ws:List V),σ=[some (.ref t),some (.ref q),v]/\qB H H'/\H' q=some (.lst ws)/\Parts a M H ([ps "\""]++(l.take i).flatMap jL) ws)
   ⟨none,_,rfl,sq,qc,.cons rfl .nil⟩ (fun i σ H' _ ⟨_,_,_,s1,_⟩=>SqL.of (s1 _ _ h4)) ?_ ?_⟩
  ·rintro i y σ H1 hi ⟨v,ws,rfl,s1,e1,hp⟩;obtain⟨xa,hxa,rfl⟩:∃z,ks[i]?=some z/\V.ref z=y:=by rw[Ω]at hi;exact Ybu.mp hi
   have hi2:i<l.length:=by have:=(Δ.mp hxa).1;omega
   have hli:l[i]?=some l[i]:=Θ hi2;obtain⟨y',e3,e4⟩:=Ze hli h5;rw[hxa]at e3;cases e3;have lt:=qcC (f:=jL) hli;have le:=qiB jL l (i+1);rw[lt,ν]at le;have lws:=Paired.length hp;rw[ν,ξ,Ψ]at lws;generalize l[i]=U at hli e4 lt le;cases U with
   |node kd ls' l'=>
   have e4':=e4;unfold qy at e4';obtain⟨dx',la',ka',lb',ks',⟨g1,_⟩,_⟩:=e4';refine⟨_,rfl,xa,_,dx',_,_,rfl,s1 _ _ g1,T.Yac,T.YaI,jK _ _ _ _,rfl,_,rfl,zR (fun e=>?_) fun e=>?_⟩
   ·have e:=(qdc kd).mp (of_decide_eq_true e);subst e;have ep:jL (.node .piece ls' l')=[.t (.node .piece ls' l')]:=by unfold jL;exact if_pos rfl
    rw[ep]at lt le;refine⟨_,rfl,.inl ⟨rfl,_,SqL.of e1⟩,_,rfl,q,ws,_,rfl,rfl,e1,?_,?_⟩
    ·simp only[ξ,Ψ]at le;omega
    refine⟨_,_,rfl,fun b o eb=>by rw[qd (qg eb hq)];exact s1 b o eb,qc,?_⟩;rw[lt,<- Yby];exact Parts.app hp (.cons ⟨xa,rfl,e4⟩ .nil)
   ·have e:¬kd=.piece:=fun y=>e (decide_eq_true ((qdc kd).mpr y));have ep:jL (.node kd ls' l')=[ps "${",.t (.node kd ls' l'),ps "}"]:=by unfold jL;rw[if_neg (show ¬(Vastoa.Tree.node kd ls' l').kind=.piece from e)]
    rw[ep]at lt le;refine⟨_,rfl,.inl ⟨rfl,_,SqL.of e1⟩,_,rfl,(by show 3<=Λ;decide),fun p hp2=>?_⟩;have pq:q≠p:=qg e1 hp2;refine⟨q,p,_,_,rfl,rfl,(qd pq).trans e1,qc,?_,?_⟩
    ·simp only[ξ,Ψ]at le ⊢;omega
    refine⟨_,_,rfl,fun b o eb=>by rw[qd (qg eb hq)];exact qo hp2 _ _ (s1 b o eb),qc,?_⟩;rw[lt,<- Yby];exact Parts.app hp (.cons rfl (.cons ⟨xa,rfl,e4⟩ (.cons rfl .nil)))
  ·rintro σ H1 ⟨v,ws,rfl,s1,e1,hp⟩;rw[τ,lk,Ycm]at hp;have lws:=Paired.length hp;rw[ν,ξ,Ψ]at lws;refine⟨_,rfl,(by show 1<=Λ;decide),fun p hp2=>?_⟩;have sp:=qo (o:=.lst [V.str "\""]) hp2;refine⟨q,p,_,_,rfl,rfl,sp _ _ e1,qc,?_,fun z hz=>?_⟩
   ·simp only[ξ,Ψ];omega
   have sz:=s1.trans (sp.trans (qo (o:=.lst (ws++[V.str "\""])) hz));exact k _ z _ sz (same_none (s1.trans sp) hz) qc (Parts.app (hp.s sz) (.cons rfl .nil))
theorem qbz:qm ["node","parts","label"] ["node"] (qe ZQ):=⟨rfl,rfl,rfl,by decide +kernel,rfl,by decide +kernel,by decide +kernel⟩
theorem qjF(F:Fun K "lay_get" "lay_get" ZQ f fd)(T:Tx P w K mg a)(R:Tp P w K mg r)(G:FnAt P w K mg base CX0 1 "at" ["kid","rank"] (qcB a)):qw P w K mg base CX0 2 f fd ["node"] (spL a (fun U=>(∃ls x,U=.node .get ls [x])\/∃ls x y,U=.node .get ls [x,y]) qJ):=by
 refine F.ok qbz (fun vs H Q E h=>?_) (fun cdv A outer s H vs Q E hr h=>?_)
 ·obtain⟨M,t,U,rfl,_⟩:=h;rfl
 ·obtain⟨M,t,U,rfl,hU,hS,hl,k⟩:=h
  refine⟨_,qi (qW (i:=1) qbz.nd rfl (Or.inl rfl) (qT G hr qO (qa (jp zu (qj (pv 0) rfl) qr (fun _ _=>rfl)) (qa (qM R.gH) qh))))
   (qi (Z0 PassesOwn.never rfl (Jf (qj (pv 0) rfl)) (jd (i:=2) qbz.nd rfl (Or.inl rfl))
    (qf (qu (zP χ YbA YbB jU (pv 1) (qa (za (qa qL (qa (pv 2) qh))) qh)))))
   (qi (qR (qK JR (jc zD (by rfl) T.b_len PySem.boot_len (qa (qj (pv 0) rfl) qh)) qr (qX _))
    (qi (qu (zP χ ώ ϊ zq (pv 1) (qa qL qh)))
    (qf (qu (zP χ YbA YbB jU (pv 1) (qa (qT G hr qO (qa (jp zu (qj (pv 0) rfl) qr (fun _ _=>rfl)) (qa (qM R.gH) qh))) qh))))) zh)
   (qf (qG (pv 1))))),?_⟩
  obtain⟨ls,x,l',rfl,hS'⟩:∃ls x l',U=.node .get ls (x::l')/\(l'=[]\/∃y,l'=[y]):=by
   rcases hS with⟨ls,x,rfl⟩|⟨ls,x,y,rfl⟩
   ·exact⟨ls,x,[],rfl,.inl rfl⟩
   ·exact⟨ls,x,[y],rfl,.inr ⟨y,rfl⟩⟩
  have hU':=hU;unfold qy at hU';obtain⟨dx,la,ka,lb,ks,⟨h1,_⟩,⟨h2,_⟩,h3,⟨h4,_⟩,h5⟩:=hU';have big:=ZY;obtain⟨u,eu,hu⟩:=Ze (i:=0) (U:=x) rfl h5;have lk:ks.length=(x::l').length:=Paired.length (qY.mp h5);have ll:lb.length=ls.length:=Paired.length h3
  have hlen:(atP x 12++jy ls).length+(if l'=[]then 0 else 10)<=Bd+10:=by
   rcases hS' with rfl|⟨y,rfl⟩
   ·have hl:(atP x 12++jy ls).length<=Bd:=hl;rw[if_pos rfl];omega
   ·have hl:(atP x 12++jy ls++[ps " ? "]++atP y 12).length<=Bd:=hl;have:=le_app (le_app hl)
    split<;>omega
  have hlen':(atP x 12++jy ls).length<=Bd:=by
   rcases hS' with rfl|⟨y,rfl⟩
   ·exact hl
   ·exact le_app (le_app (show(atP x 12++jy ls++[ps " ? "]++atP y 12).length<=Bd from hl))
  refine⟨_,rfl,t,_,dx,_,_,rfl,h1,T.Yac,T.YaH,Qo _ _ _ _,ka,_,_,_,rfl,rfl,SqL.of h4,jM (j:=0) (v:=V.ref u) (by rw[Ω,eu];rfl),M,u,x,12,rfl,hu,fun H1 q sq hq eq1=>?_⟩
  refine⟨_,rfl,t,_,dx,_,_,rfl,sq _ _ h1,T.Yac,T.YaJ,JA _ _ _ _,la,rfl,⟨_,SqL.of (sq _ _ h2)⟩,qa5 (K:=K) (a:=la) (xs:=lb.map V.ref) (fun i σ H'=>∃(v:Option V)(ws:List V),σ=[some (.ref t),some (.ref q),v]/\qB H H'/\H' q=some (.lst ws)/\Parts a M H (atP x 12++jy (ls.take i)) ws)
   ⟨none,_,rfl,sq,eq1,by rw[List.take_zero];show Parts a M H (atP x 12++[]) _;rw[Ybs];exact qbx hu⟩ (fun i σ H' _ ⟨_,_,_,s1,_⟩=>SqL.of (s1 _ _ h2)) ?_ ?_⟩
  ·rintro i y σ H2 hi ⟨v,ws,rfl,s1,e1,hp⟩;obtain⟨xa,hxa,rfl⟩:∃z,lb[i]?=some z/\V.ref z=y:=by rw[Ω]at hi;exact Ybu.mp hi
   have hi2:i<ls.length:=by have:=(Δ.mp hxa).1;omega
   have hli:ls[i]?=some ls[i]:=Θ hi2;obtain⟨y',e3,e4⟩:=zM h3 hli;rw[hxa]at e3;cases e3;have lt:jy (ls.take (i+1))=jy (ls.take i)++[ps ".",.l ls[i]]:=qcC hli;have le:(jy (ls.take (i+1))).length<=(jy ls).length:=qiB _ ls (i+1);rw[lt,ν]at le;have lws:=Paired.length hp;rw[ν]at lws hlen';refine⟨_,rfl,.inl ⟨rfl,_,SqL.of e1⟩,_,rfl,(by show 2<=Λ;decide),fun p hp2=>?_⟩;have pq:q≠p:=qg e1 hp2;refine⟨q,p,_,_,rfl,rfl,(qd pq).trans e1,qc,?_,?_⟩
   ·simp only[ξ,Ψ]at le ⊢;omega
   refine⟨_,_,rfl,fun b o eb=>by rw[qd (qg eb hq)];exact qo hp2 _ _ (s1 b o eb),qc,?_⟩;rw[lt,<- Yby];exact Parts.app hp (.cons rfl (.cons ⟨xa,rfl,e4⟩ .nil))
  ·rintro σ H2 ⟨v,ws,rfl,s1,e1,hp⟩;rw[τ,ll,Ycm]at hp;have lws:=Paired.length hp;refine⟨_,rfl,t,_,dx,_,_,rfl,s1 _ _ h1,T.Yac,T.YaH,Qo _ _ _ _,ka,_,rfl,.inl (SqL.of (s1 _ _ h4)),_,_,rfl,rfl,_,rfl,?_⟩;rw[show(((ks.map V.ref).length:Nat):Int)=((x::l').length:Nat) by rw[τ,lk]];rcases hS' with rfl|⟨y,rfl⟩
   ·exact zz ⟨_,rfl,k H2 q ws s1 hq e1 (hp.s s1)⟩
   ·have hl:(atP x 12++jy ls++[ps " ? "]++atP y 12).length<=Bd:=hl;rw[ν,ν,<- lws]at hl;obtain⟨u',eu',hu'⟩:=Ze (i:=1) (U:=y) rfl h5;refine zT ⟨_,rfl,.inl ⟨rfl,_,SqL.of e1⟩,q,ws,_,rfl,rfl,e1,?_,?_⟩
    ·simp only[ξ,Ψ]at hl;omega
    have s2:qB H (upd H2 q (.lst (ws++[V.str " ? "]))):=fun b o eb=>by rw[qd (qg eb hq)];exact s1 b o eb
    have e2:upd H2 q (.lst (ws++[V.str " ? "])) q=some (.lst (ws++[V.str " ? "])):=qc;generalize upd H2 q (.lst (ws++[V.str " ? "]))=H3 at s2 e2 ⊢;refine⟨_,rfl,.inl ⟨rfl,_,SqL.of e2⟩,_,rfl,t,_,dx,_,_,rfl,s2 _ _ h1,T.Yac,T.YaH,Qo _ _ _ _,ka,_,_,_,rfl,rfl,SqL.of (s2 _ _ h4),jM (j:=1) (v:=V.ref u') (by rw[Ω,eu'];rfl),M,u',y,12,rfl,hu'.s s2,fun H4 p s4 hp4 e4=>?_⟩;refine⟨q,p,_,_,rfl,rfl,s4 _ _ e2,e4,?_,?_⟩
    ·have:(atV y 12 u').length=(atP y 12).length:=Paired.length (qbx hu');simp only[ν,ξ,Ψ]at hl ⊢;omega
    have s5:qB H (upd H4 q (.lst (ws++[V.str " ? "]++atV y 12 u'))):=fun b o eb=>by rw[qd (qg eb hq)];exact s4 _ _ (s2 b o eb)
    refine⟨_,rfl,k _ q _ s5 hq qc ?_⟩;exact Parts.s s5 (Parts.app (Parts.app hp (.cons rfl .nil)) (qbx hu'))
end
def qiC(a:Ad):Sp:=fun vs H Q E=>∃(M:Addr->Prop)(t:Addr)(x:List Nat),vs=[.ref t]/\qy a M H (.node .piece [x] []) t/\x.length<=8000000/\(∀b,M b->H b≠none)/\∀H' p ws,qB H H'->H p=none->H' p=some (.lst ws)->Parts a M H' (qJ (.node .piece [x] [])) ws->Q (.ref p) H'
theorem qpP(c:Nat):inV (.int (c:Int)) [V.int 34,V.int 92,V.int 36]=decide (c=34\/c=92\/c=36):=by simp only[inV,Yb5,Yda,eqV,zJ,Ycx];rw[Yca];simp;omega
theorem qed(k:Vastoa.Kind):(V.str (kindS k)=V.str (Str.ofString "fields.."))↔k=.openFields:=by
 constructor
 ·intro h;have h:kindS k=Str.ofString "fields..":=by injection h
  revert h;cases k with
  |op o=>cases o<;>decide +kernel
  |_=>decide +kernel
 ·rintro rfl;rfl
theorem qk7{xs:List V}(x:V):ZK (xs++[x]) none (some (-1))=xs:=by
 unfold ZK;have e1:HT.sIx (xs++[x]).length 0 none=0:=rfl;have e2:HT.sIx (xs++[x]).length (xs++[x]).length (some (-1))=xs.length:=by unfold HT.sIx;simp;omega
 rw[e1,e2,Ydg,Ydz];simp
theorem qee{a:Ad}{M:Addr->Prop}{H:Hp}{e:VT}:∀{l:List VT}{ks:List Addr},qA a M H (l++[e]) ks->∃k1 u,ks=k1++[u]/\qA a M H l k1/\qy a M H e u
 |[],ks,h=>by rw[List.nil_append]at h;unfold qA at h;obtain⟨u,r,rfl,h1,h2⟩:=h;unfold qA at h2;subst h2;exact⟨[],u,rfl,by unfold qA;rfl,h1⟩
 |t::l,ks,h=>by rw[YbP]at h;unfold qA at h;obtain⟨u,r,rfl,h1,h2⟩:=h;obtain⟨k1,v,rfl,h3,h4⟩:=qee h2;exact⟨u::k1,v,rfl,by unfold qA;exact⟨u,k1,rfl,h1,h3⟩,h4⟩
def qmR(a:Ad)(M:Addr->Prop)(T:VT)(gs:List (List Pt)):NP:=fun σ H=>jA a M T σ H/\∃q gv,σ[1]?=some (some (.ref q))/\H q=some (.lst gv)/\JL a M H gs gv
theorem qmS{a:Ad}{M:Addr->Prop}{T:VT}{gs:List (List Pt)}:qhj (qmR a M T gs):=fun _ _ _ s ⟨h,q,gv,e,h1,h2⟩=>⟨jS _ _ _ s h,q,gv,e,s _ _ h1,h2.s s⟩
section
variable{P:Program}{w:World}{K:γ}{mg:Str->Option Value}{base:Heap}{f:Addr}{fd:FuncData}{a:Ad}{r:Ap}
theorem qah:qm ["node","printed","byte"] ["node"] (qe QM):=⟨rfl,rfl,rfl,by decide +kernel,rfl,by decide +kernel,by decide +kernel⟩
theorem qht(F:Fun K "lay_piece" "lay_piece" QM f fd)(T:Tx P w K mg a)(G:FnAt P w K mg base CX0 1 "bytes_of" ["written"] qaO):qw P w K mg base CX0 2 f fd ["node"] (qiC a):=by
 refine F.ok qah (fun vs H Q E h=>?_) (fun cdv A outer s H vs Q E hr h=>?_)
 ·obtain⟨M,t,U,rfl,_⟩:=h;rfl
 ·obtain⟨M,t,x,rfl,hU,hx,hM,k⟩:=h;have big:16000100<Λ:=by decide
  refine⟨_,qi (qW (i:=1) qah.nd rfl (Or.inl rfl) (za qh))
   (qi (Z0 PassesOwn.never rfl (Jf (jp zu (qj (pv 0) rfl) qr (fun _ _=>rfl))) (jd (i:=2) qah.nd rfl (Or.inl rfl))
    (qf (qR (qkv (pv 2) (qa (qM T.Yan) (qa (qM T.Yaf) (qa (qM T.Yah) qh))))
     (qi (qu (zP χ ώ ϊ zq (pv 1) (qa (qM T.Yaf) qh))) (qf (qu (zP χ ώ ϊ zq (pv 1) (qa (pv 2) qh)))))
     (qf (qR (qK jb (pv 2) (qM T.g_LINE_FEED) (qX _)) (qf (qu (zP χ YbA YbB jU (pv 1) (qa (qT G hr qO (qa qL qh)) qh))))
     (qf (qR (qK jb (pv 2) (qM T.Yaq) (qX _)) (qf (qu (zP χ YbA YbB jU (pv 1) (qa (qT G hr qO (qa qL qh)) qh))))
     (qf (qu (zP χ ώ ϊ zq (pv 1) (qa (pv 2) qh)))))))))))
   (qf (qG (za (qa (pv 1) qh))))),?_⟩
  have hU':=hU;unfold qy at hU';obtain⟨dx,la,ka,lb,ks,⟨h1,_⟩,⟨h2,_⟩,h3,_⟩:=hU';obtain⟨xa,exa,hxa,_⟩:=zM (j:=0) h3 rfl;refine⟨ό _,fun q hq=>?_⟩;have sq:=qo (o:=.lst []) hq;have xq:xa≠q:=qg hxa hq
  have fin:∀(i c:Nat)(H' H2:Hp)(v:Option V),x[i]?=some c->qB H H'->(∀b o,H b=some o->H2 b=some o)->H2 q=some (.lst (nt ((x.take i).flatMap Vastoa.escaped++Vastoa.escaped c)))->∃v',[some (V.ref t),some (V.ref q),v]=[some (V.ref t),some (V.ref q),v']/\qB H H2/\H2 q=some (.lst (nt ((x.take (i+1)).flatMap Vastoa.escaped))) :=
   fun i c H' H2 v hc s1 s2 e=>⟨v,rfl,s2,by rw[qcC hc];exact e⟩
  refine⟨_,rfl,t,_,dx,_,_,rfl,sq _ _ h1,T.Yac,T.YaJ,JA _ _ _ _,la,_,_,_,rfl,rfl,SqL.of (sq _ _ h2),jM (j:=0) (v:=V.ref xa) (by rw[Ω,exa];rfl),xa,rfl,⟨_,SqL.of (sq _ _ hxa)⟩,
   qa5 (K:=K) (a:=xa) (xs:=nt x) (fun i σ H'=>∃v:Option V,σ=[some (.ref t),some (.ref q),v]/\qB H H'/\H' q=some (.lst (nt ((x.take i).flatMap Vastoa.escaped))))
   ⟨none,rfl,sq,qc⟩ (fun i σ H' _ ⟨_,_,s1,_⟩=>SqL.of (s1 _ _ hxa)) ?_ ?_⟩
  ·rintro i y σ H1 hi ⟨v,rfl,s1,e1⟩;obtain⟨c,hc,rfl⟩:∃c:Nat,x[i]?=some c/\V.int (c:Int)=y:=by unfold nt at hi;rw[Ω]at hi;exact Ybu.mp hi
   have hlen:((x.take i).flatMap Vastoa.escaped).length+4<=Λ:=by have:=qeS (x.take i);rw[Ybz]at this;omega
   refine⟨_,rfl,rfl,fun H2 s2=>⟨_,rfl,?_⟩⟩;have s12:=s1.trans s2;have e2:=s2 _ _ e1;show if inV (.int (c:Int)) [V.int 34,V.int 92,V.int 36]=true then _ else _;rw[qpP];refine zR (fun hb=>?_) fun hb=>?_
   ·have hb:=of_decide_eq_true hb;refine⟨_,rfl,.inl ⟨rfl,_,SqL.of e2⟩,q,_,_,rfl,rfl,e2,by rw[zw];omega,?_⟩;refine⟨_,rfl,.inl ⟨rfl,_,SqL.of qc⟩,_,rfl,q,_,_,rfl,rfl,qc,by rw[ν,zw];simp only[ξ,Ψ];omega,?_⟩;refine fin i c H1 _ _ hc s1 (fun b o eb=>by rw[qd (qg eb hq),qd (qg eb hq)];exact s12 b o eb) ?_;rw[qc];unfold Vastoa.escaped;rw[if_pos hb];unfold nt;simp
   have hb:¬(c=34\/c=92\/c=36):=fun y=>hb (decide_eq_true y);refine⟨_,rfl,rfl,_,rfl,?_⟩;rw[jB,zJ];refine zR (fun h10=>?_) fun h10=>?_
   ·have h10:c=10:=by have:=of_decide_eq_true h10;omega
    subst h10;refine⟨_,rfl,.inl ⟨rfl,_,SqL.of e2⟩,_,rfl,(by decide +kernel),fun p hp=>?_⟩;have pq:q≠p:=qg e2 hp;refine⟨q,p,_,_,rfl,rfl,(qd pq).trans e2,qc,by rw[zw,zw];show _+2<=_;omega,?_⟩;refine fin i 10 H1 _ _ hc s1 (fun b o eb=>by rw[qd (qg eb hq)];exact qo hp _ _ (s12 b o eb)) ?_;rw[qc];unfold nt;rw[Ybv];rfl
   have h10:¬c=10:=fun y=>h10 (decide_eq_true (by omega));refine⟨_,rfl,rfl,_,rfl,?_⟩;rw[jB,zJ];refine zR (fun h9=>?_) fun h9=>?_
   ·have h9:c=9:=by have:=of_decide_eq_true h9;omega
    subst h9;refine⟨_,rfl,.inl ⟨rfl,_,SqL.of e2⟩,_,rfl,(by decide +kernel),fun p hp=>?_⟩;have pq:q≠p:=qg e2 hp;refine⟨q,p,_,_,rfl,rfl,(qd pq).trans e2,qc,by rw[zw,zw];show _+2<=_;omega,?_⟩;refine fin i 9 H1 _ _ hc s1 (fun b o eb=>by rw[qd (qg eb hq)];exact qo hp _ _ (s12 b o eb)) ?_;rw[qc];unfold nt;rw[Ybv];rfl
   have h9:¬c=9:=fun y=>h9 (decide_eq_true (by omega));refine⟨_,rfl,.inl ⟨rfl,_,SqL.of e2⟩,_,rfl,q,_,_,rfl,rfl,e2,by rw[zw];omega,?_⟩;refine fin i c H1 _ _ hc s1 (fun b o eb=>by rw[qd (qg eb hq)];exact s12 b o eb) ?_;rw[qc];unfold Vastoa.escaped;rw[if_neg hb,if_neg h10,if_neg h9];unfold nt;simp
  ·rintro σ H1 ⟨v,rfl,s1,e1⟩;rw[zw,Ycm]at e1;refine⟨_,rfl,(by show 1<=Λ;decide),fun p hp=>?_⟩;have sp:=qo (o:=.lst [V.ref q]) hp;exact k _ p _ (s1.trans sp) (same_none s1 hp) qc (.cons ⟨q,rfl,sp _ _ e1,fun y=>hM q y hq⟩ .nil)
theorem JO:qm ["node","groups","kid"] ["node"] (qe Qx):=⟨rfl,rfl,rfl,by decide +kernel,rfl,by decide +kernel,by decide +kernel⟩
theorem qf1(F:Fun K "lay_fields" "lay_fields" Qx f fd)(T:Tx P w K mg a)(G:FnAt P w K mg base CX0 1 "put_between" ["groups","mark"] (qcY a)):qw P w K mg base CX0 2 f fd ["node"] (spL a (fun U=>∃k l e,(k=.fields\/k=.openFields)/\U=.node k [] (l++[e])) qJ):=by
 refine F.ok JO (fun vs H Q E h=>?_) (fun cdv A outer s H vs Q E hr h=>?_)
 ·obtain⟨M,t,U,rfl,_⟩:=h;rfl
 ·obtain⟨M,t,_,rfl,hU,⟨kd,l,e,hkd,rfl⟩,hl,k⟩:=h
  have hlay:qJ (.node kd [] (l++[e]))=[ps "fn {"]++btw (ps ", ") (ones l++if kd=.openFields then [[ps ".."]]else [])++[ps "}: ",.t e]:=by
   rcases hkd with rfl|rfl
   ·rw[if_neg (by decide)];exact qaV l e []
   ·rw[if_pos rfl];exact qaV l e [[ps ".."]]
  rw[hlay]at hl k;have h2:=qaX (le_app hl)
  have hll:l.length<=Bd:=qiA h2 (fun g hg=>by
   split at hg
   ·rw[Ydl.mp hg];exact YcX _
   ·cases hg)
  obtain⟨gs,hgs⟩:∃gs,gs=ones l++if kd=.openFields then [[ps ".."]]else []:=⟨_,rfl⟩;rw[<- hgs]at hl k h2;have hU':=hU;unfold qy at hU';obtain⟨dx,la,ka,lb,kks,⟨h1,_⟩,_,_,⟨h4,_⟩,h5⟩:=hU';obtain⟨ks,u,rfl,h5,h6⟩:=qee h5
  refine⟨_,qi (qlE (i:=1) (own:=[("kid",2)]) (te:=qbX (zO (zt 2) jN)) rfl JO.nd rfl rfl (qnb rfl rfl rfl (by decide +kernel)) (Jf (ZJ JX (qj (pv 0) rfl) qcL (Qv (JQ Z2 qr))))
    (J6 rfl) (fun _ _ _ _ _=>jd (i:=2) JO.nd rfl (Or.inl rfl)) (fun _ _ _ _ _=>qaH) (fun _ _ _ _ _=>za (qa (pv 2) qh)))
   (qi (qR (qK jb (qj (pv 0) rfl) qL (qX _)) (qf (qu (zP χ ώ ϊ zq (pv 1) (qa (za (qa qL qh)) qh)))) zh)
   (qf (qG (jT qmS (jT qmS (zE (qF zy zn)) (qnK (N:=qmR a M (.node kd [] (l++[e])) gs) G hr (pv 1) (fun σ H Q hN h=>by
     obtain⟨_,q,gv,e1,e2,e3⟩:=hN
     exact⟨_,e1,h q gv e2 e3⟩) h2) (le_app hl))
    (zE (qF zy (qF (qiy (QH (fun _ _ h=>h.1) T.Yac T.YaH (qj (pv 0) rfl)) (JQ Z2 qr) (fun _ _ _ h=>⟨_,rfl,h⟩) (JK l e) (fun _ _=>rfl)) zn))) hl)))),?_⟩
  refine⟨_,rfl,t,_,dx,_,_,rfl,h1,T.Yac,T.YaH,Qo _ _ _ _,_,rfl,_,rfl,ka,_,rfl,SqL.of h4,fun p hp=>?_⟩;rw[show ZK ((ks++[u]).map V.ref) none (some (-1))=ks.map V.ref by rw[Ybv];exact qk7 _];have sp:=qo (o:=.lst (ks.map V.ref)) hp;have ep:upd H p (.lst (ks.map V.ref)) p=some (.lst (ks.map V.ref)):=qc;generalize upd H p (.lst (ks.map V.ref))=H1 at sp ep ⊢;refine⟨p,rfl,⟨_,SqL.of ep⟩,fun q hq=>qiz (K:=K) (j:=2) (σ:=[some (V.ref t),none,none]) (fun _=>rfl) (fun _=>rfl) ep (h5.s sp) hll hq (fun H2 gv s2 e2 g2=>?_)⟩;have s02:=sp.trans s2;have qn:H q=none:=same_none sp hq;refine⟨_,rfl,t,_,dx,_,_,rfl,s02 _ _ h1,T.Yac,T.YaI,jK _ _ _ _,rfl,_,rfl,zR (fun hk=>?_) fun hk=>?_⟩
  ·have hk:=(qed kd).mp (of_decide_eq_true hk);rw[if_pos hk]at hgs;subst hgs;have lgv:gv.length=(ones l).length:=Paired.length g2;have lo:(ones l).length=l.length:=by simp[ones]
   have big:=ZY;refine⟨_,rfl,.inl ⟨rfl,_,SqL.of e2⟩,(by show 1<=Λ;decide),fun z hz=>?_⟩;have qz:q≠z:=qg e2 hz;have s3:=qo (o:=.lst [V.str ".."]) hz;refine⟨q,gv,_,rfl,rfl,s3 _ _ e2,by omega,?_⟩;have s4:qB H1 (upd (upd H2 z (.lst [V.str ".."])) q (.lst (gv++[.ref z]))):=fun b o eb=>by rw[qd (qg eb hq)];exact s3 _ _ (s2 b o eb)
   have g4:QV a M H1 (upd (upd H2 z (.lst [V.str ".."])) q (.lst (gv++[.ref z]))) q (ones l++[[ps ".."]]) (gv++[.ref z]):=g2.snoc (fun b o eb n=>by rw[qd n];exact s3 _ _ eb) (by rw[qd (Ne.symm qz)];exact qc) (Ne.symm qz) (.cons rfl .nil);have s05:=sp.trans s4;exact⟨⟨⟨t,rfl,hU.s s05⟩,q,_,rfl,qc,g4.done s4⟩,fun H' z' ws s3 hz=>k H' z' ws (s05.trans s3) (same_none s05 hz)⟩
  ·have hk:¬kd=.openFields:=fun y=>hk (decide_eq_true ((qed kd).mpr y));rw[if_neg hk,Ybs]at hgs;subst hgs;exact⟨⟨⟨t,rfl,hU.s s02⟩,q,gv,rfl,e2,g2.done s2⟩,fun H' z ws s3 hz=>k H' z ws (s02.trans s3) (same_none s02 hz)⟩
theorem Q2:qm ["node","rank","left","right"] ["node"] (qe jY):=⟨rfl,rfl,rfl,by decide +kernel,rfl,by decide +kernel,by decide +kernel⟩
theorem qpm(o:Vastoa.Op):zB JD (Sum.inr (kindS (.op o)))=some (.int (o.rank:Nat)):=by cases o<;>kernel_rfl
theorem qnL(o:Vastoa.Op):(if inV (.str (kindS (.op o))) (qec.map V.str)=true then o.rank else o.rank+1)=o.leftRank:=by cases o<;>decide +kernel
theorem qmr(o:Vastoa.Op):(if inV (.str (kindS (.op o))) (qag.map V.str)=true then o.rank else o.rank+1)=o.rightRank:=by cases o<;>decide +kernel
def qjG(a:Ad)(M:Addr->Prop)(T:VT)(x y:Nat):NP:=fun σ H=>jA a M T σ H/\σ[2]?=some (some (.int x))/\σ[3]?=some (some (.int y))
theorem qmT{a:Ad}{M:Addr->Prop}{T:VT}{x y:Nat}:qhj (qjG a M T x y):=fun _ _ _ s ⟨h,e⟩=>⟨jS _ _ _ s h,e⟩
theorem qef(F:Fun K "lay_operands" "lay_operands" jY f fd)(T:Tx P w K mg a)(R:Tp P w K mg r)(G:FnAt P w K mg base CX0 1 "at" ["kid","rank"] (qcB a)):qw P w K mg base CX0 2 f fd ["node"] (spL a (fun U=>∃o x y,U=.node (.op o) [] [x,y]) qJ):=by
 refine F.ok Q2 (fun vs H Q E h=>?_) (fun cdv A outer s H vs Q E hr h=>?_)
 ·obtain⟨M,t,U,rfl,_⟩:=h;rfl
 ·obtain⟨M,t,_,rfl,hU,⟨o,x,y,rfl⟩,hl,k⟩:=h;have hl:(atP x o.leftRank++[ps " ",.s (kindS (.op o)),ps " "]++atP y o.rightRank).length<=Bd:=hl
  refine⟨_,qi (qW (i:=1) Q2.nd rfl (Or.inl rfl) (ZN (qM R.gR) (qj (pv 0) rfl) (fun _ _=>rfl)))
   (qi (qW (i:=2) Q2.nd rfl (Or.inl rfl) (qa2 (qK ZM (qj (pv 0) rfl) (qM R.gL) (by with_unfolding_all rfl)) (pv 1) (j8 Z1 (pv 1) qr)))
   (qi (qW (i:=3) Q2.nd rfl (Or.inl rfl) (qa2 (qK ZM (qj (pv 0) rfl) (qM R.gG) (by with_unfolding_all rfl)) (pv 1) (j8 Z1 (pv 1) qr)))
   (qf (qG (jT qmT (jT qmT (qby (N:=qjG a M (.node (.op o) [] [x,y]) o.leftRank o.rightRank) G hr (qhl (i:=0) (QH (fun _ _ h=>h.1) T.Yac T.YaH (qj (pv 0) rfl)) qr (fun _ _ _ h=>h) rfl (fun _ _=>rfl)) (pv 2) (fun _ _ _ hN h=>⟨_,hN.2.1,h⟩))
     (zE (qF zy (qF (qmm (fun _ _ h=>h.1) T.Yac T.YaI (qj (pv 0) rfl)) (qF zy zn)))) (le_app hl))
    (qby G hr (qhl (i:=1) (QH (fun _ _ h=>h.1) T.Yac T.YaH (qj (pv 0) rfl)) qr (fun _ _ _ h=>h) rfl (fun _ _=>rfl)) (pv 3) (fun _ _ _ hN h=>⟨_,hN.2.2,h⟩)) hl))))),?_⟩
  have hU':=hU;unfold qy at hU';obtain⟨dx,la,ka,lb,kks,⟨h1,_⟩,_⟩:=hU';refine⟨_,rfl,t,_,dx,_,_,rfl,h1,T.Yac,T.YaI,jK _ _ _ _,r.ranks,_,Sum.inr (kindS (.op o)),_,rfl,R.dR,rfl,qpm o,?_⟩;refine⟨_,rfl,t,_,dx,_,_,rfl,h1,T.Yac,T.YaI,jK _ _ _ _,r.left,_,rfl,.inr (R.tL.sq _),rfl,ZX _,_,rfl,?_⟩;have go:∀(n m:Nat),n=o.leftRank->m=o.rightRank->tMk a M (qjG a M (.node (.op o) [] [x,y]) o.leftRank o.rightRank) (atP x o.leftRank++[ps " ",.s (kindS (.op o)),ps " "]++atP y o.rightRank) [some (.ref t),some (.int (o.rank:Nat)),some (.int n),some (.int m)] H fun v H'=>Q v H':=by rintro n m rfl rfl;exact⟨⟨⟨t,rfl,hU⟩,rfl,rfl⟩,k⟩
  have l2:=qnL o;have r2:=qmr o;refine zR (fun hb=>?_) fun hb=>?_
  ·rw[if_pos (show inV (.str (kindS (.op o))) (qec.map V.str)=true from hb)]at l2;refine⟨_,rfl,_,rfl,t,_,dx,_,_,rfl,h1,T.Yac,T.YaI,jK _ _ _ _,r.right,_,rfl,.inr (R.tG.sq _),rfl,ZX _,_,rfl,?_⟩;refine zR (fun hc=>?_) fun hc=>?_
   ·rw[if_pos (show inV (.str (kindS (.op o))) (qag.map V.str)=true from hc)]at r2;exact⟨_,rfl,go _ _ l2 r2⟩
   ·rw[if_neg (show ¬inV (.str (kindS (.op o))) (qag.map V.str)=true from hc)]at r2;exact⟨_,rfl,_,_,rfl,rfl,go _ _ l2 r2⟩
  ·rw[if_neg (show ¬inV (.str (kindS (.op o))) (qec.map V.str)=true from hb)]at l2;refine⟨_,rfl,_,_,rfl,rfl,_,rfl,t,_,dx,_,_,rfl,h1,T.Yac,T.YaI,jK _ _ _ _,r.right,_,rfl,.inr (R.tG.sq _),rfl,ZX _,_,rfl,?_⟩;refine zR (fun hc=>?_) fun hc=>?_
   ·rw[if_pos (show inV (.str (kindS (.op o))) (qag.map V.str)=true from hc)]at r2;exact⟨_,rfl,go _ _ l2 r2⟩
   ·rw[if_neg (show ¬inV (.str (kindS (.op o))) (qag.map V.str)=true from hc)]at r2;exact⟨_,rfl,_,_,rfl,rfl,go _ _ l2 r2⟩
end
structure Al where
 (piece label yes no none text list record recur get app neg not has fn fields param lt cond must ops:Addr)
noncomputable def qpQ(l:Al):List (String×Addr):=[("piece",l.piece),("num",l.label),("yes",l.yes),("no",l.no),("none",l.none),("name",l.label),("text",l.text),("list",l.list),("record",l.record),("recur",l.recur),("get",l.get),("app",l.app),("neg",l.neg),("not",l.not),("has",l.has),("fn",l.fn),("fields",l.fields),("fields..",l.fields),("param",l.param),("let",l.lt),("if",l.cond),("must",l.must),("or",l.ops),("and",l.ops),("==",l.ops),("!=",l.ops),("<",l.ops),("<=",l.ops),("//",l.ops),("++",l.ops),("+",l.ops),("-",l.ops),("*",l.ops)]
noncomputable def qeU(l:Al):List (Key×V):=(qpQ l).map fun p=>(Sum.inr (Str.ofString p.1),V.ref p.2)
theorem qms(l:Al):(qeU l).map (·.1)=(qeU ⟨0,0,0,0,0,0,0,0,0,0,0,0,0,0,0,0,0,0,0,0,0⟩).map (·.1):=rfl
noncomputable def qoX(l:Al):Vastoa.Kind->Addr
 | .piece=>l.piece | .num=>l.label | .yes=>l.yes | .no=>l.no | .none=>l.none | .name=>l.label | .text=>l.text | .list=>l.list | .record=>l.record | .recur=>l.recur
 | .get=>l.get | .app=>l.app | .neg=>l.neg | .not=>l.not | .has=>l.has | .fn=>l.fn | .fields=>l.fields | .openFields=>l.fields | .param=>l.param | .letIn=>l.lt | .cond=>l.cond | .must=>l.must | .op _=>l.ops
theorem qnM(l:Al)(k:Vastoa.Kind):zB (qeU l) (Sum.inr (kindS k))=some (.ref (qoX l k)):=by
 cases k with
 |op o=>cases o<;>kernel_rfl
 |_=>kernel_rfl
def jz(P:Program)(w:World)(K:γ)(mg:Str->Option Value)(base:Heap)(f:Addr)(sp:Sp):Prop:=∃fd,qw P w K mg base CX0 4 f fd ["node"] sp/\ζ K (.ref f)=true/\Binds K fd ["node"] []
structure qoY(P:Program)(w:World)(K:γ)(mg:Str->Option Value)(base:Heap)(a:Ad)(l:Al):Prop where
 piece:jz P w K mg base l.piece (qiC a)
 label:jz P w K mg base l.label (spL a (fun U=>(∃x,U=.node .num [x] [])\/∃x,U=.node .name [x] []) qJ)
 yes:jz P w K mg base l.yes (spL a (· = .node .yes [] []) qJ)
 no:jz P w K mg base l.no (spL a (· = .node .no [] []) qJ)
 none:jz P w K mg base l.none (spL a (· = .node .none [] []) qJ)
 text:jz P w K mg base l.text (spL a (fun U=>∃l,U=.node .text [] l) qJ)
 list:jz P w K mg base l.list (spL a (fun U=>∃l,U=.node .list [] l) qJ)
 record:jz P w K mg base l.record (spL a ShB qmq)
 recur:jz P w K mg base l.recur (spL a (fun U=>∃ls l,U=.node .recur ls l/\ls.length=l.length) qJ)
 get:jz P w K mg base l.get (spL a (fun U=>(∃ls x,U=.node .get ls [x])\/∃ls x y,U=.node .get ls [x,y]) qJ)
 app:jz P w K mg base l.app (spL a (fun U=>∃x y,U=.node .app [] [x,y]) qJ)
 neg:jz P w K mg base l.neg (spL a (fun U=>∃x,U=.node .neg [] [x]) qJ)
 not:jz P w K mg base l.not (spL a (fun U=>∃x,U=.node .not [] [x]) qJ)
 has:jz P w K mg base l.has (spL a (fun U=>∃x y,U=.node .has [x] [y]) qJ)
 fn:jz P w K mg base l.fn (spL a (fun U=>∃x e,U=.node .fn [x] [e]) qJ)
 fields:jz P w K mg base l.fields (spL a (fun U=>∃k l e,(k=.fields\/k=.openFields)/\U=.node k [] (l++[e])) qJ)
 param:jz P w K mg base l.param (spL a (fun U=>(∃x,U=.node .param [x] [])\/∃x d,U=.node .param [x] [d]) qJ)
 lt:jz P w K mg base l.lt (spL a (fun U=>∃ls l e,U=.node .letIn ls (l++[e])/\ls.length=l.length) qJ)
 cond:jz P w K mg base l.cond (spL a (fun U=>∃x y z,U=.node .cond [] [x,y,z]) qJ)
 must:jz P w K mg base l.must (spL a (fun U=>∃x y,U=.node .must [] [x,y]) qJ)
 ops:jz P w K mg base l.ops (spL a (fun U=>∃o x y,U=.node (.op o) [] [x,y]) qJ)
def qmU(a:Ad):Sp:=fun vs H Q E=>∃(M:Addr->Prop)(t:Addr)(T:VT),vs=[.ref t]/\qy a M H T t/\Shp T/\wt T<=Bd/\(∀b,M b->H b≠none)/\∀H' p ws,qB H H'->H p=none->H' p=some (.lst ws)->Parts a M H' (qJ T) ws->Q (.ref p) H'
section
variable{P:Program}{w:World}{K:γ}{mg:Str->Option Value}{base:Heap}{f:Addr}{fd:FuncData}{a:Ad}{r:Ap}{l:Al}
theorem qjH:qm ["node"] ["node"] (qe ZW):=⟨rfl,rfl,rfl,by decide +kernel,rfl,by decide +kernel,by decide +kernel⟩
theorem qjI(F:Fun K "lay_out" "lay_out" ZW f fd)(T:Tx P w K mg a){la:Addr}(gL:GlV mg "LAYOUTS" (.ref la))(dL:Q0 P w K la (qeU l))(Y:qoY P w K mg base a l):qw P w K mg base CX0 5 f fd ["node"] (qmU a):=by
 refine F.ok qjH (fun vs H Q E h=>?_) (fun cdv A outer s H vs Q E hr h=>?_)
 ·obtain⟨M,t,U,rfl,_⟩:=h;rfl
 ·obtain⟨M,t,U,rfl,hU,hS,hw,hM,k⟩:=h;refine⟨_,qf (qG (qmk (k:=4) (ZN (qM gL) (qj (pv 0) rfl) (fun _ _=>rfl)) hr (qa (pv 0) qh))),?_⟩;have hlen:(qJ U).length<=Bd:=by have:=qhh hS;have:=qea (qJ U);omega
  have go:∀(kd:Vastoa.Kind)(sp:Sp),U.kind=kd->jz P w K mg base (qoX l kd) sp->sp [.ref t] H Q E0->qkX P w K mg base 4 (qmK P w K (tC (.ref la)) (qaq K (zt 0) "kind")) (zO (zt 0) jN) [some (.ref t)] H Q:=by
   intro kd sp ek Lk hsp;obtain⟨fd',F',hk',hb'⟩:=Lk;cases U with
   |node k0 ls0 l0=>
   cases ek;unfold qy at hU;obtain⟨dx,la',ka,lb,kks,⟨h1,_⟩,_⟩:=hU;exact⟨_,rfl,t,_,dx,_,_,rfl,h1,T.Yac,T.YaI,jK _ _ _ _,la,_,Sum.inr _,_,rfl,dL,rfl,qnM l _,_,fd',_,sp,rfl,F',hk',hb',_,rfl,hsp⟩
  cases hS with
  |piece x=>exact go _ _ rfl Y.piece ⟨M,t,x,rfl,hU,by simp only[wt,Yb8,YbQ,YbO]at hw;unfold Bd at hw;omega,hM,k⟩
  |num x=>exact go _ _ rfl Y.label ⟨M,t,_,rfl,hU,.inl ⟨x,rfl⟩,hlen,k⟩
  |yes=>exact go _ _ rfl Y.yes ⟨M,t,_,rfl,hU,rfl,hlen,k⟩
  |no=>exact go _ _ rfl Y.no ⟨M,t,_,rfl,hU,rfl,hlen,k⟩
  |none=>exact go _ _ rfl Y.none ⟨M,t,_,rfl,hU,rfl,hlen,k⟩
  |name x=>exact go _ _ rfl Y.label ⟨M,t,_,rfl,hU,.inr ⟨x,rfl⟩,hlen,k⟩
  |text l=>exact go _ _ rfl Y.text ⟨M,t,_,rfl,hU,⟨l,rfl⟩,hlen,k⟩
  |list l=>exact go _ _ rfl Y.list ⟨M,t,_,rfl,hU,⟨l,rfl⟩,hlen,k⟩
  |record ls l h=>exact go _ _ rfl Y.record ⟨M,t,_,rfl,hU,⟨_,ls,l,rfl,YcT h⟩,hlen,k⟩
  |recur ls l h=>exact go _ _ rfl Y.recur ⟨M,t,_,rfl,hU,⟨ls,l,rfl,h⟩,hlen,k⟩
  |get1 ls x=>exact go _ _ rfl Y.get ⟨M,t,_,rfl,hU,.inl ⟨ls,x,rfl⟩,hlen,k⟩
  |get2 ls x y=>exact go _ _ rfl Y.get ⟨M,t,_,rfl,hU,.inr ⟨ls,x,y,rfl⟩,hlen,k⟩
  |app x y=>exact go _ _ rfl Y.app ⟨M,t,_,rfl,hU,⟨x,y,rfl⟩,hlen,k⟩
  |neg x=>exact go _ _ rfl Y.neg ⟨M,t,_,rfl,hU,⟨x,rfl⟩,hlen,k⟩
  |not x=>exact go _ _ rfl Y.not ⟨M,t,_,rfl,hU,⟨x,rfl⟩,hlen,k⟩
  |has x y=>exact go _ _ rfl Y.has ⟨M,t,_,rfl,hU,⟨x,y,rfl⟩,hlen,k⟩
  |fn x y=>exact go _ _ rfl Y.fn ⟨M,t,_,rfl,hU,⟨x,y,rfl⟩,hlen,k⟩
  |fields l e=>exact go _ _ rfl Y.fields ⟨M,t,_,rfl,hU,⟨_,l,e,.inl rfl,rfl⟩,hlen,k⟩
  |opens l e=>exact go _ _ rfl Y.fields ⟨M,t,_,rfl,hU,⟨_,l,e,.inr rfl,rfl⟩,hlen,k⟩
  |param0 x=>exact go _ _ rfl Y.param ⟨M,t,_,rfl,hU,.inl ⟨x,rfl⟩,hlen,k⟩
  |param1 x d=>exact go _ _ rfl Y.param ⟨M,t,_,rfl,hU,.inr ⟨x,d,rfl⟩,hlen,k⟩
  |letIn ls l e h=>exact go _ _ rfl Y.lt ⟨M,t,_,rfl,hU,⟨ls,l,e,rfl,h⟩,hlen,k⟩
  |cond x y z=>exact go _ _ rfl Y.cond ⟨M,t,_,rfl,hU,⟨x,y,z,rfl⟩,hlen,k⟩
  |must x y=>exact go _ _ rfl Y.must ⟨M,t,_,rfl,hU,⟨x,y,rfl⟩,hlen,k⟩
  |op o x y=>exact go _ _ rfl Y.ops ⟨M,t,_,rfl,hU,⟨o,x,y,rfl⟩,hlen,k⟩
end
def OkP(K:List VT):Pt->Prop
 | .t U=>U∈K
 | .s x=>x.cps.size<=8
 | .l _=>True
def AllP(K:List VT)(L:List Pt):Prop:=∀x∈L,OkP K x
theorem okA{K:List VT}{A B:List Pt}(h:AllP K A)(g:AllP K B):AllP K (A++B):=fun x hx=>(YbK.mp hx).elim (h x) (g x)
theorem okC{K:List VT}{x:Pt}{L:List Pt}(h:OkP K x)(g:AllP K L):AllP K (x::L):=fun y hy=>(Γ.mp hy).elim (fun e=>e▸h) (g y)
theorem okN{K:List VT}:AllP K []:=fun x hx=>by cases hx
theorem okS{K:List VT}(x:String)(h:(Str.ofString x).cps.size<=8:=by decide +kernel):OkP K (ps x):=h
theorem qaF{K:List VT}{U:VT}{n:Nat}(h:U∈K):AllP K (atP U n):=by
 unfold atP
 split
 ·exact okC (okS "(") (okC h (okC (okS ")") okN))
 ·exact okC h okN
theorem qeg{K:List VT}{m:Pt}(hm:OkP K m):∀{gs:List (List Pt)},(∀g∈gs,AllP K g)->AllP K (btw m gs)
 |[],_=>okN
 |[g],h=>h g (by simp)
 |g::k::r,h=>okA (A:=g) (B:=m::btw m (k::r)) (h g (by simp)) (okC hm (qeg hm fun x hx=>h x (ρ _ hx)))
theorem qhu{K l:List VT}(h:∀U∈l,U∈K):∀g∈ones l,AllP K g:=fun g hg=>by unfold ones at hg;obtain⟨U,hU,rfl⟩:=Yb7.mp hg;exact okC (h U hU) okN
theorem qiD{K:List VT}{ls:List (List Nat)}{l:List VT}(h:∀U∈l,U∈K):AllP K (Qq ls l):=qeg (okS " ") fun g hg=>by unfold ja at hg;obtain⟨⟨x,U⟩,hU,rfl⟩:=Yb7.mp hg;exact okC trivial (okC (okS " = ") (okC (h U (YcO hU).2) (okC (okS ";") okN)))
theorem qmV{K:List VT}{ls:List (List Nat)}{l:List VT}(h:∀U∈l,U∈K):AllP K (Zu ls l):=by
 unfold Zu
 split
 ·exact okC (okS "{}") okN
 ·exact okA (okA (okC (okS "{ ") okN) (qiD h)) (okC (okS " }") okN)
theorem qk8{α:Type}{K:List VT}{f:α->List Pt}{l:List α}(h:∀U∈l,AllP K (f U)):AllP K (l.flatMap f):=fun x hx=>by obtain⟨U,h1,h2⟩:=YcZ.mp hx;exact h U h1 x h2
theorem qk9{K:List VT}{ls:List (List Nat)}:AllP K (jy ls):=qk8 fun x _=>okC (okS ".") (okC trivial okN)
theorem qmt(o:Vastoa.Op):(kindS (.op o)).cps.size<=8:=by cases o<;>decide +kernel
theorem qla{T:VT}(hS:Shp T):AllP T.kids (qJ T):=by
 cases hS with
 |piece x=>exact okC trivial okN
 |num x=>exact okC trivial okN
 |yes=>exact okC (okS "true") okN
 |no=>exact okC (okS "false") okN
 |none=>exact okC (okS "none") okN
 |name x=>exact okC trivial okN
 |text l=>
  refine okA (okA (okC (okS "\"") okN) (qk8 fun U hU=>?_)) (okC (okS "\"") okN);unfold jL
  split
  ·exact okC hU okN
  ·exact okC (okS "${") (okC hU (okC (okS "}") okN))
 |list l=>exact okA (okA (okC (okS "[") okN) (qeg (okS ", ") (qhu fun _ h=>h))) (okC (okS "]") okN)
 |record ls l _=>exact qmV fun _ h=>h
 |recur ls l _=>exact okA (okC (okS "rec ") okN) (qmV fun _ h=>h)
 |get1 ls x=>exact okA (qaF π) qk9
 |get2 ls x y=>exact okA (okA (okA (qaF π) qk9) (okC (okS " ? ") okN)) (qaF (ρ _ π))
 |app x y=>exact okA (okA (qaF π) (okC (okS " ") okN)) (qaF (ρ _ π))
 |neg x=>exact okA (okC (okS "-") okN) (qaF π)
 |not x=>exact okA (okC (okS "not ") okN) (qaF π)
 |has x y=>exact okA (qaF π) (okC (okS " has ") (okC trivial okN))
 |fn x y=>exact okC (okS "fn ") (okC trivial (okC (okS ": ") (okC π okN)))
 |fields l e=>show AllP (l++[e]) (fnP (l++[e]) []);rw[qaV,Ybs];exact okA (okA (okC (okS "fn {") okN) (qeg (okS ", ") (qhu fun _ h=>YbC _ h))) (okC (okS "}: ") (okC (Ybt _ π) okN))
 |opens l e=>
  show AllP (l++[e]) (fnP (l++[e]) [[ps ".."]]);rw[qaV];refine okA (okA (okC (okS "fn {") okN) (qeg (okS ", ") fun g hg=>?_)) (okC (okS "}: ") (okC (Ybt _ π) okN));rcases YbK.mp hg with hg|hg
  ·exact qhu (fun _ h=>YbC _ h) g hg
  ·rw[Ydl.mp hg];exact okC (okS "..") okN
 |param0 x=>exact okC trivial okN
 |param1 x d=>exact okC trivial (okC (okS " ? ") (okC π okN))
 |letIn ls l e _=>rw[qeb];exact okA (okA (okC (okS "let ") okN) (qiD fun _ h=>h)) (okC (okS " in ") (okC (show e∈l++[e]from Ybt _ π) okN))
 |cond x y z=>exact okC (okS "if ") (okC (by simp[Vastoa.Tree.kids,OkP]) (okC (okS " then ") (okC (by simp[Vastoa.Tree.kids,OkP]) (okC (okS " else ") (okC (by simp[Vastoa.Tree.kids,OkP]) okN)))))
 |must x y=>exact okC (okS "must ") (okC (by simp[Vastoa.Tree.kids,OkP]) (okC (okS "; ") (okC (by simp[Vastoa.Tree.kids,OkP]) okN)))
 |op o x y=>exact okA (okA (qaF π) (okC (okS " ") (okC (qmt o) (okC (okS " ") okN)))) (qaF (ρ _ π))
theorem qhv:∀{l:List VT}{U:VT},RM.qE l=true->U∈l->RM.good U=true
 |t::r,U,h,hm=>by
  unfold RM.qE at h;rw[Ybm]at h;rcases Γ.mp hm with rfl|hm
  ·exact h.1
  ·exact qhv h.2 hm
theorem qfH{T U:VT}(h:RM.good T=true)(hm:U∈T.kids):RM.good U=true:=by
 cases T with
 |node k ls l=>unfold RM.good at h;rw[Ybm]at h;exact qhv h.1 hm
theorem Parts.keep {a:Ad} {M:Addr->Prop} {H H':Hp} (k:∀b o,H b=some o->¬M b->H' b=some o) {L:List Pt} {vs:List V} (h:Parts a M H L vs):Parts a M H' L vs:=by
 refine qZ (fun v x q=>?_) h;cases x with
 |s x=>exact q
 |t T=>obtain⟨u,e,q⟩:=q;exact⟨u,e,qy.pass (fun b o e n=>⟨k b o e n,n⟩) _ _ q⟩
 |l b=>obtain⟨u,e,q,n⟩:=q;exact⟨u,e,k _ _ q n,n⟩
structure Ti(K:γ)(N:Addr):Prop where
 ha:δ K (.ref N) "__class__"=some (some (.builtin "object.__class__"))
 hn:YcC K (.builtin "object.__class__") "__get__"=some (some (.builtin "getset_descriptor.__get__"))
 ht:YdC K (.builtin "object.__class__")=some true
 hm:Ydt K N (.type "object")=some true
 k1:YbV K (.ref N) (.ref N)=some true
 k2:YbV K (.type "str") (.ref N)=some false
 k3:YbV K (.type "list") (.ref N)=some false
 k4:YbV K (.type "str") (.type "str")=some true
 k5:YbV K (.type "list") (.type "str")=some false
theorem qlb:bootBuiltins "str"=some (.type "str"):=by decide +kernel
def gdP:Pt->Prop
 | .t U=>RM.good U=true
 | .s x=>x.cps.size<=1000
 | .l _=>True
theorem qlc{T:VT}(h:RM.good T=true):∀x∈qJ T,gdP x:=fun x hx=>by
 have:=qla (qd9 h) x hx;cases x with
 |s x=>exact Ybx this (by decide)
 |t U=>exact qfH h this
 |l b=>trivial
def qiE(a:Ad):Sp:=fun vs H Q E=>∃(t:Addr)(T:VT),vs=[.ref t]/\qy a M0 H T t/\RM.good T=true/\wt T<=Bd/\∀H' p,qB H H'->H p=none->H' p=some (.lst (nt (Vastoa.shown T)))->Q (.ref p) H'
section
variable{P:Program}{w:World}{K:γ}{mg:Str->Option Value}{base:Heap}{f:Addr}{fd:FuncData}{a:Ad}{r:Ap}
theorem Zs:qm ["tree","printed","waiting","part"] ["tree"] (qe Qc):=⟨rfl,rfl,rfl,by decide +kernel,rfl,by decide +kernel,by decide +kernel⟩
theorem qeV(F:Fun K "print_whole" "print_whole" Qc f fd)(T:Tx P w K mg a)(R:Tp P w K mg r)(gN:mg "Node"=some (.ref a.Node))(ti:Ti K a.Node)
  (Go:FnAt P w K mg base CX0 5 "lay_out" ["node"] (qmU a)) (Gb:FnAt P w K mg base CX0 1 "bytes_of" ["written"] qaO):qw P w K mg base CX0 6 f fd ["tree"] (qiE a):=by
 refine F.ok Zs (fun vs H Q E h=>?_) (fun cdv A outer s H vs Q E hr h=>?_)
 ·obtain⟨t,U,rfl,_⟩:=h;rfl
 ·obtain⟨t,U,rfl,hU,hg,hw,k⟩:=h;have hr1:qI 1 _:=hr.mono (by decide)
  refine⟨_,qi (qW (i:=1) Zs.nd rfl (Or.inl rfl) (za qh))
   (qi (qW (i:=2) Zs.nd rfl (Or.inl rfl) (za (qa (pv 0) qh)))
   (qi (Q4 PassesOwn.never (Q6 (pv 2) (by intro _;rfl))
    (qi (qW (i:=3) Zs.nd rfl (Or.inl rfl) (qb2 χ Ycp Ycq qb3 (pv 2)))
    (qf (qR (Q3 (qix (c:=.ref a.Node) (pv 3) R.bI (fun _ _ _ _ _ I q=>Qu I rfl gN q)))
     (qf (qu (zP χ YbA YbB jU (pv 2) (qa (qgT (qT Go hr qO (qa (pv 3) qh))) qh))))
     (qf (qR (Q3 (qix (c:=.type "str") (pv 3) R.bI (fun _ _ _ _ _ I q=>Zv I rfl R.bS qlb q)))
      (qf (qu (zP χ YbA YbB jU (pv 1) (qa (qT Gb hr1 qO (qa (pv 3) qh)) qh))))
      (qf (qu (zP χ YbA YbB jU (pv 1) (qa (pv 3) qh))))))))))
   (qf (qG (pv 1))))),?_⟩
  have big:=ZY;refine⟨ό _,fun pl hpl=>?_⟩;refine⟨_,rfl,(by show 1<=Λ;decide),fun wl hwl=>?_⟩;have wn:wl≠pl:=fun e=>by rw[e,qc]at hwl;cases hwl
  rw[qd wn]at hwl;obtain⟨M,hMd⟩:∃M:Addr->Prop,M=fun b=>b=pl\/b=wl:=⟨_,rfl⟩
  have hMf:∀{b o},H b=some o->¬M b:=fun{b o} e y=>by
   rw[hMd]at y;rcases y with y|y
   ·rw[y,hpl]at e;cases e
   ·rw[y,hwl]at e;cases e
  have hMk:∀{H1:Hp}{b:Addr}{o u:HO},M b->(∀c x,H1 c=some x->¬M c->upd H1 b o c=some x):=fun{H1 b o u} hb c x e n=>by have:c≠b:=fun y=>n (by rw[y];exact hb);rw[qd this];exact e
  have mp:M pl:=by rw[hMd];exact .inl rfl
  have mw:M wl:=by rw[hMd];exact .inr rfl
  refine⟨fun m σ H'=>∃(v:Option V)(D:List Nat)(W:List Pt)(ws:List V),σ=[some (.ref t),some (.ref pl),some (.ref wl),v]/\qB H H'/\H' pl=some (.lst (nt D))/\H' wl=some (.lst ws.reverse)/\Parts a M H' W ws/\(∀x∈W,gdP x)/\Vastoa.shown U=D++qV W/\D.length+wP W<=wt U/\wP W=m,
   ⟨_,none,[],[.t U],[.ref t],rfl,fun b o e=>?_,?_,qc,?_,?_,?_,?_,rfl⟩,?_⟩
  ·rw[qd (qg e hwl),qd (qg e hpl)];exact e
  ·rw[qd (Ne.symm wn),qc];rfl
  ·exact .cons ⟨t,rfl,qy.pass (fun b o e _=>⟨by rw[qd (qg e hwl),qd (qg e hpl)];exact e,hMf e⟩) _ _ hU⟩ .nil
  ·intro x hx;rw[Ydl.mp hx];exact hg
  ·simp[qV,z9]
  ·show 0+(wt U+0)<=wt U;omega
  rintro m σ H1 ⟨v,D,W,ws,rfl,s1,e1,e2,hP,hG,hsh,hwt,rfl⟩;have lw:ws.length=W.length:=Paired.length hP;refine⟨_,rfl,_,.inl ⟨_,SqL.of e2,rfl⟩,?_⟩;cases W with
  |nil=>have:ws=[]:=YcR.mp lw;subst this;refine zz ⟨_,rfl,?_⟩;refine k H1 pl s1 hpl ?_;rw[hsh,e1];simp[qV]
  |cons x W=>
   cases hP with
   | @cons v' _ ws' _ hx hP=>
   rw[show(!(v'::ws').reverse.isEmpty)=true by simp];refine zT ⟨_,fun σ' H' q=>q,?_⟩;refine⟨_,rfl,.inl ⟨rfl,_,SqL.of e2⟩,wl,_,v',rfl,rfl,e2,by simp,?_⟩;rw[show((v'::ws').reverse).dropLast=ws'.reverse by simp];have k2:∀b o,H1 b=some o->¬M b->upd H1 wl (.lst ws'.reverse) b=some o:=hMk (u:=.lst []) mw;have s2:qB H (upd H1 wl (.lst ws'.reverse)):=fun b o e=>k2 b o (s1 b o e) (hMf e);have w2:upd H1 wl (.lst ws'.reverse) wl=some (.lst ws'.reverse):=qc;have p2:upd H1 wl (.lst ws'.reverse) pl=some (.lst (nt D)):=by rw[qd (Ne.symm wn)];exact e1
   generalize upd H1 wl (.lst ws'.reverse)=H2 at k2 s2 w2 p2 ⊢;have hP:Parts a M H1 W ws':=hP;have hP2:=hP.keep k2;have hGx:=hG x π;have hGW:∀y∈W,gdP y:=fun y hy=>hG y (ρ _ hy);rw[J0]at hwt;have hpw:=qkV x;have lenW:=qea W;have lws:ws'.length=W.length:=Paired.length hP;cases x with
   |t S=>
    obtain⟨u,rfl,hu⟩:=hx;have hu2:qy a M H2 S u:=qy.pass (fun b o e n=>⟨k2 b o e n,n⟩) _ _ hu;obtain⟨dx,y1,y2,y3,hin⟩:=hu2.depth;have hS:=qd9 hGx;have hlw:=qhh hS;have hll:=qea (qJ S);have hwS:wp (.t S)=wt S:=rfl;refine⟨_,rfl,_,true,.ins hin T.Yac ti.ha ti.hn ti.ht ti.hm,ti.k1,_,rfl,zT ?_⟩
    have hMd2:∀b,M b->H2 b≠none:=fun b hb=>by
     rw[hMd]at hb;rcases hb with rfl|rfl
     ·rw[p2];simp
     ·rw[w2];simp
    refine⟨_,rfl,.inl ⟨rfl,_,SqL.of w2⟩,_,rfl,M,u,S,rfl,hu2,hS,by omega,hMd2,fun H3 p zs s3 hp e3 q3=>?_⟩;refine⟨p,_,rfl,SqL.of e3,fun q hq=>?_⟩;have s4:=s3.trans (qo (o:=.lst zs.reverse) hq);have lz:zs.length=(qJ S).length:=Paired.length q3;refine⟨wl,q,_,_,rfl,rfl,s4 _ _ w2,qc,?_,?_⟩
    ·rw[YbS,YbS];omega
    have k5:∀b o,upd H3 q (.lst zs.reverse) b=some o->¬M b->upd (upd H3 q (.lst zs.reverse)) wl (.lst (ws'.reverse++zs.reverse)) b=some o:=hMk (u:=.lst []) mw;refine⟨_,?_,_,D,qJ S++W,zs++ws',rfl,fun b o e=>k5 b o (s4 _ _ (s2 b o e)) (hMf e),?_,?_,?_,?_,?_,?_,rfl⟩
    ·rw[zp,J0];omega
    ·rw[qd (Ne.symm wn)];exact s4 _ _ p2
    ·rw[qc,List.reverse_append]
    ·exact Parts.app ((q3.s (qo hq)).keep k5) ((hP2.s s4).keep k5)
    ·intro y hy;rcases YbK.mp hy with hy|hy
     ·exact qlc hGx y hy
     ·exact hGW y hy
    ·rw[hsh,ze];show D++(Vastoa.shown S++qV W)=_;rw[qhi hS]
    ·rw[zp];omega
   |s x=>
    have hx:v'=.str x:=hx;subst hx;have hwS:wp (.s x)=1+x.cps.size:=rfl;have hxl:x.cps.toList.length=x.cps.size:=Yck;refine⟨_,rfl,_,false,.str x,ti.k2,_,rfl,zz ?_⟩;refine⟨_,rfl,_,true,.str x,ti.k4,_,rfl,zT ?_⟩;refine⟨_,rfl,.inl ⟨rfl,_,SqL.of p2⟩,_,rfl,x,rfl,hGx,fun p hp=>?_⟩;have s3:=qo (o:=.lst (nt x.cps.toList)) hp;refine⟨pl,p,_,_,rfl,rfl,s3 _ _ p2,qc,?_,?_⟩
    ·rw[zw,zw];omega
    have k5:∀b o,upd H2 p (.lst (nt x.cps.toList)) b=some o->¬M b->upd (upd H2 p (.lst (nt x.cps.toList))) pl (.lst (nt D++nt x.cps.toList)) b=some o:=hMk (u:=.lst []) mp;refine⟨_,?_,_,D++bts x,W,ws',rfl,fun b o e=>k5 b o (s3 _ _ (s2 b o e)) (hMf e),?_,?_,(hP2.s s3).keep k5,hGW,?_,?_,rfl⟩
    ·rw[J0];omega
    ·rw[qc];unfold nt bts;rw[Ybv]
    ·rw[qd wn];exact s3 _ _ w2
    ·rw[hsh];show D++(bts x++qV W)=_;rw[Yby]
    ·unfold bts;rw[ν];omega
   |l b=>
    obtain⟨u,rfl,hu,hn⟩:=hx;have hu2:=k2 _ _ hu hn;have hwS:wp (.l b)=1+b.length:=rfl;refine⟨_,rfl,_,false,.lst hu2,ti.k3,_,rfl,zz ?_⟩;refine⟨_,rfl,_,false,.lst hu2,ti.k5,_,rfl,zz ?_⟩;refine⟨_,rfl,.inl ⟨rfl,_,SqL.of p2⟩,_,rfl,pl,u,_,_,rfl,rfl,p2,hu2,?_,?_⟩
    ·rw[zw,zw];omega
    have k5:∀c o,H2 c=some o->¬M c->upd H2 pl (.lst (nt D++nt b)) c=some o:=hMk (u:=.lst []) mp;refine⟨_,?_,_,D++b,W,ws',rfl,fun c o e=>k5 c o (s2 c o e) (hMf e),?_,?_,hP2.keep k5,hGW,?_,?_,rfl⟩
    ·rw[J0];omega
    ·rw[qc];unfold nt;rw[Ybv]
    ·rw[qd wn];exact w2
    ·rw[hsh];show D++(b++qV W)=_;rw[Yby]
    ·rw[ν];omega
end
mutual
theorem qjJ:∀T:VT,wt T+24<=36 * RM.tw T+2 * RM.lw T+12
 | .node k ls l=>by have:=qiF l;unfold wt RM.tw RM.lw;omega
theorem qiF:∀l:List VT,zg l+12 * l.length<=36 * RM.jJ l+2 * RM.Q9 l
 |[]=>by unfold zg;simp
 |t::r=>by have:=qjJ t;have:=qiF r;unfold zg RM.jJ RM.Q9;rw[ξ];omega
end
structure Xc(K:γ)(C S:Addr):Prop where
 x:jq K C
 nn:qv K C "number"
 np:qv K C "place"
 u:subB K C S
def qeW(a:Ad)(K:γ):Sp:=fun vs H Q E=>∃(t:Addr)(T:VT),vs=[.ref t]/\qy a M0 H T t/\RM.good T=true/\wt T<=Bd/\(2048<(Vastoa.shown T).length->XW K a.Refusal H 8 0 E)/\(¬2048<(Vastoa.shown T).length->∀H' p,qB H H'->H p=none->H' p=some (.lst (nt (Vastoa.shown T)))->Q (.ref p) H')
noncomputable def Ju(T:VT):List V:=if 2048<(Vastoa.shown T).length then [.int (-8)]else .int 0::nt (Vastoa.shown T)
theorem QI{K:γ}{H H':Hp}{p:Addr}{xs:List V}(s:qB H H')(h:SqL K H p xs):SqL K H' p xs:=by
 rcases h with(h|⟨o,h⟩)|h
 ·exact .inl (.inl (s _ _ h))
 ·exact .inl (.inr ⟨o,s _ _ h⟩)
 ·exact .inr h
section
variable{P:Program}{w:World}{K:γ}{mg:Str->Option Value}{base:Heap}{f:Addr}{fd:FuncData}{a:Ad}{C:Addr}
theorem qbA:qm ["self"] ["self"] (qe z6):=⟨rfl,rfl,rfl,by decide +kernel,rfl,by decide +kernel,by decide +kernel⟩
theorem qbB(F:Fun K "__init__" "PrintTooLong.__init__" z6 f fd)(c:Xc K C a.Refusal)(G:ClsAt P w K mg base 1 a.Refusal "Refusal" "__init__" ["self","number","place"] (Zp K)):qw P w K mg base CX0 2 f fd ["self"] (spX C 8 false):=by
 refine F.ok qbA (fun vs H Q E h=>?_) (fun cdv A outer s H vs Q E hr h=>?_)
 ·obtain⟨e,xs,p,rfl,_⟩:=h;rfl
 ·obtain⟨e,xs,p,rfl,hp,he,k⟩:=h;refine⟨_,qf (qu (ZO G hr (qa (pv 0) (qa qr (qa qr qh))))),?_⟩;have hp0:=hp rfl;subst hp0;exact⟨_,rfl,e,C,xs,8,0,rfl,he,c.x,c.nn,c.np,k⟩
theorem qaY:qm ["tree","printed"] ["tree"] (qe Qg):=⟨rfl,rfl,rfl,by decide +kernel,rfl,by decide +kernel,by decide +kernel⟩
theorem qeX(F:Fun K "print_short" "print_short" Qg f fd)(T:Tx P w K mg a)(c:Xc K C a.Refusal)(gM:GlV mg "MOST_PRINTED_BYTES" (.int 2048))(Gx:QZ P w K mg base 2 C "PrintTooLong" ["self"] (spX C 8 false))
  (Gp:FnAt P w K mg base CX0 6 "print_whole" ["tree"] (qiE a)):qw P w K mg base (CXR P w) 7 f fd ["tree"] (qeW a K):=by
 refine F.okR qaY (fun vs H Q E h=>?_) (fun cdv A outer s H vs Q E hr h=>?_)
 ·obtain⟨t,U,rfl,_⟩:=h;rfl
 ·obtain⟨t,U,rfl,hU,hg,hw,kx,ko⟩:=h;have hr3:qI 3 _:=hr.mono (by decide)
  refine⟨_,qi (qW (i:=1) qaY.nd rfl (Or.inl rfl) (qT Gp hr qO (qa (pv 0) qh)))
   (qi (qR (qK JR (jc zD (by rfl) T.b_len PySem.boot_len (qa (pv 1) qh)) (qM gM) (qX _)) (qf (Z8 Gx hr3)) zh)
   (qf (qG (pv 1)))),?_⟩
  refine⟨_,rfl,t,U,rfl,hU,hg,hw,fun H1 p s1 hp e1=>?_⟩;refine⟨_,rfl,p,_,rfl,.inl (SqL.of e1),_,_,rfl,rfl,_,rfl,zR (fun hl=>?_) fun hl=>?_⟩
  ·have hl:2048<(Vastoa.shown U).length:=by have:=of_decide_eq_true hl;rw[zw]at this;omega
   exact qaM c.x c.u c.nn c.np (fun C dx H' s' x=>kx hl C dx H' (s1.trans s') x)
  ·have hl:¬2048<(Vastoa.shown U).length:=fun y=>hl (decide_eq_true (by rw[zw];omega));exact⟨_,rfl,ko hl H1 p s1 hp e1⟩
end
noncomputable def noS:List Str:=["piece","param"].map Str.ofString
theorem qpn(k:Vastoa.Kind):inV (.str (kindS k)) (noS.map V.str)=decide (k=.piece\/k=.param):=by
 cases k with
 |op o=>cases o<;>decide +kernel
 |_=>decide +kernel
inductive Cx2(a:Ad)(H:Hp):VT->List Int->List Addr->VT->Addr->Prop
 |nil {T:VT} {u:Addr} (h:qy a M0 H T u):Cx2 a H T [] [] T u
 |snoc {T U V:VT} {p:List Int} {us:List Addr} {u v:Addr} {k:Int} (h:Cx2 a H T p us U u) (hk:Vastoa.kidAt U k=some V) (hv:qy a M0 H V v):Cx2 a H T (p++[k]) (us++[u]) V v
theorem Cx2.at {a:Ad} {H:Hp} {T U:VT} {p:List Int} {us:List Addr} {u:Addr} (h:Cx2 a H T p us U u):qy a M0 H U u:=by
 cases h with
 |nil h=>exact h
 |snoc _ _ h=>exact h
theorem Cx2.follow {a:Ad} {H:Hp} {T U:VT} {p:List Int} {us:List Addr} {u:Addr} (h:Cx2 a H T p us U u):∀q:List Int,Vastoa.follow T (p++q)=Vastoa.follow U q:=by
 induction h with
 |nil _=>intro q;rfl
 | @snoc U' V p us u v k _ hk _ ih=>intro q;rw[Yby,ih];show(Vastoa.kidAt U' k).bind _=_;rw[hk];rfl
def qhw(a:Ad)(K:γ):Sp:=fun vs H Q E=>∃(t pa:Addr)(T:VT)(p:List Int),vs=[.ref t,.ref pa]/\qy a M0 H T t/\SqL K H pa (p.map V.int)/\p.length<=1000/\(Vastoa.follow T p=none->XW K a.Refusal H 7 0 E) /\
 ∀U,Vastoa.follow T p=some U->∀H' m us u,qB H H'->H m=none->H' m=some (.lst ((us++[u]).map V.ref))->Cx2 a H T p us U u->Q (.ref m) H'
section
variable{P:Program}{w:World}{K:γ}{mg:Str->Option Value}{base:Heap}{f:Addr}{fd:FuncData}{a:Ad}{C na:Addr}
theorem qbS:qm ["self"] ["self"] (qe ji):=⟨rfl,rfl,rfl,by decide +kernel,rfl,by decide +kernel,by decide +kernel⟩
theorem qbT(F:Fun K "__init__" "PathNowhere.__init__" ji f fd)(c:Xc K C a.Refusal)(G:ClsAt P w K mg base 1 a.Refusal "Refusal" "__init__" ["self","number","place"] (Zp K)):qw P w K mg base CX0 2 f fd ["self"] (spX C 7 false):=by
 refine F.ok qbS (fun vs H Q E h=>?_) (fun cdv A outer s H vs Q E hr h=>?_)
 ·obtain⟨e,xs,p,rfl,_⟩:=h;rfl
 ·obtain⟨e,xs,p,rfl,hp,he,k⟩:=h;refine⟨_,qf (qu (ZO G hr (qa (pv 0) (qa qr (qa qr qh))))),?_⟩;have hp0:=hp rfl;subst hp0;exact⟨_,rfl,e,C,xs,7,0,rfl,he,c.x,c.nn,c.np,k⟩
theorem qao:qm ["tree","path","met","k","kids"] ["tree","path"] (qe Jl):=⟨rfl,rfl,rfl,by decide +kernel,rfl,by decide +kernel,by decide +kernel⟩
theorem qld(F:Fun K "follow" "follow" Jl f fd)(T:Tx P w K mg a)(c:Xc K C a.Refusal)(gN:GlV mg "NO_RECIPES" (.ref na))(tN:qay K na (noS.map V.str))(Gx:QZ P w K mg base 2 C "PathNowhere" ["self"] (spX C 7 false)):
  qw P w K mg base (CXR P w) 4 f fd ["tree","path"] (qhw a K):=by
 refine F.okR qao (fun vs H Q E h=>?_) (fun cdv A outer s H vs Q E hr h=>?_)
 ·obtain⟨t,pa,U,p,rfl,_⟩:=h;rfl
 ·obtain⟨t,pa,U,p,rfl,hU,hpa,hlen,kx,ko⟩:=h
  refine⟨_,qi (qW (i:=2) qao.nd rfl (Or.inl rfl) (za (qa (pv 0) qh)))
   (qi (Z0 PassesOwn.leaving rfl (Jf (pv 1)) (jd (i:=3) qao.nd rfl (Or.inl rfl))
    (qi (qW (i:=4) qao.nd rfl (Or.inl rfl) (qj (jp zu (pv 2) (JQ Z2 qr) (fun _ _=>rfl)) rfl))
    (qi (qR (qmC (qK qf3 (pv 3) qr (qX _)) (qjR (qK qo8 (pv 3) (jc zD (by rfl) T.b_len PySem.boot_len (qa (pv 4) qh)) (qX _)))).pt (qf (Z8 Gx hr)) zh)
    (qf (qu (zP χ ώ ϊ zq (pv 2) (qa (jp zu (pv 4) (pv 3) (fun _ _=>rfl)) qh)))))))
   (qi (qR (qK ZM (qj (jp zu (pv 2) (JQ Z2 qr) (fun _ _=>rfl)) rfl) (qM gN) (by with_unfolding_all rfl)) (qf (Z8 Gx hr)) zh)
   (qf (qG (pv 2))))),?_⟩
  refine⟨_,rfl,(by show 1<=Λ;decide),fun ml hml=>?_⟩;have s0:=qo (o:=.lst [V.ref t]) hml
  refine⟨_,rfl,pa,rfl,⟨_,QI s0 hpa⟩,qa5 (K:=K) (a:=pa) (xs:=p.map V.int) (fun i σ H'=>∃(v v':Option V)(S:VT)(us:List Addr)(u:Addr),σ=[some (.ref t),some (.ref pa),some (.ref ml),v,v']/\qB H H'/\H' ml=some (.lst ((us++[u]).map V.ref))/\Cx2 a H U (p.take i) us S u/\us.length=i)
   ⟨none,none,U,[],t,rfl,s0,qc,.nil hU,rfl⟩ (fun i σ H' _ ⟨_,_,_,_,_,_,s1,_⟩=>QI s1 hpa) ?_ ?_⟩
  ·rintro i y σ H1 hi ⟨v,v',S,us,u,rfl,s1,e1,hc,hus⟩;obtain⟨k,hk,rfl⟩:∃k,p[i]?=some k/\V.int k=y:=by rw[Ω]at hi;exact Ybu.mp hi
   have hil:i<p.length:=(Δ.mp hk).1;have hS:=hc.at;cases S with
   |node kd ls l=>
   have hS':=hS;unfold qy at hS';obtain⟨dx,la,ka,lb,ks,⟨h1,_⟩,_,_,⟨h4,_⟩,h5⟩:=hS';have lk:ks.length=l.length:=Paired.length (qY.mp h5);have hfol:=hc.follow (p.drop i);have hdrop:p.drop i=k::p.drop (i+1):=by obtain⟨h1,h2⟩:=Δ.mp hk;rw[<- h2];exact Ycb h1
   rw[YcA,hdrop]at hfol;have hfol:Vastoa.follow U p=(Vastoa.kidAt (.node kd ls l) k).bind fun W=>Vastoa.follow W (p.drop (i+1)):=hfol;refine⟨_,rfl,_,rfl,ml,_,_,_,rfl,rfl,SqL.of e1,by rw[Ybv];exact Jh _ _,u,_,dx,_,_,rfl,s1 _ _ h1,T.Yac,T.YaH,Qo _ _ _ _,?_⟩;dsimp only[QX,qa3,qiL];refine qir (decide (k<0)) (decide ((l.length:Int)<=k)) (fun Q q=>?_) (fun _ Q q=>?_) ?_
   ·exact⟨_,rfl,_,_,rfl,rfl,_,rfl,q⟩
   ·refine⟨_,rfl,_,rfl,ka,_,rfl,.inl (SqL.of (s1 _ _ h4)),_,_,rfl,rfl,_,rfl,?_⟩;rw[τ,lk];exact q
   refine zR (fun hb=>?_) fun hb=>?_
   ·have hn:Vastoa.kidAt (.node kd ls l) k=none:=by
     rw[YcP,decide_eq_true_eq,decide_eq_true_eq]at hb;unfold Vastoa.kidAt;by_cases hk0:k<0
     ·rw[if_pos hk0]
     ·rw[if_neg hk0];refine YcY ?_;show l.length<=k.toNat;omega
    rw[hn]at hfol;exact qaM c.x c.u c.nn c.np (fun C dx H' s' x=>kx hfol C dx H' (s1.trans s') x)
   ·have hb1:¬k<0:=fun y=>hb (by rw[decide_eq_true y];rfl);have hb2:¬(l.length:Int)<=k:=fun y=>hb (by rw[decide_eq_true y,Ycl]);have hkl:k.toNat<l.length:=by omega
    have hkk:((k.toNat:Nat):Int)=k:=Yc8 (by omega);have hat:Vastoa.kidAt (.node kd ls l) k=some l[k.toNat]:=by unfold Vastoa.kidAt;rw[if_neg hb1];exact Θ hkl
    obtain⟨x,ex,hx⟩:=Ze (Θ hkl) h5;have hatI:atI (ks.map V.ref) k=some (V.ref x):=by have:=jM (xs:=ks.map V.ref) (j:=k.toNat) (v:=V.ref x) (by rw[Ω,ex];rfl);rw[hkk]at this;exact this
    refine⟨_,rfl,.inl ⟨rfl,_,SqL.of e1⟩,_,rfl,_,rfl,ka,_,k,_,rfl,rfl,SqL.of (s1 _ _ h4),hatI,ml,_,_,rfl,rfl,e1,?_,?_⟩
    ·rw[τ,ν,hus];simp only[ξ,Ψ];exact jI (by omega)
    refine⟨_,_,l[k.toNat],us++[u],x,rfl,fun b o e=>by rw[qd (qg e hml)];exact s1 b o e,?_,?_,by rw[ν,hus];rfl⟩
    ·rw[qc,Ybv (l₁:=us++[u])];rfl
    ·rw[take_snoc hk];exact hc.snoc hat hx
  ·rintro σ H1 ⟨v,v',S,us,u,rfl,s1,e1,hc,hus⟩;rw[τ,Ycm]at hc;have hfol:=hc.follow [];rw[Ybs]at hfol;have hS:=hc.at;cases S with
   |node kd ls l=>
   have hS':=hS;unfold qy at hS';obtain⟨dx,la,ka,lb,ks,⟨h1,_⟩,_⟩:=hS';have hfol:Vastoa.follow U p=if kd=.piece\/kd=.param then none else some (.node kd ls l):=hfol;refine⟨_,rfl,_,rfl,ml,_,_,_,rfl,rfl,SqL.of e1,by rw[Ybv];exact Jh _ _,u,_,dx,_,_,rfl,s1 _ _ h1,T.Yac,T.YaI,jK _ _ _ _,na,_,rfl,.inr (tN.sq _),rfl,ZX _,_,rfl,?_⟩;show if inV (.str (kindS kd)) (noS.map V.str)=true then _ else _;rw[qpn];refine zR (fun hb=>?_) fun hb=>?_
   ·have hb:=of_decide_eq_true hb;rw[if_pos hb]at hfol;exact qaM c.x c.u c.nn c.np (fun C dx H' s' x=>kx hfol C dx H' (s1.trans s') x)
   ·have hb:¬(kd=.piece\/kd=.param):=fun y=>hb (decide_eq_true y);rw[if_neg hb]at hfol;exact⟨_,rfl,ko _ hfol H1 ml us u s1 hml e1 hc⟩
end
end RT
end
section
namespace L2
open PySem PySem.Spec PyProof.Rows
theorem Fun.okZ {P:Program} {w:World} {K:γ} {mg:Str->Option Value} {base:Heap} {cz:Prop} {y qual:Str} {st:Stmt} {f:Addr} {fd:FuncData} {N ps:List Str} {k:Nat} {sp:Sp} (F:Fun K y qual st f fd) (S:qm N ps (qe st)) (len:∀vs H Q E,sp vs H Q E->vs.length=ps.length)
  (hbody:∀(cdv:Value)(A:Around)(outer:List Env)(s:Shared)(H:Hp)(vs:List V)(Q:VK)(E:XK),qI k (A.deeper (envOfC qual (qe st) s.heap.objs.size f cdv))->sp vs H Q E ->
   ∃t,PSs (qQ (zc cz P w) P w K mg base N qual (qe st) f cdv A outer s H E) (qk st) t/\t {nx:=fun _ H'=>Q .non H',rt:=Q} (start N vs) H):qw P w K mg base (zc cz P w) (k+1) f fd ps sp:=by
 obtain⟨oc,od,kV,doc,pm,an,cdv,ct,osl,rfl,lk,hcd⟩:=F.ex;exact qiR lk hcd S len fun A outer s H vs Q E hr hsp=>hbody cdv A outer s H vs Q E hr hsp
theorem qmu{P:Program}{w:World}{outer:List Env}{H:Hp}{s:Shared}{E:XK}{e:Value}{s':Shared}(h:zc True P w outer H s E e s'):zc False P w outer H s E e s':=by obtain⟨a,C,dx,H',B,e1,e2,e3,e4,e5,fly,r⟩:=h;obtain⟨f1,f2,f3,oe,vs,T,oT,ts,⟨g1,g2,g3,g4,g5,_⟩,g6⟩:=fly;exact⟨a,C,dx,H',B,e1,e2,e3,e4,e5,⟨f1,f2,f3,oe,vs,T,oT,ts,⟨g1,g2,g3,g4,g5,fun z=>z.elim⟩,g6⟩,r⟩
theorem JE{X:Cx}{P:Program}{w:World}{E:XK}(h:jo (zc False P w) X E):jo (zc True P w) X E:=fun pins σ H s e s' I q=>h pins σ H s e s' I (qmu q)
def qhx(P:Program)(w:World)(K:γ)(mg:Str->Option Value)(base:Heap)(k:Nat)(C:Addr)(x m:Str)(ps:List Str)(sp:Sp):Prop :=∃f fd,mg x=some (.ref C)/\qf6 K C m f/\Jw P w K mg base CX0 k f fd ps sp/\Binds K fd ps []
theorem qmv{X:Cx}{k:Nat}{C:Addr}{ps:List Str}{sp:Sp}{x m:Str}{p pos apos:Pos}{e:Expr}{es:List Expr}{t:TA}{pl:Sem Bool}(G:qhx X.prog X.w X.K X.mg X.base k C x m ps sp)(hr:Qs k X.A)(ha:PA X (e::es) t)(hg:Gl X x:=by rfl)
  (hdb:(x==("__debug__":Str))=false:=by decide)
  (hst:starEach (e::es) X.env=(false,eval e X.env)::starEach es X.env:=by rfl) (hpl:(backTo pos (starEach es X.env)).any (·.1)=false:=by rfl)
  (ht:eval (.Call (.Attribute (.Name x p) m apos) (e::es) [] pos) X.env=(do
   let ov <- eval (.Name x p) X.env
   standAt apos.atName
   let(f,first) <- holding [ov] (getMethod ov m pl)
   callWith pos f first (backTo pos (starEach (e::es) X.env)) (backToKw pos (keywordEach [] X.env))):=by rfl):
  PE X (.Call (.Attribute (.Name x p) m apos) (e::es) [] pos) (QY sp [] E0 t):=by
 obtain⟨f,fd,h1,h2,h3,h4⟩:=G;exact qhK hg h1 h2 h3 hr h4 .nil qO ha hdb hst hpl ht
def qoZ(P:Program)(w:World)(K:γ)(mg:Str->Option Value)(base:Heap)(k:Nat)(C:Addr)(x:Str)(ps:List Str)(sp:Sp):Prop:=∃f fd,mg x=some (.ref C)/\XMk K C f/\Jw P w K mg base CX0 k f fd ps sp/\Binds K fd ps []
end L2
namespace RT
open PySem PySem.Spec PyProof.Rows L2
def qhy(K:γ)(C2:Addr):Sp:=fun vs H Q _=>∃(e a C d:Addr)(xs ys:Array Value)(n p:Int),vs=[.ref e,.ref a]/\H e=some (XOb e C2 xs none)/\H a=some (XOb a C ys (some d))/\H d=some (XDi d (rfF n p))/\jq K C/\qv K C "number"/\qv K C "place" /\
 ∀dx H',H dx=none->dx≠e->H' e=some (XOb e C2 xs (some dx))->H' dx=some (XDi dx (rfF (10+n) p))->(∀b o,H b=some o->b≠e->H' b=some o)->Q .non H'
def qeY(a:Ad)(K:γ):Sp:=fun vs H Q E=>∃(ta:Addr)(txt:List Nat),vs=[.ref ta]/\SqL K H ta (nt txt) /\
 (∀T,Vastoa.read txt=.ok T->RM.good T=true->RM.tw T<=200000->RM.lw T<=2048->∀H' t,qB H H'->qy a M0 H' T t->Q (.ref t) H')/\∀x,Vastoa.read txt=.error x->XW K a.Refusal H (10+(x.kind:Int)) (x.place:Int) E
section
variable{P:Program}{w:World}{K:γ}{mg:Str->Option Value}{base:Heap}{f:Addr}{fd:FuncData}{a:Ad}{C2:Addr}
theorem qdv(F:Fun K "__init__" "Refusal.__init__" jC f fd):Jw P w K mg base CX0 1 f fd ["self","number","place"] (Zp K):=by
 refine F.okU qak (fun vs H Q E h=>?_) (fun cdv A outer s H vs Q E hr h=>?_)
 ·obtain⟨e,C,xs,n,p,rfl,_⟩:=h;rfl
 ·obtain⟨e,C,xs,n,p,rfl,he,hC,n1,n2,k⟩:=h;refine⟨_,qi (qgv (pv 0) (pv 1) rfl) (qf (qgw (pv 0) (pv 2) rfl)),?_⟩;refine⟨_,rfl,_,rfl,e,C,xs,rfl,he,hC,n1,fun dx hd hde=>?_⟩;refine⟨_,rfl,_,rfl,e,C,xs,dx,_,rfl,qc,(qd hde).trans qc,(by show 1<1000;decide),hC,n2,?_⟩;refine k dx _ hd hde ?_ ?_ fun b o hb hbe=>?_
  ·rw[qd (Ne.symm hde),qc]
  ·rw[qc];rfl
  ·rw[qd (qg hb hd),qd hbe,qd (qg hb hd)];exact hb
theorem qcD:qm ["self","met"] ["self","met"] (qe js):=⟨rfl,rfl,rfl,by decide +kernel,rfl,by decide +kernel,by decide +kernel⟩
theorem qcE(F:Fun K "__init__" "SecondText.__init__" js f fd)(c:Xc K C2 a.Refusal)(G:qhx P w K mg base 1 a.Refusal "Refusal" "__init__" ["self","number","place"] (Zp K)):Jw P w K mg base CX0 2 f fd ["self","met"] (qhy K C2):=by
 refine F.okU qcD (fun vs H Q E h=>?_) (fun cdv A outer s H vs Q E hr h=>?_)
 ·obtain⟨e,m,C,d,xs,ys,n,p,rfl,_⟩:=h;rfl
 ·obtain⟨e,m,C,d,xs,ys,n,p,rfl,he,hm,hd,cC,n1,n2,k⟩:=h;refine⟨_,qf (qu (qmv G hr (qa (pv 0) (qa (j8 Z1 qr (qep (pv 1) rfl)) (qa (qep (pv 1) rfl) qh))))),?_⟩;exact⟨_,rfl,_,rfl,m,C,ys,d,_,_,rfl,hm,hd,cC,n1,rfl,_,_,rfl,rfl,_,rfl,m,C,ys,d,_,_,rfl,hm,hd,cC,n2,rfl,e,C2,xs,10+n,p,rfl,he,c.x,c.nn,c.np,k⟩
theorem qaZ:qm ["text","refusal"] ["text"] (qe Qk):=⟨rfl,rfl,rfl,by decide +kernel,rfl,by decide +kernel,by decide +kernel⟩
theorem qeZ(F:Fun K "read_second" "read_second" Qk f fd)(T:Tx P w K mg a)(gR:mg "Refusal"=some (.ref a.Refusal))(c:Xc K C2 a.Refusal)(Gr:FnAt P w K mg base (CXR P w) 8 "read" ["text"] (qcx a K))(Gx:qoZ P w K mg base 2 C2 "SecondText" ["self","met"] (qhy K C2)):
  qw P w K mg base (zc False P w) 9 f fd ["text"] (qeY a K):=by
 refine F.okZ qaZ (fun vs H Q E h=>?_) (fun cdv A outer s H vs Q E hr h=>?_)
 ·obtain⟨ta,txt,rfl,_⟩:=h;rfl
 ·obtain⟨ta,txt,rfl,ht,ko,kx⟩:=h;obtain⟨fI,fdI,hmx,M2,FI,hbI⟩:=Gx;have hr3:qI 3 _:=hr.mono (by decide)
  refine⟨_,qf (qiZ (tb:=fun E1=>qbV (QY (qcx a K) [] E1 (zO (zt 0) jN))) rfl (i:=1) qaZ.nd rfl rfl rfl gR T.Ybe
   (fun xe pn E1 hp=>qf (qG (qT Gr hr hp (qa (pv 0) qh)))) M2 FI hr3 hbI rfl hmx),?_⟩
  refine⟨_,rfl,ta,txt,rfl,ht,ko,fun x ex C dx H' s' xa=>?_⟩;refine⟨C,dx,rfl,rfl,xa.cls,xa.sub,fun m xs e te hm hem he=>?_⟩;have hd1:upd H' m (XOb m C xs (some dx)) dx=some (XDi dx (rfF (x.kind:Int) (x.place:Int))):=by rw[qd (qg xa.di hm)];exact xa.di
  refine⟨e,m,C,dx,_,xs,(x.kind:Int),(x.place:Int),rfl,qc,(qd (Ne.symm hem)).trans qc,(qd (qg xa.di he)).trans hd1,xa.cls,xa.nn,xa.np,fun d2 H2 hd2 hde h1 h2 hk=>?_⟩;refine⟨rfl,d2,h1,hk m _ ((qd (Ne.symm hem)).trans qc) (Ne.symm hem),?_⟩;refine kx x ex C2 d2 _ (fun b o eb=>?_) ⟨c.x,c.u,c.nn,c.np,?_⟩
  ·have eb':=s' b o eb;have be:=qg eb' he;rw[zK be];exact hk b o (by rw[qd be,qd (qg eb' hm)];exact eb') be
  ·rw[zK hde];exact h2
end
section
variable{X:Cx}{pins:List (Addr×Obj)}{σ:L2.St}{a b z TI TO i1 i2:Addr}{xs ys:List V}
theorem qbC{H H':Hp}{h h':Heap}{i:Nat}(st:ZSt H h z TI TO i1 i2 a b i)(k:∀c∈[z,TI,TO,i1,i2],∀o,h.get? c=some o->h'.get? c=some o)(kH:∀T p q,H T=some (.tup [p,q])->H' T=some (.tup [p,q])):ZSt H' h' z TI TO i1 i2 a b i:=by
 obtain⟨hTI,⟨x0,y0,hTO⟩,h1,h2,hz⟩:=st;refine⟨k _ (by simp) _ hTI,⟨x0,y0,k _ (by simp) _ hTO⟩,h1.at fun o e=>k _ (by simp) o e,h2.at fun o e=>k _ (by simp) o e,?_⟩;rcases hz with hz|⟨T,f,p0,q0,hz,hT0⟩
 ·exact .inl (k _ (by simp) _ hz)
 ·exact .inr ⟨T,f,p0,q0,k _ (by simp) _ hz,kH _ _ _ hT0⟩
theorem qle{H:Hp}{h:Heap}{i:Nat}(st:ZSt H h z TI TO i1 i2 a b i):∀c∈[z,TI,TO,i1,i2],c<h.objs.size:=by
 obtain⟨hTI,⟨x0,y0,hTO⟩,⟨_,h1,_⟩,⟨_,h2,_⟩,hz⟩:=st;intro c hc;have e':c=z\/c=TI\/c=TO\/c=i1\/c=i2:=by simpa using hc
 rcases e' with rfl|rfl|rfl|rfl|rfl
 ·rcases hz with q|⟨_,_,_,_,q,_⟩<;>exact Ξ q
 ·exact Ξ hTI
 ·exact Ξ hTO
 ·exact Ξ h1
 ·exact Ξ h2
theorem qmw{A:Around}(hh:A.handled=none){S:Addr}(D:ZipApart z TI TO i1 i2 a b)(hxy:xs.length<=ys.length)(hn:xs.length<=Λ)(res:Value){R:Result->Shared->Prop}{H₀:Hp}(hqx:SqL X.K H₀ a xs)(hqy:SqL X.K H₀ b ys)(hS0:H₀ S=none)
  (hR:∀(H':Hp)(s':Shared)(as:List Addr),Inv X pins σ H' s'->H' S=some (.lst (as.map V.ref))->tups H' as (xs.zip ys)->qB H₀ H'->R (.ok (.ret res)) s'):
  ∀(k i:Nat)(H:Hp)(s:Shared)(as:List Addr),xs.length - i=k->i<=xs.length->Inv X pins σ H s->(∀c∈[z,TI,TO,i1,i2],Q5 X pins H c)->ZSt H s.heap z TI TO i1 i2 a b i->H S=some (.lst (as.map V.ref))->as.length=i->tups H as ((xs.zip ys).take i)->qB H₀ H ->
   codeAny (model X.prog X.w) A (.builtin "list.extend.loop" ⟨[.ref S,.ref z,res],[]⟩) R s:=by
 intro k
 induction k with
 |zero=>intro i H s as hk hi I hf st hS hal ht hkp;refine codeAny_builtin Ydn ?_;rw[Around.under_plainId Ycc _];show wpAny _ A.in1 (pyNext (.ref z) >>= _) _ _ _;refine ε (qlS (A:=A.in1) hh D I hf st (QI hkp hqx) (QI hkp hqy) (by omega) fun h' I'=>?_);refine Φ (hR H _ as I' hS ?_ hkp);rw[YbZ (by rw[List.length_zip];omega)]at ht;exact ht
 |succ k ih=>
  intro i H s as hk hi I hf st hS hal ht hkp;have hlt:i<xs.length:=by omega
  have hlt2:i<ys.length:=by omega
  refine codeAny_builtin Ydn ?_;rw[Around.under_plainId Ycc _];show wpAny _ A.in1 (pyNext (.ref z) >>= _) _ _ _;refine ε (qlR (A:=A.in1) D I hf st (QI hkp hqx) (QI hkp hqy) (Θ hlt) (Θ hlt2) fun h' I1 st1=>?_);have hT0:H s.heap.objs.size=none:=I.fresh;have hlt0:=qle st;generalize s.heap.objs.size=T at I1 st1 hT0 hlt0 ⊢;have hST:S≠T:=qg hS hT0;have hS1:upd H T (.tup [xs[i],ys[i]]) S=some (.lst (as.map V.ref)):=by rw[qd hST];exact hS
  obtain⟨z',its,n,r,hl,e⟩:=I1.lstM hS1;rw[τ,hal]at hl;show wpAny _ A.in1 (updateSeq S (·.push (Value.ref T)) >>= _) _ _ _;have hz2:((as++[T]).map V.ref).length<=Λ:=by rw[τ,ν,hal,Yco];omega
  have I2:=I1.lset (t':=s.toks) (ys:=(as++[T]).map V.ref) (its':=its++[.ref T]) (f:=(·.push (Value.ref T))) hS1 e (by simp) (by rw[Ybv];exact r.append (.cons rfl .nil)) hz2;have keep:∀c o,H c=some o->c≠S->upd (upd H T (.tup [xs[i],ys[i]])) S (.lst ((as++[T]).map V.ref)) c=some o:=fun c o q n=>by rw[qd n,qd (qg q hT0)];exact q
  refine ε (wpAny_updateSeq e rfl (Φ ⟨plainId_quiet Ycc _,ih (i+1) _ _ (as++[T]) (by omega) hlt I2 (fun c hc=>⟨?_,(hf c hc).2⟩) (qbC st1 (fun c hc o q=>?_) fun T' p q h=>?_) qc (by rw[ν,hal];rfl) ?_ fun c o q=>?_⟩) (by rw[ύ];omega) (by show(its.toArray.push (Value.ref T)).size<=Λ+1;rw[Array.size_push,ύ];omega))
  ·rw[qd (Ne.symm (qg hS (hf c hc).1)),qd (Ybr (hlt0 c hc))];exact(hf c hc).1
  ·exact(Ybo _ _ (qg hS (hf c hc).1)).trans q
  ·rw[qd (fun y=>by rw[y,hS1]at h;cases h)];exact h
  ·have e2:(xs.zip ys)[i]?=some (xs[i],ys[i]):=YcL.mpr ⟨Θ hlt,Θ hlt2⟩;rw[take_snoc e2];refine Zz (qZ (fun p q h=>?_) ht) ?_
   ·exact keep p _ h fun y=>by rw[y,hS]at h;cases h
   ·rw[qd (Ne.symm hST),qc]
  ·exact keep c o (hkp c o q) (qg q hS0)
theorem qfI{H:Hp}{s:Shared}{S:Addr}{h':Heap}{c:Nat}(I:Inv X pins σ H s)(hH:H S=some (.lst []))(k:∀b u,b≠S->s.heap.get? b=some u->h'.get? b=some u)(e:h'.get? S=some {cls:=.type "list",data:=.seq #[] c}):Inv X pins σ H {s with heap:=h'}:=by
 have q:=I.write (x:=S) (e:=S) (o:=.lst []) (t':=s.toks) (h':=h') (by rw[hH];exact trivial) (.inl rfl) k ⟨_,e⟩ ⟨ό _,[],c,.nil,e⟩
 have e2:upd H S (.lst [])=H:=by
  funext b;by_cases hb:b=S
  ·rw[hb,qc,hH]
  ·rw[qd hb]
 rw[e2]at q;exact q
theorem qmx{A:Around}{E:Value->Shared->Prop}(hh:A.handled=none)(D:ZipApart z TI TO i1 i2 a b)(hxy:xs.length<=ys.length)(hn:xs.length<=Λ){H:Hp}{s:Shared}(hqx:SqL X.K H a xs)(hqy:SqL X.K H b ys)(I:Inv X pins σ H s)(hf:∀c∈[z,TI,TO,i1,i2],Q5 X pins H c)(st:ZSt H s.heap z TI TO i1 i2 a b 0)(hz:IsZip s.heap z TI TO .none){Q:VK}
  (hR:∀(H':Hp)(l:Addr)(as:List Addr),qB H H'->H l=none->H' l=some (.lst (as.map V.ref))->tups H' as (xs.zip ys)->Q (.ref l) H'):
  wpAny (model X.prog X.w) A (call (.type "list") [.ref z]) (EP X pins σ Q) E s:=by
 refine callType_codes (Q₁:=fun obj s₁=>obj=.ref s.heap.objs.size/\s₁={s with heap:=s.heap.push {cls:=.type "list",data:=.seq #[]}}) PySem.F.called_list (PySem.F.typeCall_list_1 _) PySem.F.entry_list_init (code_list_new _ ⟨rfl,rfl⟩) fun obj s₁ h₁=>?_;obtain⟨rfl,rfl⟩:=h₁;have hS:(s.heap.push {cls:=.type "list",data:=.seq #[]}).get? s.heap.objs.size=some {cls:=.type "list",data:=.seq #[]}:=Ybk _ rfl;have I1:Inv X pins σ (upd H s.heap.objs.size (.lst [])) {s with heap:=s.heap.push {cls:=.type "list",data:=.seq #[]}}:=I.lnew (its:=[]) (t':=s.toks) .nil (ό _);have hS0:H s.heap.objs.size=none:=I.fresh;have hlt0:=qle st;have f1:∀c∈[z,TI,TO,i1,i2],Q5 X pins (upd H s.heap.objs.size (.lst [])) c:=fun c hc=>⟨by rw[qd (Ybr (hlt0 c hc))];exact(hf c hc).1,(hf c hc).2⟩;have st1:ZSt (upd H s.heap.objs.size (.lst [])) (s.heap.push {cls:=.type "list",data:=.seq #[]}) z TI TO i1 i2 a b 0:=qbC st (fun c hc o q=>ψ _ q) fun T p q h=>by rw[qd (qg h hS0)];exact h
 have hz1:IsZip (s.heap.push {cls:=.type "list",data:=.seq #[]}) z TI TO .none:=ψ _ hz;refine⟨⟨_,hS,rfl⟩,PySem.F.args_list_init_2 _ _,?_⟩;generalize s.heap.objs.size=S at hS I1 hS0 hlt0 f1 st1 ⊢;generalize s.heap.push {cls:=.type "list",data:=.seq #[]}=h1 at hS I1 st1 hz1 ⊢;have hH:upd H S (.lst []) S=some (.lst []):=qc;have ne:∀c∈[z,TI,TO,i1,i2],c≠S:=fun c hc=>Ybr (hlt0 c hc);show wpAny _ _ (do let old <- Builtin.List.listItems (.ref S);Builtin.List.listUpdate (.ref S) (fun _=>#[]);letGo old.toList.reverse;Builtin.List.listExtendWith (.ref S) (.ref z) .none) _ _ _;refine ε ?_;unfold Builtin.List.listItems;refine ε (wpAny_seqItems hS rfl (Φ ?_));show wpAny _ _ (updateSeq S (fun _=>#[]) >>= fun _=>letGo (#[]:Array Value).toList.reverse >>= fun _=>Builtin.List.listExtendWith (.ref S) (.ref z) .none) _ _ _;refine ε (wpAny_updateSeq hS rfl ?_);have hS₂:=YbG (Obj.mapSeq (fun _=>(#[]:Array Value))) hS rfl;have o2:∀b o,b≠S->h1.get? b=some o->(h1.update S (Obj.mapSeq (fun _=>(#[]:Array Value)))).get? b=some o:=fun b o hb e=>(Ybo _ _ (Ne.symm hb)).trans e;have I2:=qfI I1 hH o2 hS₂;have st2:=qbC st1 (fun c hc o q=>o2 c o (ne c hc) q) (fun _ _ _ h=>h);have hz2:=o2 _ _ (ne z (by simp)) hz1;refine ε (wpAny_letGo ?_);generalize h1.update S (Obj.mapSeq (fun _=>(#[]:Array Value)))=h2 at hS₂ o2 I2 st2 hz2 ⊢;unfold Builtin.List.listExtendWith;have hTy:Shared.TypeIs {s with heap:=h2} (.ref z) "zip":=⟨_,hz2,rfl⟩;refine ε (wpAny_typeOf (T:= "zip") hTy ?_);have h1:Builtin.List.listSameRef (.ref S) (.ref z)=false:=by simp[Builtin.List.listSameRef,Ne.symm (ne z (by simp))]
 have h2':(Value.type "zip"==Value.type "list")=false:=by decide
 have h3:(Value.type "zip"==Value.type "tuple")=false:=by decide
 simp only[h1,h2',h3,Ycx,YbI,if_false];have key:∀(h:Heap),Inv X pins σ (upd H S (.lst [])) {s with heap:=h}->ZSt (upd H S (.lst [])) h z TI TO i1 i2 a b 0->codeAny (model X.prog X.w) A.in1 (.builtin "list.extend.loop" ⟨[.ref S,.ref z,.none],[]⟩) (wants (fun r s₂=>r=.none/\EP X pins σ Q (.ref S) s₂) E) {s with heap:=h}:=fun h I3 st3=>qmw (H₀:=H) (A:=A.in1) hh D hxy hn .none hqx hqy hS0 (fun H' s' as I4 hl ht hk=>⟨rfl,.ref S,H',I4,rfl,hR H' S as hk hS0 hl ht⟩) xs.length 0 _ _ [] (Ydz _) (ό _) I3 f1 st3 hH rfl .nil (qo hS0);refine ε (wpAny_pyIter_zip hz2 ?_);refine ε (wpAny_holding (qlQ hTy ?_));refine wpAny_ite_split (fun _=>?_) (fun _=>Φ ⟨plainId_quiet Ycc _,key _ I2 st2⟩);refine ε (wpAny_rule ?_);refine ε ?_;show wpAny _ _ (updateSeq S (·.push .none) >>= fun _=>updateSeq S (·.pop)) _ _ _;refine ε (wpAny_updateSeq hS₂ rfl ?_);have hS₃:=YbG (Obj.mapSeq (·.push Value.none)) hS₂ rfl;refine wpAny_updateSeq (hz:=by seq_fits) hS₃ rfl ?_;have hS₄:=YbG (Obj.mapSeq (·.pop)) hS₃ rfl;have o4:∀b o,b≠S->h2.get? b=some o->((h2.update S (Obj.mapSeq (·.push Value.none))).update S (Obj.mapSeq (·.pop))).get? b=some o:=fun b o hb e=>(Ybo _ _ (Ne.symm hb)).trans ((Ybo _ _ (Ne.symm hb)).trans e);exact Φ ⟨plainId_quiet Ycc _,key _ (qfI (s:={s with heap:=h2}) I2 hH o4 hS₄) (qbC st2 (fun c hc o q=>o4 c o (ne c hc) q) fun _ _ _ h=>h)⟩
def qmy(K:γ)(ta:TA):TE:=fun σ H Q=>ta σ H fun vs H1=>∃a b xs ys,vs=[.ref a,.ref b]/\SqL K H1 a xs/\SqL K H1 b ys/\xs.length<=ys.length /\
 ∀(H2:Hp)(l:Addr)(as:List Addr),qB H1 H2->H1 l=none->H2 l=some (.lst (as.map V.ref))->tups H2 as (xs.zip ys)->Q (.ref l) H2
theorem qjK:bootBuiltins "list"=some (.type "list"):=by decide +kernel
theorem qjL{e e2:Expr}{ta:TA}{p q pos zpos:Pos}(hc:X.calm=true)(hgl:Gl X "list")(hml:X.mg "list"=none)(hg:Gl X "zip")(hm:X.mg "zip"=none)(ha:PA X [e,e2] ta)
  (hs:starEach [e,e2] X.env=(false,eval e X.env)::starEach [e2] X.env:=by rfl) (hpl:(backTo zpos (starEach [e2] X.env)).any (·.1)=false:=by rfl)
  (hs2:starEach [.Call (.Name "zip" q) [e,e2] [] zpos] X.env=[(false,eval (.Call (.Name "zip" q) [e,e2] [] zpos) X.env)]:=by rfl):
  PE X (.Call (.Name "list" p) [.Call (.Name "zip" q) [e,e2] [] zpos] [] pos) (qmy X.K ta):=by
 intro pins s σ H Q I h;refine wpAny_Call_Name_kw (Zv I hgl hml qjK (YbT ?_ hs2 rfl));rw[hs2];show wpAny _ _ (spliced ((false,eval (.Call (.Name "zip" q) [e,e2] [] zpos) X.env)::[])) _ _ s;refine Calls.spliced_cons ?_;refine wpAny_Call_Name_kw (Zv I hg hm qfa (YbT (thn (ha zpos pins s σ H _ I h) fun us s1 ⟨vs,H1,I1,r1,q1⟩=>?_) hs hpl));obtain⟨a,b,xs,ys,ex,hqx,hqy,hxy,q⟩:=q1;subst ex;cases r1 with
 |cons r rr=>
  cases rr with
  |cons r' rr=>
   cases rr;cases r;cases r';obtain⟨its,rv,p1,hz1⟩:=I1.list hqx;obtain⟨its2,rv2,p2,_⟩:=I1.list hqy;have la:a<s1.heap.objs.size:=p1.lt;have lb:b<s1.heap.objs.size:=p2.lt;refine call_zip_2 p1.isList p2.isList fun h' hz hTI hTO h1 h2 hsz hk=>?_;have I2:Inv X pins σ H1 {s1 with heap:=h'}:=I1.kept (t':=s1.toks) hk;refine Calls.spliced_nil ?_;refine qmx (I1.ok.hd hc) (YdY s1.heap.objs.size a b la lb) hxy hz1 hqx hqy I2 (fun c hcm=>?_) ⟨hTI,⟨_,_,hTO⟩,h1,h2,.inl hz⟩ hz q;have e':c=s1.heap.objs.size+4\/c=s1.heap.objs.size+2\/c=s1.heap.objs.size+3\/c=s1.heap.objs.size\/c=s1.heap.objs.size+1:=by simpa using hcm
   have hle:s1.heap.objs.size<=c:=by
    rcases e' with z|z|z|z|z
    ·rw[z];exact YbY _ _
    ·rw[z];exact YbY _ _
    ·rw[z];exact YbY _ _
    ·rw[z];exact ω _
    ·rw[z];exact YbY _ _
   exact I1.fpOk hle (I1.hok.fresh hle)
end
end RT
end
section
namespace L2
open PySem PySem.Spec PyProof.Rows
theorem qnN{K:γ}{a:Addr}{xs:List V}{g:TG}{tb:TS}{D:Ends}{σ:St}{H:Hp}(Pv:Nat->St->Hp->Prop)(h0:Pv 0 σ H)(hl:∀i σ H,i<=xs.length->Pv i σ H->SqL K H a xs)
  (hs:∀i x σ H,i<xs.length->xs[xs.length - 1 - i]?=some x->Pv i σ H->g x σ H fun σ2 H2=>tb {D with nx:=Pv (i+1),ct:=Pv (i+1),bk:=D.nx} σ2 H2) (hd:∀σ H,Pv xs.length σ H->D.nx σ H):
  ∃W:Nat->Nat->St->Hp->Prop,(∃m,W 0 m σ H)/\∀i m σ H,W i m σ H ->
   ((Itv K a xs.length).stop i H/\D.nx σ H)\/((Itv K a xs.length).go i H/\∃N:St->Hp->Prop,(∀σ' H',N σ' H'->∃m',m'<m/\W (i+1) m' σ' H')/\∀x H',(Itv K a xs.length).yld i H x H'->g x σ H' fun σ2 H2=>tb {D with nx:=N,ct:=N,bk:=D.nx} σ2 H2):=by
 refine⟨fun i m σ H=>m=xs.length - i/\i<=xs.length/\Pv i σ H,⟨xs.length,by simp,ό _,h0⟩,?_⟩;rintro i m σ H ⟨rfl,hi,p⟩;have q:=hl i σ H hi p;by_cases hlt:i<xs.length
 ·have hlt2:xs.length - 1 - i<xs.length:=by omega
  refine .inr ⟨⟨hlt,xs,xs[xs.length - 1 - i],q,Θ hlt2⟩,Pv (i+1),fun σ' H' p'=>⟨xs.length - (i+1),by omega,rfl,hlt,p'⟩,fun x H' y=>?_⟩;obtain⟨e,y⟩:=y;subst e;exact hs i x σ _ hlt (y xs q) p
 ·have e:i=xs.length:=by omega
  subst e;exact .inl ⟨ω _,hd σ H p⟩
end L2
namespace RT
open PySem PySem.Spec PyProof.Rows L2
theorem qbD{kd:Vastoa.Kind}{ls:List (List Nat)}{l:List VT}{k:Int}{U:VT}(h:Vastoa.kidAt (.node kd ls l) k=some U):∃j:Nat,k=(j:Int)/\l[j]?=some U:=by
 unfold Vastoa.kidAt at h
 split at h
 ·cases h
 ·rename_i hk;exact⟨k.toNat,(Yc8 (by omega)).symm,h⟩
theorem qcF{kd:Vastoa.Kind}{ls:List (List Nat)}{l:List VT}{k:Int}{r:List Int}{N:VT}:Vastoa.replace (.node kd ls l) (k::r) N=(Vastoa.kidAt (.node kd ls l) k).bind fun u=>(Vastoa.replace u r N).map fun v=>.node kd ls (l.set k.toNat v):=by rw[Vastoa.replace]
theorem qdw{T N:VT}:Vastoa.replace T [] N=if T.kind=.piece\/T.kind=.param then none else some N:=by rw[Vastoa.replace]
theorem qlf{T:VT}{k:Int}{r:List Int}:Vastoa.follow T (k::r)=(Vastoa.kidAt T k).bind fun u=>Vastoa.follow u r:=rfl
theorem qfJ(N:VT):∀{p:List Int}{T:VT},Vastoa.follow T p=none->Vastoa.replace T p N=none
 |[],T,h=>by
  rw[qdw];have h:(if T.kind=.piece\/T.kind=.param then none else some T)=none:=h
  split at h
  ·rw[if_pos ‹_›]
  ·cases h
 |k::r,.node kd ls l,h=>by
  rw[qcF];rw[qlf]at h;cases e:Vastoa.kidAt (.node kd ls l) k with
  |none=>rfl
  |some U=>rw[e]at h;have h:Vastoa.follow U r=none:=h;show(Vastoa.replace U r N).map _=none;rw[qfJ N h];rfl
theorem qlg{T U N:VT}(h:Vastoa.follow T []=some U):Vastoa.replace T [] N=some N:=by
 rw[qdw];have h:(if T.kind=.piece\/T.kind=.param then none else some T)=some U:=h
 split at h
 ·cases h
 ·rw[if_neg ‹_›]
theorem qlh{W X N B:VT}{k:Int}{r:List Int}(hk:Vastoa.kidAt W k=some X)(hB:Vastoa.replace X r N=some B):∃kd ls l j,W=.node kd ls l/\k=((j:Nat):Int)/\l[j]?=some X/\Vastoa.replace W (k::r) N=some (.node kd ls (l.set j B)):=by
 cases W with
 |node kd ls l=>obtain⟨j,rfl,hj⟩:=qbD hk;refine⟨kd,ls,l,j,rfl,rfl,hj,?_⟩;rw[qcF,hk];show(Vastoa.replace X r N).map _=_;rw[hB];rfl
theorem qfK:∀{l:List VT}{j:Nat}{B:VT},RM.qE l=true->RM.good B=true->RM.qE (l.set j B)=true
 |[],_,_,h,_=>h
 |t::r,0,B,h,hB=>by unfold RM.qE at h;rw[Ybm]at h;show RM.qE (B::r)=true;unfold RM.qE;rw[hB,h.2];rfl
 |t::r,j+1,B,h,hB=>by unfold RM.qE at h;rw[Ybm]at h;show RM.qE (t::r.set j B)=true;unfold RM.qE;rw[h.1,qfK h.2 hB];rfl
theorem qli{l:List VT}{j:Nat}{B:VT}:(l.set j B).isEmpty=l.isEmpty:=by
 cases l with
 |nil=>rfl
 |cons t r=>cases j<;>rfl
theorem qmz{kd:Vastoa.Kind}{ls:List (List Nat)}{l:List VT}{j:Nat}{B:VT}(h:RM.good (.node kd ls l)=true)(hB:RM.good B=true):RM.good (.node kd ls (l.set j B))=true:=by unfold RM.good at h ⊢;rw[Ybm]at h ⊢;refine⟨qfK h.1 hB,?_⟩;rw[qli,Yc3];exact h.2
theorem qlj{B:VT}:∀{l:List VT}{j:Nat}{U:VT},l[j]?=some U->zg (l.set j B)+wt U=zg l+wt B
 |[],_,_,h=>by cases h
 |t::r,0,U,h=>by have h:some t=some U:=h;cases h;show zg (B::r)+wt t=zg (t::r)+wt B;unfold zg;omega
 |t::r,j+1,U,h=>by have:=qlj (B:=B) (l:=r) (j:=j) (U:=U) h;show zg (t::r.set j B)+wt U=zg (t::r)+wt B;unfold zg;omega
theorem qiG{kd:Vastoa.Kind}{ls:List (List Nat)}{l:List VT}:wt (.node kd ls l)=12 * (2+ls.length+l.length)+2 * (ls.map Ycs).sum+zg l:=by rw[wt]
theorem qiH{N:VT}(gN:RM.good N=true):∀{p:List Int}{T V:VT},Vastoa.replace T p N=some V->RM.good T=true->RM.good V=true/\wt V<=wt T+wt N
 |[],T,V,h,g=>by
  rw[qdw]at h
  split at h
  ·cases h
  ·cases h;exact⟨gN,Nat.le_add_left _ _⟩
 |k::r,.node kd ls l,V,h,g=>by rw[qcF]at h;obtain⟨U,h1,h2⟩:=Option.bind_eq_some_iff.mp h;obtain⟨B,h3,h4⟩:=Ybu.mp h2;obtain⟨j,rfl,hj⟩:=qbD h1;obtain⟨g1,g2⟩:=qiH gN h3 (qfH g (YbD hj));subst h4;rw[Ydq];refine⟨qmz g g1,?_⟩;have:=qlj (B:=B) hj;rw[qiG,qiG,Yc3];omega
theorem qlk:∀{l:List VT}{j:Nat}{U:VT},l[j]?=some U->RM.tw U<=RM.jJ l
 |[],_,_,h=>by cases h
 |t::r,0,U,h=>by have h:some t=some U:=h;cases h;unfold RM.jJ;omega
 |t::r,j+1,U,h=>by have:=qlk (l:=r) (j:=j) (U:=U) h;unfold RM.jJ;omega
theorem qll:∀l:List VT,l.length<=RM.jJ l
 |[]=>ό _
 | .node k ls r::l=>by have:=qll l;unfold RM.jJ RM.tw;rw[ξ];omega
theorem qnO{T U:VT}{k:Int}(h:Vastoa.kidAt T k=some U):RM.tw U<=RM.tw T:=by
 cases T with
 |node kd ls l=>obtain⟨j,rfl,hj⟩:=qbD h;have:=qlk hj;rw[show RM.tw (.node kd ls l)=1+ls.length+RM.jJ l by rw[RM.tw]];omega
theorem qnP{a:Ad}{H:Hp}{T U:VT}{p:List Int}{us:List Addr}{u:Addr}(h:Cx2 a H T p us U u):us.length=p.length/\∃g:Nat->VT,g 0=T/\g p.length=U/\(∀i v,(us++[u])[i]?=some v->qy a M0 H (g i) v)/\∀i k,p[i]?=some k->Vastoa.kidAt (g i) k=some (g (i+1)):=by
 induction h with
 | @nil u h=>
  refine⟨rfl,fun _=>T,rfl,rfl,fun i v e=>?_,fun i k e=>by cases e⟩;cases i with
  |zero=>have e:some u=some v:=e;cases e;exact h
  |succ i=>cases e
 | @snoc U V p us u v k h0 hk hv ih=>
  obtain⟨hl,g,g0,gU,g1,g2⟩:=ih;refine⟨by rw[ν,ν,hl];rfl,fun i=>if i<=p.length then g i else V,by show(if 0<=p.length then g 0 else V)=T;rw[if_pos (ό _)];exact g0,?_,fun i x e=>?_,fun i x e=>?_⟩
  ·rw[ν,Yco];show(if p.length+1<=p.length then g (p.length+1)else V)=V;rw[if_neg (by omega)]
  ·have hl1:(us++[u]).length=p.length+1:=by rw[ν,hl];rfl
   by_cases hi:i<=p.length
   ·rw[Yb0 (by omega)]at e;show qy a M0 H (if i<=p.length then g i else V) x;rw[if_pos hi];exact g1 i x e
   ·have hi2:i=p.length+1:=by
     have:=(Δ.mp e).1;rw[ν,hl1,Yco]at this;omega
    subst hi2;rw[<- hl1,Ydb]at e;cases e;show qy a M0 H (if p.length+1<=p.length then _ else V) v;rw[if_neg (by omega)];exact hv
  ·show Vastoa.kidAt (if i<=p.length then g i else V) x=some (if i+1<=p.length then g (i+1)else V);have hi:=(Δ.mp e).1;rw[ν,Yco]at hi;rw[if_pos (by omega)];by_cases hi2:i<p.length
   ·rw[Yb0 hi2]at e;rw[if_pos (by omega)];exact g2 i x e
   ·have:i=p.length:=by omega
    subst this;rw[Ydb]at e;cases e;rw[if_neg (by omega),gU];exact hk
theorem qlm{g:Nat->VT}{p:List Int}(g2:∀i k,p[i]?=some k->Vastoa.kidAt (g i) k=some (g (i+1))):∀i,i<=p.length->RM.tw (g i)<=RM.tw (g 0)
 |0,_=>ω _
 |i+1,h=>by have h1:=qlm g2 i (by omega);have h2:=qnO (g2 i p[i] (Θ (by omega)));omega
theorem qeh{A B:Type}{R:A->B->Prop}{x:A}{y:B}(h:R x y):∀{as:List A}{bs:List B}(j:Nat),Paired R as bs->Paired R (as.set j x) (bs.set j y)
 |_,_,_,.nil=>.nil
 |_,_,0,.cons _ t=>.cons h t
 |_,_,j+1,.cons h1 t=>.cons h1 (qeh h j t)
theorem qo0{xs:List V}{j:Nat}(h:j<=xs.length):ZK xs none (some (j:Int))=xs.take j:=by unfold ZK;rw[HT.qgk,HT.JW,Ycj h,Ydz,Ydg]
theorem qmA{xs:List V}{j:Nat}(h:j<xs.length):ZK xs (some ((j:Int)+1)) none=xs.drop (j+1):=by unfold ZK;rw[HT.qgk,show((j:Int)+1)=((j+1:Nat):Int) by omega,HT.JW,Ycj h];exact YbZ (by rw[YbF];exact ω _)
theorem qnQ{ks:List Addr}{j:Nat}{b:Addr}(h:j<ks.length):(ks.map V.ref).take j++[V.ref b]++(ks.map V.ref).drop (j+1)=(ks.set j b).map V.ref:=by rw[List.set_eq_take_append_cons_drop,if_pos h,Ybv,Ybp,YdO,YdP,Yby];rfl
def qe0(a:Ad)(K:γ):Sp:=fun vs H Q E=>∃(t pa o:Addr)(T N:VT)(p:List Int),vs=[.ref t,.ref pa,.ref o]/\qy a M0 H T t/\RM.tw T<=200000/\SqL K H pa (p.map V.int)/\p.length<=1000/\qy a M0 H N o/\(Vastoa.replace T p N=none->XW K a.Refusal H 7 0 E) /\
 ∀V,Vastoa.replace T p N=some V->∀H' u,qB H H'->qy a M0 H' V u->Q (.ref u) H'
section
variable{P:Program}{w:World}{K:γ}{mg:Str->Option Value}{base:Heap}{f:Addr}{fd:FuncData}{a:Ad}
theorem ZZ:qm ["tree","path","other","steps","built","k","node"] ["tree","path","other"] (qe Jm):=⟨rfl,rfl,rfl,by decide +kernel,rfl,by decide +kernel,by decide +kernel⟩
theorem qln(F:Fun K "put_at" "put_at" Jm f fd)(T:Tx P w K mg a)(bL:mg "list"=none)(bZ:mg "zip"=none)(bR:mg "reversed"=none)(G:FnAt P w K mg base (CXR P w) 4 "follow" ["tree","path"] (qhw a K))(Gn:qcg P w K mg base CX0 1 a.Node "Node" ["self","kind","labels","kids"] (qg9 a)):
  qw P w K mg base (CXR P w) 5 f fd ["tree","path","other"] (qe0 a K):=by
 refine F.okR ZZ (fun vs H Q E h=>?_) (fun cdv A outer s H vs Q E hr h=>?_)
 ·obtain⟨t,pa,o,U,N,p,rfl,_⟩:=h;rfl
 ·obtain⟨t,pa,o,U,N,p,rfl,hU,hw,hpa,hpl,hN,kx,ko⟩:=h;have hr2:qI 2 _:=hr.mono (by decide)
  refine⟨_,qi (qW (i:=3) ZZ.nd rfl (Or.inl rfl) (qjL rfl rfl bL rfl bZ (qa (pv 1) (qa (qT G hr j7 (qa (pv 0) (qa (pv 1) qh))) qh))))
   (qi (qW (i:=4) ZZ.nd rfl (Or.inl rfl) (pv 2))
   (qi (Z0 PassesOwn.leaving rfl (qhH rfl bR (qa (pv 3) qh)) (qgg rfl (Je (jd (i:=5) ZZ.nd rfl (Or.inl rfl)) (Je (jd (i:=6) ZZ.nd rfl (Or.inl rfl)) qej)))
    (qf (qW (i:=4) ZZ.nd rfl (Or.inl rfl) (Zb Gn hr2 qO (qa (qj (pv 6) rfl) (qa (qj (pv 6) rfl) (qa
     (j8 qb4 (j8 qb4 (ZJ JX (qj (pv 6) rfl) qcL (Qv (pv 5))) (za (qa (pv 4) qh))) (ZJ JX (qj (pv 6) rfl) (Qv (j8 Z1 (pv 5) qr)) qcL)) qh)))))))
   (qf (qG (pv 4))))),?_⟩
  refine⟨_,rfl,_,rfl,_,rfl,t,pa,U,p,rfl,hU,hpa,hpl,fun hf=>kx (qfJ N hf),fun S hS H1 m us u s1 hm e1 hc=>?_⟩;obtain⟨hul,g,g0,gU,g1,g2⟩:=qnP hc;refine⟨pa,m,_,_,rfl,QI s1 hpa,SqL.of e1,by rw[τ,τ,ν,hul];omega,fun H2 l as s2 hl2 e2 ht=>?_⟩;have hzl:((p.map V.int).zip ((us++[u]).map V.ref)).length=p.length:=by rw[List.length_zip,τ,τ,ν,hul];exact Ycj (YbY _ _)
  have hal:as.length=p.length:=(Paired.length ht).trans hzl;have s12:qB H H2:=s1.trans s2;have hS0:Vastoa.follow S []=some S:=by have:=hc.follow [];rw[Ybs,hS]at this;exact this.symm
  refine⟨_,rfl,_,rfl,l,_,rfl,SqL.of e2,qnN (K:=K) (a:=l) (xs:=as.map V.ref) (fun i σ H'=>∃(v5 v6:Option V)(b:Addr)(B:VT),σ=[some (.ref t),some (.ref pa),some (.ref o),some (.ref l),some (.ref b),v5,v6]/\qB H2 H'/\i<=p.length/\Vastoa.replace (g (p.length - i)) (p.drop (p.length - i)) N=some B/\qy a M0 H' B b)
   ⟨none,none,o,N,rfl,fun b o e=>e,ό _,by rw[Ydz,Ydx,gU];exact qlg hS0,hN.s s12⟩ (fun i σ H' _ ⟨_,_,_,_,_,s3,_⟩=>SqL.of (s3 _ _ e2)) ?_ ?_⟩
  ·rintro i x σ H3 hi hx ⟨v5,v6,b,B,rfl,s3,hip,hB,hTB⟩;rw[τ,hal]at hi;rw[τ,hal]at hx;obtain⟨j,hj⟩:∃j,p.length - 1 - i=j:=⟨_,rfl⟩;have hjn:p.length - i=j+1:=by omega
   have hjl:j<p.length:=by omega
   rw[hj]at hx;rw[hjn]at hB;have hjv:j<(us++[u]).length:=by rw[ν,hul];omega
   obtain⟨q,hq1,hq2⟩:=zM (j:=j) (y:=(V.int p[j],V.ref (us++[u])[j])) ht (YcL.mpr ⟨by rw[Ω,Θ hjl];rfl,by rw[Ω,Θ hjv];rfl⟩);have hx:x=V.ref q:=by rw[Ω,hq1]at hx;exact(Option.some.inj hx).symm
   subst hx;refine⟨q,_,rfl,SqT.of (s3 _ _ hq2),rfl,_,_,rfl,_,_,rfl,rfl,?_⟩;have hv:=g1 j _ (Θ hjv);have hk:=g2 j _ (Θ hjl);have htw:=qlm g2 j (by omega);rw[g0]at htw;have hdrop:p.drop j=p[j]::p.drop (j+1):=Ycb hjl;generalize p[j]=k at hk hdrop ⊢;generalize (us++[u])[j]=v at hv ⊢;obtain⟨kd,ls,kl,jj,hW,rfl,hjj,hrep⟩:=qlh hk hB;rw[<- hdrop]at hrep;rw[hW]at hv htw;unfold qy at hv;obtain⟨dx,la,ka,lb,ks,⟨h1,_⟩,⟨h2,_⟩,h3,⟨h4,_⟩,h5⟩:=hv;have s13:qB H H3:=s12.trans s3;have h1:=s13 _ _ h1;have h2:=s13 _ _ h2;have h3:=h3.pass (jV (M:=M0) s13);have h4:=s13 _ _ h4;have h5:=qA.pass (jV (M:=M0) s13) _ _ h5;have lk:ks.length=kl.length:=Paired.length (qY.mp h5);have hjl2:jj<kl.length:=(Δ.mp hjj).1;have hkl:kl.length<=200000:=by have:=qll kl;rw[show RM.tw (.node kd ls kl)=1+ls.length+RM.jJ kl by rw[RM.tw]]at htw;omega
   have hjk:jj<(ks.map V.ref).length:=by rw[τ];omega
   have big:(1000000:Nat)<Λ:=by decide
   refine⟨_,rfl,v,_,dx,_,_,rfl,h1,T.Yac,T.YaI,jK _ _ _ _,_,rfl,v,_,dx,_,_,rfl,h1,T.Yac,T.YaJ,JA _ _ _ _,_,rfl,v,_,dx,_,_,rfl,h1,T.Yac,T.YaH,Qo _ _ _ _,_,rfl,_,rfl,ka,_,rfl,SqL.of h4,fun q1 hq1=>?_⟩;rw[qo0 (Yb2 hjk)];have sA:=qo (o:=.lst ((ks.map V.ref).take jj)) hq1;have eA:upd H3 q1 (.lst ((ks.map V.ref).take jj)) q1=some (.lst ((ks.map V.ref).take jj)):=qc;generalize upd H3 q1 (.lst ((ks.map V.ref).take jj))=HA at sA eA ⊢;refine⟨_,rfl,(by show 1<=Λ;decide),fun q2 hq2=>?_⟩;have sB:=qo (o:=.lst [V.ref b]) hq2;have eB:upd HA q2 (.lst [V.ref b]) q2=some (.lst [V.ref b]):=qc;generalize upd HA q2 (.lst [V.ref b])=HB at sB eB ⊢;refine⟨q1,q2,_,_,rfl,rfl,sB _ _ eA,eB,?_,fun q3 hq3=>?_⟩
   ·rw[Ybz,τ,lk];simp only[ξ,Ψ];omega
   have sC:=qo (o:=.lst ((ks.map V.ref).take jj++[V.ref b])) hq3;have eC:upd HB q3 (.lst ((ks.map V.ref).take jj++[V.ref b])) q3=some (.lst ((ks.map V.ref).take jj++[V.ref b])):=qc;generalize upd HB q3 (.lst ((ks.map V.ref).take jj++[V.ref b]))=HC at sC eC ⊢;have s3C:qB H3 HC:=(sA.trans sB).trans sC;refine⟨_,rfl,v,_,dx,_,_,rfl,s3C _ _ h1,T.Yac,T.YaH,Qo _ _ _ _,_,rfl,_,_,rfl,rfl,_,rfl,ka,_,rfl,SqL.of (s3C _ _ h4),fun q4 hq4=>?_⟩;rw[qmA hjk];have sD:=qo (o:=.lst ((ks.map V.ref).drop (jj+1))) hq4;have eD:upd HC q4 (.lst ((ks.map V.ref).drop (jj+1))) q4=some (.lst ((ks.map V.ref).drop (jj+1))):=qc;generalize upd HC q4 (.lst ((ks.map V.ref).drop (jj+1)))=HD at sD eD ⊢;refine⟨q3,q4,_,_,rfl,rfl,sD _ _ eC,eD,?_,fun q5 hq5=>?_⟩
   ·rw[ν,Ybz,YbF,τ,lk];simp only[ξ,Ψ];omega
   rw[qnQ (by omega)];have sE:=qo (o:=.lst ((ks.set jj b).map V.ref)) hq5;have eE:upd HD q5 (.lst ((ks.set jj b).map V.ref)) q5=some (.lst ((ks.set jj b).map V.ref)):=qc;generalize upd HD q5 (.lst ((ks.set jj b).map V.ref))=HE at sE eE ⊢;have s3E:qB H3 HE:=(s3C.trans sD).trans sE;intro t' tdx ht' htdx hne;have sF:qB HE (upd (upd HE tdx (.own t')) t' (.ins a.Node tdx [])):=fun b o e=>by rw[qd (qg e ht'),qd (qg e htdx)];exact e
   have hK:qA a M0 HE (kl.set jj B) (ks.set jj b):=qY.mpr (qeh (R:=fun k T=>qy a M0 HE T k) (hTB.s s3E) jj (qY.mp (qA.pass (jV s3E) _ _ h5)));have hND:=qds (qA.pass (jV sF) _ _ hK);refine⟨t',tdx,q5,_,_,ks.set jj b,_,rfl,qc,sF _ _ eE,hND,by rw[Yc3];omega,fun H5 m' k5 z1 z2 ht5=>⟨rfl,?_⟩⟩;have em:=qd6 _ m' z1 z2;have s5:qB HE H5:=fun b o e=>k5 b o (sF b o e) (qg e ht');have s35:qB H3 H5:=s3E.trans s5;refine⟨_,_,t',.node kd ls (kl.set jj B),rfl,s3.trans s35,by omega,?_,?_⟩
   ·rw[show p.length - (i+1)=j by omega];exact hrep
   ·unfold qy;refine⟨tdx,la,q5,lb,ks.set jj b,⟨?_,id⟩,⟨s35 _ _ h2,id⟩,h3.pass (jV s35),⟨s5 _ _ eE,id⟩,qA.pass (jV s5) _ _ hK⟩;rw[ht5,em,show(1+((Vastoa.depths (kl.set jj B):Nat):Int))=((Vastoa.depths (kl.set jj B)+1:Nat):Int) by omega]
  ·rintro σ H3 ⟨v5,v6,b,B,rfl,s3,hip,hB,hTB⟩;rw[τ,hal,Nat.sub_self,Ydg,g0]at hB;exact⟨_,rfl,ko B hB H3 b (s12.trans s3) hTB⟩
end
noncomputable def Jd(t1:List Nat)(p:List Int)(t2:List Nat):List V:=match Vastoa.read t1 with
 | .ok T=>(match Vastoa.read t2 with
  | .ok N=>(match Vastoa.replace T p N with
   |some W=>if 40<Vastoa.depth W then [.int (-6)]else Ju W
   | none=>[.int (-7)])
  | .error x=>[.int (-(10+(x.kind:Int)))])
 | .error x=>[.int (-(x.kind:Int))]
def qjM(K:γ):Sp:=fun vs H Q E=>∃(ta pa tb:Addr)(txt:List Nat)(p:List Int)(oth:List Nat),vs=[.ref ta,.ref pa,.ref tb]/\SqL K H ta (nt txt)/\SqL K H pa (p.map V.int)/\p.length<=1000/\SqL K H tb (nt oth)/\∀(H':Hp)(q:Addr),H' q=some (.lst (Jd txt p oth))->Q (.ref q) H'
section
variable{P:Program}{w:World}{K:γ}{mg:Str->Option Value}{base:Heap}{f:Addr}{fd:FuncData}{a:Ad}
theorem qcG:qm ["text","path","other","whole","inner","changed","refusal"] ["text","path","other"] (qe JS):=⟨rfl,rfl,rfl,by decide +kernel,rfl,by decide +kernel,by decide +kernel⟩
theorem qo1(F:Fun K "put" "put" JS f fd)(T:Tx P w K mg a)(gR:mg "Refusal"=some (.ref a.Refusal))(Gr:FnAt P w K mg base (CXR P w) 8 "read" ["text"] (qcx a K))(G2:FnAt P w K mg base (zc False P w) 9 "read_second" ["text"] (qeY a K))
  (Gp:FnAt P w K mg base (CXR P w) 5 "put_at" ["tree","path","other"] (qe0 a K)) (Gd:FnAt P w K mg base (CXR P w) 4 "refuse_deep" ["tree"] (qd7 a K)) (Gs:FnAt P w K mg base (CXR P w) 7 "print_short" ["tree"] (qeW a K)):
  qw P w K mg base CX0 10 f fd ["text","path","other"] (qjM K):=by
 refine F.ok qcG (fun vs H Q E h=>?_) (fun cdv A outer s H vs Q E hr h=>?_)
 ·obtain⟨ta,pa,tb,txt,p,oth,rfl,_⟩:=h;rfl
 ·obtain⟨ta,pa,tb,txt,p,oth,rfl,ht,hpa,hpl,hto,k⟩:=h;have hr8:qI 8 _:=hr.mono (by decide);have hr7:qI 7 _:=hr.mono (by decide);have hr5:qI 5 _:=hr.mono (by decide);have hr4:qI 4 _:=hr.mono (by decide)
  refine⟨_,qf (qoo (cz:=False) (tb:=fun E1=>qa3 (qek (QY (qcx a K) [] E1 (zO (zt 0) jN)) (QX 3)) (qa3 (qek (QY (qeY a K) [] E1 (zO (zt 2) jN)) (QX 4))
    (qa3 (qek (QY (qe0 a K) [] E1 (zO (zt 3) (zO (zt 1) (zO (zt 4) jN)))) (QX 5)) (qa3 (qiK (QY (qd7 a K) [] E1 (zO (zt 5) jN)))
    (qbV (tOp qob (qbX (zO (tC (.int 0)) jN)) (QY (qeW a K) [] E1 (zO (zt 5) jN)))))))) (ts:=qbV (qbX (zO (tUn (rU fun i=>.int (-i)) (qiV K (zt 6) "number")) jN))) (i:=6) rfl rfl rfl qcG.nd rfl rfl rfl gR T.Ybe
   (fun xe pn E1 hp=>qi (qW (i:=3) qcG.nd rfl (Or.inl rfl) (qT Gr hr8 (JE hp) (qa (pv 0) qh))) (qi (qW (i:=4) qcG.nd rfl (Or.inl rfl) (qT G2 hr hp (qa (pv 2) qh)))
    (qi (qW (i:=5) qcG.nd rfl (Or.inl rfl) (qT Gp hr5 (JE hp) (qa (pv 3) (qa (pv 1) (qa (pv 4) qh))))) (qi (qu (qT Gd hr4 (JE hp) (qa (pv 5) qh)))
    (qf (qG (j8 qb4 (za (qa qr qh)) (qT Gs hr7 (JE hp) (qa (pv 5) qh)))))))))
   (fun e=>qf (qG (za (qa (JQ Z2 (qep (pv 6) rfl)) qh))))),?_⟩
  have bad:∀(n q:Int)(C dx:Addr)(H2:Hp),XAt K a.Refusal C dx H2 n q->Jd txt p oth=[.int (-n)]->∃C' d,Value.ref C=.ref C'/\(some dx:Option Addr)=some d/\jq K C'/\subB K C' a.Refusal/\∀e xs,H2 e=none ->
    (qbV (qbX (zO (tUn (rU fun i=>.int (-i)) (qiV K (zt 6) "number")) jN))) {nx:=fun _ _=>False,rt:=Q} ((YbL 7 none).set 6 (some (.ref e))) (upd H2 e (XOb e C' xs (some d))):=by
   intro n q C dx H2 xa eq;refine⟨C,dx,rfl,rfl,xa.cls,xa.sub,fun e xs he=>?_⟩;have hd:(upd H2 e (XOb e C xs (some dx))) dx=some (XDi dx (rfF n q)):=by rw[qd (qg xa.di he)];exact xa.di
   refine⟨_,rfl,e,C,xs,dx,_,_,rfl,qc,hd,xa.cls,xa.nn,rfl,_,rfl,(by show 1<=Λ;decide),fun z hz=>?_⟩;refine k _ z ?_;rw[qc,eq]
  refine⟨_,rfl,ta,txt,rfl,ht,fun U eU gU hw hl H1 t s1 hT=>?_,fun x ex C dx H' s' xa=>?_⟩
  ·have wU:=qjJ U;refine⟨_,rfl,tb,oth,rfl,QI s1 hto,fun N eN gN hwN hlN H2 o s2 hN=>?_,fun x ex C dx H' s' xa=>?_⟩
   ·have wN:=qjJ N;refine⟨_,rfl,_,rfl,_,rfl,t,pa,o,U,N,p,rfl,hT.s s2,hw,QI (s1.trans s2) hpa,hpl,hN,fun hf C dx H3 s3 xa=>?_,fun W hW H3 u s3 hu=>?_⟩
    ·exact bad 7 0 C dx H3 xa (by unfold Jd;rw[eU];simp only[eN,hf])
    ·obtain⟨gW,wW⟩:=qiH gN hW gU;refine⟨_,rfl,u,W,rfl,hu,fun hd C dx H4 s4 xa=>?_,fun hd=>?_⟩
     ·exact bad 6 0 C dx H4 xa (by unfold Jd;rw[eU];simp only[eN,hW,if_pos hd])
     ·refine⟨(by show 1<=Λ;decide),fun zl hzl=>?_⟩;have sz:=qo (o:=.lst [V.int 0]) hzl;refine⟨_,rfl,u,W,rfl,hu.s sz,gW,by unfold Bd;omega,fun hlen C dx H4 s4 xa=>?_,fun hlen H4 q s4 hq hq4=>?_⟩
      ·exact bad 8 0 C dx H4 xa (by unfold Jd Ju;rw[eU];simp only[eN,hW,if_neg hd,if_pos hlen])
      ·have big:(1000000:Nat)<Λ:=by decide
       refine⟨zl,q,_,_,rfl,rfl,s4 _ _ qc,hq4,?_,fun z hz=>?_⟩
       ·rw[zw];simp only[ξ,Ψ];omega
       refine k _ z ?_;rw[qc];unfold Jd Ju;rw[eU];simp only[eN,hW,if_neg hd,if_neg hlen];rfl
   ·exact bad _ _ C dx H' xa (by unfold Jd;rw[eU];simp only[ex])
  ·exact bad _ _ C dx H' xa (by unfold Jd;rw[ex])
end
theorem qlo(T:VT):(VastoaNeutral.encode (Vastoa.printed T)).map V.int=Ju T:=by
 unfold Vastoa.printed Ju Vastoa.MOST
 split
 ·rfl
 ·show V.int 0::((Vastoa.shown T).map Int.ofNat).map V.int=_;rw[YcJ];rfl
theorem qnR(l p m:List Int)(h:NeutralIO.bytes l=true)(g:NeutralIO.bytes m=true):Jd (VastoaNeutral.text l) p (VastoaNeutral.text m)=(PyVastoa.put l p m).map V.int:=by
 have ans:∀t u:List Nat,(VastoaNeutral.encode (Vastoa.answer (.put t p u))).map V.int=Jd t p u:=fun t u=>by
  show(VastoaNeutral.encode (match Vastoa.read t,Vastoa.read u with
   | .error f,_=>Vastoa.faulty 0 f
   | .ok _,.error f=>Vastoa.faulty 10 f
   | .ok t,.ok u=>match Vastoa.replace t p u with
    |none=>Vastoa.refused (-7)
    | some v=>if Vastoa.DEEP<Vastoa.depth v then Vastoa.refused (-6)else Vastoa.printed v)).map V.int=_
  unfold Jd;cases Vastoa.read t with
  |ok T=>
   cases Vastoa.read u with
   |ok U=>
    show(VastoaNeutral.encode (match Vastoa.replace T p U with
     |none=>Vastoa.refused (-7)
     | some v=>if Vastoa.DEEP<Vastoa.depth v then Vastoa.refused (-6)else Vastoa.printed v)).map V.int=match Vastoa.replace T p U with|some W=>if 40<Vastoa.depth W then [.int (-6)]else Ju W|none=>[.int (-7)]
    cases Vastoa.replace T p U with
    |none=>rfl
    |some W=>
     show(VastoaNeutral.encode (if 40<Vastoa.depth W then Vastoa.refused (-6)else Vastoa.printed W)).map V.int=if 40<Vastoa.depth W then [.int (-6)]else Ju W;by_cases hd:40<Vastoa.depth W
     ·rw[if_pos hd,if_pos hd];rfl
     ·rw[if_neg hd,if_neg hd];exact qlo W
   |error x=>show [V.int (-(x.kind:Int) - 10)]=[.int (-(10+(x.kind:Int)))];congr 2;omega
  |error x=>show [V.int (-(x.kind:Int) - 0)]=_;rw[Int.sub_zero]
 rw[<- ans];have e:VastoaNeutral.callOf [[5],l,p,m]=some (.put (VastoaNeutral.text l) p (VastoaNeutral.text m)):=by show(if(NeutralIO.bytes l&&NeutralIO.bytes m)=true then _ else _)=_;rw[if_pos (by rw[h,g];rfl)]
 unfold PyVastoa.put VastoaNeutral.step;rw[e];rfl
theorem qjN:(Zh.map fun r=>(Sum.inr r.1:Key)).Nodup:=by decide +kernel
theorem bd1{K:γ}{x qual:Str}{st:Stmt}{f:Addr}{fd:FuncData}(p0:Str)(F:Fun K x qual st f fd)(h:∀(kV doc pm:Value) (an:Option Addr) (cdv ct x0:Value),bindArgs (μ x qual (ql st) (qk st) (qe st) .none kV doc pm an cdv ct) ⟨[x0],[]⟩=pure (([p0]:List Str).zip [x0]):=by intros;rfl):Binds K fd [p0] []:=F.binds fun a b c d e f us hl=>match us,hl with | [x0],_=>h a b c d e f x0
theorem bd2{K:γ}{x qual:Str}{st:Stmt}{f:Addr}{fd:FuncData}(p0 p1:Str)(F:Fun K x qual st f fd)(h:∀(kV doc pm:Value) (an:Option Addr) (cdv ct x0 x1:Value),bindArgs (μ x qual (ql st) (qk st) (qe st) .none kV doc pm an cdv ct) ⟨[x0,x1],[]⟩=pure (([p0,p1]:List Str).zip [x0,x1]):=by intros;rfl):Binds K fd [p0,p1] []:=F.binds fun a b c d e f us hl=>match us,hl with | [x0,x1],_=>h a b c d e f x0 x1
theorem bd3{K:γ}{x qual:Str}{st:Stmt}{f:Addr}{fd:FuncData}(p0 p1 p2:Str)(F:Fun K x qual st f fd)(h:∀(kV doc pm:Value) (an:Option Addr) (cdv ct x0 x1 x2:Value),bindArgs (μ x qual (ql st) (qk st) (qe st) .none kV doc pm an cdv ct) ⟨[x0,x1,x2],[]⟩=pure (([p0,p1,p2]:List Str).zip [x0,x1,x2]):=by intros;rfl):Binds K fd [p0,p1,p2] []:=F.binds fun a b c d e f us hl=>match us,hl with | [x0,x1,x2],_=>h a b c d e f x0 x1 x2
theorem bd4{K:γ}{x qual:Str}{st:Stmt}{f:Addr}{fd:FuncData}(p0 p1 p2 p3:Str)(F:Fun K x qual st f fd)(h:∀(kV doc pm:Value) (an:Option Addr) (cdv ct x0 x1 x2 x3:Value),bindArgs (μ x qual (ql st) (qk st) (qe st) .none kV doc pm an cdv ct) ⟨[x0,x1,x2,x3],[]⟩=pure (([p0,p1,p2,p3]:List Str).zip [x0,x1,x2,x3]):=by intros;rfl):Binds K fd [p0,p1,p2,p3] []:=F.binds fun a b c d e f us hl=>match us,hl with | [x0,x1,x2,x3],_=>h a b c d e f x0 x1 x2 x3
theorem qo2{P:Program}{w:World}{K:γ}{h:Heap}{mg:Str->Option Value}{fa:Addr}
  {c1D c08 c0U c03 c1c c1p c1z c1S c1O c0D c0Q c1I c14 c10 c1u f1q f1A f1T f1P f0E f0R f1J f11 f15 f1v f0W f2I f23 f2E f1Y f1X f2F f2g f2v f2l f2m f2r f2u f2i f2a f2s f2t f2d f29 f2k f2n f2e f2c f2b f2q f2h f2f f2j f2o f2p f2C f2B f1F f26 f24 f25 f28 f0l f0a f09 f0e f0o f0c f0d f0g f0h f0b f0f f0m f0j f20 f05 f22 f1Z f2z f1j f1m f1l f1d f1i f1h f2G f2H f2D t1N t1t t00 t0t t0w t0u t0v t0P t19 t0A:Addr} {o1q d1q p1q v1q e1q t1q o1A d1A p1A v1A e1A t1A o1T d1T p1T v1T e1T t1T o1P d1P p1P v1P e1P t1P o0E d0E p0E v0E e0E t0E o0R d0R p0R v0R e0R t0R o1J d1J p1J v1J e1J t1J o11 d11 p11 v11 e11 t11 o15 d15 p15 v15 e15 t15 o1v d1v p1v v1v e1v t1v o0W d0W p0W v0W e0W t0W o2I d2I p2I v2I e2I t2I o23 d23 p23 v23 e23 t23 o2E d2E p2E v2E e2E t2E o1Y d1Y p1Y v1Y e1Y t1Y o1X d1X p1X v1X e1X t1X o2F d2F p2F v2F e2F t2F o2g d2g p2g v2g e2g t2g o2v d2v p2v v2v e2v t2v o2l d2l p2l v2l e2l t2l o2m d2m p2m v2m e2m t2m o2r d2r p2r v2r e2r t2r o2u d2u p2u v2u e2u t2u o2i d2i p2i v2i e2i t2i o2a d2a p2a v2a e2a t2a o2s d2s p2s v2s e2s t2s o2t d2t p2t v2t e2t t2t o2d d2d p2d v2d e2d t2d o29 d29 p29 v29 e29 t29 o2k d2k p2k v2k e2k t2k o2n d2n p2n v2n e2n t2n o2e d2e p2e v2e e2e t2e o2c d2c p2c v2c e2c t2c o2b d2b p2b v2b e2b t2b o2q d2q p2q v2q e2q t2q o2h d2h p2h v2h e2h t2h o2f d2f p2f v2f e2f t2f o2j d2j p2j v2j e2j t2j o2o d2o p2o v2o e2o t2o o2p d2p p2p v2p e2p t2p o2C d2C p2C v2C e2C t2C o2B d2B p2B v2B e2B t2B o1F d1F p1F v1F e1F t1F o26 d26 p26 v26 e26 t26 o24 d24 p24 v24 e24 t24 o25 d25 p25 v25 e25 t25 o28 d28 p28 v28 e28 t28 o0l d0l p0l v0l e0l t0l o0a d0a p0a v0a e0a t0a o09 d09 p09 v09 e09 t09 o0e d0e p0e v0e e0e t0e o0o d0o p0o v0o e0o t0o o0c d0c p0c v0c e0c t0c o0d d0d p0d v0d e0d t0d o0g d0g p0g v0g e0g t0g o0h d0h p0h v0h e0h t0h o0b d0b p0b v0b e0b t0b o0f d0f p0f v0f e0f t0f o0m d0m p0m v0m e0m t0m o0j d0j p0j v0j e0j t0j o20 d20 p20 v20 e20 t20 o05 d05 p05 v05 e05 t05 o22 d22 p22 v22 e22 t22 o1Z d1Z p1Z v1Z e1Z t1Z o2z d2z p2z v2z e2z t2z o1j d1j p1j v1j e1j t1j o1m d1m p1m v1m e1m t1m o1l d1l p1l v1l e1l t1l o1d d1d p1d v1d e1d t1d o1i d1i p1i v1i e1i t1i o1h d1h p1h v1h e1h t1h o2G d2G p2G v2G e2G t2G o2H d2H p2H v2H e2H t2H o2D d2D p2D v2D e2D t2D:Value} {x1q y1q x1A y1A x1T y1T x1P y1P x0E y0E x0R y0R x1J y1J x11 y11 x15 y15 x1v y1v x0W y0W x2I y2I x23 y23 x2E y2E x1Y y1Y x1X y1X x2F y2F x2g y2g x2v y2v x2l y2l x2m y2m x2r y2r x2u y2u x2i y2i x2a y2a x2s y2s x2t y2t x2d y2d x29 y29 x2k y2k x2n y2n x2e y2e x2c y2c x2b y2b x2q y2q x2h y2h x2f y2f x2j y2j x2o y2o x2p y2p x2C y2C x2B y2B x1F y1F x26 y26 x24 y24 x25 y25 x28 y28 x0l y0l x0a y0a x09 y09 x0e y0e x0o y0o x0c y0c x0d y0d x0g y0g x0h y0h x0b y0b x0f y0f x0m y0m x0j y0j x20 y20 x05 y05 x22 y22 x1Z y1Z x2z y2z x1j y1j x1m y1m x1l y1l x1d y1d x1i y1i x1h y1h x2G y2G x2H y2H x2D y2D:Option Addr} {z1q z1A z1T z1P z0E z0R z1J z11 z15 z1v z0W z2I z23 z2E z1Y z1X z2F z2g z2v z2l z2m z2r z2u z2i z2a z2s z2t z2d z29 z2k z2n z2e z2c z2b z2q z2h z2f z2j z2o z2p z2C z2B z1F z26 z24 z25 z28 z0l z0a z09 z0e z0o z0c z0d z0g z0h z0b z0f z0m z0j z20 z05 z22 z1Z z2z z1j z1m z1l z1d z1i z1h z2G z2H z2D:Array (Option Value)} {j1y j0C j1a j02 j18 j0x j0s j0H j1W j01 j1M j0B j1b j0L j0J j0O j0N j0K j0I j0y j0M:Tok} {e0t e0w e19 e0A:Array DictEntry} {m0t m0w m19 m0A:Nat}
  (X:K.In h) (G:h.Ns η mg) (hfa:mg "put"=some (.ref fa))
  (a1D:θ K η "Token"=some (some (.ref c1D)))
  (a08:θ K η "Cutter"=some (some (.ref c08)))
  (a0U:θ K η "Node"=some (some (.ref c0U)))
  (a03:θ K η "Begun"=some (some (.ref c03)))
  (a1c:θ K η "Reader"=some (some (.ref c1c)))
  (a1p:θ K η "Refusal"=some (some (.ref c1p)))
  (a1z:θ K η "TextTooLong"=some (some (.ref c1z)))
  (a1S:θ K η "WrongToken"=some (some (.ref c1S)))
  (a1O:θ K η "WrongSyntax"=some (some (.ref c1O)))
  (a0D:θ K η "LevelTooDeep"=some (some (.ref c0D)))
  (a0Q:θ K η "NameTwice"=some (some (.ref c0Q)))
  (a1I:θ K η "TreeTooDeep"=some (some (.ref c1I)))
  (a14:θ K η "PrintTooLong"=some (some (.ref c14)))
  (a10:θ K η "PathNowhere"=some (some (.ref c10)))
  (a1u:θ K η "SecondText"=some (some (.ref c1u)))
  (a1q:δ K (.ref c1p) "__init__"=some (some (.ref f1q)))
  (a1A:δ K (.ref c1z) "__init__"=some (some (.ref f1A)))
  (a1T:δ K (.ref c1S) "__init__"=some (some (.ref f1T)))
  (a1P:δ K (.ref c1O) "__init__"=some (some (.ref f1P)))
  (a0E:δ K (.ref c0D) "__init__"=some (some (.ref f0E)))
  (a0R:δ K (.ref c0Q) "__init__"=some (some (.ref f0R)))
  (a1J:δ K (.ref c1I) "__init__"=some (some (.ref f1J)))
  (a11:δ K (.ref c10) "__init__"=some (some (.ref f11)))
  (a15:δ K (.ref c14) "__init__"=some (some (.ref f15)))
  (a1v:δ K (.ref c1u) "__init__"=some (some (.ref f1v)))
  (a0W:δ K (.ref c0U) "__init__"=some (some (.ref f0W)))
  (a2I:θ K η "refuse_deep"=some (some (.ref f2I)))
  (a23:θ K η "follow"=some (some (.ref f23)))
  (a2E:θ K η "put_at"=some (some (.ref f2E)))
  (a1Y:θ K η "bytes_of"=some (some (.ref f1Y)))
  (a1X:θ K η "at"=some (some (.ref f1X)))
  (a2F:θ K η "put_between"=some (some (.ref f2F)))
  (a2g:θ K η "lay_label"=some (some (.ref f2g)))
  (a2v:θ K η "lay_yes"=some (some (.ref f2v)))
  (a2l:θ K η "lay_no"=some (some (.ref f2l)))
  (a2m:θ K η "lay_none"=some (some (.ref f2m)))
  (a2r:θ K η "lay_piece"=some (some (.ref f2r)))
  (a2u:θ K η "lay_text"=some (some (.ref f2u)))
  (a2i:θ K η "lay_list"=some (some (.ref f2i)))
  (a2a:θ K η "lay_binds"=some (some (.ref f2a)))
  (a2s:θ K η "lay_record"=some (some (.ref f2s)))
  (a2t:θ K η "lay_recur"=some (some (.ref f2t)))
  (a2d:θ K η "lay_get"=some (some (.ref f2d)))
  (a29:θ K η "lay_app"=some (some (.ref f29)))
  (a2k:θ K η "lay_neg"=some (some (.ref f2k)))
  (a2n:θ K η "lay_not"=some (some (.ref f2n)))
  (a2e:θ K η "lay_has"=some (some (.ref f2e)))
  (a2c:θ K η "lay_fn"=some (some (.ref f2c)))
  (a2b:θ K η "lay_fields"=some (some (.ref f2b)))
  (a2q:θ K η "lay_param"=some (some (.ref f2q)))
  (a2h:θ K η "lay_let"=some (some (.ref f2h)))
  (a2f:θ K η "lay_if"=some (some (.ref f2f)))
  (a2j:θ K η "lay_must"=some (some (.ref f2j)))
  (a2o:θ K η "lay_operands"=some (some (.ref f2o)))
  (a2p:θ K η "lay_out"=some (some (.ref f2p)))
  (a2C:θ K η "print_whole"=some (some (.ref f2C)))
  (a2B:θ K η "print_short"=some (some (.ref f2B)))
  (a1F:δ K (.ref c1D) "__init__"=some (some (.ref f1F)))
  (a26:θ K η "is_letter"=some (some (.ref f26)))
  (a24:θ K η "is_digit"=some (some (.ref f24)))
  (a25:θ K η "is_in_name"=some (some (.ref f25)))
  (a28:θ K η "kind_of_name"=some (some (.ref f28)))
  (a0l:δ K (.ref c08) "__init__"=some (some (.ref f0l)))
  (a0a:δ K (.ref c08) "byte_at"=some (some (.ref f0a)))
  (a09:δ K (.ref c08) "add_token"=some (some (.ref f09)))
  (a0e:δ K (.ref c08) "cut_outside"=some (some (.ref f0e)))
  (a0o:δ K (.ref c08) "pass_comment"=some (some (.ref f0o)))
  (a0c:δ K (.ref c08) "cut_name"=some (some (.ref f0c)))
  (a0d:δ K (.ref c08) "cut_number"=some (some (.ref f0d)))
  (a0g:δ K (.ref c08) "cut_right_brace"=some (some (.ref f0g)))
  (a0h:δ K (.ref c08) "cut_sign"=some (some (.ref f0h)))
  (a0b:δ K (.ref c08) "cut_literal"=some (some (.ref f0b)))
  (a0f:δ K (.ref c08) "cut_piece"=some (some (.ref f0f)))
  (a0m:δ K (.ref c08) "is_piece_over"=some (some (.ref f0m)))
  (a0j:δ K (.ref c08) "gather_byte"=some (some (.ref f0j)))
  (a20:θ K η "cut"=some (some (.ref f20)))
  (a05:δ K (.ref c03) "__init__"=some (some (.ref f05)))
  (a22:θ K η "fits"=some (some (.ref f22)))
  (a1Z:θ K η "choose"=some (some (.ref f1Z)))
  (a2z:θ K η "meet_name"=some (some (.ref f2z)))
  (a1j:δ K (.ref c1c) "__init__"=some (some (.ref f1j)))
  (a1m:δ K (.ref c1c) "step"=some (some (.ref f1m)))
  (a1l:δ K (.ref c1c) "read_token"=some (some (.ref f1l)))
  (a1d:δ K (.ref c1c) "act"=some (some (.ref f1d)))
  (a1i:δ K (.ref c1c) "enter_level"=some (some (.ref f1i)))
  (a1h:δ K (.ref c1c) "end_node"=some (some (.ref f1h)))
  (a2G:θ K η "read"=some (some (.ref f2G)))
  (a2H:θ K η "read_second"=some (some (.ref f2H)))
  (a2D:θ K η "put"=some (some (.ref f2D)))
  (l1q:K.lookup f1q=some ⟨o1q,x1q,.func (μ "__init__" "Refusal.__init__" (ql jC) (qk jC) (qe jC) .none v1q d1q p1q y1q e1q t1q),z1q⟩)
  (b1q:ι K e1q "Refusal.__init__"=true)
  (k1q:ζ K (.ref f1q)=true)
  (i1q:Ybj K (.ref f1q)=true)
  (l1A:K.lookup f1A=some ⟨o1A,x1A,.func (μ "__init__" "TextTooLong.__init__" (ql jf) (qk jf) (qe jf) .none v1A d1A p1A y1A e1A t1A),z1A⟩)
  (b1A:ι K e1A "TextTooLong.__init__"=true)
  (k1A:ζ K (.ref f1A)=true)
  (i1A:Ybj K (.ref f1A)=true)
  (l1T:K.lookup f1T=some ⟨o1T,x1T,.func (μ "__init__" "WrongToken.__init__" (ql jr) (qk jr) (qe jr) .none v1T d1T p1T y1T e1T t1T),z1T⟩)
  (b1T:ι K e1T "WrongToken.__init__"=true)
  (k1T:ζ K (.ref f1T)=true)
  (i1T:Ybj K (.ref f1T)=true)
  (l1P:K.lookup f1P=some ⟨o1P,x1P,.func (μ "__init__" "WrongSyntax.__init__" (ql jg) (qk jg) (qe jg) .none v1P d1P p1P y1P e1P t1P),z1P⟩)
  (b1P:ι K e1P "WrongSyntax.__init__"=true)
  (k1P:ζ K (.ref f1P)=true)
  (i1P:Ybj K (.ref f1P)=true)
  (l0E:K.lookup f0E=some ⟨o0E,x0E,.func (μ "__init__" "LevelTooDeep.__init__" (ql z5) (qk z5) (qe z5) .none v0E d0E p0E y0E e0E t0E),z0E⟩)
  (b0E:ι K e0E "LevelTooDeep.__init__"=true)
  (k0E:ζ K (.ref f0E)=true)
  (i0E:Ybj K (.ref f0E)=true)
  (l0R:K.lookup f0R=some ⟨o0R,x0R,.func (μ "__init__" "NameTwice.__init__" (ql jD) (qk jD) (qe jD) .none v0R d0R p0R y0R e0R t0R),z0R⟩)
  (b0R:ι K e0R "NameTwice.__init__"=true)
  (k0R:ζ K (.ref f0R)=true)
  (i0R:Ybj K (.ref f0R)=true)
  (l1J:K.lookup f1J=some ⟨o1J,x1J,.func (μ "__init__" "TreeTooDeep.__init__" (ql jh) (qk jh) (qe jh) .none v1J d1J p1J y1J e1J t1J),z1J⟩)
  (b1J:ι K e1J "TreeTooDeep.__init__"=true)
  (k1J:ζ K (.ref f1J)=true)
  (i1J:Ybj K (.ref f1J)=true)
  (l11:K.lookup f11=some ⟨o11,x11,.func (μ "__init__" "PathNowhere.__init__" (ql ji) (qk ji) (qe ji) .none v11 d11 p11 y11 e11 t11),z11⟩)
  (b11:ι K e11 "PathNowhere.__init__"=true)
  (k11:ζ K (.ref f11)=true)
  (i11:Ybj K (.ref f11)=true)
  (l15:K.lookup f15=some ⟨o15,x15,.func (μ "__init__" "PrintTooLong.__init__" (ql z6) (qk z6) (qe z6) .none v15 d15 p15 y15 e15 t15),z15⟩)
  (b15:ι K e15 "PrintTooLong.__init__"=true)
  (k15:ζ K (.ref f15)=true)
  (i15:Ybj K (.ref f15)=true)
  (l1v:K.lookup f1v=some ⟨o1v,x1v,.func (μ "__init__" "SecondText.__init__" (ql js) (qk js) (qe js) .none v1v d1v p1v y1v e1v t1v),z1v⟩)
  (b1v:ι K e1v "SecondText.__init__"=true)
  (k1v:ζ K (.ref f1v)=true)
  (i1v:Ybj K (.ref f1v)=true)
  (l0W:K.lookup f0W=some ⟨o0W,x0W,.func (μ "__init__" "Node.__init__" (ql QK) (qk QK) (qe QK) .none v0W d0W p0W y0W e0W t0W),z0W⟩)
  (b0W:ι K e0W "Node.__init__"=true)
  (k0W:ζ K (.ref f0W)=true)
  (i0W:Ybj K (.ref f0W)=true)
  (l2I:K.lookup f2I=some ⟨o2I,x2I,.func (μ "refuse_deep" "refuse_deep" (ql Qa) (qk Qa) (qe Qa) .none v2I d2I p2I y2I e2I t2I),z2I⟩)
  (b2I:ι K e2I "refuse_deep"=true)
  (k2I:ζ K (.ref f2I)=true)
  (l23:K.lookup f23=some ⟨o23,x23,.func (μ "follow" "follow" (ql Jl) (qk Jl) (qe Jl) .none v23 d23 p23 y23 e23 t23),z23⟩)
  (b23:ι K e23 "follow"=true)
  (k23:ζ K (.ref f23)=true)
  (l2E:K.lookup f2E=some ⟨o2E,x2E,.func (μ "put_at" "put_at" (ql Jm) (qk Jm) (qe Jm) .none v2E d2E p2E y2E e2E t2E),z2E⟩)
  (b2E:ι K e2E "put_at"=true)
  (k2E:ζ K (.ref f2E)=true)
  (l1Y:K.lookup f1Y=some ⟨o1Y,x1Y,.func (μ "bytes_of" "bytes_of" (ql Zj) (qk Zj) (qe Zj) .none v1Y d1Y p1Y y1Y e1Y t1Y),z1Y⟩)
  (b1Y:ι K e1Y "bytes_of"=true)
  (k1Y:ζ K (.ref f1Y)=true)
  (l1X:K.lookup f1X=some ⟨o1X,x1X,.func (μ "at" "at" (ql qez) (qk qez) (qe qez) .none v1X d1X p1X y1X e1X t1X),z1X⟩)
  (b1X:ι K e1X "at"=true)
  (k1X:ζ K (.ref f1X)=true)
  (l2F:K.lookup f2F=some ⟨o2F,x2F,.func (μ "put_between" "put_between" (ql Qb) (qk Qb) (qe Qb) .none v2F d2F p2F y2F e2F t2F),z2F⟩)
  (b2F:ι K e2F "put_between"=true)
  (k2F:ζ K (.ref f2F)=true)
  (l2g:K.lookup f2g=some ⟨o2g,x2g,.func (μ "lay_label" "lay_label" (ql QL) (qk QL) (qe QL) .none v2g d2g p2g y2g e2g t2g),z2g⟩)
  (b2g:ι K e2g "lay_label"=true)
  (k2g:ζ K (.ref f2g)=true)
  (l2v:K.lookup f2v=some ⟨o2v,x2v,.func (μ "lay_yes" "lay_yes" (ql ZP) (qk ZP) (qe ZP) .none v2v d2v p2v y2v e2v t2v),z2v⟩)
  (b2v:ι K e2v "lay_yes"=true)
  (k2v:ζ K (.ref f2v)=true)
  (l2l:K.lookup f2l=some ⟨o2l,x2l,.func (μ "lay_no" "lay_no" (ql Jn) (qk Jn) (qe Jn) .none v2l d2l p2l y2l e2l t2l),z2l⟩)
  (b2l:ι K e2l "lay_no"=true)
  (k2l:ζ K (.ref f2l)=true)
  (l2m:K.lookup f2m=some ⟨o2m,x2m,.func (μ "lay_none" "lay_none" (ql Zk) (qk Zk) (qe Zk) .none v2m d2m p2m y2m e2m t2m),z2m⟩)
  (b2m:ι K e2m "lay_none"=true)
  (k2m:ζ K (.ref f2m)=true)
  (l2r:K.lookup f2r=some ⟨o2r,x2r,.func (μ "lay_piece" "lay_piece" (ql QM) (qk QM) (qe QM) .none v2r d2r p2r y2r e2r t2r),z2r⟩)
  (b2r:ι K e2r "lay_piece"=true)
  (k2r:ζ K (.ref f2r)=true)
  (l2u:K.lookup f2u=some ⟨o2u,x2u,.func (μ "lay_text" "lay_text" (ql Zl) (qk Zl) (qe Zl) .none v2u d2u p2u y2u e2u t2u),z2u⟩)
  (b2u:ι K e2u "lay_text"=true)
  (k2u:ζ K (.ref f2u)=true)
  (l2i:K.lookup f2i=some ⟨o2i,x2i,.func (μ "lay_list" "lay_list" (ql Zm) (qk Zm) (qe Zm) .none v2i d2i p2i y2i e2i t2i),z2i⟩)
  (b2i:ι K e2i "lay_list"=true)
  (k2i:ζ K (.ref f2i)=true)
  (l2a:K.lookup f2a=some ⟨o2a,x2a,.func (μ "lay_binds" "lay_binds" (ql QN) (qk QN) (qe QN) .none v2a d2a p2a y2a e2a t2a),z2a⟩)
  (b2a:ι K e2a "lay_binds"=true)
  (k2a:ζ K (.ref f2a)=true)
  (l2s:K.lookup f2s=some ⟨o2s,x2s,.func (μ "lay_record" "lay_record" (ql Qw) (qk Qw) (qe Qw) .none v2s d2s p2s y2s e2s t2s),z2s⟩)
  (b2s:ι K e2s "lay_record"=true)
  (k2s:ζ K (.ref f2s)=true)
  (l2t:K.lookup f2t=some ⟨o2t,x2t,.func (μ "lay_recur" "lay_recur" (ql QO) (qk QO) (qe QO) .none v2t d2t p2t y2t e2t t2t),z2t⟩)
  (b2t:ι K e2t "lay_recur"=true)
  (k2t:ζ K (.ref f2t)=true)
  (l2d:K.lookup f2d=some ⟨o2d,x2d,.func (μ "lay_get" "lay_get" (ql ZQ) (qk ZQ) (qe ZQ) .none v2d d2d p2d y2d e2d t2d),z2d⟩)
  (b2d:ι K e2d "lay_get"=true)
  (k2d:ζ K (.ref f2d)=true)
  (l29:K.lookup f29=some ⟨o29,x29,.func (μ "lay_app" "lay_app" (ql ZR) (qk ZR) (qe ZR) .none v29 d29 p29 y29 e29 t29),z29⟩)
  (b29:ι K e29 "lay_app"=true)
  (k29:ζ K (.ref f29)=true)
  (l2k:K.lookup f2k=some ⟨o2k,x2k,.func (μ "lay_neg" "lay_neg" (ql ZS) (qk ZS) (qe ZS) .none v2k d2k p2k y2k e2k t2k),z2k⟩)
  (b2k:ι K e2k "lay_neg"=true)
  (k2k:ζ K (.ref f2k)=true)
  (l2n:K.lookup f2n=some ⟨o2n,x2n,.func (μ "lay_not" "lay_not" (ql ZT) (qk ZT) (qe ZT) .none v2n d2n p2n y2n e2n t2n),z2n⟩)
  (b2n:ι K e2n "lay_not"=true)
  (k2n:ζ K (.ref f2n)=true)
  (l2e:K.lookup f2e=some ⟨o2e,x2e,.func (μ "lay_has" "lay_has" (ql ZU) (qk ZU) (qe ZU) .none v2e d2e p2e y2e e2e t2e),z2e⟩)
  (b2e:ι K e2e "lay_has"=true)
  (k2e:ζ K (.ref f2e)=true)
  (l2c:K.lookup f2c=some ⟨o2c,x2c,.func (μ "lay_fn" "lay_fn" (ql Jo) (qk Jo) (qe Jo) .none v2c d2c p2c y2c e2c t2c),z2c⟩)
  (b2c:ι K e2c "lay_fn"=true)
  (k2c:ζ K (.ref f2c)=true)
  (l2b:K.lookup f2b=some ⟨o2b,x2b,.func (μ "lay_fields" "lay_fields" (ql Qx) (qk Qx) (qe Qx) .none v2b d2b p2b y2b e2b t2b),z2b⟩)
  (b2b:ι K e2b "lay_fields"=true)
  (k2b:ζ K (.ref f2b)=true)
  (l2q:K.lookup f2q=some ⟨o2q,x2q,.func (μ "lay_param" "lay_param" (ql QP) (qk QP) (qe QP) .none v2q d2q p2q y2q e2q t2q),z2q⟩)
  (b2q:ι K e2q "lay_param"=true)
  (k2q:ζ K (.ref f2q)=true)
  (l2h:K.lookup f2h=some ⟨o2h,x2h,.func (μ "lay_let" "lay_let" (ql ZV) (qk ZV) (qe ZV) .none v2h d2h p2h y2h e2h t2h),z2h⟩)
  (b2h:ι K e2h "lay_let"=true)
  (k2h:ζ K (.ref f2h)=true)
  (l2f:K.lookup f2f=some ⟨o2f,x2f,.func (μ "lay_if" "lay_if" (ql Jp) (qk Jp) (qe Jp) .none v2f d2f p2f y2f e2f t2f),z2f⟩)
  (b2f:ι K e2f "lay_if"=true)
  (k2f:ζ K (.ref f2f)=true)
  (l2j:K.lookup f2j=some ⟨o2j,x2j,.func (μ "lay_must" "lay_must" (ql Zn) (qk Zn) (qe Zn) .none v2j d2j p2j y2j e2j t2j),z2j⟩)
  (b2j:ι K e2j "lay_must"=true)
  (k2j:ζ K (.ref f2j)=true)
  (l2o:K.lookup f2o=some ⟨o2o,x2o,.func (μ "lay_operands" "lay_operands" (ql jY) (qk jY) (qe jY) .none v2o d2o p2o y2o e2o t2o),z2o⟩)
  (b2o:ι K e2o "lay_operands"=true)
  (k2o:ζ K (.ref f2o)=true)
  (l2p:K.lookup f2p=some ⟨o2p,x2p,.func (μ "lay_out" "lay_out" (ql ZW) (qk ZW) (qe ZW) .none v2p d2p p2p y2p e2p t2p),z2p⟩)
  (b2p:ι K e2p "lay_out"=true)
  (k2p:ζ K (.ref f2p)=true)
  (l2C:K.lookup f2C=some ⟨o2C,x2C,.func (μ "print_whole" "print_whole" (ql Qc) (qk Qc) (qe Qc) .none v2C d2C p2C y2C e2C t2C),z2C⟩)
  (b2C:ι K e2C "print_whole"=true)
  (k2C:ζ K (.ref f2C)=true)
  (l2B:K.lookup f2B=some ⟨o2B,x2B,.func (μ "print_short" "print_short" (ql Qg) (qk Qg) (qe Qg) .none v2B d2B p2B y2B e2B t2B),z2B⟩)
  (b2B:ι K e2B "print_short"=true)
  (k2B:ζ K (.ref f2B)=true)
  (l1F:K.lookup f1F=some ⟨o1F,x1F,.func (μ "__init__" "Token.__init__" (ql Qy) (qk Qy) (qe Qy) .none v1F d1F p1F y1F e1F t1F),z1F⟩)
  (b1F:ι K e1F "Token.__init__"=true)
  (k1F:ζ K (.ref f1F)=true)
  (i1F:Ybj K (.ref f1F)=true)
  (l26:K.lookup f26=some ⟨o26,x26,.func (μ "is_letter" "is_letter" (ql QQ) (qk QQ) (qe QQ) .none v26 d26 p26 y26 e26 t26),z26⟩)
  (b26:ι K e26 "is_letter"=true)
  (k26:ζ K (.ref f26)=true)
  (l24:K.lookup f24=some ⟨o24,x24,.func (μ "is_digit" "is_digit" (ql Zo) (qk Zo) (qe Zo) .none v24 d24 p24 y24 e24 t24),z24⟩)
  (b24:ι K e24 "is_digit"=true)
  (k24:ζ K (.ref f24)=true)
  (l25:K.lookup f25=some ⟨o25,x25,.func (μ "is_in_name" "is_in_name" (ql Qz) (qk Qz) (qe Qz) .none v25 d25 p25 y25 e25 t25),z25⟩)
  (b25:ι K e25 "is_in_name"=true)
  (k25:ζ K (.ref f25)=true)
  (l28:K.lookup f28=some ⟨o28,x28,.func (μ "kind_of_name" "kind_of_name" (ql jZ) (qk jZ) (qe jZ) .none v28 d28 p28 y28 e28 t28),z28⟩)
  (b28:ι K e28 "kind_of_name"=true)
  (k28:ζ K (.ref f28)=true)
  (l0l:K.lookup f0l=some ⟨o0l,x0l,.func (μ "__init__" "Cutter.__init__" (ql Qh) (qk Qh) (qe Qh) .none v0l d0l p0l y0l e0l t0l),z0l⟩)
  (b0l:ι K e0l "Cutter.__init__"=true)
  (k0l:ζ K (.ref f0l)=true)
  (i0l:Ybj K (.ref f0l)=true)
  (l0a:K.lookup f0a=some ⟨o0a,x0a,.func (μ "byte_at" "Cutter.byte_at" (ql jE) (qk jE) (qe jE) .none v0a d0a p0a y0a e0a t0a),z0a⟩)
  (b0a:ι K e0a "Cutter.byte_at"=true)
  (k0a:ζ K (.ref f0a)=true)
  (i0a:Ybj K (.ref f0a)=true)
  (l09:K.lookup f09=some ⟨o09,x09,.func (μ "add_token" "Cutter.add_token" (ql jk) (qk jk) (qe jk) .none v09 d09 p09 y09 e09 t09),z09⟩)
  (b09:ι K e09 "Cutter.add_token"=true)
  (k09:ζ K (.ref f09)=true)
  (i09:Ybj K (.ref f09)=true)
  (l0e:K.lookup f0e=some ⟨o0e,x0e,.func (μ "cut_outside" "Cutter.cut_outside" (ql zU) (qk zU) (qe zU) .none v0e d0e p0e y0e e0e t0e),z0e⟩)
  (b0e:ι K e0e "Cutter.cut_outside"=true)
  (k0e:ζ K (.ref f0e)=true)
  (i0e:Ybj K (.ref f0e)=true)
  (l0o:K.lookup f0o=some ⟨o0o,x0o,.func (μ "pass_comment" "Cutter.pass_comment" (ql zN) (qk zN) (qe zN) .none v0o d0o p0o y0o e0o t0o),z0o⟩)
  (b0o:ι K e0o "Cutter.pass_comment"=true)
  (k0o:ζ K (.ref f0o)=true)
  (i0o:Ybj K (.ref f0o)=true)
  (l0c:K.lookup f0c=some ⟨o0c,x0c,.func (μ "cut_name" "Cutter.cut_name" (ql jt) (qk jt) (qe jt) .none v0c d0c p0c y0c e0c t0c),z0c⟩)
  (b0c:ι K e0c "Cutter.cut_name"=true)
  (k0c:ζ K (.ref f0c)=true)
  (i0c:Ybj K (.ref f0c)=true)
  (l0d:K.lookup f0d=some ⟨o0d,x0d,.func (μ "cut_number" "Cutter.cut_number" (ql z7) (qk z7) (qe z7) .none v0d d0d p0d y0d e0d t0d),z0d⟩)
  (b0d:ι K e0d "Cutter.cut_number"=true)
  (k0d:ζ K (.ref f0d)=true)
  (i0d:Ybj K (.ref f0d)=true)
  (l0g:K.lookup f0g=some ⟨o0g,x0g,.func (μ "cut_right_brace" "Cutter.cut_right_brace" (ql zx) (qk zx) (qe zx) .none v0g d0g p0g y0g e0g t0g),z0g⟩)
  (b0g:ι K e0g "Cutter.cut_right_brace"=true)
  (k0g:ζ K (.ref f0g)=true)
  (i0g:Ybj K (.ref f0g)=true)
  (l0h:K.lookup f0h=some ⟨o0h,x0h,.func (μ "cut_sign" "Cutter.cut_sign" (ql ju) (qk ju) (qe ju) .none v0h d0h p0h y0h e0h t0h),z0h⟩)
  (b0h:ι K e0h "Cutter.cut_sign"=true)
  (k0h:ζ K (.ref f0h)=true)
  (i0h:Ybj K (.ref f0h)=true)
  (l0b:K.lookup f0b=some ⟨o0b,x0b,.func (μ "cut_literal" "Cutter.cut_literal" (ql zV) (qk zV) (qe zV) .none v0b d0b p0b y0b e0b t0b),z0b⟩)
  (b0b:ι K e0b "Cutter.cut_literal"=true)
  (k0b:ζ K (.ref f0b)=true)
  (i0b:Ybj K (.ref f0b)=true)
  (l0f:K.lookup f0f=some ⟨o0f,x0f,.func (μ "cut_piece" "Cutter.cut_piece" (ql jl) (qk jl) (qe jl) .none v0f d0f p0f y0f e0f t0f),z0f⟩)
  (b0f:ι K e0f "Cutter.cut_piece"=true)
  (k0f:ζ K (.ref f0f)=true)
  (i0f:Ybj K (.ref f0f)=true)
  (l0m:K.lookup f0m=some ⟨o0m,x0m,.func (μ "is_piece_over" "Cutter.is_piece_over" (ql zG) (qk zG) (qe zG) .none v0m d0m p0m y0m e0m t0m),z0m⟩)
  (b0m:ι K e0m "Cutter.is_piece_over"=true)
  (k0m:ζ K (.ref f0m)=true)
  (i0m:Ybj K (.ref f0m)=true)
  (l0j:K.lookup f0j=some ⟨o0j,x0j,.func (μ "gather_byte" "Cutter.gather_byte" (ql zW) (qk zW) (qe zW) .none v0j d0j p0j y0j e0j t0j),z0j⟩)
  (b0j:ι K e0j "Cutter.gather_byte"=true)
  (k0j:ζ K (.ref f0j)=true)
  (i0j:Ybj K (.ref f0j)=true)
  (l20:K.lookup f20=some ⟨o20,x20,.func (μ "cut" "cut" (ql qcT) (qk qcT) (qe qcT) .none v20 d20 p20 y20 e20 t20),z20⟩)
  (b20:ι K e20 "cut"=true)
  (k20:ζ K (.ref f20)=true)
  (l05:K.lookup f05=some ⟨o05,x05,.func (μ "__init__" "Begun.__init__" (ql QA) (qk QA) (qe QA) .none v05 d05 p05 y05 e05 t05),z05⟩)
  (b05:ι K e05 "Begun.__init__"=true)
  (k05:ζ K (.ref f05)=true)
  (i05:Ybj K (.ref f05)=true)
  (l22:K.lookup f22=some ⟨o22,x22,.func (μ "fits" "fits" (ql qaK) (qk qaK) (qe qaK) .none v22 d22 p22 y22 e22 t22),z22⟩)
  (b22:ι K e22 "fits"=true)
  (k22:ζ K (.ref f22)=true)
  (l1Z:K.lookup f1Z=some ⟨o1Z,x1Z,.func (μ "choose" "choose" (ql Jq) (qk Jq) (qe Jq) .none v1Z d1Z p1Z y1Z e1Z t1Z),z1Z⟩)
  (b1Z:ι K e1Z "choose"=true)
  (k1Z:ζ K (.ref f1Z)=true)
  (l2z:K.lookup f2z=some ⟨o2z,x2z,.func (μ "meet_name" "meet_name" (ql QR) (qk QR) (qe QR) .none v2z d2z p2z y2z e2z t2z),z2z⟩)
  (b2z:ι K e2z "meet_name"=true)
  (k2z:ζ K (.ref f2z)=true)
  (l1j:K.lookup f1j=some ⟨o1j,x1j,.func (μ "__init__" "Reader.__init__" (ql Qi) (qk Qi) (qe Qi) .none v1j d1j p1j y1j e1j t1j),z1j⟩)
  (b1j:ι K e1j "Reader.__init__"=true)
  (k1j:ζ K (.ref f1j)=true)
  (i1j:Ybj K (.ref f1j)=true)
  (l1m:K.lookup f1m=some ⟨o1m,x1m,.func (μ "step" "Reader.step" (ql Qj) (qk Qj) (qe Qj) .none v1m d1m p1m y1m e1m t1m),z1m⟩)
  (b1m:ι K e1m "Reader.step"=true)
  (k1m:ζ K (.ref f1m)=true)
  (i1m:Ybj K (.ref f1m)=true)
  (l1l:K.lookup f1l=some ⟨o1l,x1l,.func (μ "read_token" "Reader.read_token" (ql z8) (qk z8) (qe z8) .none v1l d1l p1l y1l e1l t1l),z1l⟩)
  (b1l:ι K e1l "Reader.read_token"=true)
  (k1l:ζ K (.ref f1l)=true)
  (i1l:Ybj K (.ref f1l)=true)
  (l1d:K.lookup f1d=some ⟨o1d,x1d,.func (μ "act" "Reader.act" (ql QB) (qk QB) (qe QB) .none v1d d1d p1d y1d e1d t1d),z1d⟩)
  (b1d:ι K e1d "Reader.act"=true)
  (k1d:ζ K (.ref f1d)=true)
  (i1d:Ybj K (.ref f1d)=true)
  (l1i:K.lookup f1i=some ⟨o1i,x1i,.func (μ "enter_level" "Reader.enter_level" (ql zX) (qk zX) (qe zX) .none v1i d1i p1i y1i e1i t1i),z1i⟩)
  (b1i:ι K e1i "Reader.enter_level"=true)
  (k1i:ζ K (.ref f1i)=true)
  (i1i:Ybj K (.ref f1i)=true)
  (l1h:K.lookup f1h=some ⟨o1h,x1h,.func (μ "end_node" "Reader.end_node" (ql jv) (qk jv) (qe jv) .none v1h d1h p1h y1h e1h t1h),z1h⟩)
  (b1h:ι K e1h "Reader.end_node"=true)
  (k1h:ζ K (.ref f1h)=true)
  (i1h:Ybj K (.ref f1h)=true)
  (l2G:K.lookup f2G=some ⟨o2G,x2G,.func (μ "read" "read" (ql qaL) (qk qaL) (qe qaL) .none v2G d2G p2G y2G e2G t2G),z2G⟩)
  (b2G:ι K e2G "read"=true)
  (k2G:ζ K (.ref f2G)=true)
  (l2H:K.lookup f2H=some ⟨o2H,x2H,.func (μ "read_second" "read_second" (ql Qk) (qk Qk) (qe Qk) .none v2H d2H p2H y2H e2H t2H),z2H⟩)
  (b2H:ι K e2H "read_second"=true)
  (k2H:ζ K (.ref f2H)=true)
  (l2D:K.lookup f2D=some ⟨o2D,x2D,.func (μ "put" "put" (ql JS) (qk JS) (qe JS) .none v2D d2D p2D y2D e2D t2D),z2D⟩)
  (b2D:ι K e2D "put"=true)
  (k2D:ζ K (.ref f2D)=true)
  (pg1D:Yb4 K c1D Ydv=true)
  (hd1D:Yb6 K c1D=true)
  (po1D:Ycf K c1D=true)
  (sa1D:δ K (.ref c1D) "__setattr__"=some (some (.builtin "object.__setattr__")))
  (mk1D:Ycr K c1D=true)
  (kc1D:ζ K (.ref c1D)=true)
  (n1G:δ K (.ref c1D) "kind"=some none)
  (n1H:δ K (.ref c1D) "place"=some none)
  (n1E:δ K (.ref c1D) "held"=some none)
  (pg08:Yb4 K c08 Ydv=true)
  (hd08:Yb6 K c08=true)
  (po08:Ycf K c08=true)
  (sa08:δ K (.ref c08) "__setattr__"=some (some (.builtin "object.__setattr__")))
  (mk08:Ycr K c08=true)
  (kc08:ζ K (.ref c08)=true)
  (n0q:δ K (.ref c08) "text"=some none)
  (n0p:δ K (.ref c08) "place"=some none)
  (n0r:δ K (.ref c08) "tokens"=some none)
  (n0n:δ K (.ref c08) "opened"=some none)
  (n0k:δ K (.ref c08) "in_literal"=some none)
  (n0i:δ K (.ref c08) "ended"=some none)
  (pg0U:Yb4 K c0U Ydv=true)
  (hd0U:Yb6 K c0U=true)
  (po0U:Ycf K c0U=true)
  (sa0U:δ K (.ref c0U) "__setattr__"=some (some (.builtin "object.__setattr__")))
  (mk0U:Ycr K c0U=true)
  (kc0U:ζ K (.ref c0U)=true)
  (n0Y:δ K (.ref c0U) "kind"=some none)
  (n0Z:δ K (.ref c0U) "labels"=some none)
  (n0X:δ K (.ref c0U) "kids"=some none)
  (n0V:δ K (.ref c0U) "depth"=some none)
  (pg03:Yb4 K c03 Ydv=true)
  (hd03:Yb6 K c03=true)
  (po03:Ycf K c03=true)
  (sa03:δ K (.ref c03) "__setattr__"=some (some (.builtin "object.__setattr__")))
  (mk03:Ycr K c03=true)
  (kc03:ζ K (.ref c03)=true)
  (n04:δ K (.ref c03) "first"=some none)
  (n06:δ K (.ref c03) "labels"=some none)
  (n07:δ K (.ref c03) "names"=some none)
  (pg1c:Yb4 K c1c Ydv=true)
  (hd1c:Yb6 K c1c=true)
  (po1c:Ycf K c1c=true)
  (sa1c:δ K (.ref c1c) "__setattr__"=some (some (.builtin "object.__setattr__")))
  (mk1c:Ycr K c1c=true)
  (kc1c:ζ K (.ref c1c)=true)
  (n1n:δ K (.ref c1c) "tokens"=some none)
  (n1e:δ K (.ref c1c) "at"=some none)
  (n1k:δ K (.ref c1c) "level"=some none)
  (n1o:δ K (.ref c1c) "waiting"=some none)
  (n1g:δ K (.ref c1c) "built"=some none)
  (n1f:δ K (.ref c1c) "begun"=some none)
  (x1p:ZC K c1p=true)
  (sa1p:δ K (.ref c1p) "__setattr__"=some (some (.builtin "object.__setattr__")))
  (ga1p:δ K (.ref c1p) "__getattribute__"=some (some (.builtin "BaseException.__getattribute__")))
  (gh1p:δ K (.ref c1p) "__getattr__"=some none)
  (u1p:ZH K c1p c1p=true)
  (kc1p:ζ K (.ref c1p)=true)
  (n1r:δ K (.ref c1p) "number"=some none)
  (n1s:δ K (.ref c1p) "place"=some none)
  (x1z:ZC K c1z=true)
  (sa1z:δ K (.ref c1z) "__setattr__"=some (some (.builtin "object.__setattr__")))
  (ga1z:δ K (.ref c1z) "__getattribute__"=some (some (.builtin "BaseException.__getattribute__")))
  (gh1z:δ K (.ref c1z) "__getattr__"=some none)
  (u1z:ZH K c1z c1p=true)
  (kc1z:ζ K (.ref c1z)=true)
  (n1B:δ K (.ref c1z) "number"=some none)
  (n1C:δ K (.ref c1z) "place"=some none)
  (x1S:ZC K c1S=true)
  (sa1S:δ K (.ref c1S) "__setattr__"=some (some (.builtin "object.__setattr__")))
  (ga1S:δ K (.ref c1S) "__getattribute__"=some (some (.builtin "BaseException.__getattribute__")))
  (gh1S:δ K (.ref c1S) "__getattr__"=some none)
  (u1S:ZH K c1S c1p=true)
  (kc1S:ζ K (.ref c1S)=true)
  (n1U:δ K (.ref c1S) "number"=some none)
  (n1V:δ K (.ref c1S) "place"=some none)
  (x1O:ZC K c1O=true)
  (sa1O:δ K (.ref c1O) "__setattr__"=some (some (.builtin "object.__setattr__")))
  (ga1O:δ K (.ref c1O) "__getattribute__"=some (some (.builtin "BaseException.__getattribute__")))
  (gh1O:δ K (.ref c1O) "__getattr__"=some none)
  (u1O:ZH K c1O c1p=true)
  (kc1O:ζ K (.ref c1O)=true)
  (n1Q:δ K (.ref c1O) "number"=some none)
  (n1R:δ K (.ref c1O) "place"=some none)
  (x0D:ZC K c0D=true)
  (sa0D:δ K (.ref c0D) "__setattr__"=some (some (.builtin "object.__setattr__")))
  (ga0D:δ K (.ref c0D) "__getattribute__"=some (some (.builtin "BaseException.__getattribute__")))
  (gh0D:δ K (.ref c0D) "__getattr__"=some none)
  (u0D:ZH K c0D c1p=true)
  (kc0D:ζ K (.ref c0D)=true)
  (n0F:δ K (.ref c0D) "number"=some none)
  (n0G:δ K (.ref c0D) "place"=some none)
  (x0Q:ZC K c0Q=true)
  (sa0Q:δ K (.ref c0Q) "__setattr__"=some (some (.builtin "object.__setattr__")))
  (ga0Q:δ K (.ref c0Q) "__getattribute__"=some (some (.builtin "BaseException.__getattribute__")))
  (gh0Q:δ K (.ref c0Q) "__getattr__"=some none)
  (u0Q:ZH K c0Q c1p=true)
  (kc0Q:ζ K (.ref c0Q)=true)
  (n0S:δ K (.ref c0Q) "number"=some none)
  (n0T:δ K (.ref c0Q) "place"=some none)
  (x1I:ZC K c1I=true)
  (sa1I:δ K (.ref c1I) "__setattr__"=some (some (.builtin "object.__setattr__")))
  (ga1I:δ K (.ref c1I) "__getattribute__"=some (some (.builtin "BaseException.__getattribute__")))
  (gh1I:δ K (.ref c1I) "__getattr__"=some none)
  (u1I:ZH K c1I c1p=true)
  (kc1I:ζ K (.ref c1I)=true)
  (n1K:δ K (.ref c1I) "number"=some none)
  (n1L:δ K (.ref c1I) "place"=some none)
  (cg:YcC K (.ref c1p) "__getattribute__"=some (some (.builtin "type.__getattribute__")))
  (cr:PySem.W.readsIn K c1p (.type "type")=true)
  (cf:PySem.W.findCls K (.ref c1p) (.type "type") "__init__"=some (.val (.ref f1q)))
  (g1y:θ K η "TAB"=some (some (.int (9) j1y)))
  (g0C:θ K η "LINE_FEED"=some (some (.int (10) j0C)))
  (g1a:θ K η "RETURN"=some (some (.int (13) j1a)))
  (g02:θ K η "BLANK"=some (some (.int (32) j02)))
  (g18:θ K η "QUOTE"=some (some (.int (34) j18)))
  (g0x:θ K η "HASH"=some (some (.int (35) j0x)))
  (g0s:θ K η "DOLLAR"=some (some (.int (36) j0s)))
  (g0H:θ K η "MINUS"=some (some (.int (45) j0H)))
  (g1W:θ K η "ZERO"=some (some (.int (48) j1W)))
  (g01:θ K η "BACKSLASH"=some (some (.int (92) j01)))
  (g1M:θ K η "UNDERSCORE"=some (some (.int (95) j1M)))
  (g0B:θ K η "LEFT_BRACE"=some (some (.int (123) j0B)))
  (g1b:θ K η "RIGHT_BRACE"=some (some (.int (125) j1b)))
  (g0L:θ K η "MOST_NAME_BYTES"=some (some (.int (32) j0L)))
  (g0J:θ K η "MOST_DIGITS"=some (some (.int (30) j0J)))
  (g0O:θ K η "NOTHING"=some (some (.int (-1) j0O)))
  (g0N:θ K η "MOST_TEXT_BYTES"=some (some (.int (2048) j0N)))
  (g0K:θ K η "MOST_LEVELS"=some (some (.int (40) j0K)))
  (g0I:θ K η "MOST_DEPTH"=some (some (.int (40) j0I)))
  (g2w:θ K η "len"=some none)
  (g2A:θ K η "ord"=some none)
  (g2y:θ K η "max"=some none)
  (g2L:θ K η "tuple"=some none)
  (g1N:θ K η "WORDS"=some (some (.ref t1N)))
  (h1N:JV K t1N qab=true)
  (g1t:θ K η "SIGNS"=some (some (.ref t1t)))
  (h1t:JV K t1t Zx=true)
  (g00:θ K η "ATOM_BEGINNINGS"=some (some (.ref t00)))
  (h00:JV K t00 qdV=true)
  (g0t:θ K η "ESCAPES"=some (some (.ref t0t)))
  (h0t:K.lookup t0t=some ⟨.type "dict",none,.dict e0t m0t,#[]⟩)
  (s0t:(t0t==sysModules)=false)
  (g0w:θ K η "GRAMMAR"=some (some (.ref t0w)))
  (h0w:K.lookup t0w=some ⟨.type "dict",none,.dict e0w m0w,#[]⟩)
  (s0w:(t0w==sysModules)=false)
  (p0t:Paired (qcV w) qaz e0t.toList)
  (p0w:Paired (qcV w) (Zh.map fun r=>(Sum.inr r.1,V.ref (Jt e0w r.1))) e0w.toList)
  (q0w:(Zh.all fun r=>JV K (Jt e0w r.1) r.2)=true)
  (x14:ZC K c14=true)
  (sa14:δ K (.ref c14) "__setattr__"=some (some (.builtin "object.__setattr__")))
  (ga14:δ K (.ref c14) "__getattribute__"=some (some (.builtin "BaseException.__getattribute__")))
  (gh14:δ K (.ref c14) "__getattr__"=some none)
  (u14:ZH K c14 c1p=true)
  (kc14:ζ K (.ref c14)=true)
  (n16:δ K (.ref c14) "number"=some none)
  (n17:δ K (.ref c14) "place"=some none)
  (x10:ZC K c10=true)
  (sa10:δ K (.ref c10) "__setattr__"=some (some (.builtin "object.__setattr__")))
  (ga10:δ K (.ref c10) "__getattribute__"=some (some (.builtin "BaseException.__getattribute__")))
  (gh10:δ K (.ref c10) "__getattr__"=some none)
  (u10:ZH K c10 c1p=true)
  (kc10:ζ K (.ref c10)=true)
  (n12:δ K (.ref c10) "number"=some none)
  (n13:δ K (.ref c10) "place"=some none)
  (x1u:ZC K c1u=true)
  (sa1u:δ K (.ref c1u) "__setattr__"=some (some (.builtin "object.__setattr__")))
  (ga1u:δ K (.ref c1u) "__getattribute__"=some (some (.builtin "BaseException.__getattribute__")))
  (gh1u:δ K (.ref c1u) "__getattr__"=some none)
  (u1u:ZH K c1u c1p=true)
  (kc1u:ζ K (.ref c1u)=true)
  (n1w:δ K (.ref c1u) "number"=some none)
  (n1x:δ K (.ref c1u) "place"=some none)
  (g0y:θ K η "HIGHEST_RANK"=some (some (.int (12) j0y)))
  (g0M:θ K η "MOST_PRINTED_BYTES"=some (some (.int (2048) j0M)))
  (g0u:θ K η "GATHERED_FROM_LEFT"=some (some (.ref t0u)))
  (h0u:JV K t0u qec=true)
  (g0v:θ K η "GATHERED_FROM_RIGHT"=some (some (.ref t0v)))
  (h0v:JV K t0v qag=true)
  (g0P:θ K η "NO_RECIPES"=some (some (.ref t0P)))
  (h0P:JV K t0P noS=true)
  (g21:θ K η "enumerate"=some none)
  (g2M:θ K η "zip"=some none)
  (g27:θ K η "isinstance"=some none)
  (g2K:θ K η "str"=some none)
  (g2x:θ K η "list"=some none)
  (g2J:θ K η "reversed"=some none)
  (g19:θ K η "RANKS"=some (some (.ref t19)))
  (h19:K.lookup t19=some ⟨.type "dict",none,.dict e19 m19,#[]⟩)
  (s19:(t19==sysModules)=false)
  (g0A:θ K η "LAYOUTS"=some (some (.ref t0A)))
  (h0A:K.lookup t0A=some ⟨.type "dict",none,.dict e0A m0A,#[]⟩)
  (s0A:(t0A==sysModules)=false)
  (p19:Paired (qcV w) JD e19.toList)
  (p0A:Paired (qcV w) (qeU ⟨f2r,f2g,f2v,f2l,f2m,f2u,f2i,f2s,f2t,f2d,f29,f2k,f2n,f2e,f2c,f2b,f2q,f2h,f2f,f2j,f2o⟩) e0A.toList)
  (i1:δ K (.ref c0U) "__class__"=some (some (.builtin "object.__class__")))
  (i2:YcC K (.builtin "object.__class__") "__get__"=some (some (.builtin "getset_descriptor.__get__")))
  (i3:YdC K (.builtin "object.__class__")=some true)
  (i4:Ydt K c0U (.type "object")=some true)
  (i5:YbV K (.ref c0U) (.ref c0U)=some true)
  (i6:YbV K (.type "str") (.ref c0U)=some false)
  (i7:YbV K (.type "list") (.ref c0U)=some false)
  (i8:YbV K (.type "str") (.type "str")=some true)
  (i9:YbV K (.type "list") (.type "str")=some false)
  : ∃fd:FuncData,(∀(s:Shared)(us:List Value),us.length=(["text","path","other"]:List Str).length->BindsTo s fd ⟨us,[]⟩ ((["text","path","other"]:List Str).zip us))/\∀base:Heap,K.In base->base.Ns η mg->qw P w K mg base CX0 10 fa fd ["text","path","other"] (qjM K):=by
 have e:=hfa.symm.trans (υ X G a2D);cases e;have nE:(qaz.map (·.1)).Nodup:=by decide +kernel
 have nG:((Zh.map fun r=>((Sum.inr r.1:Key),V.ref (Jt e0w r.1))).map (·.1)).Nodup:=by rw[YcJ];exact qjN
 have T:Tx P w K mg ⟨c1D,c08,c0U,c03,c1c,c1p,c1z,c1S,c1O,c0D,c0Q,c1I,t1N,t1t,t00,t0t,t0w,Jt e0w⟩:=⟨⟨pg1D,hd1D,po1D,sa1D⟩,n1G,n1H,n1E,⟨pg08,hd08,po08,sa08⟩,n0q,n0p,n0r,n0n,n0k,n0i,⟨pg0U,hd0U,po0U,sa0U⟩,n0Y,n0Z,n0X,n0V,⟨pg03,hd03,po03,sa03⟩,n04,n06,n07,⟨pg1c,hd1c,po1c,sa1c⟩,n1n,n1e,n1k,n1o,n1g,n1f,⟨x1p,sa1p,ga1p,gh1p⟩,n1r,n1s,ZB u1p,⟨x1z,sa1z,ga1z,gh1z⟩,n1B,n1C,ZB u1z,⟨x1S,sa1S,ga1S,gh1S⟩,n1U,n1V,ZB u1S,⟨x1O,sa1O,ga1O,gh1O⟩,n1Q,n1R,ZB u1O,⟨x0D,sa0D,ga0D,gh0D⟩,n0F,n0G,ZB u0D,⟨x0Q,sa0Q,ga0Q,gh0Q⟩,n0S,n0T,ZB u0Q,⟨x1I,sa1I,ga1I,gh1I⟩,n1K,n1L,ZB u1I,zH X G g1y,zH X G g0C,zH X G g1a,zH X G g02,zH X G g18,zH X G g0x,zH X G g0s,zH X G g0H,zH X G g1W,zH X G g01,zH X G g1M,zH X G g0B,zH X G g1b,zH X G g0L,zH X G g0J,zH X G g0O,zH X G g0N,zH X G g0K,zH X G g0I,QT X G g1N,Js h1N,QT X G g1t,Js h1t,QT X G g00,Js h00,QT X G g0t,qbu h0t s0t p0t nE,QT X G g0w,qbu h0w s0w p0w nG,fun r hr=>Js (YcH.mp q0w r hr),YbJ X G g2w,YbJ X G g2A,YbJ X G g2y,YbJ X G g2L⟩;have F1q:=qt (st:=jC) l1q b1q k1q;have B1q:=bd3 "self" "number" "place" F1q;have F1A:=qt (st:=jf) l1A b1A k1A;have B1A:=bd1 "self" F1A;have F1T:=qt (st:=jr) l1T b1T k1T;have B1T:=bd2 "self" "place" F1T;have F1P:=qt (st:=jg) l1P b1P k1P;have B1P:=bd2 "self" "place" F1P;have F0E:=qt (st:=z5) l0E b0E k0E;have B0E:=bd2 "self" "place" F0E;have F0R:=qt (st:=jD) l0R b0R k0R;have B0R:=bd2 "self" "place" F0R;have F1J:=qt (st:=jh) l1J b1J k1J;have B1J:=bd1 "self" F1J;have F11:=qt (st:=ji) l11 b11 k11;have B11:=bd1 "self" F11;have F15:=qt (st:=z6) l15 b15 k15;have B15:=bd1 "self" F15;have F1v:=qt (st:=js) l1v b1v k1v;have B1v:=bd2 "self" "met" F1v;have F0W:=qt (st:=QK) l0W b0W k0W;have B0W:=bd4 "self" "kind" "labels" "kids" F0W;have F2I:=qt (st:=Qa) l2I b2I k2I;have B2I:=bd1 "tree" F2I;have F23:=qt (st:=Jl) l23 b23 k23;have B23:=bd2 "tree" "path" F23;have F2E:=qt (st:=Jm) l2E b2E k2E;have B2E:=bd3 "tree" "path" "other" F2E;have F1Y:=qt (st:=Zj) l1Y b1Y k1Y;have B1Y:=bd1 "written" F1Y;have F1X:=qt (st:=qez) l1X b1X k1X;have B1X:=bd2 "kid" "rank" F1X;have F2F:=qt (st:=Qb) l2F b2F k2F;have B2F:=bd2 "groups" "mark" F2F;have F2g:=qt (st:=QL) l2g b2g k2g;have B2g:=bd1 "node" F2g;have F2v:=qt (st:=ZP) l2v b2v k2v;have B2v:=bd1 "node" F2v;have F2l:=qt (st:=Jn) l2l b2l k2l;have B2l:=bd1 "node" F2l;have F2m:=qt (st:=Zk) l2m b2m k2m;have B2m:=bd1 "node" F2m;have F2r:=qt (st:=QM) l2r b2r k2r;have B2r:=bd1 "node" F2r;have F2u:=qt (st:=Zl) l2u b2u k2u;have B2u:=bd1 "node" F2u;have F2i:=qt (st:=Zm) l2i b2i k2i;have B2i:=bd1 "node" F2i;have F2a:=qt (st:=QN) l2a b2a k2a;have B2a:=bd1 "node" F2a;have F2s:=qt (st:=Qw) l2s b2s k2s;have B2s:=bd1 "node" F2s;have F2t:=qt (st:=QO) l2t b2t k2t;have B2t:=bd1 "node" F2t;have F2d:=qt (st:=ZQ) l2d b2d k2d;have B2d:=bd1 "node" F2d;have F29:=qt (st:=ZR) l29 b29 k29;have B29:=bd1 "node" F29;have F2k:=qt (st:=ZS) l2k b2k k2k;have B2k:=bd1 "node" F2k;have F2n:=qt (st:=ZT) l2n b2n k2n;have B2n:=bd1 "node" F2n;have F2e:=qt (st:=ZU) l2e b2e k2e;have B2e:=bd1 "node" F2e;have F2c:=qt (st:=Jo) l2c b2c k2c;have B2c:=bd1 "node" F2c;have F2b:=qt (st:=Qx) l2b b2b k2b;have B2b:=bd1 "node" F2b;have F2q:=qt (st:=QP) l2q b2q k2q;have B2q:=bd1 "node" F2q;have F2h:=qt (st:=ZV) l2h b2h k2h;have B2h:=bd1 "node" F2h;have F2f:=qt (st:=Jp) l2f b2f k2f;have B2f:=bd1 "node" F2f;have F2j:=qt (st:=Zn) l2j b2j k2j;have B2j:=bd1 "node" F2j;have F2o:=qt (st:=jY) l2o b2o k2o;have B2o:=bd1 "node" F2o;have F2p:=qt (st:=ZW) l2p b2p k2p;have B2p:=bd1 "node" F2p;have F2C:=qt (st:=Qc) l2C b2C k2C;have B2C:=bd1 "tree" F2C;have F2B:=qt (st:=Qg) l2B b2B k2B;have B2B:=bd1 "tree" F2B;have F1F:=qt (st:=Qy) l1F b1F k1F;have B1F:=bd4 "self" "kind" "place" "held" F1F;have F26:=qt (st:=QQ) l26 b26 k26;have B26:=bd1 "byte" F26;have F24:=qt (st:=Zo) l24 b24 k24;have B24:=bd1 "byte" F24;have F25:=qt (st:=Qz) l25 b25 k25;have B25:=bd1 "byte" F25;have F28:=qt (st:=jZ) l28 b28 k28;have B28:=bd1 "held" F28;have F0l:=qt (st:=Qh) l0l b0l k0l;have B0l:=bd2 "self" "text" F0l;have F0a:=qt (st:=jE) l0a b0a k0a;have B0a:=bd2 "self" "place" F0a;have F09:=qt (st:=jk) l09 b09 k09;have B09:=bd4 "self" "kind" "length" "held" F09;have F0e:=qt (st:=zU) l0e b0e k0e;have B0e:=bd1 "self" F0e;have F0o:=qt (st:=zN) l0o b0o k0o;have B0o:=bd1 "self" F0o;have F0c:=qt (st:=jt) l0c b0c k0c;have B0c:=bd1 "self" F0c;have F0d:=qt (st:=z7) l0d b0d k0d;have B0d:=bd1 "self" F0d;have F0g:=qt (st:=zx) l0g b0g k0g;have B0g:=bd1 "self" F0g;have F0h:=qt (st:=ju) l0h b0h k0h;have B0h:=bd1 "self" F0h;have F0b:=qt (st:=zV) l0b b0b k0b;have B0b:=bd1 "self" F0b;have F0f:=qt (st:=jl) l0f b0f k0f;have B0f:=bd1 "self" F0f;have F0m:=qt (st:=zG) l0m b0m k0m;have B0m:=bd1 "self" F0m;have F0j:=qt (st:=zW) l0j b0j k0j;have B0j:=bd1 "self" F0j;have F20:=qt (st:=qcT) l20 b20 k20;have B20:=bd1 "text" F20;have F05:=qt (st:=QA) l05 b05 k05;have B05:=bd2 "self" "first" F05;have F22:=qt (st:=qaK) l22 b22 k22;have B22:=bd2 "first" "kind" F22;have F1Z:=qt (st:=Jq) l1Z b1Z k1Z;have B1Z:=bd2 "part" "kind" F1Z;have F2z:=qt (st:=QR) l2z b2z k2z;have B2z:=bd2 "names" "token" F2z;have F1j:=qt (st:=Qi) l1j b1j k1j;have B1j:=bd2 "self" "tokens" F1j;have F1m:=qt (st:=Qj) l1m b1m k1m;have B1m:=bd1 "self" F1m;have F1l:=qt (st:=z8) l1l b1l k1l;have B1l:=bd2 "self" "kind" F1l;have F1d:=qt (st:=QB) l1d b1d k1d;have B1d:=bd2 "self" "action" F1d;have F1i:=qt (st:=zX) l1i b1i k1i;have B1i:=bd1 "self" F1i;have F1h:=qt (st:=jv) l1h b1h k1h;have B1h:=bd2 "self" "kind" F1h;have F2G:=qt (st:=qaL) l2G b2G k2G;have B2G:=bd1 "text" F2G;have F2H:=qt (st:=Qk) l2H b2H k2H;have B2H:=bd1 "text" F2H;have F2D:=qt (st:=JS) l2D b2D k2D;have B2D:=bd3 "text" "path" "other" F2D;refine⟨μ "put" "put" (ql JS) (qk JS) (qe JS) .none v2D d2D p2D y2D e2D t2D,fun s us hu=>match us,hu with | [_,_,_],_=>.of_eq rfl,fun base _ _=>?_⟩;have O1q:=qdZ (P:=P) (w:=w) (mg:=mg) (base:=base) F1q;have GR:ClsAt P w K mg base 1 c1p "Refusal" "__init__" ["self","number","place"] (Zp K):=⟨f1q,_,υ X G a1p,⟨cg,cr,cf,k1q⟩,O1q,B1q⟩;have O1A:=qbN F1A T GR;have O1T:=qcm F1T T GR;have O1P:=qbP F1P T GR;have O0E:=qbo F0E T GR;have O0R:=qc2 F0R T GR;have O1J:=qbR F1J T GR;have O26:=qgX (P:=P) (w:=w) (mg:=mg) (base:=base) F26;have O24:=qhU (P:=P) (w:=w) (mg:=mg) (base:=base) F24;have O25:=qfS F25 T ⟨f26,_,υ X G a26,O26,k26,B26⟩ ⟨f24,_,υ X G a24,O24,k24,B24⟩;have O1Y:=qhV (base:=base) F1Y T;have O28:=qd0 F28 T ⟨f1Y,_,υ X G a1Y,O1Y,k1Y,B1Y⟩;have O1F:=qfU (base:=base) F1F T;have O0l:=qeF (base:=base) F0l T;have O0a:=qjh (base:=base) F0a T;have O09:=qgZ F09 T ⟨f1F,_,υ X G a1D,⟨mk1D,a1F,i1F,kc1D⟩,O1F,B1F⟩;have O0o:=qd2 F0o T ⟨f0a,_,⟨a0a,i0a,k0a⟩,O0a,B0a⟩;have O0c:=qhW F0c T ⟨f0a,_,⟨a0a,i0a,k0a⟩,O0a,B0a⟩ ⟨f25,_,υ X G a25,O25,k25,B25⟩ ⟨f28,_,υ X G a28,O28,k28,B28⟩ ⟨f09,_,⟨a09,i09,k09⟩,O09,B09⟩ ⟨f1T,_,υ X G a1S,⟨T.Ybi,a1T,i1T,kc1S⟩,O1T,B1T⟩;have O0d:=qfV F0d T ⟨f0a,_,⟨a0a,i0a,k0a⟩,O0a,B0a⟩ ⟨f24,_,υ X G a24,O24,k24,B24⟩ ⟨f09,_,⟨a09,i09,k09⟩,O09,B09⟩ ⟨f1T,_,υ X G a1S,⟨T.Ybi,a1T,i1T,kc1S⟩,O1T,B1T⟩;have O0g:=qcq F0g T ⟨f09,_,⟨a09,i09,k09⟩,O09,B09⟩;have O0h:=qhZ F0h T ⟨f1Y,_,υ X G a1Y,O1Y,k1Y,B1Y⟩ ⟨f09,_,⟨a09,i09,k09⟩,O09,B09⟩ ⟨f1T,_,υ X G a1S,⟨T.Ybi,a1T,i1T,kc1S⟩,O1T,B1T⟩;have O0m:=qdr F0m T ⟨f0a,_,⟨a0a,i0a,k0a⟩,O0a,B0a⟩;have O0j:=qeB F0j T ⟨f0a,_,⟨a0a,i0a,k0a⟩,O0a,B0a⟩ ⟨f1T,_,υ X G a1S,⟨T.Ybi,a1T,i1T,kc1S⟩,O1T,B1T⟩;have O0f:=qg4 F0f T ⟨f0m,_,⟨a0m,i0m,k0m⟩,O0m,B0m⟩ ⟨f0j,_,⟨a0j,i0j,k0j⟩,O0j,B0j⟩ ⟨f1F,_,υ X G a1D,⟨mk1D,a1F,i1F,kc1D⟩,O1F,B1F⟩;have O0b:=qeC F0b T ⟨f0a,_,⟨a0a,i0a,k0a⟩,O0a,B0a⟩ ⟨f0f,_,⟨a0f,i0f,k0f⟩,O0f,B0f⟩ ⟨f09,_,⟨a09,i09,k09⟩,O09,B09⟩ ⟨f1T,_,υ X G a1S,⟨T.Ybi,a1T,i1T,kc1S⟩,O1T,B1T⟩;have O0e:=qeD F0e T ⟨f0a,_,⟨a0a,i0a,k0a⟩,O0a,B0a⟩ ⟨f09,_,⟨a09,i09,k09⟩,O09,B09⟩ ⟨f26,_,υ X G a26,O26,k26,B26⟩ ⟨f24,_,υ X G a24,O24,k24,B24⟩ ⟨f0o,_,⟨a0o,i0o,k0o⟩,O0o,B0o⟩ ⟨f0c,_,⟨a0c,i0c,k0c⟩,O0c,B0c⟩ ⟨f0d,_,⟨a0d,i0d,k0d⟩,O0d,B0d⟩ ⟨f0g,_,⟨a0g,i0g,k0g⟩,O0g,B0g⟩ ⟨f0h,_,⟨a0h,i0h,k0h⟩,O0h,B0h⟩;have O20:=qoE F20 T ⟨f0l,_,υ X G a08,⟨mk08,a0l,i0l,kc08⟩,O0l,B0l⟩ ⟨f0b,_,⟨a0b,i0b,k0b⟩,O0b,B0b⟩ ⟨f0e,_,⟨a0e,i0e,k0e⟩,O0e,B0e⟩;have O22:=qnF (base:=base) F22 T;have O1Z:=qkM F1Z T ⟨f22,_,υ X G a22,O22,k22,B22⟩;have O2z:=qhb F2z T ⟨f0R,_,υ X G a0Q,⟨T.Ybd,a0R,i0R,kc0Q⟩,O0R,B0R⟩;have O0W:=qha (base:=base) F0W T;have O05:=qfX (base:=base) F05 T;have O1j:=qeN (base:=base) F1j T;have O1l:=qfY F1l T ⟨f1P,_,υ X G a1O,⟨T.Ybh,a1P,i1P,kc1O⟩,O1P,B1P⟩;have O1i:=qeK F1i T ⟨f0E,_,υ X G a0D,⟨T.Ybc,a0E,i0E,kc0D⟩,O0E,B0E⟩;have O1h:=qh1 F1h T ⟨f0W,_,υ X G a0U,⟨mk0U,a0W,i0W,kc0U⟩,O0W,B0W⟩;have O1d:=qoI F1d T ⟨f05,_,υ X G a03,⟨mk03,a05,i05,kc03⟩,O05,B05⟩ ⟨f2z,_,υ X G a2z,O2z,k2z,B2z⟩ ⟨f1i,_,⟨a1i,i1i,k1i⟩,O1i,B1i⟩ ⟨f1h,_,⟨a1h,i1h,k1h⟩,O1h,B1h⟩;have O1m:=qnH F1m T ⟨f1Z,_,υ X G a1Z,O1Z,k1Z,B1Z⟩ ⟨f1d,_,⟨a1d,i1d,k1d⟩,O1d,B1d⟩ ⟨f1l,_,⟨a1l,i1l,k1l⟩,O1l,B1l⟩;have O2I:=qeP F2I T ⟨f1J,_,υ X G a1I,⟨T.Ybg,a1J,i1J,kc1I⟩,O1J,B1J⟩;have O2G:=qnJ F2G T ⟨f1A,_,υ X G a1z,⟨T.Ybf,a1A,i1A,kc1z⟩,O1A,B1A⟩ ⟨f20,_,υ X G a20,O20,k20,B20⟩ ⟨f1j,_,υ X G a1c,⟨mk1c,a1j,i1j,kc1c⟩,O1j,B1j⟩ ⟨f1m,_,⟨a1m,i1m,k1m⟩,O1m,B1m⟩ ⟨f2I,_,υ X G a2I,O2I,k2I,B2I⟩;have Q14:Xc K c14 c1p:=⟨⟨x14,sa14,ga14,gh14⟩,n16,n17,ZB u14⟩;have Q10:Xc K c10 c1p:=⟨⟨x10,sa10,ga10,gh10⟩,n12,n13,ZB u10⟩;have Q1u:Xc K c1u c1p:=⟨⟨x1u,sa1u,ga1u,gh1u⟩,n1w,n1x,ZB u1u⟩;have nR:(JD.map (·.1)).Nodup:=by decide +kernel
 have nL:((qeU ⟨f2r,f2g,f2v,f2l,f2m,f2u,f2i,f2s,f2t,f2d,f29,f2k,f2n,f2e,f2c,f2b,f2q,f2h,f2f,f2j,f2o⟩).map (·.1)).Nodup:=by rw[qms];decide +kernel
 have R:Tp P w K mg ⟨t19,t0u,t0v⟩:=⟨QT X G g19,qbu h19 s19 p19 nR,zH X G g0y,QT X G g0u,Js h0u,QT X G g0v,Js h0v,YbJ X G g21,YbJ X G g2M,YbJ X G g27,YbJ X G g2K⟩;have O1X:=qpk (base:=base) F1X T R;have O2F:=qeT (base:=base) (a:=⟨c1D,c08,c0U,c03,c1c,c1p,c1z,c1S,c1O,c0D,c0Q,c1I,t1N,t1t,t00,t0t,t0w,Jt e0w⟩) F2F R;have O2g:=qhn (base:=base) F2g T;have O2v:=qju (P:=P) (w:=w) (mg:=mg) (base:=base) (a:=⟨c1D,c08,c0U,c03,c1c,c1p,c1z,c1S,c1O,c0D,c0Q,c1I,t1N,t1t,t00,t0t,t0w,Jt e0w⟩) F2v;have O2l:=qk2 (P:=P) (w:=w) (mg:=mg) (base:=base) (a:=⟨c1D,c08,c0U,c03,c1c,c1p,c1z,c1S,c1O,c0D,c0Q,c1I,t1N,t1t,t00,t0t,t0w,Jt e0w⟩) F2l;have O2m:=qh4 (P:=P) (w:=w) (mg:=mg) (base:=base) (a:=⟨c1D,c08,c0U,c03,c1c,c1p,c1z,c1S,c1O,c0D,c0Q,c1I,t1N,t1t,t00,t0t,t0w,Jt e0w⟩) F2m;have O2r:=qht F2r T ⟨f1Y,_,υ X G a1Y,O1Y,k1Y,B1Y⟩;have O2u:=qh8 (base:=base) F2u T;have O2i:=qh7 F2i T ⟨f2F,_,υ X G a2F,O2F,k2F,B2F⟩;have O2a:=qho F2a T R ⟨f2F,_,υ X G a2F,O2F,k2F,B2F⟩;have O2s:=qf0 F2s T ⟨f2a,_,υ X G a2a,O2a,k2a,B2a⟩;have O2t:=qhq (a:=⟨c1D,c08,c0U,c03,c1c,c1p,c1z,c1S,c1O,c0D,c0Q,c1I,t1N,t1t,t00,t0t,t0w,Jt e0w⟩) F2t ⟨f2s,_,υ X G a2s,O2s,k2s,B2s⟩;have O2d:=qjF F2d T R ⟨f1X,_,υ X G a1X,O1X,k1X,B1X⟩;have O29:=qjA F29 T R ⟨f1X,_,υ X G a1X,O1X,k1X,B1X⟩;have O2k:=qjw F2k T R ⟨f1X,_,υ X G a1X,O1X,k1X,B1X⟩;have O2n:=qjy F2n T R ⟨f1X,_,υ X G a1X,O1X,k1X,B1X⟩;have O2e:=qjC F2e T R ⟨f1X,_,υ X G a1X,O1X,k1X,B1X⟩;have O2c:=qk4 (base:=base) F2c T;have O2b:=qf1 F2b T ⟨f2F,_,υ X G a2F,O2F,k2F,B2F⟩;have O2q:=qhs (base:=base) F2q T;have O2h:=qjE F2h T ⟨f2a,_,υ X G a2a,O2a,k2a,B2a⟩;have O2f:=qk6 (base:=base) F2f T;have O2j:=qh6 (base:=base) F2j T;have O2o:=qef F2o T R ⟨f1X,_,υ X G a1X,O1X,k1X,B1X⟩;have Y:qoY P w K mg base ⟨c1D,c08,c0U,c03,c1c,c1p,c1z,c1S,c1O,c0D,c0Q,c1I,t1N,t1t,t00,t0t,t0w,Jt e0w⟩ ⟨f2r,f2g,f2v,f2l,f2m,f2u,f2i,f2s,f2t,f2d,f29,f2k,f2n,f2e,f2c,f2b,f2q,f2h,f2f,f2j,f2o⟩:=⟨⟨_,O2r.mono (by decide),k2r,B2r⟩,⟨_,O2g.mono (by decide),k2g,B2g⟩,⟨_,O2v.mono (by decide),k2v,B2v⟩,⟨_,O2l.mono (by decide),k2l,B2l⟩,⟨_,O2m.mono (by decide),k2m,B2m⟩,⟨_,O2u.mono (by decide),k2u,B2u⟩,⟨_,O2i.mono (by decide),k2i,B2i⟩,⟨_,O2s.mono (by decide),k2s,B2s⟩,⟨_,O2t.mono (by decide),k2t,B2t⟩,⟨_,O2d.mono (by decide),k2d,B2d⟩,⟨_,O29.mono (by decide),k29,B29⟩,⟨_,O2k.mono (by decide),k2k,B2k⟩,⟨_,O2n.mono (by decide),k2n,B2n⟩,⟨_,O2e.mono (by decide),k2e,B2e⟩,⟨_,O2c.mono (by decide),k2c,B2c⟩,⟨_,O2b.mono (by decide),k2b,B2b⟩,⟨_,O2q.mono (by decide),k2q,B2q⟩,⟨_,O2h.mono (by decide),k2h,B2h⟩,⟨_,O2f.mono (by decide),k2f,B2f⟩,⟨_,O2j.mono (by decide),k2j,B2j⟩,⟨_,O2o.mono (by decide),k2o,B2o⟩⟩;have O2p:=qjI (base:=base) F2p T (QT X G g0A) (qbu h0A s0A p0A nL) Y;have O2C:=qeV F2C T R (υ X G a0U) ⟨i1,i2,i3,i4,i5,i6,i7,i8,i9⟩ ⟨f2p,_,υ X G a2p,O2p,k2p,B2p⟩ ⟨f1Y,_,υ X G a1Y,O1Y,k1Y,B1Y⟩;have O15:=qbB (a:=⟨c1D,c08,c0U,c03,c1c,c1p,c1z,c1S,c1O,c0D,c0Q,c1I,t1N,t1t,t00,t0t,t0w,Jt e0w⟩) F15 Q14 GR;have O2B:=qeX F2B T Q14 (zH X G g0M) ⟨f15,_,υ X G a14,⟨Q14.x,a15,i15,kc14⟩,O15,B15⟩ ⟨f2C,_,υ X G a2C,O2C,k2C,B2C⟩;have O11:=qbT (a:=⟨c1D,c08,c0U,c03,c1c,c1p,c1z,c1S,c1O,c0D,c0Q,c1I,t1N,t1t,t00,t0t,t0w,Jt e0w⟩) F11 Q10 GR;have O23:=qld F23 T Q10 (QT X G g0P) (Js h0P) ⟨f11,_,υ X G a10,⟨Q10.x,a11,i11,kc10⟩,O11,B11⟩;have O2E:=qln F2E T (YbJ X G g2x) (YbJ X G g2M) (YbJ X G g2J) ⟨f23,_,υ X G a23,O23,k23,B23⟩ ⟨f0W,_,υ X G a0U,⟨mk0U,a0W,i0W,kc0U⟩,O0W,B0W⟩;have O_RU:=qdv (P:=P) (w:=w) (mg:=mg) (base:=base) F1q;have GU:qhx P w K mg base 1 c1p "Refusal" "__init__" ["self","number","place"] (Zp K):=⟨f1q,_,υ X G a1p,⟨cg,cr,cf,k1q⟩,O_RU,B1q⟩;have O1v:=qcE (a:=⟨c1D,c08,c0U,c03,c1c,c1p,c1z,c1S,c1O,c0D,c0Q,c1I,t1N,t1t,t00,t0t,t0w,Jt e0w⟩) F1v Q1u GU;have O2H:=qeZ F2H T (υ X G a1p) Q1u ⟨f2G,_,υ X G a2G,O2G,k2G,B2G⟩ ⟨f1v,_,υ X G a1u,⟨Q1u.x,a1v,i1v,kc1u⟩,O1v,B1v⟩;exact qo1 F2D T (υ X G a1p) ⟨f2G,_,υ X G a2G,O2G,k2G,B2G⟩ ⟨f2H,_,υ X G a2H,O2H,k2H,B2H⟩ ⟨f2E,_,υ X G a2E,O2E,k2E,B2E⟩ ⟨f2I,_,υ X G a2I,O2I,k2I,B2I⟩ ⟨f2B,_,υ X G a2B,O2B,k2B,B2B⟩
end RT
end
namespace PySem.W.Fast
def tw16605822594741758740:=()
def tw13989924300616225520:=()
def tw4655912785606769874:=()
def tw11992611010933375180:=()
def tw16898739617116355136:=()
def tw6494743920960626265:=()
def tw7952574644891233468:=()
def tw16778850129377475355:=()
def tw456348508727923490:=()
def tw16191917874118922630:=()
def tw16188142158696374866:=()
def tw16679925951399980775:=()
def tw12605472269723145937:=()
def tw15618608385654562348:=()
def tw15453949436137106352:=()
def tw2532307156539841738:=()
def tw6481294025597779603:=()
def tw703670577374454691:=()
def tw6767780691756056090:=()
def tw14531545841165355114:=()
def tw3784341384526221322:=()
def tw17030983183974987145:=()
def tw3351725314451973621:=()
def tw8836000885451775087:=()
def tw7920377417361415904:=()
def tw16088120456003568882:=()
def tw496967939656080294:=()
def tw14119500094058117609:=()
def tw212977163624842515:=()
def tw9130920602330933364:=()
def tw2531706798643122095:=()
def tw15292323057217734851:=()
def tw2580759013443963098:=()
def tw6732184912761522991:=()
def tw13646501918402870859:=()
def tw5064818694082354312:=()
def tw15136787222075199370:=()
def tw7347349617175088293:=()
def tw18092276627432550999:=()
def tw4005538277744630704:=()
def tw2793638813125405177:=()
def tw8493640810379287368:=()
def tw189429231759761224:=()
def tw12785177304317183813:=()
def tw4534211523011126139:=()
def tw11412260203715996936:=()
def tw4879189670017856367:=()
def tw3135868387328621235:=()
def tw16847634607792705557:=()
def tw10261546342320761544:=()
def tw16129062234668895154:=()
def tw14440489160590047947:=()
def tw5655305636128034487:=()
def tw5447554601126085263:=()
def tw2413564396926587068:=()
def tw13570430940800849633:=()
def tw13447455816767425373:=()
def tw18402083007345415853:=()
def tw10815142078004755345:=()
def tw5851135850671027633:=()
def tw15248815260794284721:=()
def tw8330071660390179630:=()
def tw5186587974315777782:=()
def tw7838826095404477453:=()
def tw17829306379928348966:=()
def tw488795430342547138:=()
def tw10839285208978129859:=()
def tw8583876247380709712:=()
def tw5738567479068909911:=()
def tw16341797531155583233:=()
def tw2073375961041565595:=()
def tw17996618639082910419:=()
def tw5711520128697663550:=()
def tw15680358300580268693:=()
def tw10558951094695424123:=()
def tw6391269967910574609:=()
def tw15428596880862339945:=()
def tw12644714855323618928:=()
def tw1043673794619610260:=()
def tw8532413567334325490:=()
def tw1757575197404001076:=()
def tw8158791955665980614:=()
def tw13354782313659756053:=()
def tw11980879212308285991:=()
def tw7725255731169133138:=()
def tw13802154533664317221:=()
def tw18135206100348320517:=()
def tw12032384364831808863:=()
def tw8154364803342009927:=()
def tw2732629317944578670:=()
def tw18191496756900605378:=()
def tw17017490891599705796:=()
def tw18069307204520271692:=()
def tw11505516461028610167:=()
def tw3392723859997891177:=()
def tw8205797356686679189:=()
def tw3491117982441362062:=()
def tw10925296459961160974:=()
def tw4458653780250712732:=()
def tw4812865123833642739:=()
def tw3492453991441858828:=()
def tw271989325180710988:=()
def tw2151838066762552517:=()
def tw8159853556066585071:=()
def tw17043461739581583677:=()
def tw10247141611167358347:=()
def tw13565640071002501187:=()
def tw15113630935879956684:=()
def tw14788313928257218652:=()
def tw13282906171955705116:=()
def tw2623399623442482958:=()
def tw6222485753978351257:=()
def tw16552707787930136685:=()
def tw14224838355980451486:=()
def tw9222973428367892510:=()
def tw4150273876919677796:=()
def tw11515676745308643395:=()
def tw16444948744695398814:=()
def tw16551339551940502627:=()
def tw929365561845525332:=()
def tw3989546081649215543:=()
def tw316640150832240148:=()
def tw13801818755947405728:=()
def tw6290427639977603688:=()
def tw13014188981682924482:=()
def tw12521080688014407842:=()
def tw11718738007184172838:=()
def tw14959900432874627576:=()
def tw721521892113846335:=()
def tw8665109062634549336:=()
def tw10933551395653891324:=()
def tw6994221582598272642:=()
def tw886705572309302649:=()
def tw14347032260111012917:=()
def tw9139538154305671345:=()
def tw7631679583538672688:=()
def tw6648989465858333712:=()
def tw13393496714462752643:=()
def tw16069282075082384074:=()
def tw777899708139866915:=()
def tw9040592053641680438:=()
def tw2657199872091849352:=()
def tw16715619398158413011:=()
def tw11239777284418270904:=()
def tw7145147786944322126:=()
def tw9862852346523924906:=()
def tw8421498413960458657:=()
def tw5347292751403928848:=()
def tw16733058952323693542:=()
def tw4994165981034444525:=()
def tw7449696855243798831:=()
def tw12887507584120945759:=()
def tw12676027088437314848:=()
def tw10433453772616119334:=()
def tw9300668302716969681:=()
def tw6358804325117473878:=()
def tw1463343055338639255:=()
def tw12767768691633430778:=()
def tw1305243029194923880:=()
def tw7435282895912289505:=()
def tw4523175055153342780:=()
def tw9890022022754874925:=()
def tw15302335464402989894:=()
def tw16381065271542985088:=()
def tw6899081449975375947:=()
def tw13013636168619534201:=()
def tw2529112079684025269:=()
def tw11427496595974450281:=()
def tw11992394381015121114:=()
def tw9683763405550206267:=()
def tw7200010745282562655:=()
def tw93999268165867951:=()
def tw822443797523628589:=()
def tw284660487589924750:=()
def tw14625844927592719195:=()
def tw8593523154085498850:=()
def tw11832899635404883512:=()
def tw10589888641426673149:=()
def tw6931543402114579378:=()
def tw16082627243710999409:=()
def tw4462241409730691720:=()
def tw9819412119243808203:=()
def tw723334445001090250:=()
def tw3582102007077325250:=()
def tw5368001030449052480:=()
def tw16936157249746302378:=()
def tw9991901955864835730:=()
def tw11891923802407045943:=()
def tw498312269962167503:=()
def tw4302482117875549939:=()
def tw7748153716776237151:=()
def tw11007247178552643313:=()
def tw11827917558793293996:=()
def tw2296925288360354116:=()
def tw12081243575358093613:=()
def tw13702075894911254781:=()
def tw13389001167146148865:=()
def tw11410884040727480388:=()
def tw4876898077984013336:=()
def tw13692181522666890987:=()
def tw8984477544737109245:=()
def tw8167383341448184050:=()
def tw15214843916266769568:=()
def tw8875838061683102649:=()
def tw7825213660471165229:=()
def tw8382603708521588782:=()
def tw5220948465558366688:=()
def tw9452894535436647087:=()
def tw4432861713261794366:=()
def tw9120194939169480846:=()
def tw10850532531419332363:=()
def tw2739095635670284148:=()
def tw10093631280841338796:=()
def tw18117713045220409043:=()
def tw1715272344926789859:=()
def tw106898650303476437:=()
def tw17397820551526751385:=()
def tw6219956576514792546:=()
def tw8276697123262780918:=()
def tw7725090154028199473:=()
def tw14840265168118343403:=()
def tw2262113368528043264:=()
def tw9151113773117231395:=()
def tw4332194938981797494:=()
def tw17312811972005767937:=()
def tw3738508787223245086:=()
def tw4115358394085984279:=()
def tw3655141635571633987:=()
def tw16025229336264869882:=()
def tw7928697582561977705:=()
def tw2421829413059334501:=()
def tw17305520497017301872:=()
def tw11628491198332628326:=()
def tw5590460016530545731:=()
def tw10962060400509442597:=()
def tw13576708908300020571:=()
def tw288057866761186087:=()
def tw14831690360083367941:=()
def tw5575040773837501069:=()
def tw7131434930457839114:=()
def tw15124758994693063746:=()
def tw2734749618046174706:=()
def tw16144696652290513289:=()
def tw1250565359107077239:=()
def tw9289061244400700145:=()
def tw7246646806897060936:=()
def tw14494013109898056252:=()
def tw4838255732460946329:=()
def tw14228814372323279412:=()
def tw13013296135440212867:=()
def tw3013055050252710912:=()
def tw7650669122309967528:=()
def tw2343252624179215569:=()
def tw8980046487387588408:=()
def tw1236300519557328561:=()
def tw5343633362041641735:=()
def tw17598800386216166742:=()
def tw2640028323416530386:=()
def tw17010083693906745544:=()
def tw7240544972470682852:=()
def tw14395847832343242348:=()
def tw17070121075890529567:=()
def tw8868555759901922990:=()
def tw2432513877621769760:=()
def tw16696714162111894804:=()
def tw6708146866011520211:=()
def tw8453481913001624927:=()
def tw639884768700091285:=()
def tw13189821911414587243:=()
def tw2618370745977020579:=()
def tw8680938874322320561:=()
def tw1785974425050950089:=()
def tw17924480580449979268:=()
def tw5774627935912304622:=()
def tw14651887740343385258:=()
def tw12973385441758111592:=()
def tw2144008342388510499:=()
def tw681334297931919811:=()
def tw11926585466742862295:=()
def tw455911885119828583:=()
def tw13904113982707079463:=()
def tw6661869539134376807:=()
def tw13985928681953128102:=()
def tw11890135890867530782:=()
def tw17688528088010582054:=()
def tw8211609580451892973:=()
def tw9179322762187284413:=()
def tw6299256101838144316:=()
def tw18205721436387491696:=()
def tw133473608973172166:=()
def tw5928278880927903674:=()
def tw3509946988314807196:=()
def tw2408907426743788784:=()
def tw10269485574589208809:=()
def tw13630814608753363821:=()
def tw13864030081357414468:=()
def tw13083053245973147268:=()
def tw8332261086357221653:=()
def tw12148756640827046887:=()
def tw15303382758739042789:=()
def tw8332919448062410945:=()
def tw12036547338603387476:=()
def tw13141304915937730909:=()
def tw11558511086097767925:=()
def tw6720306547793648898:=()
def tw1145473520884877334:=()
def tw3894855251332384177:=()
def tw11954185221192412951:=()
def tw15673011056428859011:=()
def tw5571414663736682921:=()
def tw14665309405900137631:=()
def tw10439794805599379868:=()
def tw1600306549114294118:=()
def tw17302685675298025825:=()
def tw15895741823793681376:=()
def tw16264323389437996697:=()
def tw14105777865513801901:=()
def tw8692479310982011517:=()
def tw16139653768434066235:=()
def tw6134940486961738596:=()
def tw10303684837450773249:=()
def tw18161197761454358234:=()
def tw18154255261566649473:=()
def tw5257326973147497763:=()
def tw17974011605939500552:=()
def tw16993731177384394692:=()
def tw704996954466256874:=()
def tw15693022009915919901:=()
def tw14297985171006099190:=()
def tw7223673420303574263:=()
def tw12509048690259869884:=()
def tw3816424888592496097:=()
def tw757322418434434698:=()
def tw3042649306480898166:=()
def tw674061081001625278:=()
def tw7247165782207756871:=()
def tw8545037354676226802:=()
def tw17602276864837272752:=()
def tw5653954975237626907:=()
def tw12168855403450816614:=()
def tw2910755166631011751:=()
def tw1918369389994800555:=()
def tw7306474685363995767:=()
def tw4957656599317233498:=()
def tw635644669234031665:=()
def tw14023624606524206186:=()
def tw1115358903328104912:=()
def tw12524411694780603298:=()
def tw17193609676731539064:=()
def tw5262208111990735023:=()
def tw6352782830388963676:=()
def tw18124209653071330859:=()
def tw3824089974384659627:=()
def tw12476193138721043930:=()
def tw2798795741682190093:=()
def tw3461785617407505853:=()
def tw5937385919463151378:=()
def tw14270795610562745793:=()
def tw89172329217242315:=()
def tw8798245858820340283:=()
def tw4729018691432476509:=()
def tw2781689962522288779:=()
def tw3398481486722205338:=()
def tw18029816759525326702:=()
def tw2667282288695795941:=()
def tw15284758608520832156:=()
def tw7505714494551159467:=()
def tw4845046217740583304:=()
def tw2095869976568071505:=()
def tw979750820656941402:=()
def tw8352197291812465430:=()
def tw5219545900696560032:=()
def tw6139104187851099368:=()
def tw17180171454828080954:=()
def tw17145023942840162952:=()
def tw11054839810435022956:=()
def tw13955615786993745252:=()
def tw3963820756872740224:=()
def tw1405186574183307420:=()
def tw11440944423848000691:=()
def tw15035925096079267537:=()
def tw4909189189445815861:=()
def tw11552434044295105717:=()
def tw4113833706770169421:=()
def tw9990721482197168872:=()
def tw17143840952718436747:=()
def tw7684799418804444785:=()
def tw9228802083647462115:=()
def tw12553668361305618676:=()
def tw17295097260096437233:=()
def tw16502188155932406611:=()
def tw440948902192354463:=()
def tw12409363964052489805:=()
def tw18243585033368485186:=()
def tw12268519679567094099:=()
def tw11619006210915404499:=()
def tw5444515430336321414:=()
def tw13919158300912610178:=()
def tw9867152952358532380:=()
def tw7163243863256802002:=()
def tw3033247386410968302:=()
def tw5584706763947846557:=()
def tw3126727339581560278:=()
def tw17836659055882959245:=()
def tw9249084173599461196:=()
def tw4000501122036356252:=()
def tw16865342942536596515:=()
def tw11720802727639531532:=()
def tw2302857009675125884:=()
def tw5084359683368067244:=()
def tw17776215683004267861:=()
def tw11679268786486119065:=()
def tw5266250539533786674:=()
def tw287320188893312941:=()
def tw17330297874573461268:=()
def tw18075973642977194393:=()
def tw13611416978547734101:=()
def tw16290557771200051091:=()
def tw15143840814210259557:=()
def tw15153538037815456593:=()
def tw15020715770225039315:=()
def tw4735399219198541562:=()
def tw8121301788647172334:=()
def tw17566458637598469052:=()
def tw7974868811990904411:=()
def tw15376895357615193359:=()
def tw1418836193165332768:=()
def tw8611017242474527434:=()
def tw5848839172295987599:=()
def tw9287608604128249713:=()
def tw18229292075738929164:=()
def tw11360550361462594876:=()
def tw10143463278861885877:=()
def tw1832141419582472600:=()
def tw14589445471334652270:=()
def tw5718091594214120484:=()
def tw6658105783555025348:=()
def tw6208886069870444444:=()
def tw2289248861692209564:=()
def tw12250782482279104756:=()
def tw132840348390174225:=()
def tw15454011506563744336:=()
def tw13793404492311983275:=()
def tw13390701906007817352:=()
def tw9831619693894680206:=()
def tw10836341524240540695:=()
def tw3413047243042581746:=()
def tw10899073375908469403:=()
def tw4971154156844256844:=()
def tw17121356015311386634:=()
def tw17736548329689368062:=()
def tw15148697843592976400:=()
def tw18047867977786194826:=()
def tw10665624324980058898:=()
def tw18236069098192709470:=()
def tw7645519367626469123:=()
def tw15242827139138543163:=()
def tw16390021558316955727:=()
def tw1154054547279891774:=()
def tw11524744705457515371:=()
def tw3208262101981585952:=()
def tw2447909129090426403:=()
def tw9121516540208932253:=()
def tw15807747656981949615:=()
def tw12390884443812759822:=()
def tw3329038345541888284:=()
def tw15587675435820801862:=()
def tw15691927002884373247:=()
def tw3370677409986335102:=()
def tw17083677088564500148:=()
def tw17063677526146278598:=()
end PySem.W.Fast
open PySem PySem.W PyProof.Rows
set_option maxRecDepth 100000 in
set_option maxHeartbeats 0 in
theorem PySem.Challenge.cw_recipetexts_s06_put_holds : PySem.Challenge.rw_recipetexts_s06_put.Holds := by
 w_on;k_headS;(case hw=>exact⟨[.list [],.list [],.list []],by decide +kernel,by decide +kernel⟩)
 k_fillS
 refine L2.qi2 (r:=PySem.Challenge.rw_recipetexts_s06_put) (k:=10) (CX:=L2.CX0) (ps:=["text","path","other"]) (sp:=RT.qjM) (by decide +kernel) rfl rfl ⟨rfl,by decide,by decide⟩ (fun w h Y=>PySem.W.kIn_of Y) ?F ?S (fun _ _ _ _ z=>z)
 case F=>
  intro w mg fa h Y KX G hmg;refine' RT.qo2 KX G hmg ?a1D ?a08 ?a0U ?a03 ?a1c ?a1p ?a1z ?a1S ?a1O ?a0D ?a0Q ?a1I ?a14 ?a10 ?a1u ?a1q ?a1A ?a1T ?a1P ?a0E ?a0R ?a1J ?a11 ?a15 ?a1v ?a0W ?a2I ?a23 ?a2E ?a1Y ?a1X ?a2F ?a2g ?a2v ?a2l ?a2m ?a2r ?a2u ?a2i ?a2a ?a2s ?a2t ?a2d ?a29 ?a2k ?a2n ?a2e ?a2c ?a2b ?a2q ?a2h ?a2f ?a2j ?a2o ?a2p ?a2C ?a2B ?a1F ?a26 ?a24 ?a25 ?a28 ?a0l ?a0a ?a09 ?a0e ?a0o ?a0c ?a0d ?a0g ?a0h ?a0b ?a0f ?a0m ?a0j ?a20 ?a05 ?a22 ?a1Z ?a2z ?a1j ?a1m ?a1l ?a1d ?a1i ?a1h ?a2G ?a2H ?a2D ?l1q ?b1q ?k1q ?i1q ?l1A ?b1A ?k1A ?i1A ?l1T ?b1T ?k1T ?i1T ?l1P ?b1P ?k1P ?i1P ?l0E ?b0E ?k0E ?i0E ?l0R ?b0R ?k0R ?i0R ?l1J ?b1J ?k1J ?i1J ?l11 ?b11 ?k11 ?i11 ?l15 ?b15 ?k15 ?i15 ?l1v ?b1v ?k1v ?i1v ?l0W ?b0W ?k0W ?i0W ?l2I ?b2I ?k2I ?l23 ?b23 ?k23 ?l2E ?b2E ?k2E ?l1Y ?b1Y ?k1Y ?l1X ?b1X ?k1X ?l2F ?b2F ?k2F ?l2g ?b2g ?k2g ?l2v ?b2v ?k2v ?l2l ?b2l ?k2l ?l2m ?b2m ?k2m ?l2r ?b2r ?k2r ?l2u ?b2u ?k2u ?l2i ?b2i ?k2i ?l2a ?b2a ?k2a ?l2s ?b2s ?k2s ?l2t ?b2t ?k2t ?l2d ?b2d ?k2d ?l29 ?b29 ?k29 ?l2k ?b2k ?k2k ?l2n ?b2n ?k2n ?l2e ?b2e ?k2e ?l2c ?b2c ?k2c ?l2b ?b2b ?k2b ?l2q ?b2q ?k2q ?l2h ?b2h ?k2h ?l2f ?b2f ?k2f ?l2j ?b2j ?k2j ?l2o ?b2o ?k2o ?l2p ?b2p ?k2p ?l2C ?b2C ?k2C ?l2B ?b2B ?k2B ?l1F ?b1F ?k1F ?i1F ?l26 ?b26 ?k26 ?l24 ?b24 ?k24 ?l25 ?b25 ?k25 ?l28 ?b28 ?k28 ?l0l ?b0l ?k0l ?i0l ?l0a ?b0a ?k0a ?i0a ?l09 ?b09 ?k09 ?i09 ?l0e ?b0e ?k0e ?i0e ?l0o ?b0o ?k0o ?i0o ?l0c ?b0c ?k0c ?i0c ?l0d ?b0d ?k0d ?i0d ?l0g ?b0g ?k0g ?i0g ?l0h ?b0h ?k0h ?i0h ?l0b ?b0b ?k0b ?i0b ?l0f ?b0f ?k0f ?i0f ?l0m ?b0m ?k0m ?i0m ?l0j ?b0j ?k0j ?i0j ?l20 ?b20 ?k20 ?l05 ?b05 ?k05 ?i05 ?l22 ?b22 ?k22 ?l1Z ?b1Z ?k1Z ?l2z ?b2z ?k2z ?l1j ?b1j ?k1j ?i1j ?l1m ?b1m ?k1m ?i1m ?l1l ?b1l ?k1l ?i1l ?l1d ?b1d ?k1d ?i1d ?l1i ?b1i ?k1i ?i1i ?l1h ?b1h ?k1h ?i1h ?l2G ?b2G ?k2G ?l2H ?b2H ?k2H ?l2D ?b2D ?k2D ?pg1D ?hd1D ?po1D ?sa1D ?mk1D ?kc1D ?n1G ?n1H ?n1E ?pg08 ?hd08 ?po08 ?sa08 ?mk08 ?kc08 ?n0q ?n0p ?n0r ?n0n ?n0k ?n0i ?pg0U ?hd0U ?po0U ?sa0U ?mk0U ?kc0U ?n0Y ?n0Z ?n0X ?n0V ?pg03 ?hd03 ?po03 ?sa03 ?mk03 ?kc03 ?n04 ?n06 ?n07 ?pg1c ?hd1c ?po1c ?sa1c ?mk1c ?kc1c ?n1n ?n1e ?n1k ?n1o ?n1g ?n1f ?x1p ?sa1p ?ga1p ?gh1p ?u1p ?kc1p ?n1r ?n1s ?x1z ?sa1z ?ga1z ?gh1z ?u1z ?kc1z ?n1B ?n1C ?x1S ?sa1S ?ga1S ?gh1S ?u1S ?kc1S ?n1U ?n1V ?x1O ?sa1O ?ga1O ?gh1O ?u1O ?kc1O ?n1Q ?n1R ?x0D ?sa0D ?ga0D ?gh0D ?u0D ?kc0D ?n0F ?n0G ?x0Q ?sa0Q ?ga0Q ?gh0Q ?u0Q ?kc0Q ?n0S ?n0T ?x1I ?sa1I ?ga1I ?gh1I ?u1I ?kc1I ?n1K ?n1L ?cg ?cr ?cf ?g1y ?g0C ?g1a ?g02 ?g18 ?g0x ?g0s ?g0H ?g1W ?g01 ?g1M ?g0B ?g1b ?g0L ?g0J ?g0O ?g0N ?g0K ?g0I ?g2w ?g2A ?g2y ?g2L ?g1N ?h1N ?g1t ?h1t ?g00 ?h00 ?g0t ?h0t ?s0t ?g0w ?h0w ?s0w ?p0t ?p0w ?q0w ?x14 ?sa14 ?ga14 ?gh14 ?u14 ?kc14 ?n16 ?n17 ?x10 ?sa10 ?ga10 ?gh10 ?u10 ?kc10 ?n12 ?n13 ?x1u ?sa1u ?ga1u ?gh1u ?u1u ?kc1u ?n1w ?n1x ?g0y ?g0M ?g0u ?h0u ?g0v ?h0v ?g0P ?h0P ?g21 ?g2M ?g27 ?g2K ?g2x ?g2J ?g19 ?h19 ?s19 ?g0A ?h0A ?s0A ?p19 ?p0A ?i1 ?i2 ?i3 ?i4 ?i5 ?i6 ?i7 ?i8 ?i9
  (case a1D|a08|a0U|a03|a1c|a1p|a1z|a1S|a1O|a0D|a0Q|a1I|a14|a10|a1u|a1q|a1A|a1T|a1P|a0E|a0R|a1J|a11|a15|a1v|a0W|a2I|a23|a2E|a1Y|a1X|a2F|a2g|a2v|a2l|a2m|a2r|a2u|a2i|a2a|a2s|a2t|a2d|a29|a2k|a2n|a2e|a2c|a2b|a2q|a2h|a2f|a2j|a2o|a2p|a2C|a2B|a1F|a26|a24|a25|a28|a0l|a0a|a09|a0e|a0o|a0c|a0d|a0g|a0h|a0b|a0f|a0m|a0j|a20|a05|a22|a1Z|a2z|a1j|a1m|a1l|a1d|a1i|a1h|a2G|a2H|a2D|l1q|b1q|k1q|i1q|l1A|b1A|k1A|i1A|l1T|b1T|k1T|i1T|l1P|b1P|k1P|i1P|l0E|b0E|k0E|i0E|l0R|b0R|k0R|i0R|l1J|b1J|k1J|i1J|l11|b11|k11|i11|l15|b15|k15|i15|l1v|b1v|k1v|i1v|l0W|b0W|k0W|i0W|l2I|b2I|k2I|l23|b23|k23|l2E|b2E|k2E|l1Y|b1Y|k1Y|l1X|b1X|k1X|l2F|b2F|k2F|l2g|b2g|k2g|l2v|b2v|k2v|l2l|b2l|k2l|l2m|b2m|k2m|l2r|b2r|k2r|l2u|b2u|k2u|l2i|b2i|k2i|l2a|b2a|k2a|l2s|b2s|k2s|l2t|b2t|k2t|l2d|b2d|k2d|l29|b29|k29|l2k|b2k|k2k|l2n|b2n|k2n|l2e|b2e|k2e|l2c|b2c|k2c|l2b|b2b|k2b|l2q|b2q|k2q|l2h|b2h|k2h|l2f|b2f|k2f|l2j|b2j|k2j|l2o|b2o|k2o|l2p|b2p|k2p|l2C|b2C|k2C|l2B|b2B|k2B|l1F|b1F|k1F|i1F|l26|b26|k26|l24|b24|k24|l25|b25|k25|l28|b28|k28|l0l|b0l|k0l|i0l|l0a|b0a|k0a|i0a|l09|b09|k09|i09|l0e|b0e|k0e|i0e|l0o|b0o|k0o|i0o|l0c|b0c|k0c|i0c|l0d|b0d|k0d|i0d|l0g|b0g|k0g|i0g|l0h|b0h|k0h|i0h|l0b|b0b|k0b|i0b|l0f|b0f|k0f|i0f|l0m|b0m|k0m|i0m|l0j|b0j|k0j|i0j|l20|b20|k20|l05|b05|k05|i05|l22|b22|k22|l1Z|b1Z|k1Z|l2z|b2z|k2z|l1j|b1j|k1j|i1j|l1m|b1m|k1m|i1m|l1l|b1l|k1l|i1l|l1d|b1d|k1d|i1d|l1i|b1i|k1i|i1i|l1h|b1h|k1h|i1h|l2G|b2G|k2G|l2H|b2H|k2H|l2D|b2D|k2D|pg1D|hd1D|po1D|sa1D|mk1D|kc1D|n1G|n1H|n1E|pg08|hd08|po08|sa08|mk08|kc08|n0q|n0p|n0r|n0n|n0k|n0i|pg0U|hd0U|po0U|sa0U|mk0U|kc0U|n0Y|n0Z|n0X|n0V|pg03|hd03|po03|sa03|mk03|kc03|n04|n06|n07|pg1c|hd1c|po1c|sa1c|mk1c|kc1c|n1n|n1e|n1k|n1o|n1g|n1f=>k_is)
  (case x1p=>kernel_rfl)
  (case sa1p|ga1p|gh1p=>k_is)
  (case u1p=>kernel_rfl)
  (case kc1p|n1r|n1s=>k_is)
  (case x1z=>kernel_rfl)
  (case sa1z|ga1z|gh1z=>k_is)
  (case u1z=>kernel_rfl)
  (case kc1z|n1B|n1C=>k_is)
  (case x1S=>kernel_rfl)
  (case sa1S|ga1S|gh1S=>k_is)
  (case u1S=>kernel_rfl)
  (case kc1S|n1U|n1V=>k_is)
  (case x1O=>kernel_rfl)
  (case sa1O|ga1O|gh1O=>k_is)
  (case u1O=>kernel_rfl)
  (case kc1O|n1Q|n1R=>k_is)
  (case x0D=>kernel_rfl)
  (case sa0D|ga0D|gh0D=>k_is)
  (case u0D=>kernel_rfl)
  (case kc0D|n0F|n0G=>k_is)
  (case x0Q=>kernel_rfl)
  (case sa0Q|ga0Q|gh0Q=>k_is)
  (case u0Q=>kernel_rfl)
  (case kc0Q|n0S|n0T=>k_is)
  (case x1I=>kernel_rfl)
  (case sa1I|ga1I|gh1I=>k_is)
  (case u1I=>kernel_rfl)
  (case kc1I|n1K|n1L|cg|cr|cf|g1y|g0C|g1a|g02|g18|g0x|g0s|g0H|g1W|g01|g1M|g0B|g1b|g0L|g0J|g0O|g0N|g0K|g0I|g2w|g2A|g2y|g2L|g1N=>k_is)
  (case h1N=>kernel_rfl)
  (case g1t=>k_is)
  (case h1t=>kernel_rfl)
  (case g00=>k_is)
  (case h00=>kernel_rfl)
  (case g0t|h0t=>k_is)
  (case s0t=>rfl)
  (case g0w|h0w=>k_is)
  (case s0w=>rfl)
  (case p0t=>repeat' (first|exact .nil|refine .cons ⟨(by kernel_rfl),(by kernel_rfl),⟨_,rfl⟩⟩ ?_))
  (case p0w=>repeat' (first|exact .nil|refine .cons ⟨(by kernel_rfl),(by kernel_rfl),(show DictEntry.val _=Value.ref _ by kernel_rfl)⟩ ?_))
  (case q0w|x14=>kernel_rfl)
  (case sa14|ga14|gh14=>k_is)
  (case u14=>kernel_rfl)
  (case kc14|n16|n17=>k_is)
  (case x10=>kernel_rfl)
  (case sa10|ga10|gh10=>k_is)
  (case u10=>kernel_rfl)
  (case kc10|n12|n13=>k_is)
  (case x1u=>kernel_rfl)
  (case sa1u|ga1u|gh1u=>k_is)
  (case u1u=>kernel_rfl)
  (case kc1u|n1w|n1x|g0y|g0M|g0u=>k_is)
  (case h0u=>kernel_rfl)
  (case g0v=>k_is)
  (case h0v=>kernel_rfl)
  (case g0P=>k_is)
  (case h0P=>kernel_rfl)
  (case g21|g2M|g27|g2K|g2x|g2J|g19|h19=>k_is)
  (case s19=>rfl)
  (case g0A|h0A=>k_is)
  (case s0A=>rfl)
  (case p19=>repeat' (first|exact .nil|refine .cons ⟨(by kernel_rfl),(by kernel_rfl),⟨_,rfl⟩⟩ ?_))
  (case p0A=>repeat' (first|exact .nil|refine .cons ⟨(by kernel_rfl),(by kernel_rfl),(show DictEntry.val _=Value.ref _ by kernel_rfl)⟩ ?_))
  (case i1|i2=>k_is)
  (case i3|i4|i5|i6|i7|i8|i9=>kernel_rfl)
 case S=>
  intro K H xs a hO hwi hask hx;cases hx with
  |cons h1 h2=>
   cases h2 with
   |cons h2 h3=>
   cases h3 with
   |cons h3 h4=>
   cases h4;cases h1 with
   |lst hs ha=>
   cases h2 with
   |lst hs2 ha2=>
   cases h3 with
   |lst hs3 ha3=>
    have e:=L2.qcN a.1 _ ha;subst e;have e2:=L2.qcN a.2.1 _ ha2;subst e2;have e3:=L2.qcN a.2.2.1 _ ha3;subst e3;have q:((Codec.inLen 0 4096 a.1&&a.1.all (Codec.inInt 0 255))&&((Codec.inLen 0 64 a.2.1&&a.2.1.all (Codec.inInt (-1000000000000000000) 1000000000000000000))&&((Codec.inLen 0 4096 a.2.2.1&&a.2.2.1.all (Codec.inInt 0 255))&&true)))=true:=hwi;simp only[Bool.and_eq_true]at q;have hb:NeutralIO.bytes a.1=true:=List.all_eq_true.mpr fun x hx=>by have:=List.all_eq_true.mp q.1.2 x hx;exact this
    have hb2:NeutralIO.bytes a.2.2.1=true:=List.all_eq_true.mpr fun x hx=>by have:=List.all_eq_true.mp q.2.2.1.2 x hx;exact this
    have hl:a.2.1.length<=1000:=by have z:(decide (0<=a.2.1.length)&&decide (a.2.1.length<=64))=true:=q.2.1.1;simp only[Bool.and_eq_true,decide_eq_true_eq]at z;omega
    refine⟨_,_,_,VastoaNeutral.text a.1,a.2.1,VastoaNeutral.text a.2.2.1,rfl,?_,hs2,hl,?_,fun H' p hp=>.lst (L2.SqL.of hp) ?_⟩
    ·rw[RT.qiv a.1 hb];exact hs
    ·rw[RT.qiv a.2.2.1 hb2];exact hs3
    ·rw[RT.qnR a.1 a.2.1 a.2.2.1 hb hb2];exact L2.qii _
