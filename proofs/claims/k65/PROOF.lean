import PyProof.Rows.All
import Wide.All
import OpenK.AllK
import Wide.FinOn
import Lean
import PyProof.EqAt
import PyProof.EqKinds
import PyProof.TupleCall
import PyProof.NeData
import PyProof.ZipIter
import PyProof.WalksEnum
import PyProof.Rows.SetFrom
import PyProof.StrLawsTight
import PyProof.StrLawsChain
import PyProof.StrCalls2
import PyProof.ListStr
import PyProof.Rows.StrOrd
import KE.KRevIter
import PyProof.ExcInit
import PyProof.InstStoreFacts
import PyProof.ExcArgs
import PyProof.ExcAttrAll.ValueError
import PyProof.NsDelKeeps
import PyProof.RulesAs
import OpenK.KCls
import PyProof.Rows.TupAssign
import PyProof.StrLawsIn
import KE.KDictSum
import PyProof.DictWalks
import PyProof.Rows.CountFlat
import KE.KTryMore
import KE.KxWritten
import KE.KStrOpen
import KE.KSortTup
import KE.KNest
import PyProof.FString5
import KE.KDictList
import PySem.Challenge.RW_turnleaf_k65_leaves_by_places
open PySem renaming Addr->δ,Value->ε,Shared->μ,Expr->ν,wpAny->π,model->Ϧ,Stmt->ϧ,sizeLine->ϩ,wpAny_bind->Ϫ,Heap->ϫ,World->Ϭ,Program->Ϯ,starEach->ϯ,Around->ϰ,sizeLine_eq->ϱ,wpAny_pure->ϲ,compareOp->adh,wpAny_mono->adu,wpAny_holding->afE,wpAny_truthy_bool->afP,Scope->agJ,FuncData->ahy,codeAny_mono->aiS,wpAny_Call_Name_kw->akj,swapsWith->akr,wpAny_standAt->akH,SetTable->akK,assignEach->ald,tupleKind_room_in1->ali,ExceptHandler->alO,wpAny_loadPart_at->al4,wpAny_passesOwn->amP,codeAny_builtin->amR,call_meets->amW,PyData->amX,PassesOwn->amZ,NameKind->am4,wpAny_newObj_type->am5
open PySem.W renaming Frag->Ϩ,findIn->aez,specialIn->ahA,mg_of->aki,emptyDict->alb,hasDictIn->al7,kia_one->amA,keepIn->amG,instObj->am9,mroIn->anc,plainGet->anh,takerIn->ani,methodCall_KW->anl,readsIn->anv,findCls->anw,methodObj->anB,plainOver->anC,typeIn->anD,codeIn->anE,takesIn->anN,callWith_K->anQ,fnOf->anZ,plainGet_of->aob,isFn->aoc,looks_clsIn->aod,kitOne->aoe,makesIn->aoz,looks_findIn->aoF,nsIn->aoJ,lookIn->aoL,excIn->aoT
open Nat renaming le_refl->ϭ,ne_of_lt->abF,lt_of_lt_of_le->abX,lt_of_le_of_lt->ae6,le_trans->aft,zero_le->afS,add_le_add_left->afX,lt_irrefl->ahP,min_eq_left->aiE,le_add_right->alo,lt_succ_of_lt->amg,min_eq_right->amM,le_succ->amT,le_of_lt->ana,le_of_eq->anb,zero_add->anq,mod_lt->anA,min_le_right->anG,ne_of_gt->anM,mul_le_mul_right->anY,sub_zero->aom,lt_succ_self->aoo,min_le_left->aoA,succ_mul->aoP,mul_comm->aoQ,toDigits->aoR,add_zero->aoS
open List renaming getElem?_eq_getElem->ϳ,mem_cons->ϴ,getElem?_eq_some_iff->aae,length_map->aaf,mem_of_getElem?->aaJ,size_toArray->aaU,getElem?_map->aa2,getD_eq_getElem?_getD->abm,length_append->ab7,mem_append_right->acp,mem_map->acQ,mem_cons_of_mem->acV,range->ady,all_eq_true->adM,mem_append->adT,mem_singleton->adY,length_singleton->ad5,toArray->aee,mem_cons_self->aek,length_take->ae1,length_drop->afw,length_range->af7,mem_append_left->agg,map_map->agn,take_of_length_le->agN,replicate->agR,lookup->agW,mem_of_mem_drop->ag4,mem_of_mem_take->ahj,getElem_mem->ahu,getElem?_append_left->ahS,mem_filter->aia,length_filter_le->aiz,mem_range->aiV,nodup_cons->ajw,getElem?_concat_length->ajP,mem_filterMap->akD,pairwise_iff_getElem->akF,ne_nil_of_length_eq_add_one->akI,dropLast_concat_getLast->alT,pairwise_cons->al1,pairwise_map->amv,getElem_inj->amF,getElem_of_mem->amU,length_eq_zero_iff->am2,map_append->am3,length->am6,nodup_append->am7,any_eq_true->ane,nodup_range->anf,pairwise_append->ang,replicate_succ->anj,map_congr_left->anm,filter_append->anp,take_add_one->anu,mapM_toArray->anx,append_assoc->anz,take_length->anH,getElem?_set_self->anI,drop_of_length_le->anK,range_succ_eq_map->anL,of_mem_zip->anO,length_replicate->anP,pairwise_reverse->anS,getElem?_reverse->anT,take_append_drop->anU,getElem?_set_ne->anW,drop_zero->an0,length_reverse->an6,filter_sublist->an7,getElem?_range->an8,length_pos_iff->an9,reverse_perm->aoj,all_map->aon,mem_reverse->aoq,drop_length->aor,cons_append->aot,ext_getElem->aou,map_reverse->aov,all_toArray->aox,mem_flatten->aoy,map_id->aoB,nil_append->aoC,not_lt->aoD,range_succ->aoE,drop_drop->aoG,lt_irrefl->aoH,map->aoM,lt_trans->aoN,Nodup->aoU
open Bool renaming false_ne_true->aaD,and_eq_true->aaH,eq_iff_iff->aik,eq_false_iff->ajh,false_and->alE,true_and->amn,false_eq_true->am0,or_eq_true->am1,false_or->anF,or_false->aof,not_eq_true->aop,true_or->aoO
open PySem.Heap renaming lt_size->aaY,get?_push_size->abE,get?_update_other->acu,get?_update_self->aeJ,get?_none_of_le->aiN,SameBut->akZ,get?_update_ne->amV,size_push->am8,size_after_update->anJ,MadeExcOf->an5,get?_push_at->aoi,get?_push_ne->aok,size_update->aow
open Int renaming eq_ofNat_of_zero_le->adz,emod_lt_of_pos->akE,emod_nonneg->akJ,toNat_natCast->anr,toNat->anV,zero_add->aol,mul_nonneg->aoI
open Array renaming getElem?_setIfInBounds_ne->ahH,getElem?_eq_some_iff->akn,length_toList->ak7,toList_append->ank,perm_iff_toList_perm->ano,getElem?_toList->anR,find?_toList->aoa,forIn_toList->aog,size_append->aoh,toList_inj->aos,getD->aoK
open Option renaming map_eq_some_iff->akk,isSome_iff_exists->amY,isSome_map->ant
set_option maxHeartbeats 4000000
set_option Elab.async false
set_option linter.all false
set_option maxRecDepth 100000
local macro_rules | `(tactic| walk_at "sc") => `(tactic| exact ⟨rfl, rfl, rfl, by decide +kernel, rfl, by decide +kernel, by decide +kernel⟩)
local macro_rules | `(tactic| omega) => `(tactic| lia)
namespace L2
open PySem PySem.Spec PyProof.Rows
abbrev Key:=Sum Int Str
def oY:Key->ε->Bool
 |.inl k,v=>Value.isInt k v
 |.inr x,v=>Value.isStrOf x v
def afF(w:Ϭ):Key->Int
 |.inl k=>hashInt k
 |.inr x=>hashStr w x
theorem f9:∀{k:Key}{v:ε},oY k v=true->(∃i t,k=Sum.inl i/\v=Value.int i t)\/(∃x t,k=Sum.inr x/\v=Value.str x t)
 |.inl i,v,h=>by
   obtain⟨t,e⟩:=Value.isInt_shape (k:=i) (v:=v) h;exact .inl ⟨i,t,rfl,e⟩
 |.inr x,v,h=>by
   obtain⟨t,e⟩:=Value.isStrOf_shape (x:=x) (v:=v) h;exact .inr ⟨x,t,rfl,e⟩
theorem Tt(i:Int)(t:Tok):oY (.inl i) (.int i t)=true:=by simp[oY,Value.isInt]
theorem Xn(x:Str)(t:Tok):oY (.inr x) (.str x t)=true:=by simp[oY,Value.isStrOf]
theorem ajb(a b:Int):decide ((Sum.inl a:Key)=Sum.inl b)=(a==b):=by
 by_cases e:a=b
 .subst e;simp
 .have h:¬(Sum.inl a:Key)=Sum.inl b:=λq=>e (Sum.inl.inj q)
  rw[decide_eq_false h];exact(beq_eq_false_iff_ne.mpr e).symm
theorem aaV(a b:Str):decide ((Sum.inr a:Key)=Sum.inr b)=decide (a=b):=by
 by_cases e:a=b
 .subst e;simp
 .have h:¬(Sum.inr a:Key)=Sum.inr b:=λq=>e (Sum.inr.inj q)
  rw[decide_eq_false h,decide_eq_false e]
theorem VH(a:Int)(b:Str):decide ((Sum.inl a:Key)=Sum.inr b)=false:=decide_eq_false (λq=>nomatch q)
theorem abp(a:Str)(b:Int):decide ((Sum.inr a:Key)=Sum.inl b)=false:=decide_eq_false (λq=>nomatch q)
def bx(prog:Ϯ)(w:Ϭ):PySem.KeyKind prog w Key where
 is:=oY
 hash:=afF w
 inj:=λv a b ha hb=>by
  obtain⟨i,t,rfl,rfl⟩|⟨x,t,rfl,rfl⟩:=f9 ha
  .obtain⟨j,u,rfl,e⟩|⟨y,u,rfl,e⟩:=f9 hb
   .injection e with e1 _;rw[e1]
   .exact nomatch e
  .obtain⟨j,u,rfl,e⟩|⟨y,u,rfl,e⟩:=f9 hb
   .exact nomatch e
   .injection e with e1 _;rw[e1]
 byValue:=λk v h=>by
  obtain⟨i,t,rfl,rfl⟩|⟨x,t,rfl,rfl⟩:=f9 h<;>rfl
 pyHash:=λhv h=>by
  obtain⟨i,t,rfl,rfl⟩|⟨x,t,rfl,rfl⟩:=f9 hv
  .exact wpAny_pyHash_int h
  .exact wpAny_pyHash_str h
 eqBool:=λhu hv h=>by
  obtain⟨i,t,rfl,rfl⟩|⟨x,t,rfl,rfl⟩:=f9 hu
  .obtain⟨j,u,rfl,rfl⟩|⟨y,u,rfl,rfl⟩:=f9 hv
   .rw[ajb]at h;exact wpAny_eqBool_int h
   .rw[VH]at h;exact SeqAt.EqAt.int_str i t y u _ _ _ _ h
  .obtain⟨j,u,rfl,rfl⟩|⟨y,u,rfl,rfl⟩:=f9 hv
   .rw[abp]at h;exact SeqAt.EqAt.str_int x t j u _ _ _ _ h
   .rw[aaV]at h;exact wpAny_eqBool_str h
 «strs» :=λk x t v h=>by
  obtain⟨i,u,rfl,e⟩|⟨y,u,rfl,e⟩:=f9 h
  .exact nomatch e
  .injection e with e1 _
   subst e1;cases v<;>rfl
theorem aei(prog:Ϯ)(w:Ϭ)(i:Int)(t:Tok):(bx prog w).is (.inl i) (.int i t)=true:=Tt i t
theorem ajr(prog:Ϯ)(w:Ϭ)(x:Str)(t:Tok):(bx prog w).is (.inr x) (.str x t)=true:=Xn x t
inductive V where
 |non|bl (b:Bool)|int (i:Int)|str (x:Str)|byt (b:Array UInt8)|flt (b:UInt64)|ref (a:δ)|ty (n:String)
 deriving DecidableEq
def RelV:V->ε->Prop
 |.non,u=>u=Value.none
 |.bl b,u=>u=Value.bool b
 |.int i,u=>∃t,u=Value.int i t
 |.str x,u=>∃t,u=Value.str x t
 |.byt b,u=>∃t,u=Value.bytes b t
 |.flt b,u=>∃t,u=Value.float b t
 |.ref a,u=>u=Value.ref a
 |.ty n,u=>u=Value.type n
abbrev Vals:List V->List ε->Prop:=Paired RelV
theorem Vals.length{xs:List V}{us:List ε}(r:Vals xs us):xs.length=us.length:=Paired.length r
theorem Vals.get:∀{xs:List V}{us:List ε}{i:Nat}{x:V},Vals xs us->xs[i]?=some x->∃u,us[i]?=some u/\RelV x u
 |_,_,_,_,.nil,e=>by simp at e
 |_,_,0,_,.cons r _,e=>by simp at e;subst e;exact⟨_,rfl,r⟩
 |_,_,i+1,x,.cons _ t,e=>by
  obtain⟨u,h1,h2⟩:=Vals.get (i:=i) (x:=x) t (by simpa using e);exact⟨u,by simpa using h1,h2⟩
theorem Vals.append:∀{xs ys:List V}{us ws:List ε},Vals xs us->Vals ys ws->Vals (xs++ys) (us++ws)
 |_,_,_,_,.nil,s=>s
 |_,_,_,_,.cons r t,s=>.cons r (Vals.append t s)
theorem Vals.take:∀{xs:List V}{us:List ε}(n:Nat),Vals xs us->Vals (xs.take n) (us.take n)
 |_,_,0,_=>.nil
 |_,_,_+1,.nil=>.nil
 |_,_,n+1,.cons r t=>.cons r (Vals.take n t)
theorem Vals.drop:∀{xs:List V}{us:List ε}(n:Nat),Vals xs us->Vals (xs.drop n) (us.drop n)
 |_,_,0,r=>r
 |_,_,_+1,.nil=>.nil
 |_,_,n+1,.cons _ t=>Vals.drop n t
def bN:Option V->Option ε->Prop
 |some v,some u=>RelV v u
 |none,none=>True
 |_,_=>False
def KV{κ:Type}:List (κ×V)->List (κ×ε)->Prop:=Paired λ(p:κ×V)(q:κ×ε)=>p.1=q.1/\RelV p.2 q.2
def kV:Key->V
 |.inl i=>.int i
 |.inr x=>.str x
inductive HO where
 |lst (xs:List V)
 |tup (xs:List V)
 |dK (Ϸ:List (Key×V))|dT (Ϸ:List (List Key×V))
 |set (S:Int->Bool) (n:Nat)
 |ins (C dx:δ) (fs:List (Str×V))
 |own (x:δ)
 |xd (fs:List (Str×V))
 |met (f x:δ)
 |rng (lo hi:Int)
 |frz (o:Obj) (u:HO)
 |tbl (ps:Array ε)
 |ext (φ:ϫ->Prop)
abbrev Hp:=δ->Option HO
def upd(H:Hp)(a:δ)(o:HO):Hp:=λb=>if b=a then some o else H b
theorem υ{H:Hp}{a:δ}{o:HO}:upd H a o a=some o:=by unfold upd;rw[if_pos rfl]
theorem θ{H:Hp}{a b:δ}{o:HO}(h:b≠a):upd H a o b=H b:=by unfold upd;rw[if_neg h]
theorem aeS{H:Hp}{a b:δ}{o u:HO}(h:H a=some o)(h':H b=some u)(d:o≠u):a≠b:=by
 intro e;subst e;rw[h]at h';exact d (Option.some.inj h')
theorem Ι{H:Hp}{a b:δ}{o:HO}(h:H a=some o)(h':H b=none):a≠b:=by
 intro e;subst e;rw[h]at h';cases h'
section
variable(P:Ϯ)(w:Ϭ)
def Φ(H:Hp)(h:ϫ)(a:δ):HO->Prop
 |.lst xs=>xs.length<=ϩ/\∃(ϸ:List ε)(n:Nat),Vals xs ϸ/\h.get? a=some {cls:=.type "list",data:=.seq ϸ.toArray n}
 |.tup xs=>xs.length<=ϩ/\∃ϸ:List ε,Vals xs ϸ/\IsTup h a ϸ.toArray
 |.dK Ϸ=>Ϸ.length<=ϩ/\(a==sysModules)=false/\∃vs,KV Ϸ vs/\h.DictOf (bx P w) a vs
 |.dT Ϸ=>Ϸ.length<=ϩ/\(a==sysModules)=false/\∃xs:List (List Key×δ×ε),
   Paired (λ(p:List Key×V)(q:List Key×δ×ε)=>p.1=q.1/\H q.2.1=some (.tup (p.1.map kV))/\RelV p.2 q.2.2) Ϸ xs/\
   ∃o es ep,h.get? a=some o/\o.ExactDict/\o.data=.dict es ep/\es.toList=xs.map (entryOfKey (tupleKind (bx P w)))/\(xs.map (·.1)).Nodup
 |.set S n=>h.SetOf (intKind P w) a S n
 |.ins C dx fs=>H dx=some (.own a)/\fs.length<=1000/\dx≠a/\h.get? a=some (am9 C dx)/\
   ∃mA,h.Ns1 dx mA/\(∀f,bN (fs.lookup f) (mA f))/\PySem.Within mA (fs.map (·.1))
 |.own _=>∃o,h.get? a=some o
 |.xd fs=>∃mA,h.Ns1 a mA/\∀f,bN (fs.lookup f) (mA f)
 |.rng lo hi=>∃t u v,h.get? a=some {cls:=.type "range",data:=.fields #[.int lo t,.int hi u,.int 1 v]}
 |.frz o u=>h.get? a=some o/\ Φ H h a u
 |.tbl ps=>∃qs:Array ε,h.get? a=some {cls:=.none,data:=.fields qs}/\TriplesOk qs.toList/\∀(p:Pos)(cv:ε),codeAmong p qs.toList=some cv->∃c oc u q t vs t',cv=.ref c/\codeAmong p ps.toList=some (.str q t)/\H c=some (.frz oc u)/\oc.data=.fields vs/\vs[1]?=some (.str q t')
 |.met f x=>h.get? a=some (anB (.ref f) (.ref x))
 |.ext φ=>φ h/\(∃o,h.get? a=some o)/\∀h1 h2:ϫ,φ h1->(∀o,h1.get? a=some o->h2.get? a=some o)->φ h2
def Ϟ(H:Hp)(h:ϫ):=∀a o,H a=some o->Φ P w H h a o
end
section
variable{P:Ϯ}{w:Ϭ}{H H':Hp}{h h':ϫ}{a:δ}{o:HO}
theorem Φ.lt(x:Φ P w H h a o):a<h.objs.size:=by
 cases o with
 |lst xs=>obtain⟨_,_,_,_,e⟩:=x;exact aaY e
 |tup xs=>obtain⟨_,_,_,p⟩:=x;exact p.lt
 |dK Ϸ=>obtain⟨_,_,_,_,o,_,_,e,_⟩:=x;exact aaY e
 |dT Ϸ=>obtain⟨_,_,_,_,o,_,_,e,_⟩:=x;exact aaY e
 |set S n=>obtain⟨o,_,_,_,e,_⟩:=x;exact aaY e
 |ins C dx fs=>obtain⟨_,_,_,e,_⟩:=x;exact aaY e
 |own y=>obtain⟨_,e⟩:=x;exact aaY e
 |xd fs=>obtain⟨_,⟨_,_,_,e,_⟩,_⟩:=x;exact aaY e
 |rng lo hi=>obtain⟨_,_,_,e⟩:=x;exact aaY e
 |frz ob u=>obtain⟨e,_⟩:=x;exact aaY e
 |tbl ps=>obtain⟨_,e,_⟩:=x;exact aaY e
 |met f y=>exact aaY (show h.get? a=some _ from x)
 |ext φ=>obtain⟨_,⟨_,e⟩,_⟩:=x;exact aaY e
theorem Paired.mapP{α β:Type}{F G:α->β->Prop}:∀{l₁:List α}{l₂:List β},Paired F l₁ l₂->(∀a b,F a b->G a b)->Paired G l₁ l₂
 |_,_,.nil,_=>.nil
 |_,_,.cons r t,f=>.cons (f _ _ r) (Paired.mapP t f)
theorem Φ.stay(x:Φ P w H h a o)(k:∀b u,(b=a\/H b=some (.own a))->h.get? b=some u->h'.get? b=some u)(ho:∀b,H b=some (.own a)->H' b=some (.own a))(ht:∀b xs,H b=some (.tup xs)->H' b=some (.tup xs))(hz:∀b ob u,H b=some (.frz ob u)->H' b=some (.frz ob u):=by exact λ_ _ _ q=>q):Φ P w H' h' a o:=by
 induction o with
 |lst xs=>obtain⟨z,ϸ,n,r,e⟩:=x;exact⟨z,ϸ,n,r,k _ _ (.inl rfl) e⟩
 |tup xs=>obtain⟨z,ϸ,r,ob,e,c⟩:=x;exact⟨z,ϸ,r,ob,k _ _ (.inl rfl) e,c⟩
 |dK Ϸ=>obtain⟨z,y,vs,r,ob,es,ep,e,c⟩:=x;exact⟨z,y,vs,r,ob,es,ep,k _ _ (.inl rfl) e,c⟩
 |dT Ϸ=>
  obtain⟨z,y,xs,r,ob,es,ep,e,c⟩:=x;exact⟨z,y,xs,Paired.mapP r λp q z=>⟨z.1,ht _ _ z.2.1,z.2.2⟩,ob,es,ep,k _ _ (.inl rfl) e,c⟩
 |set S n=>obtain⟨ob,es,ep,t,e,c⟩:=x;exact⟨ob,es,ep,t,k _ _ (.inl rfl) e,c⟩
 |ins C dx fs=>
  obtain⟨d,z,ne,e,mA,⟨od,es,ep,e2,c⟩,r⟩:=x;exact⟨ho _ d,z,ne,k _ _ (.inl rfl) e,mA,⟨od,es,ep,k _ _ (.inr d) e2,c⟩,r⟩
 |own y=>obtain⟨ob,e⟩:=x;exact⟨ob,k _ _ (.inl rfl) e⟩
 |xd fs=>obtain⟨mA,⟨od,es,ep,e,c⟩,r⟩:=x;exact⟨mA,⟨od,es,ep,k _ _ (.inl rfl) e,c⟩,r⟩
 |rng lo hi=>obtain⟨t,u,v,e⟩:=x;exact⟨t,u,v,k _ _ (.inl rfl) e⟩
 |frz ob u ih=>obtain⟨e,q⟩:=x;exact⟨k _ _ (.inl rfl) e,ih q⟩
 |tbl ps=>
  obtain⟨qs,e,tr,z⟩:=x;refine⟨qs,k _ _ (.inl rfl) e,tr,λp cv hc=>?_⟩;obtain⟨c,oc,u,q,t,vs,t',e1,e2,e3,e4⟩:=z p cv hc;exact⟨c,oc,u,q,t,vs,t',e1,e2,hz _ _ _ e3,e4⟩
 |met f y=>
  have e:h.get? a=some (anB (.ref f) (.ref y)):=x;show h'.get? a=some (anB (.ref f) (.ref y));exact k a _ (.inl rfl) e
 |ext φ=>obtain⟨p,⟨o,e⟩,st⟩:=x;exact⟨st _ _ p λo q=>k _ _ (.inl rfl) q,⟨o,k _ _ (.inl rfl) e⟩,st⟩
theorem Ϟ.lt(x:Ϟ P w H h)(e:H a=some o):a<h.objs.size:=(x a o e).lt
theorem Ϟ.fresh(x:Ϟ P w H h)(e:h.objs.size<=a):H a=none:=by
 cases q:H a with
 |none=>rfl
 |some u=>exact absurd (abX (x.lt q) e) (ahP _)
theorem Ϟ.kept(x:Ϟ P w H h)(k:∀b u,h.get? b=some u->h'.get? b=some u):Ϟ P w H h':=λa o e=>
 (x a o e).stay (λb u _ q=>k b u q) (λ_ q=>q) λ_ _ q=>q
theorem Ϟ.laid(x:Ϟ P w H h)(k:∀b u,h.get? b=some u->h'.get? b=some u)(hp:h.objs.size<=a)(new:Φ P w (upd H a o) h' a o):Ϟ P w (upd H a o) h':=λb u e=>by
 have hn:=x.fresh hp;by_cases hb:b=a
 .subst hb;rw[υ]at e;cases e;exact new
 .rw[θ hb]at e;exact(x b u e).stay (λc v _ q=>k c v q) (λc q=>by rw[θ (Ι q hn)];exact q) (λc xs q=>by rw[θ (Ι q hn)];exact q) λc ob v q=>by rw[θ (Ι q hn)];exact q
end
def Rd(H:Hp)(a:δ)(u:HO):Prop:=H a=some u\/∃o,H a=some (.frz o u)
theorem Rd.ok{P:Ϯ}{w:Ϭ}{H:Hp}{h:ϫ}{a:δ}{u:HO}(r:Rd H a u)(x:Ϟ P w H h):Φ P w H h a u:=by
 obtain r|⟨o,r⟩:=r
 .exact x a u r
 .obtain⟨_,q⟩:=x a _ r;exact q
def qN:Option HO->Prop
 |some (.lst _)=>True
 |some (.dK _)=>True
 |some (.dT _)=>True
 |some (.set _ _)=>True
 |some (.ins _ _ _)=>True
 |some (.ext _)=>True
 |_=>False
section
variable{P:Ϯ}{w:Ϭ}{H:Hp}{h h':ϫ}{x e:δ}{o':HO}
theorem Ϟ.write(ok:Ϟ P w H h)(mu:qN (H x))(he:e=x\/H e=some (.own x))(k:∀b u,b≠e->h.get? b=some u->h'.get? b=some u)(heo:∃u,h'.get? e=some u)(new:Φ P w (upd H x o') h' x o'):Ϟ P w (upd H x o') h':=λb u q=>by
 have nown:∀c y,H c=some (.own y)->c≠x:=λc y r z=>by subst z;rw[r]at mu;exact mu
 have ntup:∀c xs,H c=some (.tup xs)->c≠x:=λc xs r z=>by subst z;rw[r]at mu;exact mu
 by_cases hb:b=x
 .subst hb;rw[υ]at q;cases q;exact new
 .rw[θ hb]at q;by_cases hbe:b=e
  .have q':H b=some (.own x):=by
    obtain z|z:=he
    .exact absurd (hbe.trans z) hb
    .rw[hbe];exact z
   rw[q]at q';cases q';obtain⟨v,hv⟩:=heo;exact⟨v,by rw[hbe];exact hv⟩
  .refine(ok b u q).stay (λc v hc r=>k c v ?_ r) (λc r=>by rw[θ (nown c b r)];exact r) (λc xs r=>by rw[θ (ntup c xs r)];exact r) λc ob v r=>by rw[θ (λz=>by subst z;rw[r]at mu;exact mu)];exact r
   obtain rfl|hc:=hc
   .exact hbe
   .rintro rfl
    obtain z|z:=he
    .exact nown c b hc z
    .rw[hc]at z;cases z;exact hb rfl
end
structure Un(fs ex:List δ)(H H':Hp)(h h':ϫ):Prop where
 keep:∀b o,h.get? b=some o->H b=none->b∉fs->b∉ex->h'.get? b=some o
 slot:∀b o,h.get? b=some o->H b=none->b∈fs->b∉ex->∃sl,h'.get? b=some {o with slots:=sl}
 free:∀b o,h.get? b=some o->H b=none->b∉ex->H' b=none
 there:∀b o,h.get? b=some o->b∉ex->∃o',h'.get? b=some o'
 tups:∀b xs,H b=some (.tup xs)->H' b=some (.tup xs)
 frzs:∀b o u,H b=some (.frz o u)->H' b=some (.frz o u)
 tbls:∀b ps,H b=some (.tbl ps)->∃more,H' b=some (.tbl (ps++more))
section
variable{fs fs' ex ex':List δ}{H H1 H2:Hp}{h h1 h2 h':ϫ}{a x e:δ}{o:HO}
theorem Un.any(u:Un fs ex H H1 h h1){b:δ}{ob:Obj}(q:h.get? b=some ob)(n:H b=none)(hx:b∉ex):∃sl,h1.get? b=some {ob with slots:=sl}:=by
 by_cases hb:b∈fs
 .exact u.slot b ob q n hb hx
 .exact⟨ob.slots,u.keep b ob q n hb hx⟩
theorem Un.kept(k:∀b u,h.get? b=some u->h'.get? b=some u):Un fs ex H H h h':=
 ⟨λb ob q _ _ _=>k b ob q,λb ob q _ _ _=>⟨ob.slots,k b ob q⟩,λ_ _ _ n _=>n,λb ob q _=>⟨ob,k b ob q⟩,λ_ _ q=>q,λ_ _ _ q=>q,λ_ ps q=>⟨#[],by rw[q];simp⟩⟩
theorem Un.refl:Un fs ex H H h h:=Un.kept λ_ _ q=>q
theorem Un.laid(k:∀b u,h.get? b=some u->h'.get? b=some u)(hp:h.objs.size<=a)(hn:H a=none):Un fs ex H (upd H a o) h h' where
 keep:=λb u q _ _ _=>k b u q
 slot:=λb u q _ _ _=>⟨u.slots,k b u q⟩
 free:=λb u q n _=>by rw[θ (abF (abX (aaY q) hp))];exact n
 there:=λb u q _=>⟨u,k b u q⟩
 tups:=λb xs q=>by rw[θ (Ι q hn)];exact q
 frzs:=λb u xs q=>by rw[θ (Ι q hn)];exact q
 tbls:=λb ps q=>⟨#[],by rw[θ (Ι q hn),q];simp⟩
theorem Un.write(mu:qN (H x))(he:e=x\/H e=some (.own x))(k:∀b u,b≠e->h.get? b=some u->h'.get? b=some u)(heo:∃u,h'.get? e=some u):Un fs ex H (upd H x o) h h':=by
 have hx:∀b,H b=none->b≠x:=λb n z=>by subst z;rw[n]at mu;exact mu
 have hb:∀b,H b=none->b≠e:=λb n z=>by
  subst z;obtain r|r:=he
  .exact hx b n r
  .rw[n]at r;cases r
 have hm:∀b u,H b=some u->¬qN (some u)->b≠x:=λb u q nm z=>by subst z;rw[q]at mu;exact nm mu
 refine⟨λb u q n _ _=>k b u (hb b n) q,λb u q n _ _=>⟨u.slots,k b u (hb b n) q⟩,λb u q n _=>by rw[θ (hx b n)];exact n,λb u q _=>?_,
  λb xs q=>by rw[θ (hm b _ q λz=>z)];exact q,λb u xs q=>by rw[θ (hm b _ q λz=>z)];exact q,λb ps q=>⟨#[],by rw[θ (hm b _ q λz=>z),q];simp⟩⟩
 by_cases hbe:b=e
 .subst hbe;exact heo
 .exact⟨u,k b u hbe q⟩
end
def iG(h:ϫ)(H:Hp):List δ:=(ady h.objs.size).filter λa=>(H a).isSome
def gm(h:ϫ)(H:Hp):ϫ:=W.hideAll h (iG h H)
theorem abb(h:ϫ)(H:Hp):(gm h H).objs.size=h.objs.size:=W.hideAll_size _ _
theorem acZ{h:ϫ}{H:Hp}{b:δ}{o:Obj}(e:h.get? b=some o)(n:H b=none):(gm h H).get? b=some o:=
 W.hideAll_get _ e λhm=>by
  have q:(H b).isSome=true:=(aia.mp hm).2;rw[n]at q;simp at q
theorem aie{h:ϫ}{H:Hp}{b:δ}{o:Obj}(e:(gm h H).get? b=some o):h.get? b=some o/\H b=none:=by
 have e':h.get? b=some o:=W.of_hideAll (iG h H) e;refine⟨e',?_⟩;cases q:H b with
 |none=>rfl
 |some x=>
  have hm:b∈iG h H:=aia.mpr ⟨aiV.mpr (aaY e'),by simp[q]⟩;have z:(gm h H).get? b=none:=W.hideAll_none (iG h H) hm;rw[z]at e;cases e
def aak(g h:ϫ)(L:δ):List (δ×Obj):=(ady h.objs.size).filterMap λa=>if a=L\/(g.get? a).isSome=true then none else(h.get? a).map λo=>(a,o)
def rest(g h:ϫ)(L d:δ):List (δ×Obj):=(aak g h L).filter λp=>decide (p.1≠d)
structure Mod(K:Ϩ)(mg:Str->Option ε)(base:ϫ):Prop where
 kin:K.In base
 glob:base.Ns mainGlobals mg
 blt:∃mb,base.Ns builtinsNs mb/\∀x:Str,x≠"__name__"->mb x=bootBuiltins x
 nolimit:base.NoLimit
structure Cx where
 prog:Ϯ
 w:Ϭ
 K:Ϩ
 mg:Str->Option ε
 base:ϫ
 A:ϰ
 N:List Str
 s₀:μ
 H₀:Hp
 env:Env
 outer:List Env
 stack:List Env
 ex:List δ
 fn:Str->Bool
 calm:Bool
 pn:List (δ×Obj)
 xe:ε->μ->Prop
def b8(l:List Env):List δ:=l.filterMap (·.frame)
abbrev Cx.fs(X:Cx):List δ:=b8 X.outer
def sW(sc:agJ)(x:Str):Prop:=sc.names.lookup x=some .local\/sc.names.lookup x=some .cell\/sc.names.lookup x=some .free
def Loc(sc:agJ)(x:Str):Prop:=sc.names.lookup x=some .local\/sc.names.lookup x=some .cell
def Look(env:Env)(h:ϫ)(m:Str->Option ε)(x:Str)(u:ε):Prop:=
 (env.kindOf x=some .local/\m x=some u)\/((env.kindOf x=some .cell\/env.kindOf x=some .free)/\∃c,env.cells.lookup x=some c/\h.IsCell c (some u))
structure Cx.Ok(X:Cx):Prop where
 mod:Mod X.K X.mg X.base
 kind:X.env.scope.kind=.function
 glob:X.env.globals=mainGlobals
 blt:X.env.builtins=builtinsNs
 above:X.s₀.heap.objs.size<=X.env.locals
 inj:∀x y c,X.env.cells.lookup x=some c->X.env.cells.lookup y=some c->x=y
 has:∀x,(X.env.kindOf x=some .cell\/X.env.kindOf x=some .free)->∃c,X.env.cells.lookup x=some c
 cab:∀x c,X.fn x=true->X.env.cells.lookup x=some c->X.s₀.heap.objs.size<=c
 hd:X.calm=true->X.A.handled=none
 frames:X.A.frames=some X.stack
 stk:X.stack=X.outer\/(X.stack=X.env::X.outer/\X.env.frame=some X.env.locals)
 exf:∀b∈X.ex,b≠X.env.locals/\∀x c,X.env.cells.lookup x=some c->c≠b
 bs:∀b o,X.base.get? b=some o->X.s₀.heap.get? b=some o/\X.H₀ b=none
 bsz:X.base.objs.size<=X.s₀.heap.objs.size
 noex:∀b o,X.base.get? b=some o->b∉X.ex
 exfs:∀b∈X.ex,b∉X.fs
 funs:X.s₀.heap.FunFrames X.base X.outer
 frf:∀b∈X.fs,X.H₀ b=none
structure Inv(X:Cx)(ϵ:List (δ×Obj))(σ:List (Option V))(H:Hp)(s:μ):Prop where
 ok:X.Ok
 os:s.os=X.s₀.os
 bare:AllBare s.gens
 base:Un X.fs X.ex X.H₀ H X.s₀.heap s.heap
 loc:∃m,s.heap.Ns X.env.locals m/\∀(i:Nat)(x:Str)(v:V),X.N[i]?=some x->σ[i]?=some (some v)->sW X.env.scope x->∃u,RelV v u/\Look X.env s.heap m x u
 cell:∀x c,X.env.cells.lookup x=some c->∃v,s.heap.IsCell c v
 free:H X.env.locals=none
 freeC:∀x c,X.env.cells.lookup x=some c->H c=none
 pin:∀p∈X.pn++ϵ,s.heap.get? p.1=some p.2/\H p.1=none/\p.1≠X.env.locals/\p.1∉X.fs/\∀v,p.2.data≠.cell v
 hok:Ϟ X.prog X.w H s.heap
 len:σ.length=X.N.length
section
variable{X:Cx}{ϵ:List (δ×Obj)}{σ:List (Option V)}{H H':Hp}{s:μ}{h':ϫ}
theorem Cx.Ok.nofr(ok:X.Ok){b:δ}{o:Obj}(e:X.base.get? b=some o):b∉X.fs:=λhb=>by
 have:=(ok.funs.mem hb).1;rw[e]at this;cases this
theorem Inv.bs(I:Inv X ϵ σ H s):∀b o,X.base.get? b=some o->s.heap.get? b=some o/\H b=none:=λb o e=>
 ⟨I.base.keep b o (I.ok.bs b o e).1 (I.ok.bs b o e).2 (I.ok.nofr e) (I.ok.noex b o e),I.base.free b o (I.ok.bs b o e).1 (I.ok.bs b o e).2 (I.ok.noex b o e)⟩
theorem Inv.bk(I:Inv X ϵ σ H s):∀b o,X.base.get? b=some o->s.heap.get? b=some o:=λb o e=>(I.bs b o e).1
theorem Inv.mod(I:Inv X ϵ σ H s):Mod X.K X.mg X.base:=I.ok.mod
theorem Inv.kIn(I:Inv X ϵ σ H s):X.K.In s.heap:=I.ok.mod.kin.keeps I.bk
theorem Inv.nolimit(I:Inv X ϵ σ H s):s.heap.NoLimit:=I.ok.mod.nolimit.keeps I.bk
theorem Inv.lt(I:Inv X ϵ σ H s):X.env.locals<s.heap.objs.size:=let⟨_,hn,_⟩:=I.loc;hn.lt
theorem Inv.sz(I:Inv X ϵ σ H s):X.s₀.heap.objs.size<=s.heap.objs.size:=aft I.ok.above (ana I.lt)
theorem Inv.nofs(I:Inv X ϵ σ H s){a:δ}(h:s.heap.objs.size<=a):a∉X.fs:=λhb=>by
 obtain⟨_,o,ho,_⟩:=I.ok.funs.mem hb;exact absurd (abX (aaY ho) (aft I.sz h)) (ahP _)
theorem Inv.cne(I:Inv X ϵ σ H s):∀x c,X.env.cells.lookup x=some c->c≠X.env.locals:=λx c e z=>by
 obtain⟨v,o,ho,hd⟩:=I.cell x c e;obtain⟨m,⟨o',es,ep,ho',hd',_⟩,_⟩:=I.loc;rw[z,ho']at ho;cases ho;rw[hd']at hd;cases hd
theorem Inv.funs(I:Inv X ϵ σ H s):s.heap.FunFrames X.base X.outer:=by
 have all:∀(l:List Env),(∀b∈b8 l,b∈X.fs)->X.s₀.heap.FunFrames X.base l->s.heap.FunFrames X.base l:=by
  intro l;induction l with
  |nil=>intro _ _;trivial
  |cons env r ih=>
   intro hs hl;obtain⟨hk,⟨L,o,hf,hn,ho,hd⟩,hr⟩:=hl;have hL:L∈X.fs:=hs L (by unfold b8;rw[List.filterMap_cons,hf];exact aek);obtain⟨sl,e⟩:=I.base.slot L o ho (I.ok.frf L hL) hL λz=>I.ok.exfs L z hL
   exact⟨hk,⟨L,_,hf,hn,e,hd⟩,ih (λb hb=>hs b (by unfold b8;rw[List.filterMap_cons,hf];exact acV _ hb)) hr⟩
 exact all X.outer (λ_ hb=>hb) I.ok.funs
theorem Inv.stack(I:Inv X ϵ σ H s):s.heap.FunFrames X.base X.stack:=by
 obtain e|⟨e,hf⟩:=I.ok.stk
 .rw[e];exact I.funs
 .rw[e];obtain⟨m,hn,_⟩:=I.loc;refine .cons (by rw[I.ok.kind];decide) hf hn ?_ I.funs;exact aiN (aft I.ok.bsz I.ok.above)
theorem Inv.stkSub(I:Inv X ϵ σ H s):∀b∈b8 X.stack,b∈X.env.locals::X.fs:=λb hb=>by
 obtain e|⟨e,hf⟩:=I.ok.stk
 .rw[e]at hb;exact acV _ hb
 .rw[e]at hb;unfold b8 at hb;rw[List.filterMap_cons,hf]at hb;exact hb
theorem Inv.stkFree(I:Inv X ϵ σ H s):∀b∈b8 X.stack,H b=none:=λb hb=>by
 rcases ϴ.mp (I.stkSub b hb)with e|hb
 .rw[e];exact I.free
 .obtain⟨_,o,ho,_⟩:=I.ok.funs.mem hb;exact I.base.free b o ho (I.ok.frf b hb) λz=>I.ok.exfs b z hb
theorem Inv.step{g':Array GenState}{t':Nat}{d':Drawn}{ch:List δ}(I:Inv X ϵ σ H s)(hch:∀b∈ch,(b∈X.ex\/X.s₀.heap.get? b=none)/\b≠X.env.locals/\(∀x c,X.env.cells.lookup x=some c->c≠b)/\∀p∈X.pn++ϵ,p.1≠b)(keep:∀b o,b≠X.env.locals->b∉X.fs->b∉ch->s.heap.get? b=some o->H b=none->h'.get? b=some o)(slot:∀b o,b≠X.env.locals->b∈X.fs->b∉ch->s.heap.get? b=some o->H b=none->∃sl,h'.get? b=some {o with slots:=sl})(free:∀b o,b∉ch->s.heap.get? b=some o->H b=none->H' b=none)(there:∀b o,b∉ch->s.heap.get? b=some o->∃o',h'.get? b=some o')(tups:∀b xs,H b=some (.tup xs)->H' b=some (.tup xs))(frzs:∀b o u,H b=some (.frz o u)->H' b=some (.frz o u))(tbls:∀b ps,H b=some (.tbl ps)->∃more,H' b=some (.tbl (ps++more)))(ns:∀m,s.heap.Ns X.env.locals m->h'.Ns X.env.locals m)(hok:Ϟ X.prog X.w H' h')(hg:AllBare g'):Inv X ϵ σ H' {s with heap:=h',gens:=g',drawn:=d',toks:=t'}:=by
 have neL:∀b o,X.s₀.heap.get? b=some o->b≠X.env.locals:=λb o e=>abF (abX (aaY e) I.ok.above)
 have neC:∀b o,X.s₀.heap.get? b=some o->b∉X.ex->b∉ch:=λb o e hx hb=>by
  rcases(hch b hb).1 with z|z
  .exact hx z
  .rw[e]at z;cases z
 have cellK:∀x c,X.env.cells.lookup x=some c->∀v,s.heap.IsCell c v->h'.IsCell c v:=λx c e v ⟨o,ho,hd⟩=>by
  have nch:c∉ch:=λz=>(hch c z).2.2.1 x c e rfl
  by_cases hc:c∈X.fs
  .obtain⟨sl,q⟩:=slot c o (I.cne x c e) hc nch ho (I.freeC x c e);exact⟨_,q,hd⟩
  .exact⟨o,keep c o (I.cne x c e) hc nch ho (I.freeC x c e),hd⟩
 refine⟨I.ok,I.os,hg,⟨λb o e n hb hx=>?_,λb o e n hb hx=>?_,λb o e n hx=>?_,λb o e hx=>?_,λb xs e=>tups b xs (I.base.tups b xs e),λb o xs e=>frzs b o xs (I.base.frzs b o xs e),λb ps e=>?_⟩,?_,λx c e=>?_,?_,λx c e=>?_,λp hp=>?_,hok,I.len⟩
 .exact keep b o (neL b o e) hb (neC b o e hx) (I.base.keep b o e n hb hx) (I.base.free b o e n hx)
 .obtain⟨sl,e1⟩:=I.base.slot b o e n hb hx;obtain⟨sl',e2⟩:=slot b _ (neL b o e) hb (neC b o e hx) e1 (I.base.free b o e n hx);exact⟨sl',e2⟩
 .obtain⟨o',e1⟩:=I.base.there b o e hx;exact free b o' (neC b o e hx) e1 (I.base.free b o e n hx)
 .obtain⟨o',e1⟩:=I.base.there b o e hx;exact there b o' (neC b o e hx) e1
 .obtain⟨m1,e1⟩:=I.base.tbls b ps e;obtain⟨m2,e2⟩:=tbls b _ e1;exact⟨m1++m2,by rw[e2,Array.append_assoc]⟩
 .obtain⟨m,hn,hl⟩:=I.loc;refine⟨m,ns m hn,λi x v e1 e2 e3=>?_⟩;obtain⟨u,r,l⟩:=hl i x v e1 e2 e3;refine⟨u,r,?_⟩;obtain l|⟨k,c,e,z⟩:=l
  .exact .inl l
  .exact .inr ⟨k,c,e,cellK x c e _ z⟩
 .obtain⟨v,z⟩:=I.cell x c e;exact⟨v,cellK x c e v z⟩
 .obtain⟨m,⟨o,_,_,ho,_⟩,_⟩:=I.loc;exact free _ o (λz=>(hch _ z).2.1 rfl) ho I.free
 .obtain⟨v,o,ho,hd⟩:=I.cell x c e;exact free c o (λz=>(hch c z).2.2.1 x c e rfl) ho (I.freeC x c e)
 .obtain⟨e,n,ne,nf,d⟩:=I.pin p hp;have nch:p.1∉ch:=λz=>(hch p.1 z).2.2.2 p hp rfl
  exact⟨keep p.1 p.2 ne nf nch e n,free p.1 p.2 nch e n,ne,nf,d⟩
theorem Inv.un{t':Nat}(I:Inv X ϵ σ H s)(u:Un X.fs [] H H' s.heap h')(hok:Ϟ X.prog X.w H' h'):Inv X ϵ σ H' {s with heap:=h',toks:=t'}:=by
 obtain⟨m,⟨o,es,ep,ho,r⟩,_⟩:=id I.loc;obtain⟨sl,hL⟩:=u.any ho I.free (by simp);exact I.step (g':=s.gens) (d':=s.drawn) (ch:=[]) (λ_ z=>nomatch z) (λb o _ hb _ e n=>u.keep b o e n hb (by simp)) (λb o _ hb _ e n=>u.slot b o e n hb (by simp)) (λb o _ e n=>u.free b o e n (by simp)) (λb o _ e=>u.there b o e (by simp)) u.tups u.frzs u.tbls (λm' hm=>by
  obtain⟨o',es',ep',ho',r'⟩:=hm;rw[ho]at ho';cases ho';exact⟨_,es',ep',hL,r'⟩) hok I.bare
theorem Inv.call{g':Array GenState}{t':Nat}{d':Drawn}{ch:List δ}(I:Inv X ϵ σ H s)(u:Un (b8 X.stack) ch H H' s.heap h')(hok:Ϟ X.prog X.w H' h')(hg:AllBare g')(hch:∀b∈ch,(b∈X.ex\/X.s₀.heap.get? b=none)/\b≠X.env.locals/\(∀x c,X.env.cells.lookup x=some c->c≠b)/\∀p∈X.pn++ϵ,p.1≠b):Inv X ϵ σ H' {s with heap:=h',gens:=g',drawn:=d',toks:=t'}:=by
 obtain⟨m,⟨o,es,ep,ho,r⟩,_⟩:=id I.loc;obtain⟨sl,hL⟩:=u.any ho I.free λz=>(hch _ z).2.1 rfl
 exact I.step (ch:=ch) hch (λb o hL hb hc e n=>u.keep b o e n (λz=>(ϴ.mp (I.stkSub b z)).elim hL hb) hc) (λb o _ _ hc e n=>u.any e n hc) (λb o hc e n=>u.free b o e n hc) (λb o hc e=>u.there b o e hc) u.tups u.frzs u.tbls (λm' hm=>by
  obtain⟨o',es',ep',ho',r'⟩:=hm;rw[ho]at ho';cases ho';exact⟨_,es',ep',hL,r'⟩) hok hg
theorem Inv.turned{t':Nat}{it:δ}(I:Inv X ϵ σ H s)(k:∀b o,b≠it->s.heap.get? b=some o->h'.get? b=some o)(hn:H it=none)(hL:it≠X.env.locals)(h1:it∈X.ex\/X.s₀.heap.get? it=none)(h2:∀x c,X.env.cells.lookup x=some c->c≠it)(h3:∀p∈X.pn++ϵ,p.1≠it):Inv X ϵ σ H {s with heap:=h',toks:=t'}:=by
 have nit:∀b u,H b=some u->b≠it:=λb u e z=>by rw[z,hn]at e;cases e
 refine I.step (g':=s.gens) (d':=s.drawn) (ch:=[it]) (λb hb=>?_) (λb o _ _ hc e _=>k b o (λz=>hc (by simp[z])) e) (λb o _ _ hc e _=>⟨o.slots,k b o (λz=>hc (by simp[z])) e⟩) (λ_ _ _ _ n=>n)
  (λb o hc e=>⟨o,k b o (λz=>hc (by simp[z])) e⟩) (λ_ _ e=>e) (λ_ _ _ e=>e) (λb ps e=>⟨#[],by rw[e];simp⟩) (λm hm=>?_) (λb u e=>?_) I.bare
 .have e:b=it:=by simpa using hb
  subst e;exact⟨h1,hL,h2,h3⟩
 .obtain⟨o,es,ep,ho,r⟩:=hm;exact⟨o,es,ep,k _ o (Ne.symm hL) ho,r⟩
 .refine(I.hok b u e).stay (λc v hc q=>k c v ?_ q) (λ_ q=>q) λ_ _ q=>q
  obtain z|z:=hc
  .rw[z];exact nit b u e
  .exact nit c _ z
theorem Inv.tok(I:Inv X ϵ σ H s)(t:Nat):Inv X ϵ σ H {s with toks:=t}:=I.un (h':=s.heap) (t':=t) Un.refl I.hok
theorem Inv.kept{t':Nat}(I:Inv X ϵ σ H s)(k:∀b u,s.heap.get? b=some u->h'.get? b=some u):Inv X ϵ σ H {s with heap:=h',toks:=t'}:=I.un (Un.kept k) (I.hok.kept k)
theorem Inv.laid{a:δ}{o:HO}{t':Nat}(I:Inv X ϵ σ H s)(k:∀b u,s.heap.get? b=some u->h'.get? b=some u)(hp:s.heap.objs.size<=a)(new:Φ X.prog X.w (upd H a o) h' a o):Inv X ϵ σ (upd H a o) {s with heap:=h',toks:=t'}:=I.un (Un.laid k hp (I.hok.fresh hp)) (I.hok.laid k hp new)
theorem Inv.write{x e:δ}{o:HO}{t':Nat}(I:Inv X ϵ σ H s)(mu:qN (H x))(he:e=x\/H e=some (.own x))(k:∀b u,b≠e->s.heap.get? b=some u->h'.get? b=some u)(heo:∃u,h'.get? e=some u)(new:Φ X.prog X.w (upd H x o) h' x o):Inv X ϵ σ (upd H x o) {s with heap:=h',toks:=t'}:=I.un (Un.write mu he k heo) (I.hok.write mu he k heo new)
theorem Inv.pins_of{pins':List (δ×Obj)}(I:Inv X ϵ σ H s)(h:∀p∈pins',s.heap.get? p.1=some p.2/\H p.1=none/\p.1≠X.env.locals/\p.1∉X.fs/\∀v,p.2.data≠.cell v):Inv X pins' σ H s:=
 ⟨I.ok,I.os,I.bare,I.base,I.loc,I.cell,I.free,I.freeC,λp hp=>(adT.mp hp).elim (λz=>I.pin p (agg _ z)) (h p),I.hok,I.len⟩
theorem M8{N:List Str}(hN:N.Nodup){i j:Nat}{x:Str}(a:N[i]?=some x)(b:N[j]?=some x):i=j:=by
 obtain⟨h1,e1⟩:=aae.mp a;obtain⟨h2,e2⟩:=aae.mp b;exact(amF hN).mp (e1.trans e2.symm)
theorem qp{M:Model}{A:ϰ}{E:ε->μ->Prop}{i:Nat}{x:Str}{v:V}{u:ε}{Q:Unit->μ->Prop}(I:Inv X ϵ σ H s)(hN:X.N.Nodup)(hi:X.N[i]?=some x)(hx:Loc X.env.scope x)(r:RelV v u)(h:∀s',Inv X ϵ (σ.set i (some v)) H s'->(∃a,akZ a s.heap s'.heap/\(a=X.env.locals\/X.env.cells.lookup x=some a))->Q () s')(hf:X.fn x=true\/X.env.scope.names.lookup x=some .local:=by first|exact .inl rfl|exact .inr rfl|assumption):π M A (storeName X.env x u) Q E s:=by
 obtain⟨m,hn,hl⟩:=id I.loc;have hcls:(X.env.scope.kind==.class||(X.env.scope.kind==.module&&X.env.locals !=X.env.globals))=false:=by rw[I.ok.kind];rfl
 have hiσ:i<σ.length:=by rw[I.len];exact(aae.mp hi).1
 have cne:=I.cne;have tracked:∀{a:δ}{h':ϫ},(∃o,s.heap.get? a=some o/\H a=none)->akZ a s.heap h'->Ϟ X.prog X.w H h':=λ{a h'} ha hs b ob e=>by
  obtain⟨_,_,hfree⟩:=ha;refine(I.hok b ob e).stay (λc w' hc q=>(hs.2 c ?_).trans q) (λ_ q=>q) λ_ _ q=>q
  rintro rfl
  obtain rfl|hc:=hc
  .rw[hfree]at e;cases e
  .rw[hfree]at hc;cases hc
 obtain hk|hk:=hx
 .refine wpAny_storeName_local hk hn (λh' hn' hs=>?_) hcls;obtain⟨oL,_,_,hoL,_⟩:=id hn;refine h _ ⟨I.ok,I.os,I.bare,⟨λb o e n hb hx=>?_,λb o e n hb hx=>?_,I.base.free,λb o e hx=>?_,I.base.tups,I.base.frzs,I.base.tbls⟩,⟨_,hn',λj y v' e1 e2 e3=>?_⟩,λy c e=>?_,I.free,I.freeC,λp hp=>?_,tracked ⟨oL,hoL,I.free⟩ hs,by simpa using I.len⟩ ⟨_,hs,.inl rfl⟩
  .exact(hs.2 b (abF (abX (aaY e) I.ok.above))).trans (I.base.keep b o e n hb hx)
  .obtain⟨sl,e1⟩:=I.base.slot b o e n hb hx;exact⟨sl,(hs.2 b (abF (abX (aaY e) I.ok.above))).trans e1⟩
  .obtain⟨o',e1⟩:=I.base.there b o e hx;exact⟨o',(hs.2 b (abF (abX (aaY e) I.ok.above))).trans e1⟩
  .by_cases hj:j=i
   .subst hj;rw[hi]at e1;cases e1;rw[anI hiσ]at e2;cases e2;exact⟨u,r,.inl ⟨hk,by simp⟩⟩
   .rw[anW (Ne.symm hj)]at e2;obtain⟨u',r',q⟩:=hl j y v' e1 e2 e3;refine⟨u',r',?_⟩;obtain⟨k,e⟩|⟨k,c,e,z⟩:=q
    .refine .inl ⟨k,?_⟩;have:y≠x:=λe=>hj (M8 hN e1 (e▸hi))
     simp[this,e]
    .exact .inr ⟨k,c,e,z.sameBut hs (cne y c e)⟩
  .obtain⟨w',z⟩:=I.cell y c e;exact⟨w',z.sameBut hs (cne y c e)⟩
  .obtain⟨e,n,ne,nf,d⟩:=I.pin p hp;exact⟨(hs.2 p.1 ne).trans e,n,ne,nf,d⟩
 .have hfn:X.fn x=true:=by
   obtain z|z:=hf
   .exact z
   .rw[z]at hk;cases hk
  obtain⟨c,hc⟩:=I.ok.has x (.inl hk);obtain⟨w',z⟩:=I.cell x c hc;refine wpAny_storeName_cell I.ok.kind hk hc z (λh' hc' hs=>?_);obtain⟨oc,hoc,hocd⟩:=id z;refine h {s with heap:=h'} ⟨I.ok,I.os,I.bare,⟨λb o e n hb hx=>?_,λb o e n hb hx=>?_,I.base.free,λb o e hx=>?_,I.base.tups,I.base.frzs,I.base.tbls⟩,⟨m,hn.sameBut hs (Ne.symm (cne x c hc)),λj y v' e1 e2 e3=>?_⟩,λy c' e=>?_,I.free,I.freeC,λp hp=>?_,tracked ⟨oc,hoc,I.freeC x c hc⟩ hs,by simpa using I.len⟩ ⟨c,hs,.inr hc⟩
  .exact(hs.2 b (abF (abX (aaY e) (I.ok.cab x c hfn hc)))).trans (I.base.keep b o e n hb hx)
  .obtain⟨sl,e1⟩:=I.base.slot b o e n hb hx;exact⟨sl,(hs.2 b (abF (abX (aaY e) (I.ok.cab x c hfn hc)))).trans e1⟩
  .obtain⟨o',e1⟩:=I.base.there b o e hx;exact⟨o',(hs.2 b (abF (abX (aaY e) (I.ok.cab x c hfn hc)))).trans e1⟩
  .by_cases hj:j=i
   .subst hj;rw[hi]at e1;cases e1;rw[anI hiσ]at e2;cases e2;exact⟨u,r,.inr ⟨.inl hk,c,hc,hc'⟩⟩
   .rw[anW (Ne.symm hj)]at e2;obtain⟨u',r',q⟩:=hl j y v' e1 e2 e3;refine⟨u',r',?_⟩;obtain q|⟨k,c',e,z'⟩:=q
    .exact .inl q
    .refine .inr ⟨k,c',e,z'.sameBut hs ?_⟩
     rintro rfl
     exact hj (M8 hN e1 (I.ok.inj _ _ _ e hc▸hi))
  .by_cases hcc:c'=c
   .subst hcc;exact⟨_,hc'⟩
   .obtain⟨w2,z2⟩:=I.cell y c' e;exact⟨w2,z2.sameBut hs hcc⟩
  .obtain⟨e,n,ne,nf,d⟩:=I.pin p hp;refine⟨(hs.2 p.1 ?_).trans e,n,ne,nf,d⟩;intro q;rw[q,hoc]at e;have q':oc=p.2:=Option.some.inj e;exact d w' (by rw[<-q'];exact hocd)
theorem Qh{M:Model}{A:ϰ}{E:ε->μ->Prop}{i:Nat}{x:Str}{v:V}{u:ε}{Q:Unit->μ->Prop}(I:Inv X ϵ σ H s)(hN:X.N.Nodup)(hi:X.N[i]?=some x)(hx:Loc X.env.scope x)(r:RelV v u)(h:∀s',Inv X ϵ (σ.set i (some v)) H s'->Q () s')(hf:X.fn x=true\/X.env.scope.names.lookup x=some .local:=by first|exact .inl rfl|exact .inr rfl|assumption):π M A (storeName X.env x u) Q E s:=
 qp I hN hi hx r (λs' I' _=>h s' I') hf
theorem Inv.call'{s':μ}{ch:List δ}(I:Inv X ϵ σ H s)(ho:s'.os=s.os)(u:Un (b8 X.stack) ch H H' s.heap s'.heap)(hok:Ϟ X.prog X.w H' s'.heap)(hg:AllBare s'.gens)(hch:∀b∈ch,(b∈X.ex\/X.s₀.heap.get? b=none)/\b≠X.env.locals/\(∀x c,X.env.cells.lookup x=some c->c≠b)/\∀p∈X.pn++ϵ,p.1≠b):Inv X ϵ σ H' s':=by
 obtain⟨h',g',d',t',o'⟩:=s';have e:o'=s.os:=ho;subst e;exact I.call (g':=g') (t':=t') (d':=d') u hok hg hch
end
abbrev XK:=ε->Option δ×Bool->Hp->Prop
abbrev St:=List (Option V)
abbrev VK:=V->Hp->Prop
abbrev TE:=St->Hp->VK->Prop
abbrev TT:=St->Hp->(Bool->Hp->Prop)->Prop
abbrev TA:=St->Hp->(List V->Hp->Prop)->Prop
structure Ends where
 nx:St->Hp->Prop
 rt:VK
 bk:St->Hp->Prop:=λ_ _=>False
 ct:St->Hp->Prop:=λ_ _=>False
abbrev TS:=Ends->St->Hp->Prop
def EP(X:Cx)(ϵ:List (δ×Obj))(σ:St)(Q:VK)(u:ε)(s':μ):=∃v H',Inv X ϵ σ H' s'/\RelV v u/\Q v H'
def TP(X:Cx)(ϵ:List (δ×Obj))(σ:St)(Q:Bool->Hp->Prop)(b:Bool)(s':μ):=∃H',Inv X ϵ σ H' s'/\Q b H'
def AP(X:Cx)(ϵ:List (δ×Obj))(σ:St)(Q:List V->Hp->Prop)(us:List ε)(s':μ):=∃vs H',Inv X ϵ σ H' s'/\Vals vs us/\Q vs H'
def SP(X:Cx)(ϵ:List (δ×Obj))(D:Ends)(f:Flow)(s':μ):Prop:=
 match f with
 |.next=>∃σ' H',Inv X ϵ σ' H' s'/\D.nx σ' H'
 |.brk=>∃σ' H',Inv X ϵ σ' H' s'/\D.bk σ' H'
 |.cont=>∃σ' H',Inv X ϵ σ' H' s'/\D.ct σ' H'
 |.ret u=>∃v σ' H',Inv X ϵ σ' H' s'/\RelV v u/\D.rt v H'
def PE(X:Cx)(e:ν)(t:TE):Prop:=
 ∀(ϵ:List (δ×Obj))(s:μ)(σ:St)(H:Hp)(Q:VK),Inv X ϵ σ H s->t σ H Q->π (Ϧ X.prog X.w) X.A (eval e X.env) (EP X ϵ σ Q) X.xe s
def PT(X:Cx)(e:ν)(t:TT):Prop:=
 ∀(ϵ:List (δ×Obj))(s:μ)(σ:St)(H:Hp)(Q:Bool->Hp->Prop),Inv X ϵ σ H s->t σ H Q->π (Ϧ X.prog X.w) X.A (isTrue e X.env (eval e X.env)) (TP X ϵ σ Q) X.xe s
def PW(X:Cx)(e:ν)(t:TT):Prop:=
 ∀(whole:Sem ε)(ϵ:List (δ×Obj))(s:μ)(σ:St)(H:Hp)(Q:Bool->Hp->Prop),Inv X ϵ σ H s->t σ H Q->π (Ϧ X.prog X.w) X.A (isTrue e X.env whole) (TP X ϵ σ Q) X.xe s
theorem PW.pt{X:Cx}{e:ν}{t:TT}(h:PW X e t):PT X e t:=h _
def PA(X:Cx)(es:List ν)(t:TA):Prop:=
 ∀(pos:Pos)(ϵ:List (δ×Obj))(s:μ)(σ:St)(H:Hp)(Q:List V->Hp->Prop),Inv X ϵ σ H s->t σ H Q->π (Ϧ X.prog X.w) X.A (spliced (backTo pos (ϯ es X.env))) (AP X ϵ σ Q) X.xe s
def PS(X:Cx)(st:ϧ)(t:TS):Prop:=
 ∀(ϵ:List (δ×Obj))(s:μ)(σ:St)(H:Hp)(D:Ends),Inv X ϵ σ H s->t D σ H->π (Ϧ X.prog X.w) X.A (exec st X.env) (SP X ϵ D) X.xe s
def gB(X:Cx)(st:List ϧ)(t:TS):Prop:=
 ∀(ϵ:List (δ×Obj))(s:μ)(σ:St)(H:Hp)(D:Ends),Inv X ϵ σ H s->t D σ H->π (Ϧ X.prog X.w) X.A (execs st X.env) (SP X ϵ D) X.xe s
theorem χ{α:Type}{t:Sem α}{Q Q':α->μ->Prop}{M:Model}{A:ϰ}{E:ε->μ->Prop}{s:μ}(h:π M A t Q E s)(hQ:∀a s,Q a s->Q' a s):π M A t Q' E s:=adu h hQ λ_ _ x=>x
section
variable{X:Cx}
def ajj(i:Nat):TE:=λσ H Q=>∃v,σ[i]?=some (some v)/\Q v H
def tC(v:V):TE:=λ_ H Q=>Q v H
theorem abY{i:Nat}{x:Str}{pos:Pos}(hN:X.N[i]?=some x)(hv:sW X.env.scope x)(hd:(x==("__debug__":Str))=false:=by decide)(hcd:(x==("__classdict__":Str))=false:=by decide):PE X (.Name x pos) (ajj i):=by
 intro ϵ s σ H Q I h;obtain⟨v,e,h⟩:=h;obtain⟨m,hn,hl⟩:=I.loc;obtain⟨u,r,l⟩:=hl i x v hN e hv;have fin:EP X ϵ σ Q u s:=⟨v,H,I,r,h⟩;obtain⟨hk,hm⟩|⟨hk,c,hc,hcell⟩:=l
 .exact wpAny_Name (wpAny_loadName_local I.ok.kind hk hn hm fin) hd
 .obtain hk|hk:=hk
  .exact wpAny_Name (wpAny_loadName_cell I.ok.kind hk hc hcell fin) hd
  .exact wpAny_Name (wpAny_loadName_free I.ok.kind hk hc hcell fin hcd) hd
theorem ahq{i j pos}:PE X (.Constant (.int i) j pos) (tC (.int i)):=λ_ _ _ H _ I h=>wpAny_Constant_int ⟨.int i,H,I.tok _,⟨_,rfl⟩,h⟩
theorem adE{b j pos}:PE X (.Constant (.bool b) j pos) (tC (.bl b)):=λ_ _ _ H _ I h=>Constant_bool ⟨.bl b,H,I,rfl,h⟩
theorem afI{j pos}:PE X (.Constant .none j pos) (tC .non):=λ_ _ _ H _ I h=>Constant_none ⟨.non,H,I,rfl,h⟩
theorem Wv{x j pos}:PE X (.Constant (.str x) j pos) (tC (.str x)):=λ_ _ _ H _ I h=>Calls.Constant_str ⟨.str x,H,I.tok _,⟨_,rfl⟩,h⟩
def Gl(X:Cx)(x:Str):Prop:=X.env.kindOf x=some .globalImplicit
theorem lE{E:ε->μ->Prop}{ϵ:List (δ×Obj)}{s:μ}{σ:St}{H:Hp}{x:Str}{u:ε}{pos:Pos}{Q:ε->μ->Prop}(I:Inv X ϵ σ H s)(hg:Gl X x)(hm:X.mg x=some u)(h:Q u s)(hd:(x==("__debug__":Str))=false:=by decide):π (Ϧ X.prog X.w) X.A (eval (.Name x pos) X.env) Q E s:=
 Calls.Name_function_global I.ok.kind hg (Calls.loadGlobal_global (by rw[I.ok.glob];exact I.mod.glob.keeps I.bk) hm h) hd
theorem iU{E:ε->μ->Prop}{ϵ:List (δ×Obj)}{s:μ}{σ:St}{H:Hp}{x:Str}{u:ε}{pos:Pos}{Q:ε->μ->Prop}(I:Inv X ϵ σ H s)(hg:Gl X x)(hm:X.mg x=none)(hv:bootBuiltins x=some u)(h:Q u s)(hn:x≠"__name__":=by decide)(hd:(x==("__debug__":Str))=false:=by decide):π (Ϧ X.prog X.w) X.A (eval (.Name x pos) X.env) Q E s:=by
 obtain⟨mb,h1,h2⟩:=I.mod.blt;exact Calls.Name_function_global I.ok.kind hg (Calls.loadGlobal_builtin (by rw[I.ok.glob];exact I.mod.glob.keeps I.bk) hm (by rw[I.ok.blt];exact h1.keeps I.bk) ((h2 x hn).trans hv) h) hd
theorem R0{x:Str}{v:V}{u:ε}{pos:Pos}(hg:Gl X x)(hm:X.mg x=some u)(r:RelV v u)(hd:(x==("__debug__":Str))=false:=by decide):PE X (.Name x pos) (tC v):=
 λ_ _ _ H _ I h=>lE I hg hm ⟨v,H,I,r,h⟩ hd
theorem ail{x:Str}{v:V}{u:ε}{pos:Pos}(hg:Gl X x)(hm:X.mg x=none)(hv:bootBuiltins x=some u)(r:RelV v u)(hn:x≠"__name__":=by decide)(hd:(x==("__debug__":Str))=false:=by decide):PE X (.Name x pos) (tC v):=
 λ_ _ _ H _ I h=>iU I hg hm hv ⟨v,H,I,r,h⟩ hn hd
variable{a b:ν}{ta tb:TE}{pos:Pos}
variable{tA tB':TT}{rest:List ν}
def Yx(t u:TT):TT:=λσ H Q=>t σ H λc H1=>if c=true then u σ H1 Q else Q false H1
def Ue(t u:TT):TT:=λσ H Q=>t σ H λc H1=>if c=true then Q true H1 else u σ H1 Q
def abh(t:TT):TT:=λσ H Q=>t σ H λc H1=>Q (!c) H1
theorem acj(ha:PT X a tA):PW X (.BoolOp .And [a] pos) tA:=by
 intro wh ϵ s σ H Q I h;refine isTrue_and (χ (ha ϵ s σ H Q I h) λc s1 e=>?_);cases c with
 |true=>exact isTrue_and_nil e
 |false=>exact e
theorem abO(ha:PT X a tA):PW X (.BoolOp .Or [a] pos) tA:=by
 intro wh ϵ s σ H Q I h;refine isTrue_or (χ (ha ϵ s σ H Q I h) λc s1 e=>?_);cases c with
 |false=>exact isTrue_or_nil e
 |true=>exact e
theorem aaw(ha:PT X a tA)(hb:PW X (.BoolOp .And (b::rest) pos) tB'):PW X (.BoolOp .And (a::b::rest) pos) (Yx tA tB'):=by
 intro wh ϵ s σ H Q I h;refine isTrue_and (χ (ha ϵ s σ H _ I h) λc s1 hZ=>?_);obtain⟨H1,I1,q1⟩:=hZ;cases c with
 |true=>exact hb wh ϵ s1 σ H1 Q I1 q1
 |false=>exact⟨H1,I1,q1⟩
theorem Uz(ha:PT X a tA)(hb:PW X (.BoolOp .Or (b::rest) pos) tB'):PW X (.BoolOp .Or (a::b::rest) pos) (Ue tA tB'):=by
 intro wh ϵ s σ H Q I h;refine isTrue_or (χ (ha ϵ s σ H _ I h) λc s1 hZ=>?_);obtain⟨H1,I1,q1⟩:=hZ;cases c with
 |true=>exact⟨H1,I1,q1⟩
 |false=>exact hb wh ϵ s1 σ H1 Q I1 q1
theorem ab4(ha:PT X a tA):PT X (.UnaryOp .Not a pos) (abh tA):=by
 intro ϵ s σ H Q I h;exact isTrue_not (ha ϵ s σ H (λc H1=>Q (!c) H1) I h)
def ajg(ta tb:TE):TE:=λσ H Q=>ta σ H λx H1=>∃c,x=.bl c/\if c=true then tb σ H1 Q else Q (.bl false) H1
def aim(ta tb:TE):TE:=λσ H Q=>ta σ H λx H1=>∃c,x=.bl c/\if c=true then Q (.bl true) H1 else tb σ H1 Q
def Ur(ta:TE):TE:=λσ H Q=>ta σ H λx H1=>∃c,x=.bl c/\Q (.bl (!c)) H1
theorem Zh{op}{t:TE}(h:PE X a t):PE X (.BoolOp op [a] pos) t:=λϵ s σ H Q I hw=>BoolOp_one (h ϵ s σ H Q I hw)
theorem ac2(ha:PE X a ta)(hb:PE X (.BoolOp .And (b::rest) pos) tb):PE X (.BoolOp .And (a::b::rest) pos) (ajg ta tb):=by
 intro ϵ s σ H Q I h;refine BoolOp_and (χ (ha ϵ s σ H _ I h) λv s1 hZ=>?_);obtain⟨x,H1,I1,r1,q1⟩:=hZ;obtain⟨c,rfl,q1⟩:=q1;cases r1;refine afP ?_;cases c with
 |true=>exact hb ϵ s1 σ H1 Q I1 q1
 |false=>exact⟨.bl false,H1,I1,rfl,q1⟩
theorem afR(ha:PE X a ta)(hb:PE X (.BoolOp .Or (b::rest) pos) tb):PE X (.BoolOp .Or (a::b::rest) pos) (aim ta tb):=by
 intro ϵ s σ H Q I h;refine BoolOp_or (χ (ha ϵ s σ H _ I h) λv s1 hZ=>?_);obtain⟨x,H1,I1,r1,q1⟩:=hZ;obtain⟨c,rfl,q1⟩:=q1;cases r1;refine afP ?_;cases c with
 |false=>exact hb ϵ s1 σ H1 Q I1 q1
 |true=>exact⟨.bl true,H1,I1,rfl,q1⟩
theorem afk(ha:PE X a ta):PE X (.UnaryOp .Not a pos) (Ur ta):=by
 intro ϵ s σ H Q I h;refine UnaryOp_ (χ (ha ϵ s σ H _ I h) λv s1 hZ=>?_);obtain⟨x,H1,I1,r1,q1⟩:=hZ;obtain⟨c,rfl,q1⟩:=q1;cases r1;exact not_of (afP ⟨.bl (!c),H1,I1,rfl,q1⟩)
def Ys(t:TT)(ta tb:TE):TE:=λσ H Q=>t σ H λc H1=>if c=true then ta σ H1 Q else tb σ H1 Q
theorem Tn{c:ν}(hc:PT X c tA)(ha:PE X a ta)(hb:PE X b tb):PE X (.IfExp c a b pos) (Ys tA ta tb):=by
 intro ϵ s σ H Q I h;refine wpAny_IfExp (χ (hc ϵ s σ H _ I h) λd s1 hZ=>?_);obtain⟨H1,I1,q1⟩:=hZ;cases d with
 |true=>exact ha ϵ s1 σ H1 Q I1 q1
 |false=>exact hb ϵ s1 σ H1 Q I1 q1
end
def η(K:Ϩ)(H:Hp)(a:δ)(xs:List V):Prop:=
 Rd H a (.lst xs)\/
  ∃(o:Obj)(ϸ:Array ε)(n:Nat),K.lookup a=some o/\o.cls=.type "list"/\o.dict=none/\o.data=.seq ϸ n/\ϸ.size<=ϩ/\Vals xs ϸ.toList
def ψ(K:Ϩ)(H:Hp)(a:δ)(xs:List V):Prop:=
 Rd H a (.tup xs)\/
  ∃(o:Obj)(ϸ:Array ε)(n:Nat),K.lookup a=some o/\o.cls=.type "tuple"/\o.data=.seq ϸ n/\ϸ.size<=ϩ/\Vals xs ϸ.toList
def aj3:ε->Option V
 |.none=>some .non
 |.bool b=>some (.bl b)
 |.int i _=>some (.int i)
 |.str x _=>some (.str x)
 |.bytes b _=>some (.byt b)
 |.float b _=>some (.flt b)
 |.ref a=>some (.ref a)
 |.type n=>some (.ty n)
 |_=>none
theorem RelV.abs{x:V}{u:ε}(r:RelV x u):aj3 u=some x:=by
 cases x with
 |non=>cases r;rfl
 |bl _=>cases r;rfl
 |int _=>obtain⟨t,rfl⟩:=r;rfl
 |str _=>obtain⟨t,rfl⟩:=r;rfl
 |byt _=>obtain⟨t,rfl⟩:=r;rfl
 |flt _=>obtain⟨t,rfl⟩:=r;rfl
 |ref _=>cases r;rfl
 |ty _=>cases r;rfl
theorem RelV.inj{x y:V}{u:ε}(r:RelV x u)(q:RelV y u):x=y:=Option.some.inj (r.abs.symm.trans q.abs)
theorem Vals.inj{xs ys:List V}{us:List ε}(h:Vals xs us)(g:Vals ys us):xs=ys:=by
 induction h generalizing ys with
 |nil=>cases g;rfl
 |cons r t ih=>cases g with|cons r' t'=>rw[r.inj r',ih t']
section
variable{X:Cx}{ϵ:List (δ×Obj)}{σ:St}{H:Hp}{s:μ}{a:δ}{xs ys:List V}
theorem η.of{K:Ϩ}(h:H a=some (.lst xs)):η K H a xs:=.inl (.inl h)
theorem ψ.of{K:Ϩ}(h:H a=some (.tup xs)):ψ K H a xs:=.inl (.inl h)
theorem Inv.list(I:Inv X ϵ σ H s)(h:η X.K H a xs):∃ϸ:List ε,Vals xs ϸ/\PlainL s.heap a ϸ.toArray/\xs.length<=ϩ:=by
 obtain h|⟨o,ϸ,n,hk,hc,hd,hs,hz,r⟩:=h
 .obtain⟨z,ϸ,n,r,e⟩:=h.ok I.hok;exact⟨ϸ,r,⟨_,n,e,rfl,rfl,rfl⟩,z⟩
 .refine⟨ϸ.toList,r,⟨o,n,I.kIn a o hk,hc,hd,by simpa using hs⟩,?_⟩;have e:=r.length;simp only[ak7]at e;omega
theorem Inv.tuple(I:Inv X ϵ σ H s)(h:ψ X.K H a xs):∃ϸ:List ε,Vals xs ϸ/\IsTup s.heap a ϸ.toArray/\xs.length<=ϩ:=by
 obtain h|⟨o,ϸ,n,hk,hc,hs,hz,r⟩:=h
 .obtain⟨z,ϸ,r,p⟩:=h.ok I.hok;exact⟨ϸ,r,p,z⟩
 .refine⟨ϸ.toList,r,⟨o,I.kIn a o hk,hc,n,by simpa using hs⟩,?_⟩;have e:=r.length;simp only[ak7]at e;omega
theorem Inv.list_inj(I:Inv X ϵ σ H s)(h:η X.K H a xs)(h':η X.K H a ys):xs=ys:=by
 obtain⟨ϸ,r,⟨o,n,e,_,_,d⟩,_⟩:=I.list h;obtain⟨its',r',⟨o',n',e',_,_,d'⟩,_⟩:=I.list h';rw[e]at e';cases e';rw[d]at d';injection d' with d1 _
 have:ϸ=its':=by simpa using congrArg Array.toList d1
 subst this;exact r.inj r'
end
section
variable{X:Cx}{ϵ:List (δ×Obj)}{σ:St}{H:Hp}{s:μ}{E:ε->μ->Prop}
end
section
variable{X:Cx}{st:ϧ}{rest:List ϧ}{t u:TS}{e:ν}{te:TE}{pos:Pos}
def aem:TS:=λD σ H=>D.nx σ H
def agp(t u:TS):TS:=λD σ H=>t {D with nx:=u D} σ H
theorem Tu:gB X [] aem:=λ_ _ σ H _ I h=>wpAny_execs_nil ⟨σ,H,I,h⟩
theorem YB(h1:PS X st t)(h2:gB X rest u):gB X (st::rest) (agp t u):=by
 intro ϵ s σ H D I h;refine wpAny_execs_cons (χ (h1 ϵ s σ H {D with nx:=u D} I h) λf s1 q=>?_);cases f with
 |next=>
  obtain⟨σ',H',I',q⟩:=q;exact h2 ϵ s1 σ' H' D I' q
 |ret v=>exact q
 |brk=>exact q
 |cont=>exact q
theorem agy(h1:PS X st t):gB X [st] t:=by
 intro ϵ s σ H D I h;refine wpAny_execs_cons (χ (h1 ϵ s σ H D I h) λf s1 q=>?_);cases f with
 |next=>exact wpAny_execs_nil q
 |ret v=>exact q
 |brk=>exact q
 |cont=>exact q
theorem Inv.quiet{ϵ:List (δ×Obj)}{σ:St}{H:Hp}{s:μ}(I:Inv X ϵ σ H s):interactive X.env=false:=by simp[interactive,I.ok.kind]
def af1(te:TE):TS:=λD σ H=>te σ H λ_ H1=>D.nx σ H1
theorem Xw(he:PE X e te)(hs:akr e none pos.line X.env=pure false:=by rfl):PS X (.Expr e pos) (af1 te):=by
 intro ϵ s σ H D I h;exact wpAny_Expr_any (χ (he ϵ s σ H _ I h) λv s1 ⟨x,H1,I1,r1,q1⟩=>⟨σ,H1,I1,q1⟩) I.quiet hs
def adl(te:TE):TS:=λD σ H=>te σ H D.rt
theorem Xl(he:PE X e te):PS X (.Return (some e) pos) (adl te):=by
 intro ϵ s σ H D I h;exact wpAny_Return_some (χ (he ϵ s σ H _ I h) λv s1 ⟨x,H1,I1,r1,q1⟩=>⟨x,σ,H1,I1,r1,q1⟩)
def aaG(c:TT)(t u:TS):TS:=λD σ H=>c σ H λb H1=>if b=true then t D σ H1 else u D σ H1
theorem YK{c:ν}{a b:List ϧ}{tc:TT}(hc:PT X c tc)(ha:gB X a t)(hb:gB X b u):PS X (.If c a b pos) (aaG tc t u):=by
 intro ϵ s σ H D I h;refine wpAny_If (χ (hc ϵ s σ H _ I h) λd s1 hZ=>?_);obtain⟨H1,I1,q1⟩:=hZ;cases d with
 |true=>exact ha ϵ s1 σ H1 D I1 q1
 |false=>exact hb ϵ s1 σ H1 D I1 q1
end
abbrev TG:=V->St->Hp->(St->Hp->Prop)->Prop
abbrev jm:=List V->St->Hp->(St->Hp->Prop)->Prop
def PG(X:Cx)(target:ν)(t:TG):Prop:=
 ∀(ϵ:List (δ×Obj))(s:μ)(σ:St)(H:Hp)(v:V)(u:ε)(Q:St->Hp->Prop),Inv X ϵ σ H s->RelV v u->t v σ H Q->
  π (Ϧ X.prog X.w) X.A (assign target X.env u) (λ_ s'=>∃σ' H',Inv X ϵ σ' H' s'/\Q σ' H') X.xe s
def mQ(X:Cx)(ts:List ν)(t:jm):Prop:=
 ∀(ϵ:List (δ×Obj))(s:μ)(σ:St)(H:Hp)(vs:List V)(us:List ε)(Q:St->Hp->Prop),Inv X ϵ σ H s->Vals vs us->t vs σ H Q->
  π (Ϧ X.prog X.w) X.A (assignInOrder ((ald ts X.env).map (·.2)) us) (λ_ s'=>∃σ' H',Inv X ϵ σ' H' s'/\Q σ' H') X.xe s
section
variable{X:Cx}{pos:Pos}
def S7(i:Nat):TG:=λv σ H Q=>Q (σ.set i (some v)) H
theorem acE{i:Nat}{x:Str}(hN:X.N.Nodup)(hi:X.N[i]?=some x)(hx:Loc X.env.scope x)(hf:X.fn x=true\/X.env.scope.names.lookup x=some .local:=by first|exact .inl rfl|exact .inr rfl|assumption):PG X (.Name x pos) (S7 i):=by
 intro ϵ s σ H v u Q I r h;exact wpAny_assign_Name (Qh I hN hi hx r (λs' I'=>⟨_,H,I',h⟩) hf)
def Wh:jm:=λvs σ H Q=>vs=[]/\Q σ H
def ahC(t:TG)(u:jm):jm:=λvs σ H Q=>∃v r,vs=v::r/\t v σ H λσ' H'=>u r σ' H' Q
theorem aba:mQ X [] Wh:=by
 intro ϵ s σ H vs us Q I r h;obtain⟨e,h⟩:=h;subst e;cases r;exact assignInOrder_nil ⟨σ,H,I,h⟩
theorem YS{e:ν}{es:List ν}{t:TG}{u:jm}(h1:PG X e t)(h2:mQ X es u)(hs:(ald (e::es) X.env).map (·.2)=assign e X.env::(ald es X.env).map (·.2):=by rfl):mQ X (e::es) (ahC t u):=by
 intro ϵ s σ H vs us Q I r h;obtain⟨v,vr,e1,h⟩:=h;subst e1;cases r with
 |cons r rr=>
  rw[hs];refine assignInOrder_cons (χ (h1 ϵ s σ H _ _ _ I r h) λ_ s1 hZ=>?_);obtain⟨σ1,H1,I1,q1⟩:=hZ;exact h2 ϵ s1 σ1 H1 _ _ Q I1 rr q1
def ad3(K:Ϩ)(n:Nat)(t:jm):TG:=λv σ H Q=>∃a xs,v=.ref a/\ψ K H a xs/\xs.length=n/\t xs σ H Q
theorem abU{es:List ν}{k:Nat}{t:jm}{n:Nat}(hc:X.calm=true)(h:mQ X es t)(hn:(ald es X.env).length=n:=by rfl)(hst:(ald es X.env).findIdx? (·.1)=none:=by rfl):PG X (.Tuple es k pos) (ad3 X.K n t):=by
 intro ϵ s σ H v u Q I r hw;obtain⟨a,xs,e1,hq,hl,hw⟩:=hw;subst e1;cases r;obtain⟨ϸ,rv,ht,hz⟩:=I.tuple hq;refine assign_Tuple_tuple (I.ok.hd hc) ht (by simp[hn, <-hl,rv.length]) hst λh' hx=>?_
 have I1:Inv X ϵ σ H {s with heap:=h'}:=I.kept (t':=s.toks) λb o e=>hx b o (abF (aaY e)) e
 exact h ϵ _ σ H xs _ Q I1 (by simpa using rv) hw
def afe(te:TE)(g:TG):TS:=λD σ H=>te σ H λx H1=>g x σ H1 D.nx
theorem ah6{i:Nat}{x:Str}{e:ν}{te:TE}{pos':Pos}(hN:X.N.Nodup)(hi:X.N[i]?=some x)(hx:Loc X.env.scope x)(he:PE X e te)(hs:akr e (some (.Name x pos')) pos.line X.env=pure false:=by rfl)(hf:X.fn x=true\/X.env.scope.names.lookup x=some .local:=by first|exact .inl rfl|exact .inr rfl|assumption):PS X (.Assign [.Name x pos'] e pos) (afe te (S7 i)):=by
 intro ϵ s σ H D I h;refine wpAny_Assign_Name (χ (he ϵ s σ H _ I h) λv s1 hZ=>?_) hs;obtain⟨y,H1,I1,r1,q1⟩:=hZ;exact Qh I1 hN hi hx r1 (λs2 I2=>⟨_,H1,I2,q1⟩) hf
end
section
variable{X:Cx}{pos:Pos}
end
structure It where
 go:Nat->Hp->Prop
 yld:Nat->Hp->V->Hp->Prop
 stop:Nat->Hp->Prop
def aO(X:Cx)(ϵ:List (δ×Obj))(H:Hp)(b:δ):Prop:=
 H b=none/\b≠X.env.locals/\b∉X.fs/\(b∈X.ex\/X.s₀.heap.get? b=none)/\(∀x c,X.env.cells.lookup x=some c->c≠b)/\∀p∈X.pn++ϵ,p.1≠b
theorem Inv.fpOk{X:Cx}{ϵ:List (δ×Obj)}{σ:St}{H H':Hp}{s:μ}{b:δ}(I:Inv X ϵ σ H s)(hb:s.heap.objs.size<=b)(hn:H' b=none):aO X ϵ H' b:=by
 refine⟨hn,anM (abX I.lt hb),I.nofs hb,.inr (aiN (aft I.sz hb)),λx c e z=>?_,λp hp z=>?_⟩
 .obtain⟨v,q⟩:=I.cell x c e;exact absurd (abX q.lt (by rw[z];exact hb)) (ahP _)
 .exact absurd (abX (aaY (I.pin p hp).1) (by rw[z];exact hb)) (ahP _)
structure Turn(P:Ϯ)(w:Ϭ)(K:Ϩ)(tg:ν)(J:It)(fp:List δ)(it:δ)(tn:Nat->ϫ->Prop):Prop where
 mem:it∈fp
 obj:∀i h,tn i h->∀b∈fp,∃o,h.get? b=some o/\∀v,o.data≠.cell v
 keep:∀i h h',tn i h->(∀b∈fp,∀o,h.get? b=some o->h'.get? b=some o)->tn i h'
 item:∀(X:Cx),X.prog=P->X.w=w->X.K=K->X.calm=true->∀(i:Nat)(ϵ:List (δ×Obj))(s:μ)(σ:St)(H:Hp)(E:ε->μ->Prop),Inv X ϵ σ H s->(∀b∈fp,aO X ϵ H b)->tn i s.heap->J.go i H->
  π (Ϧ P w) X.A (pyNext (.ref it)) (λr s1=>∃u,r=some u/\
   π (Ϧ P w) X.A (letOwnedTupleGo tg (.ref it) u) (λ_ s2=>∃x H',Inv X ϵ σ H' s2/\RelV x u/\J.yld i H x H'/\tn (i+1) s2.heap/\∀b∈fp,H' b=none) E s1) E s
 done:∀(X:Cx),X.prog=P->X.w=w->X.K=K->X.calm=true->∀(i:Nat)(ϵ:List (δ×Obj))(s:μ)(σ:St)(H:Hp)(E:ε->μ->Prop),Inv X ϵ σ H s->(∀b∈fp,aO X ϵ H b)->tn i s.heap->J.stop i H->
  π (Ϧ P w) X.A (pyNext (.ref it)) (λr s1=>r=none/\Inv X ϵ σ H s1) E s
 self:∀(A:ϰ)(i:Nat)(s:μ)(Q:ε->μ->Prop)(E:ε->μ->Prop),tn i s.heap->Q (.ref it) s->π (Ϧ P w) A (pyIter (.ref it)) Q E s
abbrev TI:=St->Hp->(It->Hp->Prop)->Prop
def wW(X:Cx)(ϵ:List (δ×Obj))(σ:St)(tg:ν)(R:It->Hp->Prop)(itv:ε)(s2:μ):Prop:=
 ∃(it:δ)(fp:List δ)(tn:Nat->ϫ->Prop)(J:It)(H':Hp),itv=.ref it/\Inv X ϵ σ H' s2/\Turn X.prog X.w X.K tg J fp it tn/\tn 0 s2.heap/\(∀b∈fp,aO X ϵ H' b)/\R J H'
def PI(X:Cx)(tg iter:ν)(wi:TI):Prop:=
 ∀(ϵ:List (δ×Obj))(s:μ)(σ:St)(H:Hp)(R:It->Hp->Prop),Inv X ϵ σ H s->wi σ H R->
  π (Ϧ X.prog X.w) X.A (eval iter X.env) (λv s1=>π (Ϧ X.prog X.w) X.A (pyIter v) (wW X ϵ σ tg R) X.xe s1) X.xe s
theorem qR{M:Model}{A:ϰ}{E:ε->μ->Prop}{s:μ}{tg:ν}{it:δ}{u:ε}{o:Obj}{n:String}{vs:Array ε}{Q:Unit->μ->Prop}(ho:s.heap.get? it=some o)(hc:o.cls=.type n)(hd:o.data=.fields vs)(hn:["enumerate","zip","dict_itemiterator","dict_reverseitemiterator","odict_iterator","itertools.zip_longest","itertools.pairwise"].contains n=false)(hQ:Q () s):π M A (letOwnedTupleGo tg (.ref it) u) Q E s:=by
 unfold letOwnedTupleGo;cases tg<;>first
  |exact ϲ hQ
  |(cases u<;>first
   |exact ϲ hQ
   |(refine Ϫ (wpAny_load ho ?_)
     rw[hc,hd];show π M A (if(["enumerate","zip","dict_itemiterator","dict_reverseitemiterator","odict_iterator","itertools.zip_longest","itertools.pairwise"].contains n&&vs[0]?==some (rawInt _))=true then _ else _) Q E s;rw[if_neg (by intro h;rw[hn,alE]at h;cases h)];exact ϲ hQ))
def ig(K:Ϩ)(a:δ):It:=
 ⟨λi H=>∃xs x,η K H a xs/\xs[i]?=some x,λi H x H'=>H'=H/\∀xs,η K H a xs->xs[i]?=some x,λi H=>∃xs,η K H a xs/\xs.length<=i⟩
def iZ(lo:Int)(n:Nat):It:=⟨λi _=>i<n,λi H x H'=>H'=H/\x=.int (lo+i),λi _=>n<=i⟩
theorem aeg{P:Ϯ}{w:Ϭ}{K:Ϩ}{tg:ν}(a it:δ):Turn P w K tg (ig K a) [it] it (λi h=>h.IsListIter it a i)where
 mem:=by simp
 obj:=λi h st b hb=>by
  have e:b=it:=by simpa using hb
  subst e;obtain⟨o,e,c,d⟩:=st;exact⟨o,e,λv z=>by rw[d]at z;cases z⟩
 keep:=λi h h' st k=>st.at λo e=>k it (by simp) o e
 item:=by
  intro X hP hw hK hc i ϵ s σ H E I hf st hg;subst hP hw hK;obtain⟨xs,x,hq,hx⟩:=hg;obtain⟨ϸ,rv,p,hz⟩:=I.list hq;obtain⟨u,hu,ru⟩:=rv.get hx;obtain⟨f0,f1,f2,f3,f4,f5⟩:=hf it (by simp);refine wpAny_pyNext_list_item st p.isList (x:=u) (by simpa using hu) λh' st' sb=>?_
  have I1:Inv X ϵ σ H {s with heap:=h'}:=I.turned (t':=s.toks) (λb o hb e=>(sb.2 b hb).trans e) f0 f1 f3 f4 f5;obtain⟨o,e,c,d⟩:=id st';exact⟨u,rfl,qR (s:={s with heap:=h'}) e c d (by decide) ⟨x,H,I1,ru,⟨rfl,λys hy=>by rw[I.list_inj hy hq];exact hx⟩,st',λb hb=>(hf b hb).1⟩⟩
 done:=by
  intro X hP hw hK hc i ϵ s σ H E I hf st hg;subst hP hw hK;obtain⟨xs,hq,hx⟩:=hg;obtain⟨ϸ,rv,p,hz⟩:=I.list hq;obtain⟨f0,f1,f2,f3,f4,f5⟩:=hf it (by simp);have hl:=rv.length;exact wpAny_pyNext_list_end (I.ok.hd hc) st p.isList (by simp;omega) λh' eb=>⟨rfl,I.turned (t':=s.toks) (λb o hb e=>eb b o hb e) f0 f1 f3 f4 f5⟩
 self:=λ_ _ _ _ _ st h=>wpAny_pyIter_listiter st h
theorem afh{P:Ϯ}{w:Ϭ}{K:PySem.W.Frag}{tg:ν}(it:δ)(lo:Int)(n:Nat):Turn P w K tg (iZ lo n) [it] it (λi h=>IsRangeIter h it (lo+(i:Nat)*1) ((n:Int)-(i:Nat)) 1)where
 mem:=by simp
 obj:=λi h st b hb=>by
  have e:b=it:=by simpa using hb
  subst e;exact⟨_,st,λv z=>by
   have z':Data.fields _=Data.cell v:=z;cases z'⟩
 keep:=λi h h' st k=>k it (by simp) _ st
 item:=by
  intro X hP hw hK hc i ϵ s σ H E I hf st hg;subst hP hw hK;obtain⟨f0,f1,f2,f3,f4,f5⟩:=hf it (by simp);have W:=Walks.range (prog:=X.prog) (w:=X.w) (I.ok.hd hc) it lo 1 n;refine W.item i s _ _ hg st λv h' tk hv st' kk=>?_
  obtain⟨t,rfl⟩:=hv;have I1:Inv X ϵ σ H {s with heap:=h',toks:=tk}:=I.turned (λb o hb e=>kk b o (by simpa using hb) e) f0 f1 f3 f4 f5;refine⟨_,rfl,qR (s:={s with heap:=h',toks:=tk}) (n:="range_iterator") st' rfl rfl (by decide) ⟨.int (lo+i),H,I1,⟨t,?_⟩,⟨rfl,rfl⟩,st',λb hb=>(hf b hb).1⟩⟩;rw[Int.mul_one]
 done:=by
  intro X hP hw hK hc i ϵ s σ H E I hf st hg;subst hP hw hK;obtain⟨f0,f1,f2,f3,f4,f5⟩:=hf it (by simp);exact wpAny_pyNext_range_end (I.ok.hd hc) st (by have:n<=i:=hg;omega) λh' eb=>⟨rfl,I.turned (t':=s.toks) (λb o hb e=>eb b o hb e) f0 f1 f3 f4 f5⟩
 self:=λ_ _ _ _ _ st h=>wpAny_pyIter_rangeiter st h
section
variable{X:Cx}{tg:ν}
def ajO(K:Ϩ)(tl:TE):TI:=λσ H R=>tl σ H λx H1=>∃a,x=.ref a/\(∃xs,η K H1 a xs)/\R (ig K a) H1
theorem adD{l:ν}{tl:TE}(hl:PE X l tl):PI X tg l (ajO X.K tl):=by
 intro ϵ s σ H R I h;refine χ (hl ϵ s σ H _ I h) λv s1 hZ=>?_
 obtain⟨x,H1,I1,r1,q1⟩:=hZ;obtain⟨a,e,⟨xs,hq⟩,q⟩:=q1;subst e;cases r1;obtain⟨ϸ,rv,p,hz⟩:=I1.list hq;refine wpAny_pyIter_list p.isList ?_;refine⟨s1.heap.objs.size,[s1.heap.objs.size],_,_,H1,rfl,I1.kept (t':=s1.toks) λb o e=>Heap.get?_push_of_some _ e,aeg a _,⟨_,abE _ rfl,rfl,rfl⟩,λb hb=>?_,q⟩;have e:b=s1.heap.objs.size:=by simpa using hb
 subst e;exact I1.fpOk (ϭ _) (I1.hok.fresh (ϭ _))
theorem aes{ϵ:List (δ×Obj)}{σ:St}{H:Hp}{s:μ}{R:It->Hp->Prop}{E:ε->μ->Prop}{lo hi:Int}{t u v:Tok}{tk:Nat}(I:Inv X ϵ σ H s)(h1: -(2^62)<=lo)(h2:lo<2^62)(h3: -(2^62)<=hi)(h4:hi<2^62)(q:R (iZ lo (hi-lo).toNat) H):π (Ϧ X.prog X.w) X.A (pyIter (.ref s.heap.objs.size)) (wW X ϵ σ tg R) E {s with heap:=s.heap.push {cls:=.type "range",data:=.fields #[.int lo t,.int hi u,.int 1 v]},toks:=tk}:=by
 refine wpAny_pyIter_range (IsRange.new ..) (small_one h1 h2 h3 h4) ?_;have I1:Inv X ϵ σ H {s with heap:=s.heap.push {cls:=.type "range",data:=.fields #[.int lo t,.int hi u,.int 1 v]},toks:=tk}:=I.kept λb o e=>Heap.get?_push_of_some _ e
 refine⟨(s.heap.push {cls:=.type "range",data:=.fields #[.int lo t,.int hi u,.int 1 v]}).objs.size,[(s.heap.push {cls:=.type "range",data:=.fields #[.int lo t,.int hi u,.int 1 v]}).objs.size],_,_,H,rfl,
  I1.kept (t':=tk) λb o e=>Heap.get?_push_of_some _ e,afh _ lo (hi-lo).toNat,?_,λb hb=>?_,q⟩
 .have e1:lo+((0:Nat):Int)*1=lo:=by simp
  have e2:(((hi-lo).toNat:Nat):Int)-((0:Nat):Int)=Builtin.Range.rangeSize lo hi 1:=by rw[rangeSize_one];split <;>omega
  show IsRangeIter _ _ (lo+((0:Nat):Int)*1) ((((hi-lo).toNat:Nat):Int)-((0:Nat):Int)) 1;rw[e1,e2];exact abE _ rfl
 .have e:b=(s.heap.push {cls:=.type "range",data:=.fields #[.int lo t,.int hi u,.int 1 v]}).objs.size:=by simpa using hb
  subst e;exact I1.fpOk (ϭ _) (I1.hok.fresh (ϭ _))
def TF(ta:TA):TI:=λσ H R=>ta σ H λvs H1=>∃j:Int,vs=[.int j]/\ -(2^62)<=j/\j<2^62/\R (iZ 0 j.toNat) H1
theorem Ub{a:ν}{ta:TA}{p pos:Pos}(hg:Gl X "range")(hm:X.mg "range"=none)(ha:PA X [a] ta)(hs:ϯ [a] X.env=[(false,eval a X.env)]:=by rfl):PI X tg (.Call (.Name "range" p) [a] [] pos) (TF ta):=by
 intro ϵ s σ H R I h;refine Call_ (iU I hg hm boot_range (PyProof.Rows.callWith_type1 (χ (ha pos ϵ s σ H _ I h) λus s1 hZ=>?_) hs rfl));obtain⟨vs,H1,I1,r1,q1⟩:=hZ;obtain⟨j,e,q1,q2,q⟩:=q1;subst e;cases r1 with
 |cons r rr=>
  cases rr;obtain⟨t,rfl⟩:=r;exact call_range_1 (aes I1 (by omega) (by omega) q1 q2 (by simpa using q))
def agH(wi:TI)(g:TG)(tb:TS):TS:=λD σ H=>wi σ H λJ H1=>∃W:Nat->Nat->St->Hp->Prop,(∃m,W 0 m σ H1)/\∀i m σ H,W i m σ H->
 (J.stop i H/\D.nx σ H)\/(J.go i H/\∃N:St->Hp->Prop,(∀σ' H',N σ' H'->∃m',m'<m/\W (i+1) m' σ' H')/\∀x H',J.yld i H x H'->g x σ H' λσ2 H2=>tb {D with nx:=N,ct:=N,bk:=D.nx} σ2 H2)
def dO(fp:List δ)(h:ϫ):List (δ×Obj):=fp.filterMap λb=>(h.get? b).map λo=>(b,o)
theorem mZ{fp:List δ}{h:ϫ}{b:δ}{o:Obj}(hb:b∈fp)(e:h.get? b=some o):(b,o)∈dO fp h:=akD.mpr ⟨b,hb,by rw[e];rfl⟩
theorem aej{fp:List δ}{h:ϫ}{p:δ×Obj}(hp:p∈dO fp h):p.1∈fp/\h.get? p.1=some p.2:=by
 obtain⟨b,hb,e⟩:=akD.mp hp;cases q:h.get? b with
 |none=>rw[q]at e;cases e
 |some o=>
  rw[q]at e;have e':(b,o)=p:=Option.some.inj e;subst e';exact⟨hb,q⟩
theorem Inv.pinned{ϵ:List (δ×Obj)}{σ:St}{H:Hp}{s:μ}{fp:List δ}(I:Inv X ϵ σ H s)(hf:∀b∈fp,aO X ϵ H b)(ho:∀b∈fp,∃o,s.heap.get? b=some o/\∀v,o.data≠.cell v):Inv X (ϵ++dO fp s.heap) σ H s:=
 I.pins_of λp hp=>(adT.mp hp).elim (λz=>I.pin p (acp _ z)) λz=>by
  obtain⟨hb,e⟩:=aej z;obtain⟨f0,f1,f2,_⟩:=hf p.1 hb;obtain⟨o,e',d⟩:=ho p.1 hb;rw[e]at e';cases e';exact⟨e,f0,f1,f2,d⟩
theorem Inv.unpinned{ϵ pl:List (δ×Obj)}{σ:St}{H:Hp}{s:μ}(I:Inv X (ϵ++pl) σ H s):Inv X ϵ σ H s:=I.pins_of λp hp=>I.pin p (acp _ (agg _ hp))
theorem aaQ{iter:ν}{body:List ϧ}{wi:TI}{g:TG}{tb:TS}{pos:Pos}(hp:amZ (Ϧ X.prog X.w) X.A X.env X.xe)(hc:X.calm=true)(hi:PI X tg iter wi)(hg:PG X tg g)(hb:gB X body tb)(hs:∀x,foldedSetIterable iter X.env x=pure x:=by intro _;rfl):PS X (.For tg iter body [] pos) (agH wi g tb):=by
 intro ϵ s σ H D I h;refine wpAny_For (χ (hi ϵ s σ H _ I h) λv s1 h1=>χ h1 λitv s2 h2=>?_) hs;obtain⟨it,fp,tn,J,H2,e,I2,T,st2,f2,W,⟨m0,w0⟩,turn⟩:=h2;subst e;have stat:∀{H':Hp},(∀b∈fp,H' b=none)->∀b∈fp,aO X ϵ H' b:=λhn b hb=>⟨hn b hb,(f2 b hb).2⟩
 refine codeAny_forLoop_any (λn s'=>∃i σ' H',Inv X ϵ σ' H' s'/\tn i s'.heap/\(∀b∈fp,H' b=none)/\W i n σ' H') ?_ m0 ⟨0,σ,H2,I2,st2,λb hb=>(f2 b hb).1,w0⟩
 rintro n s3 ⟨i,σ3,H3,I3,st3,fr3,w3⟩
 obtain⟨stop,qn⟩|⟨go,N,hN,step⟩:=turn i n σ3 H3 w3
 .refine amP hp (χ (T.done X rfl rfl rfl hc i ϵ s3 σ3 H3 X.xe I3 (stat fr3) st3 stop) λr s4 hZ=>?_);obtain⟨hr,I4⟩:=hZ;subst hr;exact wpAny_execs_nil ⟨σ3,H3,I4,qn⟩
 .refine amP hp (χ (T.item X rfl rfl rfl hc i ϵ s3 σ3 H3 X.xe I3 (stat fr3) st3 go) λr s4 hZ=>?_);obtain⟨u,hr,h4⟩:=hZ;subst hr;refine amP hp (χ h4 λ_ s5 hZ=>?_);obtain⟨x,H5,I5,r5,y5,st5,fr5⟩:=hZ;have I5':=I5.pinned (stat fr5) (T.obj _ _ st5);refine amP hp (χ (hg _ s5 σ3 H5 x u _ I5' r5 (step x H5 y5)) λ_ s6 hZ=>?_);obtain⟨σ6,H6,I6,q6⟩:=hZ;refine amP hp (χ (hb _ s6 σ6 H6 _ I6 q6) λf s7 q7=>?_);have again:∀{σ7:St}{H7:Hp},Inv X (ϵ++dO fp s5.heap) σ7 H7 s7->N σ7 H7->∃m,m<n/\∃i σ' H',Inv X ϵ σ' H' s7/\tn i s7.heap/\(∀b∈fp,H' b=none)/\W i m σ' H':=λ{σ7 H7} I7 n7=>by
   obtain⟨m',hm,w7⟩:=hN σ7 H7 n7;refine⟨m',hm,i+1,σ7,H7,I7.unpinned,T.keep _ _ _ st5 λb hb o e=>(I7.pin (b,o) (acp _ (acp _ (mZ hb e)))).1,λb hb=>?_,w7⟩;obtain⟨o,e,d⟩:=T.obj _ _ st5 b hb;exact(I7.pin (b,o) (acp _ (acp _ (mZ hb e)))).2.1
  cases f with
  |next=>obtain⟨σ7,H7,I7,n7⟩:=q7;exact again I7 n7
  |cont=>obtain⟨σ7,H7,I7,n7⟩:=q7;exact again I7 n7
  |brk=>obtain⟨σ7,H7,I7,q7⟩:=q7;exact⟨σ7,H7,I7.unpinned,q7⟩
  |ret v=>obtain⟨x7,σ7,H7,I7,r7,q7⟩:=q7;exact⟨x7,σ7,H7,I7.unpinned,r7,q7⟩
end
theorem ahO{K:PySem.W.Frag}{a:δ}{xs:List V}{g:TG}{tb:TS}{D:Ends}{σ:St}{H:Hp}(Pv:Nat->St->Hp->Prop)(h0:Pv 0 σ H)(hl:∀i σ H,i<=xs.length->Pv i σ H->η K H a xs)(hs:∀i x σ H,xs[i]?=some x->Pv i σ H->g x σ H λσ2 H2=>tb {D with nx:=Pv (i+1),ct:=Pv (i+1),bk:=D.nx} σ2 H2)(hd:∀σ H,Pv xs.length σ H->D.nx σ H):∃W:Nat->Nat->St->Hp->Prop,(∃m,W 0 m σ H)/\∀i m σ H,W i m σ H->
   ((ig K a).stop i H/\D.nx σ H)\/((ig K a).go i H/\∃N:St->Hp->Prop,(∀σ' H',N σ' H'->∃m',m'<m/\W (i+1) m' σ' H')/\∀x H',(ig K a).yld i H x H'->g x σ H' λσ2 H2=>tb {D with nx:=N,ct:=N,bk:=D.nx} σ2 H2):=by
 refine⟨λi m σ H=>m=xs.length-i/\i<=xs.length/\Pv i σ H,⟨xs.length,by simp,afS _,h0⟩,?_⟩
 rintro i m σ H ⟨rfl,hi,p⟩
 have q:=hl i σ H hi p;by_cases hlt:i<xs.length
 .refine .inr ⟨⟨xs,xs[i],q,by simp[hlt]⟩,Pv (i+1),λσ' H' p'=>⟨xs.length-(i+1),by omega,rfl,hlt,p'⟩,λx H' y=>?_⟩;obtain⟨e,y⟩:=y;subst e;exact hs i x σ _ (y xs q) p
 .have e:i=xs.length:=by omega
  subst e;exact .inl ⟨⟨xs,q,ϭ _⟩,hd σ H p⟩
theorem aby{lo:Int}{n:Nat}{g:TG}{tb:TS}{D:Ends}{σ:St}{H:Hp}(Pv:Nat->St->Hp->Prop)(h0:Pv 0 σ H)(hs:∀i σ H,i<n->Pv i σ H->g (.int (lo+i)) σ H λσ2 H2=>tb {D with nx:=Pv (i+1),ct:=Pv (i+1),bk:=D.nx} σ2 H2)(hd:∀σ H,Pv n σ H->D.nx σ H):∃W:Nat->Nat->St->Hp->Prop,(∃m,W 0 m σ H)/\∀i m σ H,W i m σ H->
   ((iZ lo n).stop i H/\D.nx σ H)\/((iZ lo n).go i H/\∃N:St->Hp->Prop,(∀σ' H',N σ' H'->∃m',m'<m/\W (i+1) m' σ' H')/\∀x H',(iZ lo n).yld i H x H'->g x σ H' λσ2 H2=>tb {D with nx:=N,ct:=N,bk:=D.nx} σ2 H2):=by
 refine⟨λi m σ H=>m=n-i/\i<=n/\Pv i σ H,⟨n,by simp,afS _,h0⟩,?_⟩
 rintro i m σ H ⟨rfl,hi,p⟩
 by_cases hlt:i<n
 .refine .inr ⟨hlt,Pv (i+1),λσ' H' p'=>⟨n-(i+1),by omega,rfl,hlt,p'⟩,λx H' y=>?_⟩;obtain⟨e,y⟩:=y;subst e y;exact hs i σ _ hlt p
 .have e:i=n:=by omega
  subst e;exact .inl ⟨ϭ _,hd σ H p⟩
abbrev R2:=V->V->Hp->VK->Prop
def Ϣ(X:Cx)(f:ε->ε->Sem ε)(r:R2):Prop:=
 ∀(ϵ:List (δ×Obj))(s:μ)(σ:St)(H:Hp)(x y:V)(v u:ε)(Q:VK),Inv X ϵ σ H s->RelV x v->RelV y u->r x y H Q->
  π (Ϧ X.prog X.w) X.A (f v u) (EP X ϵ σ Q) X.xe s
def qy(X:Cx)(f:ε->Sem ε)(r:V->Hp->VK->Prop):Prop:=
 ∀(ϵ:List (δ×Obj))(s:μ)(σ:St)(H:Hp)(x:V)(v:ε)(Q:VK),Inv X ϵ σ H s->RelV x v->r x H Q->
  π (Ϧ X.prog X.w) X.A (f v) (EP X ϵ σ Q) X.xe s
def eN(X:Cx)(f:ε)(r:List V->Hp->VK->Prop):Prop:=
 ∀(ϵ:List (δ×Obj))(s:μ)(σ:St)(H:Hp)(xs:List V)(us:List ε)(Q:VK),Inv X ϵ σ H s->Vals xs us->r xs H Q->
  π (Ϧ X.prog X.w) X.A (call f us) (EP X ϵ σ Q) X.xe s
def acg(X:Cx)(r:V->Hp->(Bool->Hp->Prop)->Prop):Prop:=
 ∀(ϵ:List (δ×Obj))(s:μ)(σ:St)(H:Hp)(x:V)(v:ε)(Q:Bool->Hp->Prop),Inv X ϵ σ H s->RelV x v->r x H Q->
  π (Ϧ X.prog X.w) X.A (truthy v) (TP X ϵ σ Q) X.xe s
def vM(r:R2)(ta tb:TE):TE:=λσ H Q=>ta σ H λx H1=>tb σ H1 λy H2=>r x y H2 Q
def WQ(r:V->Hp->VK->Prop)(ta:TE):TE:=λσ H Q=>ta σ H λx H1=>r x H1 Q
def rI(C:Int->Int->Prop)(g:Int->Int->V):R2:=λx y H Q=>∃i j,x=.int i/\y=.int j/\C i j/\Q (g i j) H
def iY(g:Int->Int->V):R2:=λx y H Q=>∃i j,x=.int i/\y=.int j/\Q (g i j) H
def rU(g:Int->V):V->Hp->VK->Prop:=λx H Q=>∃i,x=.int i/\Q (g i) H
section
variable{X:Cx}{a b c:ν}{ta tb tc:TE}{pos:Pos}
theorem zU(ha:PE X a ta)(hb:PE X b tb){ϵ:List (δ×Obj)}{s:μ}{σ:St}{H:Hp}{R:V->V->Hp->Prop}(I:Inv X ϵ σ H s)(h:ta σ H λx H1=>tb σ H1 λy H2=>R x y H2){Q:ε->μ->Prop}{f:ε->ε->Sem ε}(hf:∀v u s2 x y H2,Inv X ϵ σ H2 s2->RelV x v->RelV y u->R x y H2->π (Ϧ X.prog X.w) X.A (f v u) Q X.xe s2):π (Ϧ X.prog X.w) X.A (eval a X.env) (λv s₁=>π (Ϧ X.prog X.w) X.A (eval b X.env) (λu s₂=>π (Ϧ X.prog X.w) X.A (f v u) Q X.xe s₂) X.xe s₁) X.xe s:=by
 refine χ (ha ϵ s σ H _ I h) λv s1 hZ=>?_
 obtain⟨x,H1,I1,r1,q1⟩:=hZ;refine χ (hb ϵ s1 σ H1 _ I1 q1) λu s2 hZ=>?_
 obtain⟨y,H2,I2,r2,q2⟩:=hZ;exact hf v u s2 x y H2 I2 r1 r2 q2
theorem aiO{op:Operator}{r:R2}(ho:Ϣ X (binaryOp op) r)(ha:PE X a ta)(hb:PE X b tb):PE X (.BinOp a op b pos) (vM r ta tb):=by
 intro ϵ s σ H Q I h;exact wpAny_BinOp (zU ha hb I h λv u s2 x y H2 I2 rx ry q=>ho ϵ s2 σ H2 x y v u Q I2 rx ry q)
theorem Vc{op:UnaryOp}{r:V->Hp->VK->Prop}(ho:qy X (unaryOp op) r)(ha:PE X a ta):PE X (.UnaryOp op a pos) (WQ r ta):=by
 intro ϵ s σ H Q I h;exact UnaryOp_ (χ (ha ϵ s σ H _ I h) λv s1 ⟨x,H1,I1,r1,q1⟩=>ho ϵ s1 σ H1 x v Q I1 r1 q1)
theorem Bf{f:ε->ε->Sem ε}{C:Int->Int->Prop}{g:Int->Int->Int}(rule:∀(i j:Int)(t u:Tok)(s:μ)(Q:ε->μ->Prop)(E:ε->μ->Prop),C i j->Q (.int (g i j) s.toks) {s with toks:=s.toks+1}->π (Ϧ X.prog X.w) X.A (f (.int i t) (.int j u)) Q E s):Ϣ X f (rI C λi j=>.int (g i j)):=by
 intro ϵ s σ H x y v u Q I rx ry h;obtain⟨i,j,rfl,rfl,hc,q⟩:=h;obtain⟨t,rfl⟩:=rx;obtain⟨t',rfl⟩:=ry;exact rule i j t t' s _ _ hc ⟨.int (g i j),H,I.tok _,⟨_,rfl⟩,q⟩
theorem Ka{f:ε->ε->Sem ε}{g:Int->Int->Int}(rule:∀(i j:Int)(t u:Tok)(s:μ)(Q:ε->μ->Prop)(E:ε->μ->Prop),Q (.int (g i j) s.toks) {s with toks:=s.toks+1}->π (Ϧ X.prog X.w) X.A (f (.int i t) (.int j u)) Q E s):Ϣ X f (iY λi j=>.int (g i j)):=by
 intro ϵ s σ H x y v u Q I rx ry h;obtain⟨i,j,rfl,rfl,q⟩:=h;obtain⟨t,rfl⟩:=rx;obtain⟨t',rfl⟩:=ry;exact rule i j t t' s _ _ ⟨.int (g i j),H,I.tok _,⟨_,rfl⟩,q⟩
theorem wC{f:ε->ε->Sem ε}{g:Int->Int->Bool}(rule:∀(i j:Int)(t u:Tok)(s:μ)(Q:ε->μ->Prop)(E:ε->μ->Prop),Q (.bool (g i j)) s->π (Ϧ X.prog X.w) X.A (f (.int i t) (.int j u)) Q E s):Ϣ X f (iY λi j=>.bl (g i j)):=by
 intro ϵ s σ H x y v u Q I rx ry h;obtain⟨i,j,rfl,rfl,q⟩:=h;obtain⟨t,rfl⟩:=rx;obtain⟨t',rfl⟩:=ry;exact rule i j t t' s _ _ ⟨.bl (g i j),H,I,rfl,q⟩
def Qx(i j:Int):Prop:=0<=j/\j<=1000000/\i.natAbs<2^64
def vg(i j:Int):Prop:=(-(2^64)<i/\i<2^64)\/(-(2^64)<j/\j<2^64)
theorem vg.ok{i j:Int}(h:vg i j):IntMulOk i j:=by
 obtain⟨h1,h2⟩|⟨h1,h2⟩:=h
 .exact .of_left (intBits_le_64 h1 h2)
 .exact .of_right (intBits_le_64 h1 h2)
theorem ajH:Ϣ X (binaryOp .Add) (iY λi j=>.int (i+j)):=Ka λ_ _ _ _ _ _ _ q=>add_int q
theorem Zr:Ϣ X (binaryOp .Sub) (iY λi j=>.int (i-j)):=Ka λ_ _ _ _ _ _ _ q=>sub_int q
theorem aeR:Ϣ X (binaryOp .Mult) (rI vg λi j=>.int (i*j)):=Bf λ_ _ _ _ _ _ _ hc q=>mul_int q hc.ok
theorem YC:Ϣ X (binaryOp .Mod) (rI (λ_ j=>0<j) λi j=>.int (i % j)):=Bf λi j _ _ _ _ _ hc q=>by
 have h1:(0:Int)<j:=hc;exact mod_int' (by omega) (by rw[Int.fmod_eq_emod_of_nonneg i (by omega)];exact q)
theorem afY:Ϣ X (binaryOp .Pow) (rI Qx λi j=>.int (i^j.toNat)):=Bf λ_ _ _ _ _ _ _ hc q=>pow_int_small hc.1 hc.2.1 hc.2.2 q
theorem WX{f:ε->Sem ε}{g:Int->Int}(rule:∀(i:Int)(t:Tok)(s:μ)(Q:ε->μ->Prop)(E:ε->μ->Prop),Q (.int (g i) s.toks) {s with toks:=s.toks+1}->π (Ϧ X.prog X.w) X.A (f (.int i t)) Q E s):qy X f (rU λi=>.int (g i)):=by
 intro ϵ s σ H x v Q I rx h;obtain⟨i,rfl,q⟩:=h;obtain⟨t,rfl⟩:=rx;exact rule i t s _ _ ⟨.int (g i),H,I.tok _,⟨_,rfl⟩,q⟩
theorem ajv:qy X (unaryOp .USub) (rU λi=>.int (-i)):=WX λ_ _ _ _ _ q=>neg_int q
end
def rZ:V->V->Bool
 |.non,.non=>true|.non,.int _=>true|.int _,.non=>true|.non,.bl _=>true|.bl _,.non=>true|.non,.str _=>true|.str _,.non=>true
 |.int _,.int _=>true|.bl _,.bl _=>true|.str _,.str _=>true|.byt _,.byt _=>true
 |.int _,.str _=>true|.str _,.int _=>true|.bl _,.str _=>true|.str _,.bl _=>true
 |_,_=>false
def XN:R2:=λx y H Q=>rZ x y=true/\Q (.bl (decide (x=y))) H
def rNe:R2:=λx y H Q=>rZ x y=true/\Q (.bl (!decide (x=y))) H
theorem Kc{i j:Int}:decide (V.int i=V.int j)=(i==j):=by
 rw[aik];simp
theorem JB{i j:Bool}:decide (V.bl i=V.bl j)=(i==j):=by
 rw[aik];simp
theorem Qt{i j:Str}:decide (V.str i=V.str j)=(i==j):=by
 rw[aik];simp
theorem Q3{i j:Array UInt8}:decide (V.byt i=V.byt j)=(i.toList==j.toList):=by
 rw[aik];cases i;cases j;simp
section
variable{X:Cx}{a b c:ν}{ta tb tc:TE}{pos:Pos}
theorem ϛ{ϵ:List (δ×Obj)}{σ:St}{H:Hp}{s:μ}{Q:VK}{k k':Bool}(I:Inv X ϵ σ H s)(q:Q (.bl k) H)(e:k=k'):EP X ϵ σ Q (.bool k') s:=by
 subst e;exact⟨.bl k,H,I,rfl,q⟩
theorem adp:Ϣ X (adh .Eq) XN:=by
 intro ϵ s σ H x y v u Q I rx ry h;obtain⟨hs,q⟩:=h;cases x with
 |non=>
  cases rx;cases y with
  |non=>cases ry;exact PySem.EqNone.eq_none_none (ϛ I q (by simp))
  |bl j=>cases ry;exact PySem.EqNone.eq_none_bool (ϛ I q (by simp))
  |int j=>obtain⟨t',rfl⟩:=ry;exact PySem.EqNone.eq_none_int (ϛ I q (by simp))
  |str j=>obtain⟨t',rfl⟩:=ry;exact PySem.EqNone.eq_none_str (ϛ I q (by simp))
  |_=>exact absurd (show false=true from hs) aaD
 |bl i=>
  cases rx;cases y with
  |non=>cases ry;exact PySem.EqNone.eq_bool_none (ϛ I q (by simp))
  |bl j=>cases ry;exact eq_bool (ϛ I q JB)
  |str j=>obtain⟨t',rfl⟩:=ry;exact PySem.EqMixed.eq_bool_str (ϛ I q (by simp))
  |_=>exact absurd (show false=true from hs) aaD
 |int i=>
  obtain⟨t,rfl⟩:=rx;cases y with
  |non=>cases ry;exact PySem.EqNone.eq_int_none (ϛ I q (by simp))
  |int j=>obtain⟨t',rfl⟩:=ry;exact eq_int (ϛ I q Kc)
  |str j=>obtain⟨t',rfl⟩:=ry;exact PySem.EqMixed.eq_int_str (ϛ I q (by simp))
  |_=>exact absurd (show false=true from hs) aaD
 |str i=>
  obtain⟨t,rfl⟩:=rx;cases y with
  |non=>cases ry;exact PySem.EqNone.eq_str_none (ϛ I q (by simp))
  |bl j=>cases ry;exact PySem.EqMixed.eq_str_bool (ϛ I q (by simp))
  |int j=>obtain⟨t',rfl⟩:=ry;exact PySem.EqMixed.eq_str_int (ϛ I q (by simp))
  |str j=>obtain⟨t',rfl⟩:=ry;exact eq_str (ϛ I q Qt)
  |_=>exact absurd (show false=true from hs) aaD
 |byt i=>
  obtain⟨t,rfl⟩:=rx;cases y with
  |byt j=>obtain⟨t',rfl⟩:=ry;exact W.eq_bytes (ϛ I q Q3)
  |_=>exact absurd (show false=true from hs) aaD
 |_=>cases y<;>exact absurd (show false=true from hs) aaD
theorem aaZ:Ϣ X (adh .NotEq) rNe:=by
 intro ϵ s σ H x y v u Q I rx ry h;obtain⟨hs,q⟩:=h;cases x with
 |non=>
  cases rx;cases y with
  |non=>cases ry;exact PySem.EqNone.ne_none_none (ϛ I q (by simp))
  |bl j=>cases ry;exact PySem.EqNone.ne_none_bool (ϛ I q (by simp))
  |int j=>obtain⟨t',rfl⟩:=ry;exact PySem.EqNone.ne_none_int (ϛ I q (by simp))
  |str j=>obtain⟨t',rfl⟩:=ry;exact PySem.EqNone.ne_none_str (ϛ I q (by simp))
  |_=>exact absurd (show false=true from hs) aaD
 |bl i=>
  cases rx;cases y with
  |non=>cases ry;exact PySem.EqNone.ne_bool_none (ϛ I q (by simp))
  |bl j=>cases ry;exact ne_bool (ϛ I q (congrArg not JB))
  |str j=>obtain⟨t',rfl⟩:=ry;exact PySem.EqMixed.ne_bool_str (ϛ I q (by simp))
  |_=>exact absurd (show false=true from hs) aaD
 |int i=>
  obtain⟨t,rfl⟩:=rx;cases y with
  |non=>cases ry;exact PySem.EqNone.ne_int_none (ϛ I q (by simp))
  |int j=>obtain⟨t',rfl⟩:=ry;exact ne_int (ϛ I q (congrArg not Kc))
  |str j=>obtain⟨t',rfl⟩:=ry;exact PySem.EqMixed.ne_int_str (ϛ I q (by simp))
  |_=>exact absurd (show false=true from hs) aaD
 |str i=>
  obtain⟨t,rfl⟩:=rx;cases y with
  |non=>cases ry;exact PySem.EqNone.ne_str_none (ϛ I q (by simp))
  |bl j=>cases ry;exact PySem.EqMixed.ne_str_bool (ϛ I q (by simp))
  |int j=>obtain⟨t',rfl⟩:=ry;exact PySem.EqMixed.ne_str_int (ϛ I q (by simp))
  |str j=>obtain⟨t',rfl⟩:=ry;exact ne_str (ϛ I q (congrArg not Qt))
  |_=>exact absurd (show false=true from hs) aaD
 |byt i=>
  obtain⟨t,rfl⟩:=rx;cases y with
  |byt j=>obtain⟨t',rfl⟩:=ry;exact W.ne_bytes (ϛ I q (congrArg not Q3))
  |_=>exact absurd (show false=true from hs) aaD
 |_=>cases y<;>exact absurd (show false=true from hs) aaD
theorem aiq:Ϣ X (adh .Lt) (iY λi j=>.bl (decide (i<j))):=wC λ_ _ _ _ _ _ _ q=>lt_int q
theorem U9:Ϣ X (adh .LtE) (iY λi j=>.bl (decide (i<=j))):=wC λ_ _ _ _ _ _ _ q=>le_int q
theorem afo:Ϣ X (adh .Gt) (iY λi j=>.bl (decide (j<i))):=wC λ_ _ _ _ _ _ _ q=>gt_int q
theorem adO:Ϣ X (adh .GtE) (iY λi j=>.bl (decide (j<=i))):=wC λ_ _ _ _ _ _ _ q=>ge_int q
theorem aeW:Ϣ X (adh .Lt) (λx y H Q=>∃i j,x=.str i/\y=.str j/\Q (.bl (decide (i.cps.toList<j.cps.toList))) H):=by
 intro ϵ s σ H x y v u Q I rx ry h;obtain⟨i,j,rfl,rfl,q⟩:=h;obtain⟨t,rfl⟩:=rx;obtain⟨t',rfl⟩:=ry;exact lt_str (ϛ I q rfl)
theorem ajX:Ϣ X (adh .In) (λx y H Q=>∃i j,x=.str i/\y=.str j/\Q (.bl (!(Builtin.Str.occurrences j i 0 j.length 1).isEmpty)) H):=by
 intro ϵ s σ H x y v u Q I rx ry h;obtain⟨i,j,rfl,rfl,q⟩:=h;obtain⟨t,rfl⟩:=rx;obtain⟨t',rfl⟩:=ry;exact in_str (ϛ I q rfl)
theorem afv:Ϣ X (adh .Is) (λx y H Q=>y=.non/\Q (.bl (decide (x=.non))) H):=by
 intro ϵ s σ H x y v u Q I rx ry h;obtain⟨rfl,q⟩:=h;cases ry;refine is_none_gen (ϛ I q ?_);cases x<;>first
  |(cases rx;rfl)
  |(obtain⟨t,rfl⟩:=rx;rfl)
theorem Z0:Ϣ X (adh .IsNot) (λx y H Q=>y=.non/\Q (.bl (!decide (x=.non))) H):=by
 intro ϵ s σ H x y v u Q I rx ry h;obtain⟨rfl,q⟩:=h;cases ry;refine isnot_none_gen (ϛ I q ?_);cases x<;>first
  |(cases rx;rfl)
  |(obtain⟨t,rfl⟩:=rx;rfl)
theorem Qw(b:ν){op:CmpOp}(h:op≠ .In:=by decide)(h2:op≠ .NotIn:=by decide):behindInMarks op b=false:=by
 have e1:(op==CmpOp.In)=false:=by cases op<;>first|rfl|exact absurd rfl h
 have e2:(op==CmpOp.NotIn)=false:=by cases op<;>first|rfl|exact absurd rfl h2
 cases b<;>simp[behindInMarks,e1,e2]
theorem We{op:CmpOp}{r:R2}(ho:Ϣ X (adh op) r)(ha:PE X a ta)(hb:PE X b tb)(hm:behindInMarks op b=false):PE X (.Compare a [op] [b] pos) (vM r ta tb):=by
 intro ϵ s σ H Q I h;exact wpAny_Compare1 (zU ha hb I h λv u s2 x y H2 I2 rx ry q=>ho ϵ s2 σ H2 x y v u Q I2 rx ry q) hm
def Kf(t:TE):TT:=λσ H Q=>t σ H λx H'=>∃k,x=.bl k/\Q k H'
theorem ahB{op:CmpOp}{r:R2}(ho:Ϣ X (adh op) r)(ha:PE X a ta)(hb:PE X b tb)(hm:behindInMarks op b=false):PT X (.Compare a [op] [b] pos) (Kf (vM r ta tb)):=by
 intro ϵ s σ H Q I h;refine wpAny_isTrue_Compare1 (χ (ha ϵ s σ H _ I h) λv s1 ⟨x,H1,I1,r1,q1⟩=>χ (hb ϵ s1 σ H1 _ I1 q1) λu s2 ⟨y,H2,I2,r2,q2⟩=>
  χ (ho ϵ s2 σ H2 x y v u _ I2 r1 r2 q2) λc s3 ⟨z,H3,I3,r3,k,e,q3⟩=>?_) hm
 subst e;cases r3;exact afP ⟨H3,I3,q3⟩
def Rq(r r':R2)(ta tb tc:TE):TE:=λσ H Q=>ta σ H λx H1=>tb σ H1 λy H2=>r x y H2 λz H3=>∃k,z=.bl k/\
 (if k=true then tc σ H3 λw' H4=>r' y w' H4 Q else Q (.bl false) H3)
theorem af6{op op':CmpOp}{r r':R2}(ho:Ϣ X (adh op) r)(ho':Ϣ X (adh op') r')(ha:PE X a ta)(hb:PE X b tb)(hc:PE X c tc)(hm:lastMarks [op,op'] [b,c]=false:=by with_unfolding_all rfl):PE X (.Compare a [op,op'] [b,c] pos) (Rq r r' ta tb tc):=by
 intro ϵ s σ H Q I h;refine Compare_chain (χ (ha ϵ s σ H _ I h) λv s1 ⟨x,H1,I1,r1,q1⟩=>chain_link (χ (hb ϵ s1 σ H1 _ I1 q1) λu s2 ⟨y,H2,I2,r2,q2⟩=>
  χ (ho ϵ s2 σ H2 x y v u _ I2 r1 r2 q2) λd s3 ⟨z,H3,I3,r3,k,e,q3⟩=>?_)) hm
 subst e;cases r3;refine afP ?_;cases k with
 |false=>exact ite_ff ⟨.bl false,H3,I3,rfl,q3⟩
 |true=>exact ite_tt (chain_last (χ (hc ϵ s3 σ H3 _ I3 q3) λw' s4 ⟨z',H4,I4,r4,q4⟩=>ho' ϵ s4 σ H4 y z' u w' Q I4 r2 r4 q4))
theorem aeQ{op op':CmpOp}{r r':R2}(ho:Ϣ X (adh op) r)(ho':Ϣ X (adh op') r')(ha:PE X a ta)(hb:PE X b tb)(hc:PE X c tc)(hm:lastMarks [op,op'] [b,c]=false:=by with_unfolding_all rfl):PT X (.Compare a [op,op'] [b,c] pos) (Kf (Rq r r' ta tb tc)):=by
 intro ϵ s σ H Q I h;refine isTrue_chain (χ (ha ϵ s σ H _ I h) λv s1 ⟨x,H1,I1,r1,q1⟩=>test_link (χ (hb ϵ s1 σ H1 _ I1 q1) λu s2 ⟨y,H2,I2,r2,q2⟩=>
  χ (ho ϵ s2 σ H2 x y v u _ I2 r1 r2 q2) λd s3 ⟨z,H3,I3,r3,k,e,q3⟩=>?_)) hm
 subst e;cases r3;refine afP ?_;cases k with
 |false=>
  obtain⟨k',e',q'⟩:=q3;cases e';exact ite_ff ⟨H3,I3,q'⟩
 |true=>
  refine ite_tt (test_last (χ (hc ϵ s3 σ H3 _ I3 q3) λw' s4 ⟨z',H4,I4,r4,q4⟩=>χ (ho' ϵ s4 σ H4 y z' u w' _ I4 r2 r4 q4) λd' s5 hZ=>?_));obtain⟨z2,H5,I5,r5,k2,e2,q5⟩:=hZ;subst e2;cases r5;exact afP ⟨H5,I5,q5⟩
def vI(K:Ϩ)(x:V)(H:Hp)(k:Bool):Prop:=
 match x with
 |.non=>k=false
 |.bl b=>k=b
 |.int i=>k=(i !=0)
 |.str y=>y.length<=ϩ/\k=((y.length:Int) !=0)
 |.byt y=>y.size<=ϩ/\k=((y.size:Int) !=0)
 |.ref p=>(∃xs,η K H p xs/\k= !xs.isEmpty)\/(∃xs,ψ K H p xs/\k= !xs.isEmpty)\/∃Ϸ,H p=some (.dK Ϸ)/\k= !Ϸ.isEmpty
 |_=>False
theorem Xk{κ:Type}{Ϸ:List (κ×V)}{vs:List (κ×ε)}(r:KV Ϸ vs):(!vs.isEmpty)= !Ϸ.isEmpty:=by
 cases r<;>rfl
theorem Ju{xs:List V}{ϸ:List ε}(r:Vals xs ϸ):(!ϸ.toArray.isEmpty)= !xs.isEmpty:=by
 cases r<;>simp
theorem oN:(ϩ:Nat)<2^63:=by rw[ϱ];decide
theorem ah2:acg X (λx H Q=>∃k,vI X.K x H k/\Q k H):=by
 intro ϵ s σ H x v Q I rx h;obtain⟨k,e,q⟩:=h;have hl:=oN;have hs:ϩ=16777216:=ϱ;cases x with
 |non=>
  cases rx;have e':k=false:=e;subst e';exact truthy_none ⟨H,I,q⟩
 |bl b=>
  cases rx;have e':k=b:=e;subst e';exact afP ⟨H,I,q⟩
 |int i=>
  obtain⟨t,rfl⟩:=rx;have e':k=(i !=0):=e;subst e';exact PySem.P.truthy_int ⟨H,I,q⟩
 |str y=>
  obtain⟨t,rfl⟩:=rx;obtain⟨hy,e'⟩:y.length<=ϩ/\k=((y.length:Int) !=0):=e;subst e';exact PySem.P.truthy_str (by omega) ⟨H,I.tok _,q⟩
 |byt y=>
  obtain⟨t,rfl⟩:=rx;obtain⟨hy,e'⟩:y.size<=ϩ/\k=((y.size:Int) !=0):=e;subst e';exact W.truthy_bytes (by omega) ⟨H,I.tok _,q⟩
 |ref p=>
  cases rx;have e':(∃xs,η X.K H p xs/\k= !xs.isEmpty)\/(∃xs,ψ X.K H p xs/\k= !xs.isEmpty)\/∃Ϸ,H p=some (.dK Ϸ)/\k= !Ϸ.isEmpty:=e;obtain⟨xs,hx,e'⟩|⟨xs,hx,e'⟩|⟨Ϸ,hx,e'⟩:=e'
  .subst e';obtain⟨ϸ,r,pl,hz⟩:=I.list hx;have hlen:=r.length;exact wpAny_truthy_list pl.isList (by simp only[aaU];omega) ⟨H,I.tok _,by rw[Ju r];exact q⟩
  .subst e';obtain⟨ϸ,r,pl,hz⟩:=I.tuple hx;have hlen:=r.length;exact truthy_tuple pl (by simp only[aaU];omega) ⟨H,I.tok _,by rw[Ju r];exact q⟩
  .subst e';obtain⟨hz,hS,vs,r,m⟩:Ϸ.length<=ϩ/\(p==sysModules)=false/\∃vs,KV Ϸ vs/\s.heap.DictOf (bx X.prog X.w) p vs:=I.hok p _ hx;have hlen:Ϸ.length=vs.length:=Paired.length r;exact wpAny_truthy_dict hS m (by omega) ⟨H,I.tok _,by rw[Xk r];exact q⟩
 |_=>exact(show False from e).elim
theorem aam(ha:PE X a ta)(he:∀whole,isTrue a X.env whole=(do let v<-whole;standAt a.pos;holding [v] (truthy v))):PT X a (λσ H Q=>ta σ H λx H'=>∃k,vI X.K x H' k/\Q k H'):=by
 intro ϵ s σ H Q I h;exact isTrue_plain (χ (ha ϵ s σ H _ I h) λv s1 ⟨x,H1,I1,r1,q1⟩=>ah2 ϵ s1 σ H1 x v Q I1 r1 q1) (he _)
theorem acS:Ϣ X (binaryOp .Add) (λx y H Q=>∃i j,x=.str i/\y=.str j/\i.length+j.length<=ϩ/\Q (.str (i++j)) H):=by
 intro ϵ s σ H x y v u Q I rx ry h;obtain⟨i,j,rfl,rfl,hz,q⟩:=h;obtain⟨t,rfl⟩:=rx;obtain⟨t',rfl⟩:=ry;exact add_str (λt' tk=>⟨.str (i++j),H,I.tok _,⟨_,rfl⟩,q⟩) hz
theorem vals1{x:V}{us:List ε}(r:Vals [x] us):∃u,us=[u]/\RelV x u:=by
 cases r with
 |cons r1 r2=>cases r2;exact⟨_,rfl,r1⟩
theorem vals2{x y:V}{us:List ε}(r:Vals [x,y] us):∃u w',us=[u,w']/\RelV x u/\RelV y w':=by
 cases r with
 |cons r1 r2=>
  cases r2 with
  |cons r3 r4=>cases r4;exact⟨_,_,rfl,r1,r3⟩
theorem aj1(hc:X.calm=true):eN X (.builtin "min") (λxs H Q=>∃i j,xs=[.int i,.int j]/\Q (.int (if j<i then j else i)) H):=by
 intro ϵ s σ H xs us Q I r h;obtain⟨i,j,rfl,q⟩:=h;obtain⟨u,w',rfl,⟨t,rfl⟩,⟨t',rfl⟩⟩:=vals2 r;refine min_two_ints (I.ok.hd hc) λh' tk k=>⟨_,H,I.kept k,?_,q⟩
 by_cases hj:j<i
 .rw[if_pos hj,if_pos hj];exact⟨_,rfl⟩
 .rw[if_neg hj,if_neg hj];exact⟨_,rfl⟩
theorem abj:eN X (.type "int") (λxs H Q=>(∃i,xs=[.int i]/\Q (.int i) H)\/∃k,xs=[.bl k]/\Q (.int (if k then 1 else 0)) H):=by
 intro ϵ s σ H xs us Q I r h;obtain⟨i,rfl,q⟩|⟨k,rfl,q⟩:=h
 .obtain⟨u,rfl,t,rfl⟩:=vals1 r;exact call_int_int ⟨.int i,H,I,⟨_,rfl⟩,q⟩
 .obtain⟨u,rfl,r1⟩:=vals1 r;cases r1;exact call_int_bool ⟨.int (if k then 1 else 0),H,I.tok _,⟨_,rfl⟩,q⟩
theorem aax:eN X (.type "str") (λxs H Q=>∃i,xs=[.int i]/\i.natAbs.log2<1920/\Q (.str (toString i)) H):=by
 intro ϵ s σ H xs us Q I r h;obtain⟨i,rfl,hz,q⟩:=h;obtain⟨u,rfl,t,rfl⟩:=vals1 r;exact PySem.P.str_of_int hz ⟨.str _,H,I.tok _,⟨_,rfl⟩,q⟩
end
structure lW(h:ϫ)(x dx C:δ)(mA:Str->Option ε):Prop where
 obj:h.get? x=some (am9 C dx)
 ns:h.Ns1 dx mA
 ne:dx≠x
theorem afy{h:ϫ}{dx:δ}{mA:Str->Option ε}(n:h.Ns1 dx mA):∃od,h.get? dx=some od/\∀name,aoL name od=some (mA name):=by
 obtain⟨o,es,ep,ho,hd,hk,_,hm⟩:=n;refine⟨o,ho,λname=>?_⟩;have e:=hm name;unfold nsFind findBy at e;rw[<-aoa]at e;unfold aoL;rw[hd];dsimp only;split
 .rename_i y q;rw[q]at e;exact congrArg some e
 .rename_i q;rw[q]at e;have a:es.toList.any (·.refKey)=false:=by
   rw[List.any_eq_false];intro y hy;obtain⟨z,t,hkey⟩:=hk y (Array.mem_toList_iff.mp hy);simp[DictEntry.refKey,hkey]
  have a':¬es.toList.any (·.refKey)=true:=by rw[a];exact aaD
  rw[if_neg a'];exact congrArg some e
theorem lW.look{h:ϫ}{x dx C:δ}{mA:Str->Option ε}(I:lW h x dx C mA):∃od,W.InstAt h x (am9 C dx) C (some od)/\∀name,aoL name od=some (mA name):=
 let⟨od,ho,hl⟩:=afy I.ns
 ⟨od,⟨I.obj,rfl,rfl,ho⟩,hl⟩
section
variable{prog:Ϯ}{w:Ϭ}{A:ϰ}{E:ε->μ->Prop}{s:μ}{K:Ϩ}{x dx C f:δ}{mA:Str->Option ε}{name:Str}{v:ε}
theorem get_map{expr:Bool}{Q:ε->μ->Prop}(X:K.In s.heap)(I:lW s.heap x dx C mA)(hg:anh K C name=true)(hh:al7 K C=true)(ha:aez K (.ref C) name=some none)(hv:mA name=some v)(hv':W.handedIn v=true)(h:Q v {s with toks:=s.toks+1}):π (Ϧ prog w) A (getAttr (.ref x) name expr) Q E s:=by
 obtain⟨od,J,hl⟩:=I.look;exact W.get_value X J (aob hg).1 (W.findObj_own hh ha rfl (by rw[hl,hv])) hv' h
theorem abl{pl:Sem Bool}{Q:ε×List ε->μ->Prop}(X:K.In s.heap)(I:lW s.heap x dx C mA)(hg:anh K C name=true)(hf:aez K (.ref C) name=some (some (.ref f)))(ht:aoc K (.ref f)=true)(hv:mA name=none)(h:Q (.ref f,[.ref x]) s):π (Ϧ prog w) A (getMethod (.ref x) name pl) Q E s:=by
 obtain⟨od,J,hl⟩:=I.look;exact W.method_fn X J (aob hg).1 (aob hg).2 hf (beq_iff_eq.mp ht) (by show(aoL name od).map (·.isSome)=some false;rw[hl,hv];rfl) h
theorem abw{ns:List Str}{Q:Unit->μ->Prop}(X:K.In s.heap)(I:lW s.heap x dx C mA)(hs:aez K (.ref C) "__setattr__"=some (some (.builtin "object.__setattr__")))(hp:anC K C=true)(ht:ani K C name=some none)(hh:al7 K C=true)(hw:PySem.Within mA ns)(hsz:ns.length<=ϩ)(h:∀h',lW h' x dx C (λy=>if y=name then some v else mA y)->akZ dx s.heap h'->Q () {s with heap:=h',toks:=s.toks+2}):π (Ϧ prog w) A (setAttr (.ref x) name v) Q E s:=by
 obtain⟨od,J,hl⟩:=I.look;refine W.set_plain X J hs (W.osa_open (s:={s with toks:=s.toks+1}) (r:=none) X J hp ht λb=>?_);obtain⟨cd,hc,hd'⟩:=W.any_some hh;have hx:s.heap.get? x=some ⟨.ref C,some dx,.plain, #[]⟩:=I.obj;refine Ϫ (ϲ (Ϫ (Ϫ (wpAny_loadPart hx (Ϫ (W.Looks.here (s:={s with toks:=s.toks+1}) (aod X hc) ?_))))));rw[hd'];refine ϲ (a:=some dx) (Ϫ (ϲ (Ϫ ?_)));refine wpAny_nsSet1 (s:={s with toks:=s.toks+1}) I.ns λh' hn2 hs2=>?_
 obtain⟨oD,esD,epD,hoD,hdD,hcD⟩:=hn2.count (PySem.Within.cons name v hw);refine Ϫ (wpAny_lookBehind hoD (by rw[hdD];exact pastItsLine_dict (aft hcD (by rw[List.length_cons];omega))) ?_);exact ϲ (h _ ⟨(hs2.2 _ (Ne.symm I.ne)).trans I.obj,hn2,I.ne⟩ hs2)
theorem acf{R:Result->μ->Prop}{vs:List ε}{kw:List (Str×ε)}(X:K.In s.heap)(hm:aoz K C=true)(hi:aez K (.ref C) "__init__"=some (some (.ref f)))(hf:anD K (.ref f)=some (.type "function"))(h:codeAny (Ϧ prog w) (A.under (.builtin "type.__call__" ⟨.ref C::vs,kw⟩)) (.call (.ref f) ⟨.ref (s.heap.objs.size+1)::vs,kw⟩) (W.InitBack (s.heap.objs.size+1) R)
   {s with heap:=(s.heap.push alb).push (am9 C s.heap.objs.size)}):codeAny (Ϧ prog w) A (.call (.ref C) ⟨vs,kw⟩) R s:=by
 obtain⟨hh,g,d,t,os⟩:=s;exact W.make_core (W.makes_of X hm) (aoF X hi) (λself=>W.bind_fn X self hf) (.inl rfl) h
end
def ϝ(f:Str)(v:V):List (Str×V)->List (Str×V)
 |[]=>[(f,v)]
 |(g,x)::r=>if g=f then(g,v)::r else(g,x)::ϝ f v r
theorem Qf(f g:Str)(v:V):∀fs:List (Str×V),(ϝ f v fs).lookup g=if g=f then some v else fs.lookup g
 |[]=>by
  show agW g [(f,v)]=_;by_cases h:g=f
  .have hb:(g==f)=true:=beq_iff_eq.mpr h;simp only[agW,hb,if_pos h]
  .have hb:(g==f)=false:=beq_eq_false_iff_ne.mpr h;simp only[agW,hb,if_neg h]
 |(k,x)::r=>by
  have ih:=Qf f g v r;rw[show ϝ f v ((k,x)::r)=(if k=f then(k,v)::r else(k,x)::ϝ f v r)from rfl];by_cases hk:k=f
  .rw[if_pos hk];by_cases h:g=k
   .have hb:(g==k)=true:=beq_iff_eq.mpr h;simp only[agW,hb,if_pos (h.trans hk)]
   .have hb:(g==k)=false:=beq_eq_false_iff_ne.mpr h;simp only[agW,hb,if_neg (λe:g=f=>h (e.trans hk.symm))]
  .rw[if_neg hk];by_cases h:g=k
   .have hb:(g==k)=true:=beq_iff_eq.mpr h;simp only[agW,hb,if_neg (λe:g=f=>hk (h.symm.trans e))]
   .have hb:(g==k)=false:=beq_eq_false_iff_ne.mpr h;simp only[agW,hb];exact ih
theorem Cp(f:Str)(v:V):∀fs:List (Str×V),f∈(ϝ f v fs).map (·.1)/\∀g,g∈fs.map (·.1)->g∈(ϝ f v fs).map (·.1)
 |[]=>⟨by simp[ϝ],λg h=>by simp at h⟩
 |(k,x)::r=>by
  obtain⟨i1,i2⟩:=Cp f v r;rw[show ϝ f v ((k,x)::r)=(if k=f then(k,v)::r else(k,x)::ϝ f v r)from rfl];by_cases hk:k=f
  .rw[if_pos hk];subst hk;exact⟨by simp,λg h=>by simpa using h⟩
  .rw[if_neg hk];refine⟨?_,λg h=>?_⟩
   .rw[List.map_cons];exact acV _ i1
   .rw[List.map_cons]at h⊢;obtain e|e:=ϴ.mp h
    .exact ϴ.mpr (.inl e)
    .exact acV _ (i2 g e)
theorem jC(f:Str)(v:V):∀fs:List (Str×V),(ϝ f v fs).length<=fs.length+1
 |[]=>by simp[ϝ]
 |(k,x)::r=>by
  have ih:=jC f v r;rw[show ϝ f v ((k,x)::r)=(if k=f then(k,v)::r else(k,x)::ϝ f v r)from rfl];by_cases hk:k=f
  .rw[if_pos hk,List.length_cons,List.length_cons];omega
  .rw[if_neg hk,List.length_cons,List.length_cons];omega
theorem bN.some_of{v:V}{o:Option ε}(r:bN (some v) o):∃u,o=some u/\RelV v u:=by
 cases o with
 |none=>exact(show False from r).elim
 |some u=>exact⟨u,rfl,r⟩
theorem bN.none_of{o:Option ε}(r:bN none o):o=none:=by
 cases o with
 |none=>rfl
 |some u=>exact(show False from r).elim
theorem W9{v:V}{u:ε}(r:RelV v u):W.handedIn u=true:=by
 cases v with
 |non=>cases(show u=Value.none from r);rfl
 |bl b=>cases(show u=Value.bool b from r);rfl
 |int i=>obtain⟨t,e⟩:=(show ∃t,u=Value.int i t from r);cases e;rfl
 |str x=>obtain⟨t,e⟩:=(show ∃t,u=Value.str x t from r);cases e;rfl
 |byt b=>obtain⟨t,e⟩:=(show ∃t,u=Value.bytes b t from r);cases e;rfl
 |flt b=>obtain⟨t,e⟩:=(show ∃t,u=Value.float b t from r);cases e;rfl
 |ref a=>cases(show u=Value.ref a from r);rfl
 |ty n=>cases(show u=Value.type n from r);rfl
section
variable{P:Ϯ}{w:Ϭ}{H H':Hp}{h h':ϫ}{a C dx:δ}{fs fs':List (Str×V)}
theorem vy(hok:Ϟ P w H h)(e:H a=some (.ins C dx fs)):∃mA,lW h a dx C mA/\(∀f,bN (fs.lookup f) (mA f))/\PySem.Within mA (fs.map (·.1))/\fs.length<=1000/\H dx=some (.own a):=by
 obtain⟨d,z,ne,ob,mA,n,r,q⟩:=(show Φ P w H h a (.ins C dx fs)from hok a _ e);exact⟨mA,⟨ob,n,ne⟩,r,q,z,d⟩
end
structure ϔ(K:Ϩ)(C:δ):Prop where
 pg:anh K C Str.empty=true
 hd:al7 K C=true
 po:anC K C=true
 sa:aez K (.ref C) "__setattr__"=some (some (.builtin "object.__setattr__"))
theorem ϔ.get{K:Ϩ}{C:δ}(c:ϔ K C)(f:Str):anh K C f=true:=c.pg
def Λ(K:Ϩ)(C:δ)(f:Str):Prop:=aez K (.ref C) f=some none
theorem Λ.taker{K:Ϩ}{C:δ}{f:Str}(n:Λ K C f):ani K C f=some none:=by
 unfold ani;rw[show aez K (.ref C) f=some none from n];rfl
structure Meth(K:Ϩ)(C:δ)(m:Str)(f:δ):Prop where
 at_:aez K (.ref C) m=some (some (.ref f))
 fn:aoc K (.ref f)=true
 kp:amG K (.ref f)=true
section
variable{X:Cx}{ϵ:List (δ×Obj)}{σ:St}{H:Hp}{s:μ}{a C dx:δ}{fs:List (Str×V)}{f:Str}{v:V}{A:ϰ}{E:ε->μ->Prop}
theorem NB{b:Bool}{Q:ε->μ->Prop}(I:Inv X ϵ σ H s)(e:H a=some (.ins C dx fs))(c:ϔ X.K C)(n:Λ X.K C f)(l:fs.lookup f=some v)(h:∀u s',Inv X ϵ σ H s'->RelV v u->Q u s'):π (Ϧ X.prog X.w) A (getAttr (.ref a) f b) Q E s:=by
 obtain⟨mA,O,r,_,_,_⟩:=vy I.hok e;obtain⟨u,hu,ru⟩:=bN.some_of (v:=v) (o:=mA f) (by rw[<-l];exact r f);exact get_map I.kIn O (c.get f) c.hd n hu (W9 ru) (h u _ (I.tok _) ru)
theorem Qc{m:Str}{g:δ}{pl:Sem Bool}{Q:ε×List ε->μ->Prop}(I:Inv X ϵ σ H s)(e:H a=some (.ins C dx fs))(c:ϔ X.K C)(k:Meth X.K C m g)(l:fs.lookup m=none)(h:Q (.ref g,[.ref a]) s):π (Ϧ X.prog X.w) A (getMethod (.ref a) m pl) Q E s:=by
 obtain⟨mA,O,r,_,_,_⟩:=vy I.hok e;have hn:mA m=none:=bN.none_of (by rw[<-l];exact r m);exact abl I.kIn O (c.get m) k.at_ k.fn hn h
theorem RX{y:V}{u:ε}{Q:Unit->μ->Prop}(I:Inv X ϵ σ H s)(e:H a=some (.ins C dx fs))(c:ϔ X.K C)(n:Λ X.K C f)(hl:fs.length<1000)(ry:RelV y u)(h:∀s',Inv X ϵ σ (upd H a (.ins C dx (ϝ f y fs))) s'->Q () s'):π (Ϧ X.prog X.w) A (setAttr (.ref a) f u) Q E s:=by
 obtain⟨mA,O,r,wi,_,ho⟩:=vy I.hok e;have hz:(fs.map (·.1)).length<=ϩ:=by rw[aaf,ϱ];omega
 refine abw I.kIn O c.sa c.po n.taker c.hd wi hz λh' O' sb=>h _ ?_
 have hd:∃o,h'.get? dx=some o:=let⟨o,_,_,e',_⟩:=O'.ns;⟨o,e'⟩;refine I.write (x:=a) (e:=dx) (by rw[e];exact True.intro) (.inr ho) (λb q hb z=>(sb.2 b hb).trans z) hd ?_;refine⟨by rw[θ O.ne];exact ho,?_,O.ne,O'.obj,_,O'.ns,λg=>?_,λg hg=>?_⟩
 .have :=jC f y fs;omega
 .show bN ((ϝ f y fs).lookup g) (if g=f then some u else mA g);rw[Qf];by_cases q:g=f
  .rw[if_pos q,if_pos q];exact ry
  .rw[if_neg q,if_neg q];exact r g
 .by_cases q:g=f
  .rw[q];exact(Cp f y fs).1
  .refine(Cp f y fs).2 g (wi g λz=>hg ?_);show(if g=f then some u else mA g)=none;rw[if_neg q];exact z
theorem Inv.made(I:Inv X ϵ σ H s):Inv X ϵ σ (upd (upd H s.heap.objs.size (.own (s.heap.objs.size+1))) (s.heap.objs.size+1) (.ins C s.heap.objs.size []))
  {s with heap:=(s.heap.push alb).push (am9 C s.heap.objs.size)}:=by
 have e1:(s.heap.push alb).get? s.heap.objs.size=some alb:=abE s.heap rfl;have e2:((s.heap.push alb).push (am9 C s.heap.objs.size)).get? (s.heap.objs.size+1)=some (am9 C s.heap.objs.size):=by
  have:=abE (s.heap.push alb) (o:=am9 C s.heap.objs.size) rfl
  rwa [am8]at this
 have e3:(s.heap.push alb).Ns s.heap.objs.size (λ_=>none):=⟨alb, #[],_,e1,rfl,(λe he=>absurd he (by simp)),λ_=>rfl⟩;have I1:=I.laid (a:=s.heap.objs.size) (o:=.own (s.heap.objs.size+1)) (h':=s.heap.push alb) (t':=s.toks) (λb u q=>Heap.get?_push_of_some _ q) (ϭ _) ⟨_,e1⟩;refine I1.laid (a:=s.heap.objs.size+1) (o:=.ins C s.heap.objs.size []) (t':=s.toks) (λb u q=>Heap.get?_push_of_some _ q) (anb (am8 _ _)) ?_;have ne:s.heap.objs.size≠s.heap.objs.size+1:=abF (aoo _);refine⟨by rw[θ ne,υ],afS _,ne,e2,λ_=>none,(Heap.Ns1.of_empty e3).at λo q=>Heap.get?_push_of_some _ q,λ_=>True.intro,λy hy=>absurd rfl hy⟩
theorem aa4{prog:Ϯ}{w:Ϭ}{env:Env}{e:ν}{f:Str}{pos:Pos}{s:μ}{Q:ε->μ->Prop}(hb:attributeBase e f env (eval e env)=eval e env)(h:π (Ϧ prog w) A (eval e env) (λo s₁=>π (Ϧ prog w) A (getAttr o f true) Q E s₁) E s):π (Ϧ prog w) A (eval (.Attribute e f pos) env) Q E s:=
 Attribute_any_ h (by rw[arm_eval_Attribute,hb])
end
def Zz(K:Ϩ)(ta:TE)(f:Str):TE:=λσ H Q=>ta σ H λx H1=>∃a C dx fs v,x=.ref a/\H1 a=some (.ins C dx fs)/\ϔ K C/\ Λ K C f/\fs.lookup f=some v/\Q v H1
def Zc(K:Ϩ)(ta tv:TE)(f:Str):TS:=λD σ H=>tv σ H λy H1=>ta σ H1 λx H2=>∃a C dx fs,x=.ref a/\H2 a=some (.ins C dx fs)/\ϔ K C/\ Λ K C f/\fs.length<1000/\
 D.nx σ (upd H2 a (.ins C dx (ϝ f y fs)))
def JZ(X:Cx)(op:Operator)(rd:V->V->Hp->VK->Prop):Prop:=
 ∀(ϵ:List (δ×Obj))(s:μ)(σ:St)(H:Hp)(x y:V)(u v:ε)(Q:VK),Inv X ϵ σ H s->RelV x u->RelV y v->rd x y H Q->π (Ϧ X.prog X.w) X.A (inplaceOp op u v) (EP X ϵ σ Q) X.xe s
def ahm(K:Ϩ)(ta tv:TE)(rd:V->V->Hp->VK->Prop)(f:Str):TS:=λD σ H=>ta σ H λx H1=>∃a C dx fs v,x=.ref a/\H1 a=some (.ins C dx fs)/\ϔ K C/\ Λ K C f/\fs.lookup f=some v/\
 tv σ H1 λy H2=>rd v y H2 λz H3=>∃dx' fs',H3 a=some (.ins C dx' fs')/\fs'.length<1000/\D.nx σ (upd H3 a (.ins C dx' (ϝ f z fs')))
section
variable{X:Cx}{o e value:ν}{f:Str}{pos pos' tpos:Pos}{ta tv:TE}
theorem ahp(he:PE X e ta)(hb:attributeBase e f X.env (eval e X.env)=eval e X.env):PE X (.Attribute e f pos) (Zz X.K ta f):=by
 intro ϵ s σ H Q I h;refine aa4 hb (χ (he ϵ s σ H _ I h) λu s1 hZ=>?_);obtain⟨x,H1,I1,rx,a,C,dx,fs,v,ex,ea,c,n,l,q⟩:=hZ;subst ex;obtain rfl:u=Value.ref a:=rx;exact NB I1 ea c n l λu' s2 I2 ru=>⟨v,H1,I2,ru,q⟩
theorem ahi(ha:PE X o ta)(hv:PE X value tv)(hs:akr value (some (.Attribute o f pos')) pos.line X.env=pure false):PS X (.Assign [.Attribute o f pos'] value pos) (Zc X.K ta tv f):=by
 intro ϵ s σ H D I h;refine plainObj_wpAny_Assign_Attribute (χ (hv ϵ s σ H _ I h) λu s1 ⟨y,H1,I1,ry,q⟩=>χ (ha ϵ s1 σ H1 _ I1 q) λov s2 hZ=>?_) hs;obtain⟨x,H2,I2,rx,a,C,dx,fs,ex,ea,c,n,l,q2⟩:=hZ;subst ex;obtain rfl:ov=Value.ref a:=rx;exact RX I2 ea c n l ry λs3 I3=>⟨σ,_,I3,q2⟩
theorem adm{op:Operator}{rd:V->V->Hp->VK->Prop}(ha:PE X o ta)(hv:PE X value tv)(hop:JZ X op rd):PS X (.AugAssign (.Attribute o f tpos) op value pos) (ahm X.K ta tv rd f):=by
 intro ϵ s σ H D I h;refine wpAny_AugAssign_AttributeAny (χ (ha ϵ s σ H _ I h) λov s1 hZ=>?_);obtain⟨x,H1,I1,rx,a,C,dx,fs,v,ex,ea,c,n,l,q⟩:=hZ;subst ex;obtain rfl:ov=Value.ref a:=rx;refine NB I1 ea c n l λu s2 I2 ru=>χ (hv ϵ s2 σ H1 _ I2 q) λw3 s3 ⟨y,H2,I3,ry,q3⟩=>χ (hop ϵ s3 σ H2 v y u w3 _ I3 ru ry q3) λw4 s4 hZ=>?_
 obtain⟨z,H3,I4,rz,dx',fs',ea',l',q4⟩:=hZ;exact RX I4 ea' c n l' rz λs5 I5=>⟨σ,_,I5,q4⟩
def Kq:V->V->Hp->VK->Prop:=λx y H Q=>∃i j,x=.int i/\y=.int j/\Q (.int (i+j)) H
theorem ack:JZ X .Add Kq:=by
 rintro ϵ s σ H x y u v Q I rx ry ⟨i,j,rfl,rfl,q⟩
 obtain⟨t,rfl⟩:=(show ∃t,u=Value.int i t from rx);obtain⟨t',rfl⟩:=(show ∃t',v=Value.int j t' from ry);exact PyProof.Rows.iadd_int ⟨.int (i+j),H,I.tok _,⟨_,rfl⟩,q⟩
end
section
variable{X:Cx}{ϵ:List (δ×Obj)}{σ:St}{H:Hp}{s:μ}{A:ϰ}{E:ε->μ->Prop}{Q:ε->μ->Prop}{c:ε}{b:Bool}
inductive b7 (K:Ϩ) (H:Hp):V->ε->Prop where
 |non:b7 K H .non (.type "NoneType")
 |bl (x:Bool):b7 K H (.bl x) (.type "bool")
 |int (i:Int):b7 K H (.int i) (.type "int")
 |str (x:Str):b7 K H (.str x) (.type "str")
 |flt (x:UInt64):b7 K H (.flt x) (.type "float")
 |lst {a:δ} {xs:List V} (e:H a=some (.lst xs)):b7 K H (.ref a) (.type "list")
 |frz {a:δ} {o:Obj} {xs:List V} (e:H a=some (.frz o (.lst xs))):b7 K H (.ref a) (.type "list")
 |tup {a:δ} {xs:List V} (e:H a=some (.tup xs)):b7 K H (.ref a) (.type "tuple")
 |dK {a:δ} {Ϸ:List (Key×V)} (e:H a=some (.dK Ϸ)):b7 K H (.ref a) (.type "dict")
 |dT {a:δ} {Ϸ:List (List Key×V)} (e:H a=some (.dT Ϸ)):b7 K H (.ref a) (.type "dict")
 |ins {a C dx:δ} {fs:List (Str×V)} (e:H a=some (.ins C dx fs)) (cl:ϔ K C) (ha:aez K (.ref C) "__class__"=some (some (.builtin "object.__class__")))
  (hn:ahA K (.builtin "object.__class__") "__get__"=some (some (.builtin "getset_descriptor.__get__"))) (htk:anN K (.builtin "object.__class__")=some true)
  (hm:anc K C (.type "object")=some true):b7 K H (.ref a) (.ref C)
theorem ag7{x:V}{u t:ε}(I:Inv X ϵ σ H s)(rx:RelV x u)(ty:b7 X.K H x t)(e:aoe X.K t c=some b)(h:∀tk,Q (.bool b) {s with toks:=tk}):π (Ϧ X.prog X.w) A (call (.builtin "isinstance") [u,c]) Q E s:=by
 cases ty with
 |non=>cases(show u=Value.none from rx);exact amA W.kitx_none I.kIn True.intro e (λz=>nomatch z) h
 |bl y=>cases(show u=Value.bool y from rx);exact amA W.kitx_bool I.kIn True.intro e (λz=>nomatch z) h
 |int i=>obtain⟨t,q⟩:=(show ∃t,u=Value.int i t from rx);cases q;exact amA W.kitx_int I.kIn True.intro e (λz=>nomatch z) h
 |str y=>obtain⟨t,q⟩:=(show ∃t,u=Value.str y t from rx);cases q;exact amA W.kitx_str I.kIn True.intro e (λz=>nomatch z) h
 |flt y=>obtain⟨t,q⟩:=(show ∃t,u=Value.float y t from rx);cases q;exact amA W.kitx_float I.kIn True.intro e (λz=>nomatch z) h
 | @lst a xs ea=>
   cases(show u=Value.ref a from rx);obtain⟨_,_,n,_,h1⟩:=(show Φ X.prog X.w H s.heap a (.lst xs)from I.hok a _ ea);exact amA W.kitx_list I.kIn ⟨_,h1,rfl⟩ e (λz=>nomatch z) h
 | @frz a ob xs ea=>
   cases(show u=Value.ref a from rx);obtain⟨_,_,_,n,_,h1⟩:=(show Φ X.prog X.w H s.heap a (.frz ob (.lst xs))from I.hok a _ ea);exact amA W.kitx_list I.kIn ⟨_,h1,rfl⟩ e (λz=>nomatch z) h
 | @tup a xs ea=>
   cases(show u=Value.ref a from rx);obtain⟨_,_,_,p⟩:=(show Φ X.prog X.w H s.heap a (.tup xs)from I.hok a _ ea);obtain⟨o,h1,h2,_⟩:=p;exact amA W.kitx_tuple I.kIn ⟨o,h1,h2⟩ e (λz=>nomatch z) h
 | @dK a Ϸ ea=>
   cases(show u=Value.ref a from rx);obtain⟨_,_,vs,_,p⟩:=(show Φ X.prog X.w H s.heap a (.dK Ϸ)from I.hok a _ ea);obtain⟨o,es,ep,h1,h2,_⟩:=p;exact amA W.kitx_dict I.kIn ⟨o,h1,h2.1⟩ e (λz=>nomatch z) h
 | @dT a Ϸ ea=>
   cases(show u=Value.ref a from rx);obtain⟨_,_,xs,_,o,es,ep,h1,h2,_⟩:=(show Φ X.prog X.w H s.heap a (.dT Ϸ)from I.hok a _ ea);exact amA W.kitx_dict I.kIn ⟨o,h1,h2.1⟩ e (λz=>nomatch z) h
 | @ins a C dx fs ea cl ha hn htk hm=>
   cases(show u=Value.ref a from rx);obtain⟨mA,O,_⟩:=vy I.hok ea;obtain⟨od,J,_⟩:=O.look;exact amA (W.kitx_own (cl.get _) cl.hd ha hn htk hm) I.kIn J e (λz=>nomatch z) h
end
structure ό(cc:Bool)(k:Nat)(A:ϰ):Prop where
 hd:cc=true->A.handled=none
 dp:A.depth+3*k+5<recursionLimit
 un:A.units+16*k+200<cLine
theorem ό.mono{j k:Nat}{A:ϰ}(r:ό cc k A)(h:j<=k):ό cc j A:=⟨r.hd,by have:=r.dp;omega,by have:=r.un;omega⟩
theorem ό.deeper{k:Nat}{A:ϰ}(r:ό cc (k+1) A)(env:Env):ό cc k (A.deeper env):=
 ⟨r.hd,by have:=r.dp;show A.depth+1+3*k+5<_;omega,by have:=r.un;show A.units+3+16*k+200<_;omega⟩
theorem ό.in1{k:Nat}{A:ϰ}(r:ό cc (k+1) A):ό cc k A.in1:=
 ⟨r.hd,by have:=r.dp;show A.depth+3*k+5<_;omega,by have:=r.un;show A.units+1+16*k+200<_;omega⟩
theorem aiv{A:ϰ}{C:δ}{us:List ε}{kw:List (Str×ε)}:(A.under (.builtin "type.__call__" ⟨.ref C::us,kw⟩)).depth=A.depth+1:=by
 first|rfl|simp[Around.under,Code.weight,Code.isCreation,Code.isGuard,Code.isCaller,Code.frames,Code.isFrame,guardIds]
theorem Xp{A:ϰ}{C:δ}{us:List ε}{kw:List (Str×ε)}:(A.under (.builtin "type.__call__" ⟨.ref C::us,kw⟩)).units=A.units+1:=by
 first|rfl|simp[Around.under,Code.cUnits,Code.frames,Code.isFrame]
theorem ό.make{k:Nat}{A:ϰ}(r:ό cc (k+1) A)(C:δ)(us:List ε)(kw:List (Str×ε)):ό cc k (A.under (.builtin "type.__call__" ⟨.ref C::us,kw⟩)):=
 ⟨r.hd,by have:=r.dp;rw[aiv];omega,by have:=r.un;rw[Xp];omega⟩
theorem ό.depth{k:Nat}{A:ϰ}(r:ό cc k A):A.depth<recursionLimit:=by have:=r.dp;omega
theorem ό.units{k:Nat}{A:ϰ}(r:ό cc k A):A.units+64<cLine:=by have:=r.un;omega
theorem ό.units0{k:Nat}{A:ϰ}(r:ό cc k A):A.units<cLine:=by have:=r.un;omega
def acy:TA:=λ_ H Q=>Q [] H
def Ye(ta:TE)(tr:TA):TA:=λσ H Q=>ta σ H λx H1=>tr σ H1 λxs H2=>Q (x::xs) H2
section
variable{X:Cx}{e:ν}{es:List ν}{te:TE}{t:TA}{pos:Pos}
theorem acD:PA X [] acy:=λ_ _ _ _ H Q I h=>Calls.spliced_nil ⟨[],H,I,.nil,h⟩
theorem adH(ha:PE X e te)(hr:PA X es t)(hs:ϯ (e::es) X.env=(false,eval e X.env)::ϯ es X.env:=by rfl):PA X (e::es) (Ye te t):=by
 intro pos ϵ s σ H Q I h;rw[hs];show π _ _ (spliced ((false,eval e X.env)::backTo pos (ϯ es X.env))) _ _ s;refine Calls.spliced_cons (χ (ha ϵ s σ H _ I h) λu s1 hZ=>?_);obtain⟨x,H1,I1,r1,q1⟩:=hZ;exact χ (hr pos ϵ s1 σ H1 _ I1 q1) λus s2 ⟨xs,H2,I2,r2,q2⟩=>⟨x::xs,H2,I2,.cons r1 r2,q2⟩
def Zw(t:TA):TE:=λσ H Q=>t σ H λxs H1=>xs.length<=ϩ/\∀p,H1 p=none->Q (.ref p) (upd H1 p (.tup xs))
def aiJ(t:TA):TE:=λσ H Q=>t σ H λxs H1=>xs.length<=ϩ/\∀p,H1 p=none->Q (.ref p) (upd H1 p (.lst xs))
theorem Vt{x1}(h:PA X es t):PE X (.Tuple es x1 pos) (Zw t):=by
 intro ϵ s σ H Q I hq;refine wpAny_Tuple_spliced (χ (h pos ϵ s σ H _ I hq) λus s1 ⟨xs,H1,I1,r,z,q⟩=>⟨by rw[<-r.length];exact z,?_⟩);have hf:H1 s1.heap.objs.size=none:=I1.hok.fresh (ϭ _);refine⟨.ref s1.heap.objs.size,upd H1 s1.heap.objs.size (.tup xs),I1.laid (t':=s1.toks) (λb u e=>Heap.get?_push_of_some _ e) (ϭ _) ?_,rfl,q _ hf⟩;exact⟨z,us,r,⟨_,abE _ rfl,rfl,_,rfl⟩⟩
theorem ajk(h:PA X es t):PE X (.List es pos) (aiJ t):=by
 intro ϵ s σ H Q I hq;refine wpAny_List_spliced (χ (h pos ϵ s σ H _ I hq) λus s1 ⟨xs,H1,I1,r,z,q⟩=>⟨by rw[<-r.length];exact z,?_⟩);have hf:H1 s1.heap.objs.size=none:=I1.hok.fresh (ϭ _);refine⟨.ref s1.heap.objs.size,upd H1 s1.heap.objs.size (.lst xs),I1.laid (t':=s1.toks) (λb u e=>Heap.get?_push_of_some _ e) (ϭ _) ?_,rfl,q _ hf⟩;exact⟨z,us,0,r,abE _ rfl⟩
end
abbrev Sp:=List V->Hp->VK->XK->Prop
abbrev dD:=List Env->Hp->μ->XK->ε->μ->Prop
structure lD(P:Ϯ)(w:Ϭ)(K:Ϩ)(mg:Str->Option ε)(base:ϫ)(A:ϰ)(outer:List Env)(s:μ)(H:Hp):Prop where
 frames:A.frames=some outer
 mod:Mod K mg base
 bs:∀b o,base.get? b=some o->s.heap.get? b=some o/\H b=none
 bsz:base.objs.size<=s.heap.objs.size
 funs:s.heap.FunFrames base outer
 frf:∀b∈b8 outer,H b=none
 hok:Ϟ P w H s.heap
 bare:AllBare s.gens
def CE(outer:List Env)(P:Ϯ)(w:Ϭ)(H:Hp)(s:μ)(Q:VK)(u:ε)(s':μ):Prop:=
 ∃v H',s'.os=s.os/\AllBare s'.gens/\Un (b8 outer) [] H H' s.heap s'.heap/\Ϟ P w H' s'.heap/\RelV v u/\Q v H'
def CR(CX:dD)(outer:List Env)(P:Ϯ)(w:Ϭ)(H:Hp)(s:μ)(Q:VK)(E:XK)(r:Result)(s':μ):Prop:=
 match r with
 |.ok (.ret u)=>CE outer P w H s Q u s'
 |.ok _=>False
 |.error e=>CX outer H s E e s'
structure cL(P:Ϯ)(w:Ϭ)(K:Ϩ)(mg:Str->Option ε)(base:ϫ)(CX:dD)(cc:Bool)(k:Nat)(f:δ)(fd:ahy)(ps:List Str)(sp:Sp):Prop where
 len:∀vs H Q E,sp vs H Q E->vs.length=ps.length
 run:∀(A:ϰ)(outer:List Env)(s:μ)(H:Hp)(args:Args)(us:List ε)(vs:List V)(Q:VK)(E:XK),ό cc k A->lD P w K mg base A outer s H->BindsTo s fd args (ps.zip us)->Vals vs us->sp vs H Q E->
  codeAny (Ϧ P w) A (.call (.ref f) args) (CR CX outer P w H s Q E) s
theorem cL.mono{P:Ϯ}{w:Ϭ}{K:Ϩ}{mg:Str->Option ε}{base:ϫ}{CX:dD}{j k:Nat}{f:δ}{fd:ahy}{ps:List Str}{sp:Sp}(F:cL P w K mg base CX cc j f fd ps sp)(h:j<=k):cL P w K mg base CX cc k f fd ps sp:=⟨F.len,λA outer s H args us vs Q E hr=>F.run A outer s H args us vs Q E (hr.mono h)⟩
theorem lD.make{P:Ϯ}{w:Ϭ}{K:Ϩ}{mg:Str->Option ε}{base:ϫ}{A:ϰ}{outer:List Env}{s:μ}{H:Hp}(e:lD P w K mg base A outer s H)(C:δ)(us:List ε)(kw:List (Str×ε)):lD P w K mg base (A.under (.builtin "type.__call__" ⟨.ref C::us,kw⟩)) outer s H:=⟨by first|exact e.frames|(simpa [Around.under,Code.envs,Code.isFrame,pushEnvs]using e.frames),e.mod,e.bs,e.bsz,e.funs,e.frf,e.hok,e.bare⟩
section
variable{X:Cx}{ϵ:List (δ×Obj)}{σ:St}{H:Hp}{s s':μ}
theorem Inv.env0(I:Inv X ϵ σ H s):lD X.prog X.w X.K X.mg X.base X.A X.stack s H:=
 ⟨I.ok.frames,I.ok.mod,I.bs,aft I.ok.bsz I.sz,I.stack,I.stkFree,I.hok,I.bare⟩
theorem Inv.after{Q:VK}{u:ε}(I:Inv X ϵ σ H s)(h:CE X.stack X.prog X.w H s Q u s'):EP X ϵ σ Q u s':=by
 obtain⟨v,H',os,bare,un,hok,r,q⟩:=h;obtain⟨hh,g,d,t,os'⟩:=s';obtain rfl:os'=s.os:=os;exact⟨v,H',I.call (h':=hh) (g':=g) (d':=d) (t':=t) (ch:=[]) un hok bare (λb z=>absurd z (by simp)),r,q⟩
end
def Binds(K:Ϩ)(fd:ahy)(ps:List Str)(ds:List ε):Prop:=
 ∀(s:μ)(us:List ε),K.In s.heap->(us++ds).length=ps.length->BindsTo s fd ⟨us,[]⟩ (ps.zip (us++ds))
theorem Binds.all{K:Ϩ}{fd:ahy}{ps:List Str}(h:∀us:List ε,us.length=ps.length->bindArgs fd ⟨us,[]⟩=pure (ps.zip us)):Binds K fd ps []:=λs us _ hl=>by
 rw[List.append_nil]at hl⊢;exact .of_eq (h us hl)
section
variable{X:Cx}{CX:dD}{k:Nat}{f C:δ}{fd:ahy}{ps:List Str}{sp:Sp}{dvs:List V}{ds:List ε}{E:XK}{x m:Str}{p pos apos:Pos}{e o:ν}{es:List ν}{ta:TE}{t:TA}
structure Mk(K:Ϩ)(C f:δ):Prop where
 makes:aoz K C=true
 init:aez K (.ref C) "__init__"=some (some (.ref f))
 fn:aoc K (.ref f)=true
 kp:amG K (.ref C)=true
end
section
variable{X:Cx}{CX:dD}{k:Nat}{f C:δ}{fd:ahy}{ps ks:List Str}{sp:Sp}{E:XK}{x m:Str}{p pos apos kpos:Pos}{e o:ν}{es:List ν}{kws:List Keyword}{te ta:TE}{t tk:TA}{nm:Option Str}
variable{g:List ε->List ε->List ε}{gV:List V->List V->List V}
end
structure Α(N P:List Str)(sc:agJ):Prop where
 kind:sc.kind=.function
 co:sc.isCoroutine=false
 gen:sc.isGenerator=false
 nd:N.Nodup
 pre:N.take P.length=P
 par:∀x∈P,sc.names.lookup x=some .local\/sc.names.lookup x=some .cell
 nofree:∀y∈sc.names,y.2≠.free
theorem Rg{kindOf:Str->Option am4}{x:Str}:∀{binds:List (Str×ε)}{m:Str->Option ε},(∀v,(x,v)∉binds)->bindL kindOf binds m x=m x
 |[],_,_=>rfl
 |(n,v)::r,m,h=>by
  unfold bindL;rw[Rg λw hw=>h w (acV _ hw)];split
  .have :x≠n:=by rintro rfl;exact h v aek
   simp[this]
  .rfl
theorem GD{kindOf:Str->Option am4}{x:Str}:∀{binds:List (Str×ε)}{m:Str->Option ε},(∀v,(x,v)∉binds)->bindC kindOf binds m x=m x
 |[],_,_=>rfl
 |(n,v)::r,m,h=>by
  unfold bindC;rw[GD λw hw=>h w (acV _ hw)];split
  .rfl
  .have :x≠n:=by rintro rfl;exact h v aek
   simp[this]
theorem Qq{kindOf:Str->Option am4}{x:Str}{v:ε}:∀{P:List Str}{vs:List ε}{i:Nat}{m:Str->Option ε},P.Nodup->P[i]?=some x->vs[i]?=some v->kindOf x=some .local->
  bindL kindOf (P.zip vs) m x=some v
 |[],_,_,_,_,h,_,_=>by simp at h
 |_::_,[],_,_,_,_,h,_=>by simp at h
 |p::P,w::vs,0,m,nd,h1,h2,hk=>by
  simp at h1 h2;subst h1;subst h2;show bindL kindOf ((p,w)::P.zip vs) m p=_;unfold bindL;rw[Rg λv hv=>(ajw.mp nd).1 (anO hv).1,if_pos hk];simp
 |p::P,w::vs,i+1,m,nd,h1,h2,hk=>by
  show bindL kindOf ((p,w)::P.zip vs) m x=_;unfold bindL;exact Qq (i:=i) (ajw.mp nd).2 (by simpa using h1) (by simpa using h2) hk
theorem GF{kindOf:Str->Option am4}{x:Str}{v:ε}:∀{P:List Str}{vs:List ε}{i:Nat}{m:Str->Option ε},P.Nodup->P[i]?=some x->vs[i]?=some v->kindOf x≠some .local->
  bindC kindOf (P.zip vs) m x=some v
 |[],_,_,_,_,h,_,_=>by simp at h
 |_::_,[],_,_,_,_,h,_=>by simp at h
 |p::P,w::vs,0,m,nd,h1,h2,hk=>by
  simp at h1 h2;subst h1;subst h2;show bindC kindOf ((p,w)::P.zip vs) m p=_;unfold bindC;rw[GD λv hv=>(ajw.mp nd).1 (anO hv).1,if_neg hk];simp
 |p::P,w::vs,i+1,m,nd,h1,h2,hk=>by
  show bindC kindOf ((p,w)::P.zip vs) m x=_;unfold bindC;exact GF (i:=i) (ajw.mp nd).2 (by simpa using h1) (by simpa using h2) hk
def start(N:List Str)(vs:List V):St:=vs.map some++agR (N.length-vs.length) none
def jF(cc:Bool)(CX:dD)(P:Ϯ)(w:Ϭ)(K:Ϩ)(mg:Str->Option ε)(base:ϫ)(N:List Str)(qual:Str)(scope:agJ)(f:δ)(cd:ε)(A:ϰ)(outer:List Env)(s:μ)(H:Hp)(E:XK):Cx where
 prog:=P
 w:=w
 K:=K
 mg:=mg
 base:=base
 A:=A.deeper (envOfC qual scope s.heap.objs.size f cd)
 N:=N
 s₀:=s
 H₀:=H
 env:=envOfC qual scope s.heap.objs.size f cd
 outer:=outer
 stack:=envOfC qual scope s.heap.objs.size f cd::outer
 ex:=[]
 calm:=cc
 fn:=λ_=>true
 pn:=[]
 xe:=λe s'=>π (Ϧ P w) (A.deeper (envOfC qual scope s.heap.objs.size f cd)) (leaving (envOfC qual scope s.heap.objs.size f cd) e) (λ_ s''=>CX outer H s E e s'') (λe' s''=>CX outer H s E e' s'') s'
theorem Ko{sc:agJ}{n:Nat}{x:Str}(h:sc.names.lookup x=some .cell):∃c,(cellsFrom n sc.names []).lookup x=some c:=by
 have q:=W.cellsFrom_some sc.names n [] (.inl h);exact amY.mp q
theorem ab6{CX:dD}{P:Ϯ}{w:Ϭ}{K:Ϩ}{mg:Str->Option ε}{base:ϫ}{N ps:List Str}{qual:Str}{scope:agJ}{f:δ}{cd:ε}{A:ϰ}{outer:List Env}{s s1:μ}{H:Hp}{E:XK}{us:List ε}{vs:List V}(S:Α N ps scope)(hd:cc=true->A.handled=none)(e0:lD P w K mg base A outer s H)(hl:vs.length=ps.length)(r:Vals vs us)(x:InCallC s s.heap.objs.size (bindL (envOfC qual scope s.heap.objs.size f cd).kindOf (ps.zip us) λ_=>none) (cellsFrom (s.heap.objs.size+1) scope.names []) (bindC (envOfC qual scope s.heap.objs.size f cd).kindOf (ps.zip us) λ_=>none) s1):Inv (jF cc CX P w K mg base N qual scope f cd A outer s H E) [] (start N vs) H s1:=by
 have hpl:ps.length<=N.length:=by have:=congrArg am6 S.pre;rw[ae1]at this;omega
 obtain⟨h1,tk,rfl,hk⟩:=x.done;have noA:∀b:δ,b∉(jF cc CX P w K mg base N qual scope f cd A outer s H E).ex:=λb z=>absurd (show b∈([]:List δ)from z) (by simp)
 refine⟨⟨e0.mod,S.kind,rfl,rfl,ϭ _,λy z c h1 h2=>?_,λy hy=>?_,λy c _ h=>?_,hd,Around.frames_deeper e0.frames,.inr ⟨rfl,rfl⟩,λb z=>absurd z (noA b),e0.bs,e0.bsz,λb _ _=>noA b,λb z=>absurd z (noA b),e0.funs,e0.frf⟩,
  rfl,e0.bare,Un.kept hk,⟨_,x.toInCall.ns,λi y v h1 h2 h3=>?_⟩,λy c h=>⟨_,x.cell y c h⟩,e0.hok.fresh (ϭ _),λy c h=>?_,λp hp=>absurd (show p∈([]:List (δ×Obj))from hp) (by simp),e0.hok.kept hk,?_⟩
 .exact name_of_addr x.apart (PySem.mem_of_lookup h1) (PySem.mem_of_lookup h2)
 .have hy:scope.names.lookup y=some .cell\/scope.names.lookup y=some .free:=hy;obtain hy|hy:=hy
  .exact Ko hy
  .exact absurd rfl (S.nofree _ (PySem.mem_of_lookup hy))
 .exact ana (x.above y c (PySem.mem_of_lookup h))
 .have hi:i<vs.length:=by
   unfold start at h2;by_cases hi:i<vs.length
   .exact hi
   .rw[List.getElem?_append_right (by simpa using hi)]at h2;rw[List.getElem?_replicate]at h2;split at h2<;>cases h2
  have ha:vs[i]?=some v:=by
   unfold start at h2;rw[ahS (by simpa using hi),aa2]at h2;cases e:vs[i]? with
   |none=>rw[e]at h2;cases h2
   |some a=>rw[e]at h2;cases h2;rfl
  obtain⟨u,hu,rv⟩:=r.get ha;have hp:ps[i]?=some y:=by
   rw[<-S.pre,List.getElem?_take_of_lt (by omega)];exact h1
  have ndP:ps.Nodup:=by rw[<-S.pre];exact S.nd.sublist (List.take_sublist _ _)
  refine⟨u,rv,?_⟩;rcases S.par y (aaJ hp)with k|k
  .exact .inl ⟨k,Qq ndP hp hu k⟩
  .obtain⟨c,e⟩:=Ko (n:=s.heap.objs.size+1) k;refine .inr ⟨.inl k,c,e,?_⟩;have q:=x.cell y c e;rw[GF ndP hp hu (by show scope.names.lookup y≠_;rw[k];decide)]at q;exact q
 .exact e0.hok.fresh (ana (x.above y c (PySem.mem_of_lookup h)))
 .unfold start;show _=N.length;rw[ab7,aaf,anP];omega
theorem HQ{CX:dD}{P:Ϯ}{w:Ϭ}{K:Ϩ}{mg:Str->Option ε}{base:ϫ}{k:Nat}{f:δ}{name qual:Str}{params:Arguments}{body:List ϧ}{scope:agJ}{dV kV doc pm Ϻ ct oc:ε}{an od:Option δ}{osl:Array (Option ε)}{N ps:List Str}{sp:Sp}(lk:K.lookup f=some ⟨oc,od,.func (anZ name qual params body scope dV kV doc pm an Ϻ ct),osl⟩)(hcd:anE K Ϻ qual=true)(S:Α N ps scope)(len:∀vs H Q E,sp vs H Q E->vs.length=ps.length)(hbody:∀(A:ϰ)(outer:List Env)(s:μ)(H:Hp)(vs:List V)(Q:VK)(E:XK),ό cc k (A.deeper (envOfC qual scope s.heap.objs.size f Ϻ))->sp vs H Q E->
   ∃t,gB (jF cc CX P w K mg base N qual scope f Ϻ A outer s H E) body t/\t {nx:=λ_ H'=>Q .non H',rt:=Q} (start N vs) H):cL P w K mg base CX cc (k+1) f (anZ name qual params body scope dV kV doc pm an Ϻ ct) ps sp:=by
 refine⟨len,λA outer s H args us vs Q E hr e0 hb r hsp=>?_⟩;have hl:=len _ _ _ _ hsp;have KX:K.In s.heap:=e0.mod.kin.keeps λb o e=>(e0.bs b o e).1
 have lim:s.heap.NoLimit:=e0.mod.nolimit.keeps λb o e=>(e0.bs b o e).1
 have hkind:∀y∈ps.zip us,scope.names.lookup y.1=some .local\/(scope.names.lookup y.1=some .cell/\((cellsFrom (s.heap.objs.size+1) scope.names []).lookup y.1).isSome=true):=λ⟨n,v⟩ hy=>by
  obtain q|q:=S.par n (anO hy).1
  .exact .inl q
  .exact .inr ⟨q,W.cellsFrom_some _ _ _ (.inl q)⟩
 refine codeAny_call_function hr.depth (KX _ _ lk) rfl S.co S.gen rfl (W.codeRec_of KX hcd) (hb _ _ _ _ ?_);refine wpAny_newFunctionEnv_cells S.kind hkind λenv he s1 x=>?_
 subst he;refine⟨lim.keeps x.toInCall.keep,codeAny_func ?_⟩;obtain⟨t,ht,hq⟩:=hbody A outer s H vs Q E (hr.deeper _) hsp;have I:Inv (jF cc CX P w K mg base N qual scope f Ϻ A outer s H E) [] (start N vs) H s1:=ab6 S hr.hd e0 hl r x;refine adu (ht [] s1 (start N vs) H _ I hq) (λfl s' hs=>?_) λe s' hs=>hs
 have fin:∀{σ':St}{H':Hp}{v:V}{u:ε},Inv (jF cc CX P w K mg base N qual scope f Ϻ A outer s H E) [] σ' H' s'->RelV v u->Q v H'->CE outer P w H s Q u s':=
  λ{σ' H' v u} J rv q=>⟨v,H',J.os,J.bare,J.base,J.hok,rv,q⟩
 cases fl with
 |ret u=>
  obtain⟨v,σ',H',J,rv,q⟩:=hs;exact fin J rv q
 |next=>
  obtain⟨σ',H',J,q⟩:=hs;exact fin (v:=V.non) (u:=Value.none) J rfl q
 |brk=>
  obtain⟨_,_,_,q⟩:=hs;exact False.elim q
 |cont=>
  obtain⟨_,_,_,q⟩:=hs;exact False.elim q
section
variable{X:Cx}{x:Str}{p pos:Pos}{e:ν}{es:List ν}{t:TA}{id T:String}{r:List V->Hp->VK->Prop}
def KD(r:List V->Hp->VK->Prop)(t:TA):TE:=λσ H Q=>t σ H λvs H1=>r vs H1 Q
theorem ahn(hc:eN X (.builtin id) r)(hg:Gl X x)(hm:X.mg x=none)(hv:bootBuiltins x=some (.builtin id))(ha:PA X (e::es) t)(hn:x≠"__name__":=by decide)(hdb:(x==("__debug__":Str))=false:=by decide)(he:ϯ (e::es) X.env=(false,eval e X.env)::ϯ es X.env:=by rfl)(hpl:(backTo pos (ϯ es X.env)).any (·.1)=false:=by rfl):PE X (.Call (.Name x p) (e::es) [] pos) (KD r t):=by
 intro ϵ s σ H Q I h;refine akj (iU I hg hm hv ?_ hn hdb);exact PyProof.Rows.callWith_builtin1 (χ (ha pos ϵ s σ H _ I h) λus s1 ⟨vs,H1,I1,r1,q1⟩=>hc ϵ s1 σ H1 vs us Q I1 r1 q1) he hpl
theorem Ut(hc:eN X (.type T) r)(hg:Gl X x)(hm:X.mg x=none)(hv:bootBuiltins x=some (.type T))(ha:PA X (e::es) t)(hn:x≠"__name__":=by decide)(hdb:(x==("__debug__":Str))=false:=by decide)(he:ϯ (e::es) X.env=(false,eval e X.env)::ϯ es X.env:=by rfl)(hpl:(backTo pos (ϯ es X.env)).any (·.1)=false:=by rfl):PE X (.Call (.Name x p) (e::es) [] pos) (KD r t):=by
 intro ϵ s σ H Q I h;refine akj (iU I hg hm hv ?_ hn hdb);exact PyProof.Rows.callWith_type1 (χ (ha pos ϵ s σ H _ I h) λus s1 ⟨vs,H1,I1,r1,q1⟩=>hc ϵ s1 σ H1 vs us Q I1 r1 q1) he hpl
end
end L2
namespace HT
open PySem PyProof.Rows
section
open PySem.SeqAt
open PySem.AutoSeq1 (wpAny_loadPart')
open PySem.MeetsSeq PySem.MeetsSeq2 PySem.MeetsSeq3
end
section
variable{prog:Ϯ}{w:Ϭ}{A:ϰ}{E:ε->μ->Prop}{s:μ}
def Ω(n d:Nat):Option Int->Nat
 |none=>d
 |some v=>if v<0 then(v+(n:Int)).toNat else min v.toNat n
theorem HJ(n d:Nat):Ω n d none=d:=rfl
theorem mL(n d k:Nat):Ω n d (some (k:Int))=min k n:=by
 show(if(k:Int)<0 then((k:Int)+(n:Int)).toNat else min (k:Int).toNat n)=min k n;rw[if_neg (by omega),anr]
theorem Oi(n d:Nat)(hd:d<=n)(o:Option Int):Ω n d o<=n:=by
 cases o with
 |none=>exact hd
 |some v=>
  show(if v<0 then(v+(n:Int)).toNat else min v.toNat n)<=n;by_cases hv:v<0
  .rw[if_pos hv];omega
  .rw[if_neg hv];exact anG _ _
theorem ajU(v:Int)(n d:Nat):(if v<0 then max (v+(n:Int)) 0 else min v (n:Int))=((Ω n d (some v):Nat):Int):=by
 show(if v<0 then max (v+(n:Int)) 0 else min v (n:Int))=(((if v<0 then(v+(n:Int)).toNat else min v.toNat n):Nat):Int);by_cases hv:v<0
 .simp only[if_pos hv];omega
 .simp only[if_neg hv];omega
end
end HT
namespace L2
open PySem PySem.Spec PyProof.Rows
abbrev TO:=St->Hp->(Option Int->Hp->Prop)->Prop
def PO(X:Cx)(e:Option ν)(t:TO):Prop:=
 ∀(ϵ:List (δ×Obj))(s:μ)(σ:St)(H:Hp)(Q:Option Int->Hp->Prop),Inv X ϵ σ H s->t σ H Q->
  π (Ϧ X.prog X.w) X.A (evalPart e X.env) (λu s'=>∃o H',Inv X ϵ σ H' s'/\IsPart u o/\Q o H') X.xe s
def Xh:TO:=λ_ H Q=>Q none H
def ad6(t:TE):TO:=λσ H Q=>t σ H λx H1=>∃i,x=.int i/\Q (some i) H1
section
variable{X:Cx}{e:ν}{te:TE}{lo hi:Option ν}{tl th:TO}{pos p2:Pos}
theorem aca:PO X none Xh:=by
 intro ϵ s σ H Q I h;rw[evalPart_none];exact ϲ ⟨none,H,I,.none,h⟩
theorem Wf(h:PE X e te):PO X (some e) (ad6 te):=by
 intro ϵ s σ H Q I hw;rw[evalPart_some];refine χ (h ϵ s σ H _ I hw) λu s1 hZ=>?_
 obtain⟨x,H1,I1,r1,q1⟩:=hZ;obtain⟨i,rfl,q⟩:=q1;obtain⟨t,rfl⟩:=r1;exact⟨some i,H1,I1,.int i t,q⟩
def qU(X:Cx)(r:V->Option Int->Option Int->Hp->VK->Prop):Prop:=
 ∀(ϵ:List (δ×Obj))(s:μ)(σ:St)(H:Hp)(x:V)(v vl vu:ε)(lo hi:Option Int)(sl:δ)(Q:VK),Inv X ϵ σ H s->RelV x v->s.heap.IsSliceOf sl vl vu .none->IsPart vl lo->IsPart vu hi->r x lo hi H Q->
  ∃T id,typeLookup (.type T) "__getitem__"=pure (some (.builtin id))/\s.TypeIs v T/\π (Ϧ X.prog X.w) X.A (getItem v (.ref sl)) (EP X ϵ σ Q) X.xe s
def Z6(r:V->Option Int->Option Int->Hp->VK->Prop)(te:TE)(tl th:TO):TE:=λσ H Q=>te σ H λx H1=>tl σ H1 λl H2=>th σ H2 λu H3=>r x l u H3 Q
theorem aiu{r:V->Option Int->Option Int->Hp->VK->Prop}(hr:qU X r)(he:PE X e te)(hl:PO X lo tl)(hu:PO X hi th):PE X (.Subscript e (.Slice lo hi none p2) pos) (Z6 r te tl th):=by
 intro ϵ s σ H Q I h;refine Subscript_ (χ (he ϵ s σ H _ I h) λv s1 hZ=>?_);obtain⟨x,H1,I1,r1,q1⟩:=hZ;refine wpAny_Slice (χ (hl ϵ s1 σ H1 _ I1 q1) λvl s2 ⟨l,H2,I2,pl,q2⟩=>χ (hu ϵ s2 σ H2 _ I2 q2) λvu s3 hZ=>?_);obtain⟨u,H3,I3,pu,q3⟩:=hZ;rw[evalPart_none];refine ϲ ?_;have I4:Inv X ϵ σ H3 {s3 with heap:=s3.heap.push {cls:=.type "slice",data:=.fields #[vl,vu,.none]}}:=I3.kept (t':=s3.toks) λb ob q=>Heap.get?_push_of_some _ q
 obtain⟨T,id,hT,ht,hg⟩:=hr ϵ {s3 with heap:=s3.heap.push {cls:=.type "slice",data:=.fields #[vl,vu,.none]}} σ H3 x v vl vu l u s3.heap.objs.size Q I4 r1 (Heap.IsSliceOf.new ..) pl pu q3;show π (Ϧ X.prog X.w) X.A (subscriptTail e (.Slice lo hi none p2) v (.ref s3.heap.objs.size)) (EP X ϵ σ Q) X.xe {s3 with heap:=s3.heap.push {cls:=.type "slice",data:=.fields #[vl,vu,.none]}};exact tail_any (ops:=[.ref s3.heap.objs.size,v]) ht hT hg (by with_unfolding_all rfl)
def gA(xs:List V)(lo hi:Option Int):List V:=(xs.drop (HT.Ω xs.length 0 lo)).take (HT.Ω xs.length xs.length hi-HT.Ω xs.length 0 lo)
theorem adk(xs:List V)(lo hi:Option Int):(gA xs lo hi).length<=xs.length:=by
 unfold gA;rw[ae1,afw];omega
end
def iy(n:Nat)(i:Int):Option Nat:=if 0<=i then(if i<n then some i.toNat else none)else if -(n:Int)<=i then some (i+n).toNat else none
def Μ{α:Type}(xs:List α)(i:Int):Option α:=(iy xs.length i).bind λj=>xs[j]?
theorem agY{n:Nat}{i:Int}{j:Nat}(h:iy n i=some j):seqIndex? i n=some j/\j<n/\ -(n:Int)<=i/\i<n:=by
 unfold iy at h;by_cases h0:0<=i
 .rw[if_pos h0]at h;by_cases h1:i<n
  .rw[if_pos h1]at h;have e:i.toNat=j:=Option.some.inj h;exact⟨by rw[seqIndex_of h0 h1,e],by omega,by omega,h1⟩
  .rw[if_neg h1]at h;cases h
 .rw[if_neg h0]at h;by_cases h1: -(n:Int)<=i
  .rw[if_pos h1]at h;have e:(i+n).toNat=j:=Option.some.inj h;exact⟨by rw[seqIndex_neg (by omega) h1,e],by omega,h1,by omega⟩
  .rw[if_neg h1]at h;cases h
theorem Bu{α:Type}{xs:List α}{i:Int}{v:α}(h:Μ xs i=some v):∃j,seqIndex? i xs.length=some j/\xs[j]?=some v/\j<xs.length/\ -(xs.length:Int)<=i/\i<xs.length:=by
 unfold Μ at h;cases e:iy xs.length i with
 |none=>rw[e]at h;cases h
 |some j=>
  rw[e]at h;obtain⟨h1,h2,h3,h4⟩:=agY e;exact⟨j,h1,h,h2,h3,h4⟩
theorem Ϛ{α:Type}{xs:List α}{j:Nat}{v:α}(h:xs[j]?=some v):Μ xs (j:Int)=some v:=by
 have hj:j<xs.length:=(aae.mp h).1;have e:iy xs.length (j:Int)=some j:=by
  unfold iy;rw[if_pos (by omega),if_pos (by omega)];simp
 unfold Μ;rw[e];exact h
def Ku(b:ν):=∀o i,subscripted b false o i=operate [o,i] (getItem o i)
def j8(X:Cx)(r:R2):Prop:=
 ∀(value slice:ν)(ϵ:List (δ×Obj))(s:μ)(σ:St)(H:Hp)(x y:V)(v u:ε)(Q:VK),Inv X ϵ σ H s->RelV x v->RelV y u->r x y H Q->
  subscripted slice false v u=operate [v,u] (getItem v u)->π (Ϧ X.prog X.w) X.A (subscriptTail value slice v u) (EP X ϵ σ Q) X.xe s
def tD(X:Cx)(id:String)(r:V->List V->Hp->VK->Prop):Prop:=
 ∀(ϵ:List (δ×Obj))(s:μ)(σ:St)(H:Hp)(x:V)(xs:List V)(v:ε)(us:List ε)(Q:VK),Inv X ϵ σ H s->RelV x v->Vals xs us->r x xs H Q->
  π (Ϧ X.prog X.w) X.A (call (.builtin id) (v::us)) (EP X ϵ σ Q) X.xe s
section
variable{X:Cx}{a b:ν}{ta tb:TE}{pos:Pos}
theorem acR{r:R2}(hr:j8 X r)(ha:PE X a ta)(hb:PE X b tb)(hs:Ku b):PE X (.Subscript a b pos) (vM r ta tb):=by
 intro ϵ s σ H Q I h;exact Subscript_ (zU ha hb I h λv u s2 x y H2 I2 rx ry q=>hr a b ϵ s2 σ H2 x y v u Q I2 rx ry q (hs _ _))
def Sg(K:Ϩ):R2:=λx y H Q=>∃p xs i v,x=.ref p/\y=.int i/\η K H p xs/\ Μ xs i=some v/\Q v H
def Sy(K:Ϩ):R2:=λx y H Q=>∃p xs i v,x=.ref p/\y=.int i/\ψ K H p xs/\ Μ xs i=some v/\Q v H
def Ra:R2:=λx y H Q=>∃z i c,x=.str z/\y=.int i/\z.length<=ϩ/\ Μ z.cps.toList i=some c/\Q (.str ⟨#[c]⟩) H
theorem abA:j8 X (Sg X.K):=by
 intro value slice ϵ s σ H x y v u Q I rx ry h hs;obtain⟨p,xs,i,z,rfl,rfl,hq,he,q⟩:=h;cases rx;obtain⟨t,rfl⟩:=ry;obtain⟨ϸ,r,pl,hz⟩:=I.list hq;obtain⟨j,h1,h2,h3,h4,h5⟩:=Bu he;obtain⟨w,ew,rw'⟩:=r.get h2;have hl:=r.length;have hn:=oN;have fin:EP X ϵ σ Q w s:=⟨z,H,I,rw',q⟩;by_cases h0:0<=i
 .have hj:i.toNat=j:=by
   rw[seqIndex_of h0 h5]at h1;exact Option.some.inj h1
  exact item_listR pl.isList h0 (by omega) (by rw[hj];simpa using ew) fin hs
 .have hj:(i+(ϸ.toArray.size:Int)).toNat=j:=by
   rw[seqIndex_neg (by omega) h4]at h1;rw[aaU, <-hl];exact Option.some.inj h1
  exact subscriptTail_builtinR (x:=w) pl.isList.typeIs slot_list_getitem.lookup
   (wpAny_getItem_list_neg (Q:=λr s'=>r=w/\EP X ϵ σ Q r s') pl.isList (by omega) (by rw[aaU]<;>omega) (by omega) (by rw[hj];simpa using ew) ⟨rfl,fin⟩) hs
theorem aaa:j8 X (Sy X.K):=by
 intro value slice ϵ s σ H x y v u Q I rx ry h hs;obtain⟨p,xs,i,z,rfl,rfl,hq,he,q⟩:=h;cases rx;obtain⟨t,rfl⟩:=ry;obtain⟨ϸ,r,pl,hz⟩:=I.tuple hq;obtain⟨j,h1,h2,h3,h4,h5⟩:=Bu he;obtain⟨w,ew,rw'⟩:=r.get h2;have hl:=r.length;have hn:=oN;have fin:EP X ϵ σ Q w s:=⟨z,H,I,rw',q⟩;exact subscriptTail_builtinR (x:=w) pl.typeIs slot_tuple_getitem.lookup
  (getItem_tuple (j:=j) (Q:=λr s'=>r=w/\EP X ϵ σ Q r s') pl (by omega) (by omega) (by rw[aaU, <-hl];exact h1) (by simpa using ew) ⟨rfl,fin⟩) hs
theorem aeT:j8 X Ra:=by
 intro value slice ϵ s σ H x y v u Q I rx ry h hs;obtain⟨z,i,c,rfl,rfl,hz,he,q⟩:=h;obtain⟨t,rfl⟩:=rx;obtain⟨t',rfl⟩:=ry;obtain⟨j,h1,h2,h3,h4,h5⟩:=Bu he;have hl:z.cps.toList.length=z.length:=by simp[Str.length]
 rw[hl]at h1 h4 h5;have hn:=oN;exact tail_any (typeIs_str s z t) slot_str_getitem.lookup (getItem_str (c:=c) (by
  have e1:decide (i< -(2^63:Int))=false:=decide_eq_false (by omega);have e2:decide (i≥2^63)=false:=decide_eq_false (by omega);rw[e1,e2,aof]) (by rw[h1];simpa using h2) ⟨.str ⟨#[c]⟩,H,I.tok _,⟨_,rfl⟩,q⟩) hs
theorem agk(lo hi:Option Int)(n:Nat):(sliceBounds lo hi none n).1=((HT.Ω n 0 lo:Nat):Int)/\(sliceBounds lo hi none n).2.1=((HT.Ω n n hi:Nat):Int)/\(sliceBounds lo hi none n).2.2=1:=by
 refine⟨?_,?_,rfl⟩
 .cases lo with
  |none=>simp[sliceBounds,HT.Ω]
  |some i=>
   simp only[sliceBounds,HT.Ω,Option.getD_none,show(1:Int)>0 by decide,if_true];by_cases h:i<0
   .simp only[h,if_true]<;>omega
   .simp only[h,if_false]<;>omega
 .cases hi with
  |none=>simp[sliceBounds,HT.Ω]
  |some i=>
   simp only[sliceBounds,HT.Ω,Option.getD_none,show(1:Int)>0 by decide,if_true];by_cases h:i<0
   .simp only[h,if_true]<;>omega
   .simp only[h,if_false]<;>omega
theorem YX(ϸ:List ε)(lo hi:Option Int):slicePick ϸ.toArray lo hi none=((ϸ.drop (HT.Ω ϸ.length 0 lo)).take (HT.Ω ϸ.length ϸ.length hi-HT.Ω ϸ.length 0 lo)).toArray:=by
 obtain⟨h1,h2,h3⟩:=agk lo hi ϸ.toArray.size;unfold slicePick;rw[h1,h2,h3];simp only[sliceRange_one,pick_run,aaU]<;>rfl
def Ui(K:Ϩ):V->Option Int->Option Int->Hp->VK->Prop:=λx lo hi H Q=>∃a xs,x=.ref a/\η K H a xs/\∀p,H p=none->Q (.ref p) (upd H p (.lst (gA xs lo hi)))
theorem Zo:qU X (Ui X.K):=by
 intro ϵ s σ H x v vl vu lo hi sl Q I rx hs pl pu h;obtain⟨a,xs,rfl,hx,q⟩:=h;cases rx;obtain⟨ϸ,r,ht,hz⟩:=I.list hx;have hlen:=r.length;refine⟨"list",_,slot_list_getitem.lookup,ht.isList.typeIs,?_⟩;refine wpAny_getItem_list_slice ht.isList hs pl pu .none (by simp) ?_ (by rw[aaU]<;>omega);rw[YX, <-hlen];refine⟨.ref s.heap.objs.size,_,I.laid (t':=s.toks) (o:=.lst (gA xs lo hi)) (λb ob q=>Heap.get?_push_of_some _ q) (ϭ _) ?_,rfl,q _ (I.hok.fresh (ϭ _))⟩;exact⟨aft (adk xs lo hi) hz,_,0,(r.drop (HT.Ω xs.length 0 lo)).take (HT.Ω xs.length xs.length hi-HT.Ω xs.length 0 lo),abE _ rfl⟩
def eV:V->Bool
 |.non=>true
 |.bl _=>true
 |.int _=>true
 |.str _=>true
 |_=>false
def dM:V->V->Bool
 |.non,.non=>true
 |.bl a,.bl b=>a==b
 |.bl a,.int b=>(if a then 1 else 0)==b
 |.int a,.bl b=>a==(if b then 1 else 0)
 |.int a,.int b=>a==b
 |.str a,.str b=>a==b
 |_,_=>false
theorem agx{A:ϰ}{s:μ}{y x:V}{u v:ε}(ry:RelV y u)(rx:RelV x v)(fy:eV y=true)(fx:eV x=true):SeqAt.EqAt A s u v (dM y x):=by
 cases y with
 |non=>
  cases ry;cases x with
  |non=>cases rx;exact SeqAt.EqAt.same _
  |bl b=>cases rx;exact SeqAt.EqAt.none_bool b
  |int b=>obtain⟨t,rfl⟩:=rx;exact SeqAt.EqAt.none_int b t
  |str b=>obtain⟨t,rfl⟩:=rx;exact SeqAt.EqAt.none_str b t
  |_=>exact absurd (show false=true from fx) aaD
 |bl a=>
  cases ry;cases x with
  |non=>cases rx;exact SeqAt.EqAt.bool_none a
  |bl b=>cases rx;exact SeqAt.EqAt.bool_bool a b
  |int b=>obtain⟨t,rfl⟩:=rx;exact SeqAt.EqAt.bool_int a b t
  |str b=>obtain⟨t,rfl⟩:=rx;exact SeqAt.EqAt.bool_str a b t
  |_=>exact absurd (show false=true from fx) aaD
 |int a=>
  obtain⟨t',rfl⟩:=ry;cases x with
  |non=>cases rx;exact SeqAt.EqAt.int_none a t'
  |bl b=>cases rx;exact SeqAt.EqAt.int_bool a t' b
  |int b=>obtain⟨t,rfl⟩:=rx;exact SeqAt.EqAt.int_int a t' b t
  |str b=>obtain⟨t,rfl⟩:=rx;exact SeqAt.EqAt.int_str a t' b t
  |_=>exact absurd (show false=true from fx) aaD
 |str a=>
  obtain⟨t',rfl⟩:=ry;cases x with
  |non=>cases rx;exact SeqAt.EqAt.str_none a t'
  |bl b=>cases rx;exact SeqAt.EqAt.str_bool a t' b
  |int b=>obtain⟨t,rfl⟩:=rx;exact SeqAt.EqAt.str_int a t' b t
  |str b=>obtain⟨t,rfl⟩:=rx;exact SeqAt.EqAt.str_str a t' b t
  |_=>exact absurd (show false=true from fx) aaD
 |_=>exact absurd (show false=true from fy) aaD
def cU(x:V)(u:ε):Bool:=match u with
 |.none=>dM .non x
 |.bool b=>dM (.bl b) x
 |.int i _=>dM (.int i) x
 |.str z _=>dM (.str z) x
 |_=>false
theorem PN{x y:V}{u:ε}(r:RelV y u)(f:eV y=true):cU x u=dM y x:=by
 cases y with
 |non=>cases r;rfl
 |bl b=>cases r;rfl
 |int i=>obtain⟨t,rfl⟩:=r;rfl
 |str z=>obtain⟨t,rfl⟩:=r;rfl
 |_=>exact absurd (show false=true from f) aaD
theorem rM{x:V}:∀{xs:List V}{us:List ε},Vals xs us->xs.all eV=true->us.any (cU x)=xs.any λy=>dM y x
 |_,_,.nil,_=>rfl
 |y::xs,u::us,.cons r t,f=>by
  rw[List.all_cons,aaH]at f;rw[List.any_cons,List.any_cons,PN r f.1,rM t f.2]
theorem tO{A:ϰ}{s:μ}{x:V}{v:ε}(rx:RelV x v)(fx:eV x=true):∀{xs:List V}{us:List ε},Vals xs us->xs.all eV=true->∀u∈us,SeqAt.EqAt A s u v (cU x u)
 |_,_,.nil,_=>λu hu=>by cases hu
 |y::xs,u::us,.cons r t,f=>λu' hu=>by
  rw[List.all_cons,aaH]at f;obtain rfl|hu:=ϴ.mp hu
  .rw[PN r f.1];exact agx r rx f.1 fx
  .exact tO rx fx t f.2 u' hu
def gh(x:V)(xs:List V):Bool:=xs.any λy=>dM y x
def Ro(K:Ϩ)(neg:Bool):R2:=λx y H Q=>∃p xs,y=.ref p/\(η K H p xs\/ψ K H p xs)/\eV x=true/\xs.all eV=true/\Q (.bl (if neg then !gh x xs else gh x xs)) H
theorem acx:Ϣ X (adh .In) (Ro X.K false):=by
 intro ϵ s σ H x y v u Q I rx ry h;obtain⟨p,xs,rfl,hq,fx,fs,q⟩:=h;cases ry;obtain hq|hq:=hq
 .obtain⟨ϸ,r,pl,hz⟩:=I.list hq;refine SeqAt.in_listAt (cU x) pl.isList (λw hw=>tO rx fx r fs w (by simpa using hw)) ⟨.bl _,H,I,rfl,?_⟩;rw[show ϸ.toArray.any (cU x)=ϸ.any (cU x)by simp,rM r fs];exact q
 .obtain⟨ϸ,r,pl,hz⟩:=I.tuple hq;refine SeqAt.in_tupleAt (cU x) pl (λw hw=>tO rx fx r fs w (by simpa using hw)) ⟨.bl _,H,I,rfl,?_⟩;rw[show ϸ.toArray.any (cU x)=ϸ.any (cU x)by simp,rM r fs];exact q
theorem Ti:Ϣ X (adh .NotIn) (Ro X.K true):=by
 intro ϵ s σ H x y v u Q I rx ry h;obtain⟨p,xs,rfl,hq,fx,fs,q⟩:=h;cases ry;obtain hq|hq:=hq
 .obtain⟨ϸ,r,pl,hz⟩:=I.list hq;refine SeqAt.notIn_listAt (cU x) pl.isList (λw hw=>tO rx fx r fs w (by simpa using hw)) ⟨.bl _,H,I,rfl,?_⟩;rw[show ϸ.toArray.any (cU x)=ϸ.any (cU x)by simp,rM r fs];exact q
 .obtain⟨ϸ,r,pl,hz⟩:=I.tuple hq;refine SeqAt.notIn_tupleAt (cU x) pl (λw hw=>tO rx fx r fs w (by simpa using hw)) ⟨.bl _,H,I,rfl,?_⟩;rw[show ϸ.toArray.any (cU x)=ϸ.any (cU x)by simp,rM r fs];exact q
theorem aeO:eN X (.builtin "len") (λxs H Q=>∃p ys,xs=[.ref p]/\(η X.K H p ys\/ψ X.K H p ys)/\Q (.int ys.length) H):=by
 intro ϵ s σ H xs us Q I r h;obtain⟨p,ys,rfl,hq,q⟩:=h;obtain⟨u,rfl,rx⟩:=vals1 r;cases rx;have hn:=oN;obtain hq|hq:=hq
 .obtain⟨ϸ,r',pl,hz⟩:=I.list hq;have hlen:=r'.length;exact Calls.call_len_list pl.isList (by simp only[aaU]<;>omega) ⟨.int ys.length,H,I.tok _,⟨s.toks+1,by rw[aaU,hlen]⟩,q⟩
 .obtain⟨ϸ,r',pl,hz⟩:=I.tuple hq;have hlen:=r'.length;exact len_tuple pl (by simp only[aaU]<;>omega) ⟨.int ys.length,H,I.tok _,⟨s.toks+1,by rw[aaU,hlen]⟩,q⟩
theorem Vm:eN X (.builtin "len") (λxs H Q=>∃z,xs=[.str z]/\z.length<=ϩ/\Q (.int z.length) H):=by
 intro ϵ s σ H xs us Q I r h;obtain⟨z,rfl,hz,q⟩:=h;obtain⟨u,rfl,t,rfl⟩:=vals1 r;have hn:=oN;exact len_str (by omega) ⟨.int z.length,H,I.tok _,⟨_,rfl⟩,q⟩
theorem ai3:eN X (.type "list") (λxs H Q=>∃p ys,xs=[.ref p]/\(η X.K H p ys\/ψ X.K H p ys)/\∀l,H l=none->Q (.ref l) (upd H l (.lst ys))):=by
 intro ϵ s σ H xs us Q I r h;obtain⟨p,ys,rfl,hq,q⟩:=h;obtain⟨u,rfl,rx⟩:=vals1 r;cases rx
 have fin:∀(ϸ:List ε),Vals ys ϸ->ys.length<=ϩ->∀(h':ϫ)(c':Nat),(∀b o',s.heap.get? b=some o'->h'.get? b=some o')->
   h'.get? s.heap.objs.size=some {cls:=.type "list",dict:=none,data:=.seq ϸ.toArray c',slots:= #[]}->EP X ϵ σ Q (.ref s.heap.objs.size) {s with heap:=h'}:=λϸ r' hz h' c' kp e=>
  ⟨.ref s.heap.objs.size,_,I.laid (t':=s.toks) kp (ϭ _) (show Φ X.prog X.w _ h' _ (.lst ys)from⟨hz,ϸ,c',r',e⟩),rfl,q _ (I.hok.fresh (ϭ _))⟩
 obtain hq|hq:=hq
 .obtain⟨ϸ,r',pl,hz⟩:=I.list hq;have hlen:=r'.length;obtain⟨o,ho,hc,n,hd⟩:=pl.isList;exact call_list_seq p (.inl rfl) ho hc hd (λh' c' kp e=>fin ϸ r' hz h' c' kp e) (by simp only[aaU]<;>omega)
 .obtain⟨ϸ,r',pl,hz⟩:=I.tuple hq;have hlen:=r'.length;obtain⟨o,ho,hc,n,hd⟩:=pl;exact call_list_seq p (.inr rfl) ho hc hd (λh' c' kp e=>fin ϸ r' hz h' c' kp e) (by simp only[aaU]<;>omega)
theorem XD:eN X (.type "tuple") (λxs H Q=>∃p ys,xs=[.ref p]/\((η X.K H p ys/\∀l,H l=none->Q (.ref l) (upd H l (.tup ys)))\/(ψ X.K H p ys/\Q (.ref p) H))):=by
 intro ϵ s σ H xs us Q I r h;obtain⟨p,ys,rfl,h⟩:=h;obtain⟨u,rfl,rx⟩:=vals1 r;cases rx;obtain⟨hq,q⟩|⟨hq,q⟩:=h
 .obtain⟨ϸ,r',pl,hz⟩:=I.list hq;have hlen:=r'.length;refine call_tuple_list pl.isList (λh' kp=>?_) (by simp only[aaU]<;>omega);have I1:Inv X ϵ σ H {s with heap:=h'}:=I.kept (t':=s.toks) kp;have I2:Inv X ϵ σ (upd H h'.objs.size (.tup ys)) {s with heap:=h'.push {cls:=.type "tuple",data:=.seq ϸ.toArray}}:=
   I1.laid (t':=s.toks) (λb o e=>Heap.get?_push_of_some _ e) (ϭ _) (show Φ X.prog X.w _ _ _ (.tup ys)from⟨hz,ϸ,r',IsTup.new _ _⟩)
  exact⟨.ref h'.objs.size,_,I2,rfl,q _ (I1.hok.fresh (ϭ _))⟩
 .obtain⟨ϸ,r',pl,hz⟩:=I.tuple hq;exact call_tuple_same pl ⟨.ref p,H,I,rfl,q⟩
def oh(K:Ϩ)(T:String)(x:V)(H:Hp):Prop:=match x with
 |.str _=>T="str"
 |.int _=>T="int"
 |.ref p=>(T="list"/\∃xs,η K H p xs)\/(T="tuple"/\∃o,K.lookup p=some o/\o.cls=.type "tuple"/\o.dict=none)\/
   (T="dict"/\((∃Ϸ,H p=some (.dK Ϸ))\/∃Ϸ,H p=some (.dT Ϸ)))\/(T="set"/\∃S n,H p=some (.set S n))
 |_=>False
theorem S8{ϵ:List (δ×Obj)}{σ:St}{H:Hp}{s:μ}{T:String}{x:V}{v:ε}(I:Inv X ϵ σ H s)(r:RelV x v)(ty:oh X.K T x H):s.TypeIs v T/\∀a,v=.ref a->∃ob,s.heap.get? a=some ob/\ob.dict=none:=by
 cases x with
 |str z=>
  obtain⟨t,rfl⟩:=r;cases(show T="str" from ty);exact⟨typeIs_str s z t,λ_ e=>nomatch e⟩
 |int i=>
  obtain⟨t,rfl⟩:=r;cases(show T="int" from ty);exact⟨typeIs_int s i t,λ_ e=>nomatch e⟩
 |ref p=>
  cases r;obtain⟨rfl,xs,hq⟩|⟨rfl,o,hk,hc,hd⟩|⟨rfl,hk⟩|⟨rfl,S,n,hk⟩:=ty
  .obtain⟨ϸ,_,pl,_⟩:=I.list hq;refine⟨pl.isList.typeIs,λa e=>?_⟩;cases e;obtain⟨o,n,e,c,hd,_⟩:=pl;exact⟨o,e,hd⟩
  .refine⟨⟨o,I.kIn p o hk,hc⟩,λa e=>?_⟩;cases e;exact⟨o,I.kIn _ o hk,hd⟩
  .have z:∃o,s.heap.get? p=some o/\o.ExactDict:=by
    obtain⟨Ϸ,hk⟩|⟨Ϸ,hk⟩:=hk
    .obtain⟨_,_,_,_,o,_,_,e,ex,_⟩:=I.hok p _ hk;exact⟨o,e,ex⟩
    .obtain⟨_,_,_,_,o,_,_,e,ex,_⟩:=I.hok p _ hk;exact⟨o,e,ex⟩
   obtain⟨o,e,ex⟩:=z;refine⟨⟨o,e,ex.1⟩,λa e2=>?_⟩;cases e2;exact⟨o,e,ex.2.1⟩
  .obtain⟨o,_,_,_,e,ex,_⟩:=I.hok p _ hk;refine⟨⟨o,e,ex.1⟩,λa e2=>?_⟩;cases e2;exact⟨o,e,ex.2.1⟩
 |_=>exact False.elim ty
def XS(K:Ϩ)(T:String)(r:V->List V->Hp->VK->Prop)(to:TE):TE:=λσ H Q=>to σ H λx H1=>oh K T x H1/\r x [] H1 Q
def tBM(K:Ϩ)(T:String)(r:V->List V->Hp->VK->Prop)(to:TE)(t:TA):TE:=λσ H Q=>to σ H λx H1=>oh K T x H1/\t σ H1 λxs H2=>r x xs H2 Q
variable{o e:ν}{es:List ν}{to:TE}{t:TA}{name:Str}{apos cpos:Pos}{T id:String}{r:V->List V->Hp->VK->Prop}
theorem X8(pa:PlainAttrs T)(slot:Slot T name id)(hty:typeOf (.builtin id)=pure (.type "method_descriptor"))(hm:tD X id r)(ho:PE X o to)(hbase:attributeBase o name X.env (eval o X.env)=eval o X.env:=by rfl)(hline:(apos.endLine==cpos.line)=true:=by rfl):PE X (.Call (.Attribute o name apos) [] [] cpos) (XS X.K T r to):=by
 intro ϵ s σ H Q I h;refine wpAny_Call_method0_late hbase hline (χ (ho ϵ s σ H _ I h) λv s1 hZ=>?_);obtain⟨x,H1,I1,r1,ty,q1⟩:=hZ;obtain⟨h1,h2⟩:=S8 I1 r1 ty;exact⟨T,id,pa,slot,hty,h1,h2,Calls.callWith_builtin rfl (PySem.evalArgs_none (hm ϵ s1 σ H1 x [] v [] Q I1 r1 .nil q1))⟩
theorem Xo(pa:PlainAttrs T)(slot:Slot T name id)(hty:typeOf (.builtin id)=pure (.type "method_descriptor"))(hm:tD X id r)(ho:PE X o to)(ha:PA X (e::es) t)(hbase:attributeBase o name X.env (eval o X.env)=eval o X.env:=by rfl)(hfew:((backTo cpos (ϯ (e::es) X.env)).all (λx=> !x.1)&&(backToKw cpos (keywordEach [] X.env)).all (λx=>x.1.isSome)
   &&decide ((e::es).length+([]:List Keyword).length+(if([]:List Keyword).isEmpty then 0 else 1)<30))=true:=by rfl)(hline:(apos.endLine==cpos.line)=true:=by rfl)(hs:ϯ (e::es) X.env=(false,eval e X.env)::ϯ es X.env:=by rfl)(hplain:(backTo cpos (ϯ es X.env)).any (·.1)=false:=by rfl):PE X (.Call (.Attribute o name apos) (e::es) [] cpos) (tBM X.K T r to t):=by
 intro ϵ s σ H Q I h;refine wpAny_Call_method_late hbase hfew hline rfl (χ (ho ϵ s σ H _ I h) λv s1 hZ=>?_);obtain⟨x,H1,I1,r1,ty,q1⟩:=hZ;obtain⟨h1,h2⟩:=S8 I1 r1 ty;refine⟨T,id,pa,slot,hty,h1,h2,?_⟩;have hA:=ha cpos ϵ s1 σ H1 _ I1 q1;rw[hs]at hA⊢;refine Calls.callWith_builtin (by show(false||(backTo cpos (ϯ es X.env)).any (·.1))=false;rw[hplain]<;>rfl) (Calls.evalArgs_plain ?_);exact χ hA λus s2 ⟨vs,H2,I2,r2,q2⟩=>hm ϵ s2 σ H2 x vs v us Q I2 r1 r2 q2
end
def zZ(X:Cx)(id:String)(r:V->List V->Hp->VK->Prop):Prop:=
 ∀(ϵ:List (δ×Obj))(s:μ)(σ:St)(H:Hp)(x:V)(xs:List V)(v:ε)(us:List ε)(Q:VK),Inv X ϵ σ H s->RelV x v->Vals xs us->r x xs H Q->
  π (Ϧ X.prog X.w) X.A (call (.builtin id) (v::us)) (EP X ϵ σ Q) X.xe s
theorem Vals.one{x:V}{us:List ε}(h:Vals [x] us):∃u,us=[u]/\RelV x u:=vals1 h
theorem Vals.two{x y:V}{us:List ε}(h:Vals [x,y] us):∃u v,us=[u,v]/\RelV x u/\RelV y v:=vals2 h
theorem Vals.zero:∀{us:List ε},Vals [] us->us=[]
 |_,.nil=>rfl
theorem Vals.reverse{xs:List V}{us:List ε}(h:Vals xs us):Vals xs.reverse us.reverse:=by
 induction h with
 |nil=>exact .nil
 |cons r t ih=>rw[List.reverse_cons,List.reverse_cons];exact Vals.append ih (.cons r .nil)
section
variable{X:Cx}{ϵ:List (δ×Obj)}{σ:St}{H:Hp}{s:μ}{l b:δ}{xs ys zs:List V}
theorem Inv.lset{ϸ its':List ε}{n:Nat}{f:Array ε->Array ε}{t':Nat}(I:Inv X ϵ σ H s)(hH:H l=some (.lst xs))(e:s.heap.get? l=some {cls:=.type "list",data:=.seq ϸ.toArray n})(hf:f ϸ.toArray=its'.toArray)(hv:Vals ys its')(hz:ys.length<=ϩ):Inv X ϵ σ (upd H l (.lst ys)) {s with heap:=s.heap.update l (Obj.mapSeq f),toks:=t'}:=by
 have q:=PySem.IsL.update e f;rw[hf]at q;refine I.write (x:=l) (e:=l) (by rw[hH];exact trivial) (.inl rfl) (λb' u hb hu=>(acu s.heap (Obj.mapSeq f) (Ne.symm hb)).trans hu) ⟨_,q⟩ ?_;exact⟨hz,its',_,hv,q⟩
theorem Inv.lstM(I:Inv X ϵ σ H s)(hH:H l=some (.lst xs)):xs.length<=ϩ/\∃(ϸ:List ε)(n:Nat),Vals xs ϸ/\xs.length=ϸ.length/\s.heap.get? l=some {cls:=.type "list",data:=.seq ϸ.toArray n}:=by
 obtain⟨z,ϸ,n,r,e⟩:=I.hok l _ hH;exact⟨z,ϸ,n,r,r.length,e⟩
end
section
variable{X:Cx}
def abf:V->List V->Hp->VK->Prop:=λx vs H Q=>∃l xs y,x=.ref l/\vs=[y]/\H l=some (.lst xs)/\xs.length<ϩ/\Q .non (upd H l (.lst (xs++[y])))
theorem jM:zZ X "list.append" abf:=by
 intro ϵ s σ H x vs v us Q I rx rv h;obtain⟨l,xs,y,rfl,rfl,hH,hz,q⟩:=h;cases rx;obtain⟨u,rfl,ru⟩:=rv.one;obtain⟨z,ϸ,n,r,hl,e⟩:=I.lstM hH;refine amW F.slot_list_append ⟨_,e,rfl⟩ F.entry_list_append (F.args_list_append_2 _ _) (PySem.list_append l ϸ.toArray n u (by rw[aaU];omega)) ⟨e,?_⟩;refine⟨.non,_,I.lset (its':=ϸ++[u]) hH e (by simp) (r.append (.cons ru .nil)) ?_,rfl,q⟩;rw[ab7,ad5];omega
def YT:V->List V->Hp->VK->Prop:=λx vs H Q=>∃l xs,x=.ref l/\vs=[]/\H l=some (.lst xs)/\Q .non (upd H l (.lst xs.reverse))
theorem ajE:zZ X "list.reverse" YT:=by
 intro ϵ s σ H x vs v us Q I rx rv h;obtain⟨l,xs,rfl,rfl,hH,q⟩:=h;cases rx;have hus:=rv.zero;subst hus;obtain⟨z,ϸ,n,r,hl,e⟩:=I.lstM hH;refine amW F.slot_list_reverse ⟨_,e,rfl⟩ F.entry_list_reverse (F.args_list_reverse_1 _) (AutoSeq1.list_reverse_list_0 l ϸ.toArray n (by rw[aaU];omega)) ⟨e,?_⟩;refine⟨.non,_,I.lset (its':=ϸ.reverse) hH e (by simp) r.reverse ?_,rfl,q⟩;rw[an6];omega
end
section
variable{prog:Ϯ}{w:Ϭ}{A:ϰ}{E:ε->μ->Prop}{s:μ}
end
section
variable{X:Cx}
end
section
variable{κ:Type} [DecidableEq κ]
def Ϝ(Ϸ:List (κ×V))(k:κ):Option V:=(Ϸ.find? λkv=>decide (kv.1=k)).map (·.2)
def putK(Ϸ:List (κ×V))(k:κ)(v:V):List (κ×V):=
 if(Ϸ.any λkv=>decide (kv.1=k))=true then Ϸ.map (λkv=>if kv.1=k then(kv.1,v)else kv)else Ϸ++[(k,v)]
def dU(Ϸ:List (κ×V))(k:κ):List (κ×V):=Ϸ.filter λkv=>decide (kv.1≠k)
theorem lJ{p:κ×V}{r:List (κ×V)}{k:κ}(e:p.1=k):Ϝ (p::r) k=some p.2:=by simp[Ϝ,List.find?_cons,e]
theorem lB{p:κ×V}{r:List (κ×V)}{k:κ}(e:¬p.1=k):Ϝ (p::r) k=Ϝ r k:=by simp[Ϝ,List.find?_cons,e]
theorem Sv(k:κ):∀Ϸ:List (κ×V),(Ϸ.any λkv=>decide (kv.1=k))=(Ϝ Ϸ k).isSome
 |[]=>rfl
 |p::r=>by
  rw[List.any_cons];by_cases e:p.1=k
  .simp only[lJ e,decide_eq_true e,aoO,Option.isSome_some]
  .rw[lB e,decide_eq_false e,anF];exact Sv k r
theorem yd(Ϸ:List (κ×V))(k:κ)(v:V):(putK Ϸ k v).length<=Ϸ.length+1:=by
 unfold putK;split
 .rw[aaf];omega
 .rw[ab7,List.length_cons,List.length_nil];omega
theorem bN.isSome_eq{o:Option V}{u:Option ε}(r:bN o u):o.isSome=u.isSome:=by
 cases o with
 |none=>cases u with
  |none=>rfl
  |some _=>exact(show False from r).elim
 |some _=>cases u with
  |none=>exact(show False from r).elim
  |some _=>rfl
theorem bN.getD{o:Option V}{u:Option ε}{d:V}{d':ε}(r:bN o u)(rd:RelV d d'):RelV (o.getD d) (u.getD d'):=by
 cases o with
 |none=>cases u with
  |none=>exact rd
  |some _=>exact(show False from r).elim
 |some _=>cases u with
  |none=>exact(show False from r).elim
  |some _=>exact r
theorem KV.val{Ϸ:List (κ×V)}{vs:List (κ×ε)}(r:KV Ϸ vs)(k:κ):bN (Ϝ Ϸ k) (valueAt vs k):=by
 unfold KV at r;induction r with
 |nil=>exact True.intro
 | @cons p q ps qs h t ih=>
   obtain⟨h1,h2⟩:=h;by_cases e:p.1=k
   .have e':q.1=k:=h1.symm.trans e;have b:valueAt (q::qs) k=some q.2:=by simp[valueAt,List.find?_cons,e']
    rw[lJ e,b];exact h2
   .have e':¬q.1=k:=λz=>e (h1.trans z)
    have b:valueAt (q::qs) k=valueAt qs k:=by simp[valueAt,List.find?_cons,e']
    rw[lB e,b];exact ih
theorem KV.any{Ϸ:List (κ×V)}{vs:List (κ×ε)}(r:KV Ϸ vs)(k:κ):(Ϸ.any λkv=>decide (kv.1=k))=vs.any λkv=>decide (kv.1=k):=by
 unfold KV at r;induction r with
 |nil=>rfl
 |cons h t ih=>rw[List.any_cons,List.any_cons,ih,h.1]
theorem KV.repl{Ϸ:List (κ×V)}{vs:List (κ×ε)}(r:KV Ϸ vs)(k:κ){y:V}{u:ε}(ry:RelV y u):KV (Ϸ.map λkv=>if kv.1=k then(kv.1,y)else kv) (vs.map λkv=>if kv.1=k then(kv.1,u)else kv):=by
 unfold KV at r⊢;induction r with
 |nil=>exact .nil
 | @cons p q ps qs h t ih=>
   rw[List.map_cons,List.map_cons];refine .cons ?_ ih;obtain⟨h1,h2⟩:=h;by_cases e:p.1=k
   .rw[if_pos e,if_pos (h1.symm.trans e)];exact⟨h1,ry⟩
   .rw[if_neg e,if_neg (λz=>e (h1.trans z))];exact⟨h1,h2⟩
theorem KV.put{Ϸ:List (κ×V)}{vs:List (κ×ε)}(r:KV Ϸ vs)(k:κ){y:V}{u:ε}(ry:RelV y u):KV (putK Ϸ k y) (stored vs k u):=by
 unfold putK stored;rw[r.any k];by_cases e:(vs.any λkv=>decide (kv.1=k))=true
 .rw[if_pos e,if_pos e];exact r.repl k ry
 .rw[if_neg e,if_neg e];exact Paired.snoc r ⟨rfl,ry⟩
theorem KV.drop{Ϸ:List (κ×V)}{vs:List (κ×ε)}(r:KV Ϸ vs)(k:κ):KV (dU Ϸ k) (without vs k):=by
 unfold KV at r⊢;unfold dU without;induction r with
 |nil=>exact .nil
 | @cons p q ps qs h t ih=>
   obtain⟨h1,h2⟩:=h;rw[List.filter_cons,List.filter_cons];by_cases e:p.1=k
   .have a:¬decide (p.1≠k)=true:=by simp[e]
    have b:¬decide (q.1≠k)=true:=by simp[h1.symm.trans e]
    rw[if_neg a,if_neg b];exact ih
   .have e':¬q.1=k:=λz=>e (h1.trans z)
    have a:decide (p.1≠k)=true:=by simp[e]
    have b:decide (q.1≠k)=true:=by simp[e']
    rw[if_pos a,if_pos b];exact .cons ⟨h1,h2⟩ ih
theorem KV.keys{Ϸ:List (κ×V)}{vs:List (κ×ε)}(r:KV Ϸ vs):Ϸ.map (·.1)=vs.map (·.1):=by
 unfold KV at r;induction r with
 |nil=>rfl
 |cons h t ih=>rw[List.map_cons,List.map_cons,ih,h.1]
theorem KV.length{Ϸ:List (κ×V)}{vs:List (κ×ε)}(r:KV Ϸ vs):Ϸ.length=vs.length:=Paired.length r
theorem aal(Ϸ:List (κ×V))(k:κ):(dU Ϸ k).length<=Ϸ.length:=aiz _ _
end
theorem jR{P:Ϯ}{w:Ϭ}{k:Key}{u:ε}(r:RelV (kV k) u):(bx P w).is k u=true:=by
 cases k with
 |inl i=>obtain⟨t,e⟩:=(show ∃t,u=Value.int i t from r);subst e;exact aei P w i t
 |inr x=>obtain⟨t,e⟩:=(show ∃t,u=Value.str x t from r);subst e;exact ajr P w x t
theorem Rh{P:Ϯ}{w:Ϭ}:∀{ks:List Key}{us:List ε},Vals (ks.map kV) us->ItemsAre (bx P w) ks us
 |[],_,r=>by rw[List.map_nil]at r;cases r;exact .nil
 |k::ks,_,r=>by
  rw[List.map_cons]at r;cases r with
  |cons h t=>exact .cons (jR h) (Rh t)
abbrev KT(H:Hp):List (List Key×V)->List (List Key×δ×ε)->Prop:=Paired λp q=>p.1=q.1/\H q.2.1=some (.tup (p.1.map kV))/\RelV p.2 q.2.2
theorem KT.val{H:Hp}{Ϸ:List (List Key×V)}{xs:List (List Key×δ×ε)}(r:KT H Ϸ xs)(k:List Key):bN (Ϝ Ϸ k) ((atKey xs k).map (·.2)):=by
 induction r with
 |nil=>exact True.intro
 | @cons p q ps qs h t ih=>
   obtain⟨h1,_,h2⟩:=h;by_cases e:p.1=k
   .have e':q.1=k:=h1.symm.trans e;have b:atKey (q::qs) k=some q.2:=by simp[atKey,List.find?_cons,e']
    rw[lJ e,b];exact h2
   .have e':¬q.1=k:=λz=>e (h1.trans z)
    have b:atKey (q::qs) k=atKey qs k:=by simp[atKey,List.find?_cons,e']
    rw[lB e,b];exact ih
theorem KT.repl{H:Hp}{Ϸ:List (List Key×V)}{xs:List (List Key×δ×ε)}(r:KT H Ϸ xs)(k:List Key){y:V}{u:ε}(ry:RelV y u):KT H (Ϸ.map λkv=>if kv.1=k then(kv.1,y)else kv) (xs.map (putAt k u)):=by
 induction r with
 |nil=>exact .nil
 | @cons p q ps qs h t ih=>
   rw[List.map_cons,List.map_cons];refine .cons ?_ ih;obtain⟨h1,h2,h3⟩:=h;unfold putAt;by_cases e:p.1=k
   .rw[if_pos e,if_pos (h1.symm.trans e)];exact⟨h1,h2,ry⟩
   .rw[if_neg e,if_neg (λz=>e (h1.trans z))];exact⟨h1,h2,h3⟩
theorem KT.put{H:Hp}{Ϸ:List (List Key×V)}{xs:List (List Key×δ×ε)}(r:KT H Ϸ xs)(k:List Key){b:δ}{y:V}{u:ε}(hb:H b=some (.tup (k.map kV)))(ry:RelV y u):KT H (putK Ϸ k y) (storedH xs k b u):=by
 have e:(Ϸ.any λkv=>decide (kv.1=k))=(atKey xs k).isSome:=by
  rw[Sv,(r.val k).isSome_eq,ant]
 unfold putK storedH;rw[e];by_cases q:(atKey xs k).isSome=true
 .rw[if_pos q,if_pos q];exact r.repl k ry
 .rw[if_neg q,if_neg q];exact Paired.snoc r ⟨rfl,hb,ry⟩
theorem KT.keeps{H H':Hp}{Ϸ:List (List Key×V)}{xs:List (List Key×δ×ε)}(r:KT H Ϸ xs)(ht:∀b ys,H b=some (.tup ys)->H' b=some (.tup ys)):KT H' Ϸ xs:=
 Paired.mapP r λ_ _ z=>⟨z.1,ht _ _ z.2.1,z.2.2⟩
section
variable{P:Ϯ}{w:Ϭ}{H:Hp}{h:ϫ}{a:δ}
theorem Hd{u:HO}(ok:Ϟ P w H h)(e:Rd H a u):Φ P w H h a u:=e.ok ok
theorem jO{Ϸ:List (Key×V)}(ok:Ϟ P w H h)(e:Rd H a (.dK Ϸ)):Ϸ.length<=ϩ/\(a==sysModules)=false/\∃vs,KV Ϸ vs/\h.DictOf (bx P w) a vs:=
 show Φ P w H h a (.dK Ϸ)from Hd ok e
theorem tK{Ϸ:List (Key×V)}(ok:Ϟ P w H h)(e:H a=some (.dK Ϸ)):Ϸ.length<=ϩ/\(a==sysModules)=false/\∃vs,KV Ϸ vs/\h.DictOf (bx P w) a vs:=jO ok (.inl e)
theorem nq{ks:List Key}(ok:Ϟ P w H h)(e:H a=some (.tup (ks.map kV))):(tupleKind (bx P w)).is h ks a:=by
 obtain⟨_,ϸ,r,o,h1,h2,n,h3⟩:=(show Φ P w H h a (.tup (ks.map kV))from ok a _ e);exact⟨o,ϸ.toArray,n,h1,h2,h3,by simpa using Rh r⟩
theorem lY{Ϸ:List (List Key×V)}(ok:Ϟ P w H h)(e:Rd H a (.dT Ϸ)):Ϸ.length<=ϩ/\(a==sysModules)=false/\
  ∃xs,KT H Ϸ xs/\h.DictOfH (tupleKind (bx P w)) a xs:=by
 obtain⟨z,y,xs,r,o,es,ep,h1,h2,h3,h4,h5⟩:=(show Φ P w H h a (.dT Ϸ)from Hd ok e);refine⟨z,y,xs,r,o,es,ep,h1,h2,h3,h4,λx hx=>?_,h5⟩;have all:∀{l:List (List Key×V)}{m:List (List Key×δ×ε)},KT H l m->∀x∈m,(tupleKind (bx P w)).is h x.1 x.2.1:=by
  intro l m q;induction q with
  |nil=>intro x hx;exact nomatch hx
  | @cons p q ps qs hq t ih=>
    intro x hx;obtain e|hx:=ϴ.mp hx
    .subst e;exact nq ok (by rw[<-hq.1];exact hq.2.1)
    .exact ih x hx
 exact all r x hx
theorem Vw{Ϸ:List (List Key×V)}(ok:Ϟ P w H h)(e:H a=some (.dT Ϸ)):Ϸ.length<=ϩ/\(a==sysModules)=false/\
  ∃xs,KT H Ϸ xs/\h.DictOfH (tupleKind (bx P w)) a xs:=lY ok (.inl e)
end
def ϟ(H:Hp)(a:δ)(y:V)(r:Option V):Prop:=
 (∃Ϸ k,Rd H a (.dK Ϸ)/\y=kV k/\r=Ϝ Ϸ k)\/∃Ϸ k b,Rd H a (.dT Ϸ)/\y=.ref b/\H b=some (.tup (k.map kV))/\r=Ϝ Ϸ k
def dq(H:Hp)(a:δ)(y v:V)(H':Hp):Prop:=
 (∃Ϸ k,H a=some (.dK Ϸ)/\y=kV k/\Ϸ.length<ϩ/\H'=upd H a (.dK (putK Ϸ k v)))\/
 ∃Ϸ k b,H a=some (.dT Ϸ)/\y=.ref b/\H b=some (.tup (k.map kV))/\Ϸ.length<ϩ/\H'=upd H a (.dT (putK Ϸ k v))
theorem ϟ.k{H:Hp}{a:δ}{Ϸ:List (Key×V)}{k:Key}(e:H a=some (.dK Ϸ)):ϟ H a (kV k) (Ϝ Ϸ k):=.inl ⟨Ϸ,k,.inl e,rfl,rfl⟩
theorem dq.k{H:Hp}{a:δ}{Ϸ:List (Key×V)}{k:Key}{v:V}(e:H a=some (.dK Ϸ))(hl:Ϸ.length<ϩ):dq H a (kV k) v (upd H a (.dK (putK Ϸ k v))):=.inl ⟨Ϸ,k,e,rfl,hl,rfl⟩
section
variable{X:Cx}{ϵ:List (δ×Obj)}{σ:St}{H:Hp}{s:μ}{a:δ}{y v:V}{u r:ε}{o:Option V}{A:ϰ}{E:ε->μ->Prop}
theorem Inv.big(I:Inv X ϵ σ H s):sysModules<s.heap.objs.size:=by
 have h:mainGlobals<s.heap.objs.size:=(I.mod.glob.keeps I.bk).lt;exact Nat.lt_trans (by decide) h
theorem Tc{Q:ε->μ->Prop}(hu:A.units+1<cLine)(I:Inv X ϵ σ H s)(g:ϟ H a y (some v))(ry:RelV y u)(h:∀w' s',Inv X ϵ σ H s'->RelV v w'->Q w' s'):π (Ϧ X.prog X.w) A (getItem (.ref a) u) Q E s:=by
 obtain⟨Ϸ,k,e,ey,l⟩|⟨Ϸ,k,b,e,ey,eb,l⟩:=g
 .subst ey;obtain⟨z,hd,vs,rel,dd⟩:=jO I.hok e;obtain⟨w',hw,rw'⟩:=bN.some_of (v:=v) (o:=valueAt vs k) (by rw[l];exact rel.val k);exact wpAny_getItem_of (jR ry) dd.mapOf hw (h w' _ (I.tok _) rw')
 .subst ey;cases(show u=Value.ref b from ry);obtain⟨z,hd,xs,rel,dd⟩:=lY I.hok e;obtain⟨w',hw,rw'⟩:=bN.some_of (v:=v) (o:=(atKey xs k).map (·.2)) (by rw[l];exact rel.val k);obtain⟨p,hp,hp2⟩:=akk.mp hw;refine wpAny_getItem_heap (ali hu) (nq I.hok eb) dd hp ?_;rw[hp2];exact h w' _ (I.tok _) rw'
theorem ait{Q:ε->μ->Prop}(hu:A.units+1<cLine)(I:Inv X ϵ σ H s)(g:ϟ H a y o)(ry:RelV y u)(h:∀s',Inv X ϵ σ H s'->Q (.bool o.isSome) s'):π (Ϧ X.prog X.w) A (adh .In u (.ref a)) Q E s:=by
 obtain⟨Ϸ,k,e,ey,l⟩|⟨Ϸ,k,b,e,ey,eb,l⟩:=g
 .subst ey;obtain⟨z,hd,vs,rel,dd⟩:=jO I.hok e;refine wpAny_in_of (jR ry) hd dd.mapOf ?_;rw[<-(rel.val k).isSome_eq, <-l];exact h _ (I.tok _)
 .subst ey;cases(show u=Value.ref b from ry);obtain⟨z,hd,xs,rel,dd⟩:=lY I.hok e;refine wpAny_in_heap (ali hu) (nq I.hok eb) hd dd ?_;have q:=(rel.val k).isSome_eq;rw[ant]at q;rw[<-q, <-l];exact h _ (I.tok _)
theorem ac4{Q:ε->μ->Prop}(hu:A.units+1<cLine)(I:Inv X ϵ σ H s)(g:ϟ H a y o)(ry:RelV y u)(h:∀s',Inv X ϵ σ H s'->Q (.bool (!o.isSome)) s'):π (Ϧ X.prog X.w) A (adh .NotIn u (.ref a)) Q E s:=by
 obtain⟨Ϸ,k,e,ey,l⟩|⟨Ϸ,k,b,e,ey,eb,l⟩:=g
 .subst ey;obtain⟨z,hd,vs,rel,dd⟩:=jO I.hok e;refine wpAny_notIn_of (jR ry) hd dd.mapOf ?_;rw[<-(rel.val k).isSome_eq, <-l];exact h _ (I.tok _)
 .subst ey;cases(show u=Value.ref b from ry);obtain⟨z,hd,xs,rel,dd⟩:=lY I.hok e;refine wpAny_notIn_heap (ali hu) (nq I.hok eb) hd dd ?_;have q:=(rel.val k).isSome_eq;rw[ant]at q;rw[<-q, <-l];exact h _ (I.tok _)
theorem xF{h':ϫ}{t':Nat}{ob:HO}(I:Inv X ϵ σ H s)(mu:qN (H a))(hs:akZ a s.heap h')(he:∃q,h'.get? a=some q)(new:Φ X.prog X.w (upd H a ob) h' a ob):Inv X ϵ σ (upd H a ob) {s with heap:=h',toks:=t'}:=
 I.write (x:=a) (e:=a) mu (.inl rfl) (λb q hb z=>(hs.2 b hb).trans z) he new
theorem DP{P:Ϯ}{w:Ϭ}{H':Hp}{h':ϫ}{Ϸ:List (Key×V)}{vs:List (Key×ε)}(z:Ϸ.length<=ϩ)(hd:(a==sysModules)=false)(rel:KV Ϸ vs)(dd:h'.DictOf (bx P w) a vs):Φ P w H' h' a (.dK Ϸ):=⟨z,hd,vs,rel,dd⟩
theorem YW{H':Hp}{Q:Unit->μ->Prop}(hu:A.units+1<cLine)(I:Inv X ϵ σ H s)(g:dq H a y v H')(ry:RelV y u)(rv:RelV v r)(h:∀s',Inv X ϵ σ H' s'->Q () s'):π (Ϧ X.prog X.w) A (setItem (.ref a) u r) Q E s:=by
 obtain⟨Ϸ,k,e,ey,l,eH⟩|⟨Ϸ,k,b,e,ey,eb,l,eH⟩:=g
 .subst ey eH;obtain⟨z,hd,vs,rel,dd⟩:=tK I.hok e;have hz:vs.length<=ϩ:=by rw[<-rel.length];exact z
  have hl:(putK Ϸ k v).length<=ϩ:=by have:=yd Ϸ k v;omega
  refine wpAny_setItem_pairs (hsz:=hz) (jR ry) dd λh' dd' hs=>h _ ?_
  have he:∃q,h'.get? a=some q:=let⟨q,_,_,hq,_⟩:=dd';⟨q,hq⟩;exact xF I (by rw[e];exact True.intro) hs he (DP hl hd (rel.put k rv) dd')
 .subst ey eH;cases(show u=Value.ref b from ry);obtain⟨z,hd,xs,rel,dd⟩:=Vw I.hok e;have hz:xs.length<=ϩ:=by rw[<-Paired.length rel];exact z
  have hl:(putK Ϸ k v).length<=ϩ:=by have:=yd Ϸ k v;omega
  refine wpAny_setItem_heap (hsz:=hz) (ali hu) (nq I.hok eb) dd λh' dd' hs=>h _ ?_
  obtain⟨q,es,ep,hq,h2,h3,h4,_,h5⟩:=dd';refine xF I (by rw[e];exact True.intro) hs ⟨q,hq⟩ ⟨hl,hd,_,(rel.put k eb rv).keeps λc ys ec=>?_,q,es,ep,hq,h2,h3,h4,h5⟩;rw[θ (aeS ec e (λz=>nomatch z))];exact ec
end
section
variable{X:Cx}{ϵ:List (δ×Obj)}{σ:St}{H:Hp}{s:μ}{a:δ}{Ϸ:List (Key×V)}{k:Key}{u:ε}{A:ϰ}{E:ε->μ->Prop}
theorem aco{v:V}{more:List ε}{Q:ε->μ->Prop}(I:Inv X ϵ σ H s)(e:H a=some (.dK Ϸ))(ry:RelV (kV k) u)(l:Ϝ Ϸ k=some v)(hm:more=[]\/∃x,more=[x])(h:∀w' s',Inv X ϵ σ (upd H a (.dK (dU Ϸ k))) s'->RelV v w'->Q w' s'):π (Ϧ X.prog X.w) A (call (.builtin "dict.pop") (.ref a::u::more)) Q E s:=by
 obtain⟨z,hd,vs,rel,dd⟩:=tK I.hok e;obtain⟨w',hw,rw'⟩:=bN.some_of (v:=v) (o:=valueAt vs k) (by rw[<-l];exact rel.val k);have hp:(keyPart u).isSome=true:=by
  cases k with
  |inl i=>obtain⟨t,q⟩:=(show ∃t,u=Value.int i t from ry);subst q;rfl
  |inr x=>obtain⟨t,q⟩:=(show ∃t,u=Value.str x t from ry);subst q;rfl
 have ha:argsOk "dict.pop" ⟨.ref a::u::more,[]⟩:=by
  obtain q|⟨x,q⟩:=hm
  .subst q;exact F.args_dict_pop_2 _ _
  .subst q;exact F.args_dict_pop_3 _ _ _
 refine call_meetsIn F.slot_dict_pop dd.typeIs F.entry_dict_pop ha (meets_dict_pop_there (bx X.prog X.w) a (jR ry) more hm hp)
  ⟨vs,w',dd,by rw[<-rel.length];exact z,hw,λh' dd' hs=>h w' _ ?_ rw'⟩
 have he:∃q,h'.get? a=some q:=let⟨q,_,_,hq,_⟩:=dd';⟨q,hq⟩;exact xF I (by rw[e];exact True.intro) hs he (DP (aft (aal Ϸ k) z) hd (rel.drop k) dd')
end
theorem YD{X:Cx}{ϵ:List (δ×Obj)}{σ:St}{H:Hp}{s:μ}{a:δ}{y:V}{o:Option V}(I:Inv X ϵ σ H s)(g:ϟ H a y o):s.TypeIs (.ref a) "dict":=by
 obtain⟨Ϸ,k,e,_,_⟩|⟨Ϸ,k,b,e,_,_,_⟩:=g
 .obtain⟨_,_,vs,_,dd⟩:=jO I.hok e;exact dd.typeIs
 .obtain⟨_,_,xs,_,dd⟩:=lY I.hok e;exact dd.typeIs
def abK(td ty tv:TE):TS:=λD σ H=>tv σ H λv H1=>td σ H1 λx H2=>ty σ H2 λy H3=>∃a H4,x=.ref a/\dq H3 a y v H4/\D.nx σ H4
section
variable{X:Cx}{o i e value:ν}{pos pos' tpos:Pos}{td ty tv:TE}
theorem ain(hu:X.A.units+1<cLine)(ho:PE X o td)(hi:PE X i ty)(hv:PE X value tv)(hs:akr value (some (.Subscript o i pos')) pos.line X.env=pure false):PS X (.Assign [.Subscript o i pos'] value pos) (abK td ty tv):=by
 intro ϵ s σ H D I h;refine wpAny_Assign_Subscript (χ (hv ϵ s σ H _ I h) λr s1 ⟨v,H1,I1,rv,q1⟩=>χ (ho ϵ s1 σ H1 _ I1 q1) λu s2 ⟨x,H2,I2,rx,q2⟩=>χ (hi ϵ s2 σ H2 _ I2 q2) λiv s3 hZ=>?_) hs;obtain⟨y,H3,I3,ry,a,H4,ex,g,q3⟩:=hZ;subst ex;obtain rfl:u=Value.ref a:=rx;exact YW hu I3 g ry rv λs4 I4=>⟨σ,H4,I4,q3⟩
end
theorem R9{P:Ϯ}{w:Ϭ}{H:Hp}(h:ϫ)(hb:sysModules<h.objs.size):Φ P w H (h.push {cls:=.type "dict",data:=.dict #[]}) h.objs.size (.dK []):=
 ⟨afS _,beq_eq_false_iff_ne.mpr (Ne.symm (abF hb)),[],.nil,Heap.DictOf.new h⟩
def aev:TE:=λ_ H Q=>∀p,H p=none->Q (.ref p) (upd H p (.dK []))
section
variable{X:Cx}{pos:Pos}
theorem adq:PE X (.Dict [] [] pos) aev:=λϵ s σ H Q I h=>
 wpAny_Dict_empty ⟨.ref s.heap.objs.size,_,I.laid (a:=s.heap.objs.size) (o:=.dK []) (t':=s.toks) (λ_ _ q=>Heap.get?_push_of_some _ q) (ϭ _) (R9 s.heap I.big),rfl,h _ (I.hok.fresh (ϭ _))⟩
end
def Du:List (TE×TE)->St->Hp->(List (V×V)->Hp->Prop)->Prop
 |[],_,H,Q=>Q [] H
 |(tk,tv)::r,σ,H,Q=>tk σ H λx H1=>tv σ H1 λy H2=>Du r σ H2 λps H3=>Q ((x,y)::ps) H3
abbrev VV:List (V×V)->List (ε×ε)->Prop:=Paired λp q=>RelV p.1 q.1/\RelV p.2 q.2
def wj(X:Cx)(pos:Pos)(keys:List (Option ν))(values:List ν)(trs:List (TE×TE)):Prop:=
 ∀(ϵ:List (δ×Obj))(s:μ)(σ:St)(H:Hp)(Q:List (V×V)->Hp->Prop),Inv X ϵ σ H s->Du trs σ H Q->
  π (Ϧ X.prog X.w) X.A (evalPairs (pairTrees keys values X.env pos)) (λvs s'=>∃ps H',Inv X ϵ σ H' s'/\VV ps vs/\Q ps H') X.xe s
theorem ajs{X:Cx}{pos:Pos}:wj X pos [] [] []:=λϵ s σ H Q I h=>pairTrees_nil_walk ⟨[],H,I,.nil,h⟩
theorem yZ{X:Cx}{pos:Pos}{k v:ν}{ks:List (Option ν)}{vs:List ν}{tk tv:TE}{trs:List (TE×TE)}(hk:PE X k tk)(hv:PE X v tv)(hr:wj X pos ks vs trs):wj X pos (some k::ks) (v::vs) ((tk,tv)::trs):=λϵ s σ H Q I h=>
 pairTrees_cons_walk (χ (hk ϵ s σ H _ I h) λu s1 ⟨x,H1,I1,rx,q1⟩=>χ (hv ϵ s1 σ H1 _ I1 q1) λw2 s2 ⟨y,H2,I2,ry,q2⟩=>
  χ (hr ϵ s2 σ H2 _ I2 q2) λws s3 ⟨ps,H3,I3,rel,q3⟩=>⟨(x,y)::ps,H3,I3,.cons ⟨rx,ry⟩ rel,q3⟩)
def jA(Ϸ more:List (Key×V)):List (Key×V):=more.foldl (λacc kv=>putK acc kv.1 kv.2) Ϸ
theorem KV.merge:∀{more:List (Key×V)}{rs:List (Key×ε)}{Ϸ:List (Key×V)}{vs:List (Key×ε)},KV more rs->KV Ϸ vs->KV (jA Ϸ more) (merged vs rs):=by
 intro more rs Ϸ vs r;unfold KV at r;induction r generalizing Ϸ vs with
 |nil=>intro q;exact q
 | @cons p q ps qs h t ih=>
   intro r0;have e:KV (putK Ϸ p.1 p.2) (stored vs q.1 q.2):=by
    have:=r0.put p.1 h.2;rw[<-h.1];exact this
   exact ih e
theorem N6:∀(more Ϸ:List (Key×V)),(jA Ϸ more).length<=Ϸ.length+more.length
 |[],Ϸ=>by show Ϸ.length<=Ϸ.length+0;omega
 |p::r,Ϸ=>by
  have h1:=N6 r (putK Ϸ p.1 p.2);have h2:=yd Ϸ p.1 p.2;show(jA (putK Ϸ p.1 p.2) r).length<=_;rw[List.length_cons];omega
theorem Ia{P:Ϯ}{w:Ϭ}:∀{Ϸ:List (Key×V)}{ws:List (ε×ε)},VV (Ϸ.map λkv=>(kV kv.1,kv.2)) ws->∃rs,Carries (bx P w) ws rs/\KV Ϸ rs
 |[],_,r=>by rw[List.map_nil]at r;cases r;exact⟨[],True.intro,.nil⟩
 |p::Ϸ,_,r=>by
  rw[List.map_cons]at r;cases r with
  | @cons a b as bs h t=>
    obtain⟨rs,c,q⟩:=Ia (P:=P) (w:=w) t;obtain⟨b1,b2⟩:=b;exact⟨(p.1,b2)::rs,⟨jR h.1,rfl,c⟩,.cons ⟨rfl,h.2⟩ q⟩
def ajY(trs:List (TE×TE)):TE:=λσ H Q=>∀p,H p=none->Du trs σ (upd H p (.dK [])) λps H2=>H2 p=some (.dK [])/\∃Ϸ:List (Key×V),ps=Ϸ.map (λkv=>(kV kv.1,kv.2))/\Ϸ.length<=15/\Q (.ref p) (upd H2 p (.dK (jA [] Ϸ)))
theorem aiW{X:Cx}{pos:Pos}{keys:List (Option ν)}{values:List ν}{trs:List (TE×TE)}(h:wj X pos keys values trs)(hall:keys.all (·.isSome)=true)(hl:keys.length=values.length)(h0:keys≠[])(h15:keys.length<=15):PE X (.Dict keys values pos) (ajY trs):=by
 intro ϵ s σ H Q I q;have hn:=I.hok.fresh (ϭ s.heap.objs.size);have I1:=I.laid (a:=s.heap.objs.size) (o:=.dK []) (h':=s.heap.push {cls:=.type "dict",data:=.dict #[]}) (t':=s.toks) (λ_ _ q=>Heap.get?_push_of_some _ q) (ϭ _) (R9 s.heap I.big);refine wpAny_Dict_walk (knd:=bx X.prog X.w) hall hl h0 h15 (χ (h ϵ _ σ _ _ I1 (q _ hn)) λws s2 hZ=>?_);obtain⟨ps,H2,I2,rel,e,Ϸ,ep,lk,q2⟩:=hZ;subst ep;obtain⟨rs,c,rk⟩:=Ia (P:=X.prog) (w:=X.w) rel;obtain⟨z,hd,vs0,r0,dd⟩:=tK I2.hok e;cases r0;refine⟨rs,c,dd,λh' dd' hs=>⟨.ref s.heap.objs.size,_,?_,rfl,q2⟩⟩;have hz:(jA [] Ϸ).length<=ϩ:=by
  have h1:=N6 Ϸ [];rw[List.length_nil]at h1;rw[ϱ];omega
 have he:∃q,h'.get? s.heap.objs.size=some q:=let⟨q,_,_,hq,_⟩:=dd';⟨q,hq⟩;exact xF I2 (by rw[e];exact True.intro) hs he (DP hz hd (rk.merge .nil) dd')
structure M1(X:Cx)(o:ν)(m:Str)(apos:Pos)(e:ν)(cpos:Pos):Prop where
 base:attributeBase o m X.env (eval o X.env)=eval o X.env
 few:((backTo cpos (ϯ [e] X.env)).all (λx=> !x.1)&&(backToKw cpos (keywordEach [] X.env)).all (λx=>x.1.isSome)
  &&decide (([e]:List ν).length+([]:List Keyword).length+(if([]:List Keyword).isEmpty then 0 else 1)<30))=true
 line:(apos.endLine==cpos.line)=true
 trees:backTo cpos (ϯ [e] X.env)=[(false,eval e X.env)]
structure M2(X:Cx)(o:ν)(m:Str)(apos:Pos)(e f:ν)(cpos:Pos):Prop where
 base:attributeBase o m X.env (eval o X.env)=eval o X.env
 few:((backTo cpos (ϯ [e,f] X.env)).all (λx=> !x.1)&&(backToKw cpos (keywordEach [] X.env)).all (λx=>x.1.isSome)
  &&decide (([e,f]:List ν).length+([]:List Keyword).length+(if([]:List Keyword).isEmpty then 0 else 1)<30))=true
 line:(apos.endLine==cpos.line)=true
 trees:backTo cpos (ϯ [e,f] X.env)=[(false,eval e X.env),(false,eval f X.env)]
def lF(H:Hp)(a:δ):Prop:=(∃Ϸ,Rd H a (.dK Ϸ))\/∃Ϸ,Rd H a (.dT Ϸ)
theorem Rm{X:Cx}{ϵ:List (δ×Obj)}{σ:St}{H:Hp}{s:μ}{a:δ}(I:Inv X ϵ σ H s)(d:lF H a):s.TypeIs (.ref a) "dict"/\(∀b,Value.ref a=.ref b->∃ob,s.heap.get? b=some ob/\ob.dict=none)/\(a==sysModules)=false:=by
 obtain⟨Ϸ,e⟩|⟨Ϸ,e⟩:=d
 .obtain⟨_,hd,vs,_,dd⟩:=jO I.hok e;refine⟨dd.typeIs,λb q=>?_,hd⟩;cases q;obtain⟨ob,_,_,h1,h2,_⟩:=dd;exact⟨ob,h1,h2.2.1⟩
 .obtain⟨_,hd,xs,_,dd⟩:=lY I.hok e;refine⟨dd.typeIs,λb q=>?_,hd⟩;cases q;obtain⟨ob,_,_,h1,h2,_⟩:=dd;exact⟨ob,h1,h2.2.1⟩
section
variable{X:Cx}{ϵ:List (δ×Obj)}{σ:St}{H:Hp}{s:μ}{a:δ}{y d:V}{u r:ε}{o:Option V}{A:ϰ}{E:ε->μ->Prop}
theorem Wo{Q:ε->μ->Prop}(hu:A.units+1<cLine)(I:Inv X ϵ σ H s)(g:ϟ H a y o)(ry:RelV y u)(h:∀w' s',Inv X ϵ σ H s'->RelV (o.getD .non) w'->Q w' s'):π (Ϧ X.prog X.w) A (call (.builtin "dict.get") [.ref a,u]) Q E s:=by
 obtain⟨Ϸ,k,e,ey,l⟩|⟨Ϸ,k,b,e,ey,eb,l⟩:=g
 .subst ey;obtain⟨z,hd,vs,rel,dd⟩:=jO I.hok e;refine call_meetsIn F.slot_dict_get dd.typeIs F.entry_dict_get (F.args_dict_get_2 _ _) (meets_dict_get (bx X.prog X.w) a (jR ry) hd) ⟨_,dd.mapOf,h _ _ (I.tok _) ?_⟩;rw[l];exact(rel.val k).getD rfl
 .subst ey;cases(show u=Value.ref b from ry);obtain⟨z,hd,xs,rel,dd⟩:=lY I.hok e;refine call_meetsIn F.slot_dict_get dd.typeIs F.entry_dict_get (F.args_dict_get_2 _ _) (meetsH_dict_get (tupleKind (bx X.prog X.w)) a b hd) ⟨ali hu,k,xs,nq I.hok eb,dd,h _ _ (I.tok _) ?_⟩;rw[l];exact(rel.val k).getD rfl
end
def aef(td ty:TE):TE:=λσ H Q=>td σ H λx H1=>∃a,x=.ref a/\lF H1 a/\ty σ H1 λy H2=>∃o,ϟ H2 a y o/\Q (o.getD .non) H2
def Z4(td ty:TE):TE:=λσ H Q=>td σ H λx H1=>∃a,x=.ref a/\lF H1 a/\ty σ H1 λy H2=>∃Ϸ k v,H2 a=some (.dK Ϸ)/\y=kV k/\Ϝ Ϸ k=some v/\Q v (upd H2 a (.dK (dU Ϸ k)))
section
variable{X:Cx}{o e f:ν}{apos cpos:Pos}{td ty tx:TE}
theorem adv(hu:X.A.units+1<cLine)(ho:PE X o td)(he:PE X e ty)(m:M1 X o "get" apos e cpos):PE X (.Call (.Attribute o "get" apos) [e] [] cpos) (aef td ty):=by
 intro ϵ s σ H Q I h;refine wpAny_Call_method m.base m.few m.line F.plainAttrs_dict F.slot_dict_get F.type_dict_get (χ (ho ϵ s σ H _ I h) λu s1 hZ=>?_);obtain⟨x,H1,I1,rx,a,ex,d,q1⟩:=hZ;subst ex;obtain rfl:u=Value.ref a:=rx;obtain⟨t1,t2,_⟩:=Rm I1 d;refine⟨t1,t2,?_⟩;rw[m.trees];refine Calls.callWith_builtin rfl (Calls.evalArgs_plain (Calls.spliced_cons (χ (he ϵ s1 σ H1 _ I1 q1) λiv s2 ⟨y,H2,I2,ry,ov,g,q2⟩=>Calls.spliced_nil ?_)));exact Wo hu I2 g ry λw' s3 I3 rw'=>⟨_,H2,I3,rw',q2⟩
theorem Ud(ho:PE X o td)(he:PE X e ty)(m:M1 X o "pop" apos e cpos):PE X (.Call (.Attribute o "pop" apos) [e] [] cpos) (Z4 td ty):=by
 intro ϵ s σ H Q I h;refine wpAny_Call_method m.base m.few m.line F.plainAttrs_dict F.slot_dict_pop F.type_dict_pop (χ (ho ϵ s σ H _ I h) λu s1 hZ=>?_);obtain⟨x,H1,I1,rx,a,ex,d,q1⟩:=hZ;subst ex;obtain rfl:u=Value.ref a:=rx;obtain⟨t1,t2,_⟩:=Rm I1 d;refine⟨t1,t2,?_⟩;rw[m.trees];refine Calls.callWith_builtin rfl (Calls.evalArgs_plain (Calls.spliced_cons (χ (he ϵ s1 σ H1 _ I1 q1) λiv s2 ⟨y,H2,I2,ry,Ϸ,k,v,ea,ey,l,q2⟩=>Calls.spliced_nil ?_)));subst ey;exact aco I2 ea ry l (.inl rfl) λw' s3 I3 rw'=>⟨v,_,I3,rw',q2⟩
end
section
variable{X:Cx}{ϵ:List (δ×Obj)}{σ:St}{H:Hp}{s:μ}{a:δ}{Ϸ:List (Key×V)}{A:ϰ}{E:ε->μ->Prop}
end
section
variable{X:Cx}{ϵ:List (δ×Obj)}{σ:St}{H:Hp}{s:μ}{a:δ}{y:V}{u:ε}{A:ϰ}{E:ε->μ->Prop}
end
end L2
namespace Att
open PySem PySem.W PySem.Calls PyProof.Rows
theorem ajI{P:Params}{h:ϫ}:∀(ns:List Int)(vs:List ε),WellAll P h vs (ns.map WData.int)->IntsAre vs ns:=by
 intro ns;induction ns with
 |nil=>
  intro vs w;rw[List.map_nil]at w;cases w;exact .nil
 |cons n ns ih=>
  intro vs w;rw[List.map_cons]at w;cases w with
  |cons a b=>
   cases a;exact .cons _ _ (ih _ b)
theorem ajB{l:OpenLaw}{n:Nat}(hn:l.most=some n){P:Params}{h:ϫ}{args:List WData}{vals:List ε}(hpre:l.row.toRowW.claim.pre args=true)(hwl:WellAll P h vals args):∃a vs ns,vals=[Value.ref a]/\args=[WData.list (ns.map WData.int)]/\h.get? a=some {cls:=.type "list",data:=.seq vs.toArray}/\IntsAre vs ns/\ns.length<=n:=by
 have hsh:WShape.hasAll [] args [.list .int]=true:=(pre_splitW hpre).1;have hc:l.pre.holds [] {args:=args}=true:=(pre_splitW hpre).2;obtain⟨d,r,rfl,h1,h2⟩:=hasAllW_cons hsh;obtain rfl:=hasAllW_nil h2;obtain⟨xs,rfl,h3⟩:=hasW_list h1;obtain⟨ns,rfl⟩:=items_int h3;have hlen:ns.length<=n:=by
  unfold OpenLaw.pre at hc;have h4:(WTm.not (.lt (.lit (.int (n:Int))) (.len (.arg 0)))).holds [] {args:=[.list (ns.map .int)]}=true:=by
   have h4:=(holds_andW hc).1;rw[hn]at h4;exact h4
  have h5:=condW_of h4 (w_not (w_lt w_lit (w_len_list (w_arg rfl))));rw[aaf]at h5;refine Nat.le_of_not_lt λq=>?_
  have q':(n:Int)<((ns.length:Nat):Int):=by omega
  first
   |(rw[decide_eq_true q']at h5;exact absurd h5 (by decide))
   |(simp at h5;omega)
 cases hwl with
 |cons w1 w2=>
  cases w2;cases w1 with
  |list ho hall=>exact⟨_,_,ns,rfl,rfl,ho,ajI ns _ hall,hlen⟩
theorem Xm(l:OpenLaw)(args:List WData):l.row.toRowW.claim.post args (.bool true) args=true:=
 postW_of (r:=l.row.toRowW) (X:=(true==true))
  (show WShape.has [] (.bool true) .bool=true by first|rfl|decide|simp[WShape.has,WShape.arms,WShape.armsAll])
  (show(WTm.eq .res (.lit (.bool true))).value [] {args:=args,res:=some (.bool true),after:=args}=some (.bool (true==true))from w_eq_bool (w_res rfl) w_lit) rfl
theorem af8{l:OpenLaw}{n:Nat}{q:Ϯ}{loose:List Str}{XP:(Str->Option ε)->ϫ->Prop}{YP:Ϭ->ϫ->Prop}{d:DefRec}(hn:l.most=some n)(hdf:d.params.defaults=[])(call:∀(w:Ϭ)(s₀ s₁:μ)(mg mb:Str->Option ε)(fa:δ)(o:Obj)(pm cd doc:ε)(a:δ)(vs:List ε)(ns:List Int),
   Ground q loose [] XP w s₀ mg mb s₁.heap->YP w s₁.heap->
   s₁.heap.get? fa=some o->o.data=.func (docDef d.name d.params d.body d.scope pm cd doc)->s₁.heap.CodeRec cd d.name->mg d.name=some (.ref fa)->
   s₁.heap.get? a=some {cls:=.type "list",data:=.seq vs.toArray}->IntsAre vs ns->ns.length<=n->s₁.gens= #[]->
   codeAny (Ϧ l.prog w) callerA (.call (.ref fa) ⟨[.ref a],[]⟩) (λr s'=>r=.ok (.ret (.bool true))/\OldK s₁.heap s'.heap/\s'.os=s₁.os/\AllBare s'.gens) s₁):WalkO q loose XP YP l.row.toRowW d [] (λf vs=>PySem.call f vs):=by
 intro w s₀ s₁ mg mb G Y fa o pm cd doc dV kV ho hd hcd hD hmg hg args vals as hpre hlay hrd hwl hlo;obtain rfl:dV=.none:=Dflts.none hD hdf;obtain rfl:kV=.none:=Dflts.noKw hD;obtain⟨a,vs,ns,rfl,rfl,hobj,hints,hlen⟩:=ajB hn hpre hwl;refine enter_call (aiS (call w s₀ s₁ mg mb fa o pm cd doc a vs ns G Y ho (fd_plain hd) hcd hmg hobj hints hlen hg) λr s' hq=>?_);obtain⟨rfl,h2,h3,h4⟩:=hq;exact⟨.inl ⟨.bool true,.bool true,[],rfl,λ_=>rfl,.bool true,Xm l _,λ_=>⟨List.Pairwise.nil,λ_ hm=>(nomatch hm)⟩⟩,h2,h3,h4⟩
section
variable{prog:Ϯ}{w:Ϭ}{A:ϰ}{E:ε->μ->Prop}{s:μ}{K:Frag}
end
end Att
namespace L2
open PySem PySem.Spec PyProof.Rows
theorem Ks:∀{vs:List ε}{ns:List Int},IntsAre vs ns->Vals (ns.map V.int) vs
 |_,_,.nil=>.nil
 |_,_,.cons n t h=>.cons ⟨t,rfl⟩ (Ks h)
abbrev Sd{K:Ϩ}{h:ϫ}(_:K.In h):Ϩ:=K
def inClass(s:ϧ)(j:Nat):ϧ:=match s with
 |.ClassDef _ _ _ body _ _ _ _ _ _ _=>body.getD j (.Pass ⟨0,0,0,0⟩)
 |_=>.Pass ⟨0,0,0,0⟩
def iI(s:ϧ):Arguments:=match s with
 |.FunctionDef _ a _ _ _ _ _ _ _ _=>a
 |_=>{posonlyargs:=[],args:=[],vararg:=none,kwonlyargs:=[],kw_defaults:=[],kwarg:=none,defaults:=[]}
def ϗ(s:ϧ):List ϧ:=match s with
 |.FunctionDef _ _ b _ _ _ _ _ _ _=>b
 |_=>[]
def ρ(s:ϧ):agJ:=match s with
 |.FunctionDef _ _ _ _ _ _ sc _ _ _=>sc
 |_=>{kind:=.function,names:=[],isGenerator:=false,isCoroutine:=false}
structure cA(K:Ϩ)(x qual:Str)(st:ϧ)(f:δ)(fd:ahy):Prop where
 ex:∃(oc:ε)(od:Option δ)(kV doc pm:ε)(an:Option δ)(Ϻ ct:ε)(osl:Array (Option ε)),
  fd=anZ x qual (iI st) (ϗ st) (ρ st) .none kV doc pm an Ϻ ct/\K.lookup f=some ⟨oc,od,.func fd,osl⟩/\anE K Ϻ qual=true
 kp:amG K (.ref f)=true
section
variable{P:Ϯ}{w:Ϭ}{K:Ϩ}{mg:Str->Option ε}{base:ϫ}
theorem cA.binds{x qual:Str}{st:ϧ}{f:δ}{fd:ahy}{ps:List Str}(F:cA K x qual st f fd)(h:∀(kV doc pm:ε)(an:Option δ)(Ϻ ct:ε)(us:List ε),us.length=ps.length->bindArgs (anZ x qual (iI st) (ϗ st) (ρ st) .none kV doc pm an Ϻ ct) ⟨us,[]⟩=pure (ps.zip us)):Binds K fd ps []:=by
 obtain⟨oc,od,kV,doc,pm,an,Ϻ,ct,osl,rfl,lk,hcd⟩:=F.ex;exact .all (h kV doc pm an Ϻ ct)
theorem rA{x qual:Str}{st:ϧ}{f:δ}{oc:ε}{od an:Option δ}{osl:Array (Option ε)}{kV doc pm Ϻ ct:ε}(l:K.lookup f=some ⟨oc,od,.func (anZ x qual (iI st) (ϗ st) (ρ st) .none kV doc pm an Ϻ ct),osl⟩)(c:anE K Ϻ qual=true)(k:amG K (.ref f)=true):cA K x qual st f (anZ x qual (iI st) (ϗ st) (ρ st) .none kV doc pm an Ϻ ct):=⟨⟨oc,od,kV,doc,pm,an,Ϻ,ct,osl,rfl,l,c⟩,k⟩
end
section
variable{X:Cx}
end
theorem agX{A B:Prop}(h:B):if false=true then A else B:=by
 rw[if_neg aaD];exact h
theorem ag8{A B:Prop}(h:A):if true=true then A else B:=by
 rw[if_pos rfl];exact h
def ζ(H H':Hp):=∀b o,H b=some o->H' b=some o
theorem ζ.refl(H:Hp):ζ H H:=λ_ _ h=>h
theorem ζ.trans{H H1 H2:Hp}(a:ζ H H1)(b:ζ H1 H2):ζ H H2:=λc o h=>b c o (a c o h)
theorem ζ.free{H H':Hp}(e:ζ H H'){l:δ}(h:H' l=Option.none):H l=Option.none:=by
 cases q:H l with
 |none=>rfl
 |some o=>
  rw[e l o q]at h;cases h
theorem ζ.seq{K:Ϩ}{H H':Hp}{a:δ}{xs:List V}(e:ζ H H')(h:η K H a xs):η K H' a xs:=by
 rcases h with(h|⟨o,h⟩)|h
 .exact .inl (.inl (e _ _ h))
 .exact .inl (.inr ⟨o,e _ _ h⟩)
 .exact .inr h
section
variable{X:Cx}
end
section
variable{κ:Type} [DecidableEq κ]
end
def nG(h:ϫ):Option ε->List δ->Prop
 |c,[]=>c=some .none
 |c,a::r=>c=some (.ref a)/\∃o vs,h.get? a=some o/\o.data=.fields vs/\nG h vs[2]? r
theorem nG.stay{h h':ϫ}{e:δ}(k:∀v o ws,v≠e->h.get? v=some o->o.data=.fields ws->∃o' ws',h'.get? v=some o'/\o'.data=.fields ws'/\ws'[2]?=ws[2]?):∀{l:List δ}{c:Option ε},nG h c l->e∉l->nG h' c l
 |[],_,q,_=>q
 |a::r,c,⟨q1,o,vs,q2,q3,q4⟩,n=>by
  obtain⟨o',ws',k1,k2,k3⟩:=k a o vs (λz=>n (by simp[z])) q2 q3;refine⟨q1,o',ws',k1,k2,?_⟩;rw[k3];exact nG.stay k q4 λz=>n (by simp[z])
def Ctx(h:ϫ)(e:δ)(b:Bool)(c:Option ε):Prop:=(b=true->c=some .none)/\∃l,nG h c l/\e∉l/\l.Nodup
theorem Ctx.yes{h:ϫ}{e:δ}{c:Option ε}(q:c=some .none):Ctx h e true c:=⟨λ_=>q,[],q,by simp,.nil⟩
theorem Ctx.stay{h h':ϫ}{e:δ}{b:Bool}{c:Option ε}(q:Ctx h e b c)(k:∀v o ws,v≠e->h.get? v=some o->o.data=.fields ws->∃o' ws',h'.get? v=some o'/\o'.data=.fields ws'/\ws'[2]?=ws[2]?):Ctx h' e b c:=by
 obtain⟨q1,l,q2,q3,q4⟩:=q;exact⟨q1,l,q2.stay k q3,q3,q4⟩
def bO(h:ϫ)(e:δ)(cls:ε)(d:Option δ×Bool)(tb:Option δ)(fl:ε):Prop:=
 ∃oe vs,h.get? e=some oe/\oe.cls=cls/\oe.dict=d.1/\oe.data=.fields vs/\vs[1]?=some (tb.elim Value.none Value.ref)/\2<vs.size/\Ctx h e d.2 vs[2]? /\
  ∀T,tb=some T->T≠e/\∃oT ws,h.get? T=some oT/\oT.data=.fields ws/\ws[3]?=some fl
theorem Φ.there{P:Ϯ}{w:Ϭ}{H:Hp}{h:ϫ}{a:δ}{o:HO}(x:Φ P w H h a o):∃ob,h.get? a=some ob:=by
 cases o with
 |lst xs=>obtain⟨_,_,_,_,e⟩:=x;exact⟨_,e⟩
 |tup xs=>obtain⟨_,_,_,ob,e,_⟩:=x;exact⟨_,e⟩
 |dK Ϸ=>obtain⟨_,_,_,_,o,_,_,e,_⟩:=x;exact⟨_,e⟩
 |dT Ϸ=>obtain⟨_,_,_,_,o,_,_,e,_⟩:=x;exact⟨_,e⟩
 |set S n=>obtain⟨o,_,_,_,e,_⟩:=x;exact⟨_,e⟩
 |ins C dx fs=>obtain⟨_,_,_,e,_⟩:=x;exact⟨_,e⟩
 |own y=>obtain⟨_,e⟩:=x;exact⟨_,e⟩
 |xd fs=>obtain⟨_,⟨_,_,_,e,_⟩,_⟩:=x;exact⟨_,e⟩
 |rng lo hi=>obtain⟨_,_,_,e⟩:=x;exact⟨_,e⟩
 |frz ob u=>obtain⟨e,_⟩:=x;exact⟨_,e⟩
 |tbl ps=>obtain⟨_,e,_⟩:=x;exact⟨_,e⟩
 |met f y=>exact⟨_,(show h.get? a=some _ from x)⟩
 |ext φ=>obtain⟨_,⟨_,e⟩,_⟩:=x;exact⟨_,e⟩
theorem Ϟ.free{P:Ϯ}{w:Ϭ}{H:Hp}{h:ϫ}{a:δ}(x:Ϟ P w H h)(e:h.get? a=none):H a=none:=by
 cases q:H a with
 |none=>rfl
 |some u=>
  obtain⟨ob,z⟩:=(x a u q).there;rw[e]at z;cases z
def bQ(P:Ϯ)(w:Ϭ):dD:=λouter H s E x s'=>∃e tb cls d H',x=.ref e/\s'.os=s.os/\AllBare s'.gens/\Un (b8 outer) [] H H' s.heap s'.heap/\Ϟ P w H' s'.heap/\bO s'.heap e cls d tb .none/\
 (∀b∈e::tb.toList,H' b=none/\s.heap.get? b=none)/\E cls d H'
theorem bQ.never{P:Ϯ}{w:Ϭ}{outer:List Env}{H:Hp}{s s':μ}{e:ε}(h:bQ P w outer H s (λ_ _ _=>False) e s'):False:=by
 obtain⟨_,_,_,_,_,_,_,_,_,_,_,_,z⟩:=h;exact z
section
variable{M:Model}{A:ϰ}{E:ε->μ->Prop}{s:μ}
theorem K1{base:ϫ}{env:Env}{outer:List Env}{L e:δ}{oe:Obj}{vs:Array ε}{head:ε}{hadNext:Bool}{Q:Unit->μ->Prop}(hfr:A.frames=some (env::outer))(hl:s.heap.FunFrames base (env::outer))(hf:env.frame=some L)(he:s.heap.get? e=some oe)(hd:oe.data=.fields vs)(hsz:1<vs.size)(k:∀(h':ϫ)(T:δ)(oT:Obj)(ws:Array ε),s.heap.objs.size<=h'.objs.size->(∀b o,s.heap.get? b=some o->b≠e->b∉b8 (env::outer)->h'.get? b=some o)->
   (∀b o,s.heap.get? b=some o->b≠e->∃sl,h'.get? b=some {o with slots:=sl})->s.heap.objs.size<=T->h'.get? e=some (oe.mapFields (·.setIfInBounds 1 (.ref T)))->
   h'.get? T=some oT->oT.data=.fields ws->ws[3]?=some (rawInt L)->Q () {s with heap:=h'}):π M A (do
   let a<-frameOf env;let pl<-entryPlaceOf L hadNext;let b<-EntryCells.newEntry head a .none (rawInt L) .none pl
   setField (.ref e) 1 b) Q E s:=by
 have Ϲ:e∉(env::outer).filterMap (·.frame):=λm=>by
  obtain⟨_,o,ho,nf⟩:=hl.mem m;rw[he]at ho;cases ho;exact nf vs hd
 refine Ϫ (wpAny_frameOf_fun hfr hl hf λh1 so=>Ϫ (wpAny_entryPlaceOf λpl hp=>?_));unfold EntryCells.newEntry newFields;refine Ϫ (am5 ?_ (hp.sizeOk5 _ _ _ _ _));have e1:h1.get? e=some oe:=(so.2.1 e Ϲ).trans he;have hTe:e≠h1.objs.size:=abF (aaY e1);refine wpAny_setField (Heap.get?_push_of_some _ e1) hd hsz (k _ h1.objs.size {cls:=.type "traceback",dict:=none,data:=.fields (([head,.ref L,.none,rawInt L,.none]:List ε)++(if pl.isEmpty then agR 6 Value.none else pl)).toArray} (([head,.ref L,.none,rawInt L,.none]:List ε)++(if pl.isEmpty then agR 6 Value.none else pl)).toArray ?_ (λb o hb hbe hbf=>?_) (λb o hb hbe=>?_) (anb so.1.symm) ?_ ?_ ?_ ?_)
 .rw[anJ,am8,so.1];exact amT _
 .rw[acu _ _ (Ne.symm hbe)];exact Heap.get?_push_of_some _ ((so.2.1 b hbf).trans hb)
 .obtain⟨sl,q⟩:=so.2.2 b o hb;exact⟨sl,by rw[acu _ _ (Ne.symm hbe)];exact Heap.get?_push_of_some _ q⟩
 .exact aeJ _ (Heap.get?_push_of_some _ e1) (Obj.isFreed_of_fields (Obj.data_mapFields hd _))
 .rw[acu _ _ hTe];exact abE h1 rfl
 .exact rfl
 .first
   |(simp;done)
   |(obtain rfl|⟨_,_,_,_,_,_,_,rfl⟩:=hp<;>simp)
structure rY(h h':ϫ)(ch fs:List δ):Prop where
 keep:∀b o,h.get? b=some o->b∉fs->b∉ch->h'.get? b=some o
 slot:∀b o,h.get? b=some o->b∉ch->∃sl,h'.get? b=some {o with slots:=sl}
 there:∀b o,h.get? b=some o->∃o',h'.get? b=some o'
theorem KZ{base:ϫ}{env:Env}{outer:List Env}{L e:δ}{cls:ε}{d:Option δ×Bool}{tb:Option δ}{fl:ε}{Q:Unit->μ->Prop}(hfr:A.frames=some (env::outer))(hl:s.heap.FunFrames base (env::outer))(hf:env.frame=some L)(F:bO s.heap e cls d tb fl)(hfl:(fl==rawInt L)=false)(k:∀(h':ϫ)(T:δ),rY s.heap h' (e::tb.toList) (b8 (env::outer))->s.heap.objs.size<=T->bO h' e cls d (some T) (rawInt L)->Q () {s with heap:=h'}):π M A (noteFrame (.ref e) env) Q E s:=by
 obtain⟨oe,vs,he,hc,hdx,hd,h1,hz,h2,ht⟩:=F
 have fin:∀{hp:ϫ}{h':ϫ}{T:δ}{oT:Obj}{ws:Array ε},(∀v o ws,v≠e->s.heap.get? v=some o->o.data=.fields ws->∃o' ws',h'.get? v=some o'/\o'.data=.fields ws'/\ws'[2]?=ws[2]?)->hp.get? e=some oe->hp.objs.size<=T->h'.get? e=some (oe.mapFields (·.setIfInBounds 1 (.ref T)))->h'.get? T=some oT->oT.data=.fields ws->
   ws[3]?=some (rawInt L)->bO h' e cls d (some T) (rawInt L):=λ{hp h' T oT ws} kk e0 hT q1 q2 q3 q4=>by
  have hd':=Obj.data_mapFields hd (·.setIfInBounds 1 (Value.ref T));refine⟨_,_,q1,(Obj.cls_mapFields _ _).trans hc,?_,hd',?_,by simpa using hz,?_,λT' eT=>?_⟩
  .obtain⟨c0,d0,dt,sl⟩:=oe;cases hd;exact hdx
  .have :1<vs.size:=by omega
   simp[this]
  .rw[ahH (by decide)];exact h2.stay kk
  .cases eT;exact⟨λz=>ahP _ (abX (aaY e0) (z▸hT)),oT,ws,q2,q3,q4⟩
 unfold noteFrame;simp only[hf];cases tb with
 |none=>
  have h1':vs[1]?=some Value.none:=h1;refine Ϫ (wpAny_field he hd h1' ?_);rw[if_neg (by decide)];refine K1 hfr hl hf he hd (by omega) λh' T oT ws a1 a2 a3 a4 a5 a6 a7 a8=>k h' T ⟨λb o q1 q2 q3=>a2 b o q1 (λz=>q3 (by simp[z])) q2,λb o q1 q3=>a3 b o q1 λz=>q3 (by simp[z]),λb o q1=>?_⟩ a4 (fin (λv o ws hv q1 q2=>by obtain⟨sl,q⟩:=a3 v o q1 hv;exact⟨_,ws,q,q2,rfl⟩) he a4 a5 a6 a7 a8)
  by_cases z:b=e
  .subst z;exact⟨_,a5⟩
  .obtain⟨sl,q⟩:=a3 b o q1 z;exact⟨_,q⟩
 |some T0=>
  obtain⟨Ϲ,oT0,ZS,t1,t2,t3⟩:=ht T0 rfl;have h1':vs[1]?=some (Value.ref T0):=h1;refine Ϫ (wpAny_field he hd h1' ?_);rw[if_pos (show(Value.ref T0 !=Value.none)=true from by simp)];refine Ϫ (wpAny_field t1 t2 t3 ?_);rw[if_neg (by rw[hfl];exact aaD)];refine Ϫ (wpAny_setField t1 t2 (akn.mp t3).1 ?_);have oth:∀b,b≠T0->(s.heap.update T0 (Obj.mapFields (·.setIfInBounds 3 Value.none))).get? b=s.heap.get? b:=λb hb=>acu _ _ (Ne.symm hb)
  have Ho:=aeJ (Obj.mapFields (·.setIfInBounds 3 Value.none)) t1 (Obj.isFreed_of_fields (Obj.data_mapFields t2 _));have hsz:(s.heap.update T0 (Obj.mapFields (·.setIfInBounds 3 Value.none))).objs.size=s.heap.objs.size:=anJ ..;have hl':(s.heap.update T0 (Obj.mapFields (·.setIfInBounds 3 Value.none))).FunFrames base (env::outer):=hl.of_keeps λb o hb nf=>⟨o,(oth b λz=>by
   subst z;rw[t1]at hb;cases hb;exact nf ZS t2).trans hb,rfl⟩
  refine K1 (s:={s with heap:=s.heap.update T0 (Obj.mapFields (·.setIfInBounds 3 Value.none))}) hfr hl' hf ((oth e (Ne.symm Ϲ)).trans he) hd (by omega) λh' T oT ws a1 a2 a3 a4 a5 a6 a7 a8=>
   k h' T ⟨λb o q1 q2 q3=>a2 b o ((oth b λz=>q3 (by simp[z])).trans q1) (λz=>q3 (by simp[z])) q2,λb o q1 q3=>a3 b o ((oth b λz=>q3 (by simp[z])).trans q1) λz=>q3 (by simp[z]),λb o q1=>?_⟩ (hsz▸a4) (fin (λv o ws hv q1 q2=>by
     by_cases z2:v=T0
     .subst z2;obtain⟨sl,q⟩:=a3 v _ Ho hv;rw[t1]at q1;cases q1;exact⟨_,_,q,Obj.data_mapFields q2 _,by rw[ahH (by decide)]⟩
     .obtain⟨sl,q⟩:=a3 v o ((oth v z2).trans q1) hv;exact⟨_,ws,q,q2,rfl⟩) ((oth e (Ne.symm Ϲ)).trans he) a4 a5 a6 a7 a8)
  by_cases z:b=e
  .subst z;exact⟨_,a5⟩
  .by_cases z2:b=T0
   .subst z2;obtain⟨sl,q⟩:=a3 b _ Ho z;exact⟨_,q⟩
   .obtain⟨sl,q⟩:=a3 b o ((oth b z2).trans q1) z;exact⟨_,q⟩
theorem UT{base:ϫ}{env:Env}{outer:List Env}{L e:δ}{cls:ε}{d:Option δ×Bool}{tb:Option δ}{Q:Unit->μ->Prop}(hfr:A.frames=some (env::outer))(hl:s.heap.FunFrames base (env::outer))(hf:env.frame=some L)(F:bO s.heap e cls d tb .none)(k:∀(h':ϫ)(T:δ),rY s.heap h' (e::tb.toList) (b8 (env::outer))->s.heap.objs.size<=T->bO h' e cls d (some T) (rawInt L)->Q () {s with heap:=h'}):π M A (noteFrame (.ref e) env) Q E s:=
 KZ hfr hl hf F (by simp[rawInt]) k
theorem VR{env:Env}{L e:δ}{cls:ε}{d:Option δ×Bool}{tb:Option δ}{Q:Unit->μ->Prop}(hf:env.frame=some L)(F:bO s.heap e cls d tb (rawInt L))(ht:tb.isSome=true)(k:Q () s):π M A (noteFrame (.ref e) env) Q E s:=by
 obtain⟨oe,vs,he,hc,hdx,hd,h1,hz,h2,hT⟩:=F;cases tb with
 |none=>cases ht
 |some T=>
  obtain⟨_,oT,ws,t1,t2,t3⟩:=hT T rfl;exact wpAny_noteFrame_inFlight hf he hd h1 t1 t2 t3 k
theorem aao{e T:δ}{cls:ε}{d:Option δ×Bool}{fl:ε}{Q:Unit->μ->Prop}(F:bO s.heap e cls d (some T) fl)(k:∀h',rY s.heap h' [T] []->bO h' e cls d (some T) .none->Q () {s with heap:=h'}):π M A (setFlight (.ref e) none) Q E s:=by
 obtain⟨oe,vs,he,hc,hdx,hd,h1,hz,h2,hT⟩:=F;obtain⟨Ϲ,oT,ws,t1,t2,t3⟩:=hT T rfl;have h3:3<ws.size:=(akn.mp t3).1;refine wpAny_setFlight_none he hd h1 t1 t2 h3 (k _ ⟨λb o q _ n=>?_,λb o q n=>⟨o.slots,?_⟩,λb o q=>?_⟩ ?_)
 .rw[acu _ _ (λz=>n (by simp[z]))];exact q
 .rw[acu _ _ (λz=>n (by simp[z]))];exact q
 .by_cases z:b=T
  .subst z;exact⟨_,aeJ _ t1 (Obj.isFreed_of_fields (Obj.data_mapFields t2 _))⟩
  .exact⟨o,by rw[acu _ _ (Ne.symm z)];exact q⟩
 .refine⟨oe,vs,?_,hc,hdx,hd,h1,hz,h2.stay λv o ws hv q1 q2=>?_,λT' eT=>?_⟩
  .rw[acu _ _ Ϲ];exact he
  .by_cases z:v=T
   .subst z;rw[t1]at q1;cases q1;exact⟨_,_,aeJ _ t1 (Obj.isFreed_of_fields (Obj.data_mapFields t2 _)),Obj.data_mapFields q2 _,by rw[ahH (by decide)]⟩
   .exact⟨o,ws,by rw[acu _ _ (Ne.symm z)];exact q1,q2,rfl⟩
  .cases eT;exact⟨Ϲ,_,_,aeJ _ t1 (Obj.isFreed_of_fields (Obj.data_mapFields t2 _)),Obj.data_mapFields t2 _,by simp[h3]⟩
end
section
variable{X:Cx}{ϵ:List (δ×Obj)}{σ:St}{H H':Hp}{s s':μ}
def Ch(X:Cx)(ϵ:List (δ×Obj))(b:δ):Prop:=(b∈X.ex\/X.s₀.heap.get? b=none)/\b≠X.env.locals/\(∀x c,X.env.cells.lookup x=some c->c≠b)/\∀p∈X.pn++ϵ,p.1≠b
theorem Inv.ch(I:Inv X ϵ σ H s){b:δ}(h:s.heap.get? b=none):Ch X ϵ b:=by
 refine⟨?_,λz=>?_,λx c q z=>?_,λp hp z=>?_⟩
 .by_cases hx:b∈X.ex
  .exact .inl hx
  .refine .inr ?_;cases q:X.s₀.heap.get? b with
   |none=>rfl
   |some o=>
    obtain⟨o',q'⟩:=I.base.there b o q hx;rw[h]at q';cases q'
 .obtain⟨_,⟨o,_,_,ho,_⟩,_⟩:=I.loc;rw[<-z,h]at ho;cases ho
 .obtain⟨_,o,ho,_⟩:=I.cell x c q;rw[z,h]at ho;cases ho
 .have :=(I.pin p hp).1;rw[z,h]at this;cases this
theorem Inv.noted{ch:List δ}{h':ϫ}(I:Inv X ϵ σ H s)(N:rY s.heap h' ch (b8 X.stack))(hc:∀b∈ch,H b=none/\Ch X ϵ b):Inv X ϵ σ H {s with heap:=h'}:=by
 have iG:∀b u,H b=some u->b∉b8 X.stack/\b∉ch:=λb u e=>⟨(λz=>by rw[I.stkFree b z]at e;cases e),(λz=>by rw[(hc b z).1]at e;cases e)⟩
 refine I.call (g':=s.gens) (d':=s.drawn) (t':=s.toks) (ch:=ch) (h':=h') ⟨λb o e _ hb hx=>N.keep b o e hb hx,λb o e _ _ hx=>N.slot b o e hx,λ_ _ _ n _=>n,λb o e _=>N.there b o e,λ_ _ e=>e,λ_ _ _ e=>e,λb ps e=>⟨#[],by rw[e];simp⟩⟩ ?_ I.bare λb hb=>(hc b hb).2
 intro b u e;refine(I.hok b u e).stay (λc v hcv q=>?_) (λ_ q=>q) λ_ _ q=>q
 obtain z|z:=hcv
 .subst z;exact N.keep c v q (iG c u e).1 (iG c u e).2
 .exact N.keep c v q (iG c _ z).1 (iG c _ z).2
def qM(X:Cx)(ϵ:List (δ×Obj))(σ:St)(H:Hp)(s:μ)(e:δ)(cls:ε)(d:Option δ×Bool):Prop:=
 Inv X ϵ σ H s/\∃tb fl,bO s.heap e cls d tb fl/\(fl=.none\/(fl=rawInt X.env.locals/\tb.isSome=true))/\∀b∈e::tb.toList,H b=none/\Ch X ϵ b
def bc(X:Cx)(Kx:St->XK):=∀(ϵ:List (δ×Obj))(σ:St)(H:Hp)(s:μ)(e:δ)(cls:ε)(d:Option δ×Bool),qM X ϵ σ H s e cls d->Kx σ cls d H->X.xe (.ref e) s
theorem Inv.flown{E:XK}{x:ε}(I:Inv X ϵ σ H s)(c:bQ X.prog X.w X.stack H s E x s'):∃e cls d H',x=.ref e/\qM X ϵ σ H' s' e cls d/\E cls d H':=by
 obtain⟨e,tb,cls,d,H',rfl,os,bare,un,hok,F,ch,q⟩:=c;have I':Inv X ϵ σ H' s':=I.call' (ch:=[]) os un hok bare λb z=>absurd z (by simp)
 exact⟨e,cls,d,H',rfl,⟨I',tb,.none,F,.inl rfl,λb hb=>⟨(ch b hb).1,I.ch (ch b hb).2⟩⟩,q⟩
theorem JD(h:X.xe=λ_ _=>False):bc X (λ_ _ _ _=>False):=λ_ _ _ _ _ _ _ _ z=>z.elim
theorem qM.note{M:Model}{E:ε->μ->Prop}{e:δ}{cls:ε}{d:Option δ×Bool}{Q:Unit->μ->Prop}(x:qM X ϵ σ H s e cls d)(hst:X.stack=X.env::X.outer)(hf:X.env.frame=some X.env.locals)(k:∀s' T,Inv X ϵ σ H s'->bO s'.heap e cls d (some T) (rawInt X.env.locals)->(∀b∈[e,T],H b=none/\Ch X ϵ b)->Q () s'):π M X.A (noteFrame (.ref e) X.env) Q E s:=by
 obtain⟨I,tb,fl,F,hfl,ch⟩:=x;obtain z|⟨z,ht⟩:=hfl
 .subst z;have hl:=I.stack;rw[hst]at hl;refine UT (base:=X.base) (I.ok.frames.trans (by rw[hst])) hl hf F λh' T N hT F'=>k _ T (I.noted (by rw[hst];exact N) ch) F' λb hb=>?_
  obtain z|z:=ϴ.mp hb
  .subst z;exact ch _ aek
  .have z':b=T:=by simpa using z
   subst z';exact⟨I.hok.fresh hT,I.ch (aiN hT)⟩
 .subst z;cases tb with
  |none=>cases ht
  |some T=>exact VR hf F rfl (k s T I F ch)
theorem Inv.off{M:Model}{E:ε->μ->Prop}{e T:δ}{cls:ε}{d:Option δ×Bool}{fl:ε}{Q:Unit->μ->Prop}(I:Inv X ϵ σ H s)(F:bO s.heap e cls d (some T) fl)(hc:∀b∈[e,T],H b=none/\Ch X ϵ b)(k:∀s',Inv X ϵ σ H s'->bO s'.heap e cls d (some T) .none->Q () s'){A:ϰ}:π M A (setFlight (.ref e) none) Q E s:=by
 refine aao F λh' N F'=>k _ (I.noted (ch:=[T]) ⟨λb o q _ n=>N.keep b o q (by simp) n,N.slot,N.there⟩ λb hb=>?_) F'
 have z:b=T:=by simpa using hb
 subst z;exact hc b (by simp)
end
theorem Χ{cc:Bool}{P:Ϯ}{w:Ϭ}{K:Ϩ}{mg:Str->Option ε}{base:ϫ}{N:List Str}{qual:Str}{scope:agJ}{f:δ}{cd:ε}{A:ϰ}{outer:List Env}{s₀:μ}{H₀:Hp}{E:XK}:bc (jF cc (bQ P w) P w K mg base N qual scope f cd A outer s₀ H₀ E) (λ_=>E):=by
 intro ϵ σ H s e cls d x q;show π _ _ (leaving _ _) _ _ s;unfold leaving;refine Ϫ (x.note rfl rfl λs1 T I1 F1 c1=>?_);refine I1.off F1 c1 λs2 I2 F2=>?_
 refine⟨e,some T,cls,d,H,rfl,I2.os,I2.bare,I2.base,I2.hok,F2,λb hb=>?_,q⟩;have z:=c1 b (by simpa using hb);refine⟨z.1,?_⟩;obtain y|y:=z.2.1
 .exact absurd (show b∈([]:List δ)from y) (by simp)
 .exact y
theorem aaR{cc:Bool}{P:Ϯ}{w:Ϭ}{K:Ϩ}{mg:Str->Option ε}{base:ϫ}{N:List Str}{qual:Str}{scope:agJ}{f:δ}{cd:ε}{A:ϰ}{outer:List Env}{s₀:μ}{H₀:Hp}{E:XK}:amZ (Ϧ P w) (A.deeper (envOfC qual scope s₀.heap.objs.size f cd)) (envOfC qual scope s₀.heap.objs.size f cd) (jF cc (bQ P w) P w K mg base N qual scope f cd A outer s₀ H₀ E).xe:=PassesOwn.leaving
section
variable{X:Cx}{Kx:St->XK}{cc:Bool}{k k':Nat}{f C:δ}{fd:ahy}{ps:List Str}{sp:Sp}{x m:Str}{p pos apos:Pos}{e o:ν}{es:List ν}{σ:St}{H:Hp}{Q:VK}
theorem qj{ϵ:List (δ×Obj)}{s:μ}{us:List ε}{vs:List V}(F:cL X.prog X.w X.K X.mg X.base (bQ X.prog X.w) cc k f fd ps sp)(hr:ό cc k X.A)(hb:Binds X.K fd ps [])(hx:bc X Kx)(I:Inv X ϵ σ H s)(r:Vals vs us)(h:sp vs H Q (Kx σ)):π (Ϧ X.prog X.w) X.A (call (.ref f) us) (EP X ϵ σ Q) X.xe s:=by
 have hl:us.length=ps.length:=by rw[<-r.length];exact F.len _ _ _ _ h
 have hb':=hb s us I.kIn (by simpa using hl);rw[List.append_nil]at hb';refine wpAny_call (aiS (F.run X.A X.stack s H ⟨us,[]⟩ us vs Q (Kx σ) hr I.env0 hb' r h) λr s' hq=>?_);cases r with
 |error e=>
  obtain⟨a,cls,d,H',rfl,xa,q⟩:=I.flown hq;exact hx ϵ σ H' s' a cls d xa q
 |ok fl=>
  cases fl with
  |ret u=>exact I.after hq
  |next=>exact False.elim hq
  |brk=>exact False.elim hq
  |cont=>exact False.elim hq
end
def EV(X:Cx)(e:ν)(σ:St)(H:Hp)(Q:VK):Prop:=
 ∀(ϵ:List (δ×Obj))(s:μ),Inv X ϵ σ H s->π (Ϧ X.prog X.w) X.A (eval e X.env) (EP X ϵ σ Q) X.xe s
def ET(X:Cx)(e:ν)(σ:St)(H:Hp)(Q:Bool->Hp->Prop):Prop:=
 ∀(ϵ:List (δ×Obj))(s:μ),Inv X ϵ σ H s->π (Ϧ X.prog X.w) X.A (isTrue e X.env (eval e X.env)) (TP X ϵ σ Q) X.xe s
def EW(X:Cx)(e:ν)(σ:St)(H:Hp)(Q:Bool->Hp->Prop):Prop:=
 ∀(whole:Sem ε)(ϵ:List (δ×Obj))(s:μ),Inv X ϵ σ H s->π (Ϧ X.prog X.w) X.A (isTrue e X.env whole) (TP X ϵ σ Q) X.xe s
def EA(X:Cx)(es:List ν)(σ:St)(H:Hp)(Q:List V->Hp->Prop):Prop:=
 ∀(pos:Pos)(ϵ:List (δ×Obj))(s:μ),Inv X ϵ σ H s->π (Ϧ X.prog X.w) X.A (spliced (backTo pos (ϯ es X.env))) (AP X ϵ σ Q) X.xe s
def EO(X:Cx)(e:Option ν)(σ:St)(H:Hp)(Q:Option Int->Hp->Prop):=∃t,PO X e t/\t σ H Q
def SX(X:Cx)(st:ϧ)(D:Ends)(σ:St)(H:Hp):Prop:=
 ∀(ϵ:List (δ×Obj))(s:μ),Inv X ϵ σ H s->π (Ϧ X.prog X.w) X.A (exec st X.env) (SP X ϵ D) X.xe s
def Κ(X:Cx)(st:List ϧ)(D:Ends)(σ:St)(H:Hp):Prop:=
 ∀(ϵ:List (δ×Obj))(s:μ),Inv X ϵ σ H s->π (Ϧ X.prog X.w) X.A (execs st X.env) (SP X ϵ D) X.xe s
def EG(X:Cx)(tg:ν)(v:V)(σ:St)(H:Hp)(Q:St->Hp->Prop):Prop:=
 ∀(ϵ:List (δ×Obj))(s:μ)(u:ε),Inv X ϵ σ H s->RelV v u->π (Ϧ X.prog X.w) X.A (assign tg X.env u) (λ_ s'=>∃σ' H',Inv X ϵ σ' H' s'/\Q σ' H') X.xe s
def kW(X:Cx)(ts:List ν)(vs:List V)(σ:St)(H:Hp)(Q:St->Hp->Prop):Prop:=
 ∀(ϵ:List (δ×Obj))(s:μ)(us:List ε),Inv X ϵ σ H s->Vals vs us->π (Ϧ X.prog X.w) X.A (assignInOrder ((ald ts X.env).map (·.2)) us) (λ_ s'=>∃σ' H',Inv X ϵ σ' H' s'/\Q σ' H') X.xe s
def EI(X:Cx)(tg iter:ν)(σ:St)(H:Hp)(R:It->Hp->Prop):Prop:=
 ∀(ϵ:List (δ×Obj))(s:μ),Inv X ϵ σ H s->
  π (Ϧ X.prog X.w) X.A (eval iter X.env) (λv s1=>π (Ϧ X.prog X.w) X.A (pyIter v) (wW X ϵ σ tg R) X.xe s1) X.xe s
def OP(X:Cx)(f:ε->ε->Sem ε)(x y:V)(H:Hp)(Q:VK):=∃r,Ϣ X f r/\r x y H Q
def UN(X:Cx)(f:ε->Sem ε)(x:V)(H:Hp)(Q:VK):=∃r,qy X f r/\r x H Q
def CL(X:Cx)(f:ε)(xs:List V)(H:Hp)(Q:VK):=∃r,eN X f r/\r xs H Q
def IX(X:Cx)(x y:V)(H:Hp)(Q:VK):=∃r,j8 X r/\r x y H Q
def SL(X:Cx)(x:V)(lo hi:Option Int)(H:Hp)(Q:VK):=∃r,qU X r/\r x lo hi H Q
def MT(X:Cx)(id:String)(x:V)(xs:List V)(H:Hp)(Q:VK):=∃r,tD X id r/\r x xs H Q
section
variable{X:Cx}{a b c e:ν}{es:List ν}{σ:St}{H:Hp}{Q:VK}{QT:Bool->Hp->Prop}{QA:List V->Hp->Prop}{D:Ends}{pos p apos:Pos}{x:Str}{v:V}
theorem Υ:PE X e (EV X e):=λϵ s _ _ _ I h=>h ϵ s I
theorem jW:PT X e (ET X e):=λϵ s _ _ _ I h=>h ϵ s I
theorem Bw:PW X e (EW X e):=λwhole ϵ s _ _ _ I h=>h whole ϵ s I
theorem lG:PA X es (EA X es):=λpos ϵ s _ _ _ I h=>h pos ϵ s I
theorem N5{o:Option ν}:PO X o (EO X o):=λϵ s σ H Q I ⟨_,h,q⟩=>h ϵ s σ H Q I q
theorem KN{st:ϧ}:PS X st (SX X st):=λϵ s _ _ _ I h=>h ϵ s I
theorem oR{st:List ϧ}:gB X st (Κ X st):=λϵ s _ _ _ I h=>h ϵ s I
theorem Nj{tg:ν}:PG X tg (EG X tg):=λϵ s _ _ _ u _ I r h=>h ϵ s u I r
theorem Q0{ts:List ν}:mQ X ts (kW X ts):=λϵ s _ _ _ us _ I r h=>h ϵ s us I r
theorem aeN{tg iter:ν}:PI X tg iter (EI X tg iter):=λϵ s _ _ _ I h=>h ϵ s I
theorem mq{f:ε->ε->Sem ε}:Ϣ X f (OP X f):=λϵ s σ H x y v u Q I rx ry ⟨_,h,q⟩=>h ϵ s σ H x y v u Q I rx ry q
theorem ah9{f:ε->Sem ε}:qy X f (UN X f):=λϵ s σ H x v Q I rx ⟨_,h,q⟩=>h ϵ s σ H x v Q I rx q
theorem J1{f:ε}:eN X f (CL X f):=λϵ s σ H xs us Q I rx ⟨_,h,q⟩=>h ϵ s σ H xs us Q I rx q
theorem WM:j8 X (IX X):=λva sl ϵ s σ H x y v u Q I rx ry ⟨_,h,q⟩ hs=>h va sl ϵ s σ H x y v u Q I rx ry q hs
theorem aah:qU X (SL X):=λϵ s σ H x v vl vu lo hi sl Q I rx hs pl pu ⟨_,h,q⟩=>h ϵ s σ H x v vl vu lo hi sl Q I rx hs pl pu q
theorem Iz{id:String}:tD X id (MT X id):=λϵ s σ H x xs v us Q I rx rs ⟨_,h,q⟩=>h ϵ s σ H x xs v us Q I rx rs q
theorem ao{t:TE}(h:PE X e t)(q:t σ H Q):EV X e σ H Q:=λϵ s I=>h ϵ s σ H Q I q
theorem rC{t:TT}(h:PT X e t)(q:t σ H QT):ET X e σ H QT:=λϵ s I=>h ϵ s σ H QT I q
theorem Lz{t:TA}(h:PA X es t)(q:t σ H QA):EA X es σ H QA:=λpos ϵ s I=>h pos ϵ s σ H QA I q
theorem m8{st:ϧ}{t:TS}(h:PS X st t)(q:t D σ H):SX X st D σ H:=λϵ s I=>h ϵ s σ H D I q
theorem zm{st:List ϧ}{t:TS}(h:gB X st t)(q:t D σ H):Κ X st D σ H:=λϵ s I=>h ϵ s σ H D I q
theorem Lh{tg:ν}{t:TG}{QG:St->Hp->Prop}(h:PG X tg t)(q:t v σ H QG):EG X tg v σ H QG:=λϵ s u I r=>h ϵ s σ H v u QG I r q
theorem GR{ts:List ν}{t:jm}{vs:List V}{QG:St->Hp->Prop}(h:mQ X ts t)(q:t vs σ H QG):kW X ts vs σ H QG:=λϵ s us I r=>h ϵ s σ H vs us QG I r q
theorem Py{tg iter:ν}{t:TI}{R:It->Hp->Prop}(h:PI X tg iter t)(q:t σ H R):EI X tg iter σ H R:=λϵ s I=>h ϵ s σ H R I q
def dX:List Str->St->Str->Option V
 |n::N,o::σ,x=>if n=x then o else dX N σ x
 |_,_,_=>none
theorem Dk:∀{N:List Str}{σ:St}{x:Str}{v:V},dX N σ x=some v->∃i:Nat,N[i]?=some x/\σ[i]?=some (some v)
 |n::N,o::σ,x,v,h=>by
  unfold dX at h;split at h
  .rename_i e;exact⟨0,by simp[e],by simp[h]⟩
  .obtain⟨i,h1,h2⟩:=Dk h;exact⟨i+1,by simpa using h1,by simpa using h2⟩
 |[],_,_,_,h=>by simp[dX]at h
 |_::_,[],_,_,h=>by simp[dX]at h
def nameAt:List Str->Str->Option Nat
 |n::N,x=>if n=x then some 0 else(nameAt N x).map (· +1)
 |[],_=>none
theorem pM:∀{N:List Str}{x:Str}{i:Nat},nameAt N x=some i->N[i]?=some x
 |n::N,x,i,h=>by
  unfold nameAt at h;split at h
  .rename_i e;cases h;simp[e]
  .cases q:nameAt N x with
   |none=>rw[q]at h;cases h
   |some j=>
    rw[q]at h;cases h;simpa using pM q
 |[],_,_,h=>by simp[nameAt]at h
theorem ad1(hn:dX X.N σ x=some v)(hv:sW X.env.scope x)(q:Q v H)(hd:(x==("__debug__":Str))=false)(hcd:(x==("__classdict__":Str))=false):EV X (.Name x pos) σ H Q:=by
 obtain⟨i,h1,h2⟩:=Dk hn;exact ao (abY h1 hv hd hcd) ⟨v,h2,q⟩
def Gc(mg:Str->Option ε)(x:Str)(v:V):=∃u,mg x=some u/\RelV v u
theorem ac9(g:Gc X.mg x v)(hg:Gl X x)(q:Q v H)(hd:(x==("__debug__":Str))=false):EV X (.Name x pos) σ H Q:=by
 obtain⟨u,h1,h2⟩:=g;exact ao (R0 hg h1 h2 hd) q
theorem ajM{T:String}(hg:Gl X x)(hm:X.mg x=none)(hv:bootBuiltins x=some (.type T))(q:Q (.ty T) H)(hn:x≠"__name__")(hd:(x==("__debug__":Str))=false):EV X (.Name x pos) σ H Q:=
 ao (ail hg hm hv (v:=.ty T) rfl hn hd) q
theorem W5{i:Int}{j}(q:Q (.int i) H):EV X (.Constant (.int i) j pos) σ H Q:=ao ahq q
theorem Yg{i:Bool}{j}(q:Q (.bl i) H):EV X (.Constant (.bool i) j pos) σ H Q:=ao adE q
theorem aaK{j}(q:Q .non H):EV X (.Constant .none j pos) σ H Q:=ao afI q
theorem Ha{i:Str}{j}(q:Q (.str i) H):EV X (.Constant (.str i) j pos) σ H Q:=ao Wv q
theorem Vb{op:Operator}(h:EV X a σ H λx H1=>EV X b σ H1 λy H2=>OP X (binaryOp op) x y H2 Q):EV X (.BinOp a op b pos) σ H Q:=ao (aiO mq Υ Υ) h
theorem aaX{op:UnaryOp}(h:EV X a σ H λx H1=>UN X (unaryOp op) x H1 Q):EV X (.UnaryOp op a pos) σ H Q:=ao (Vc ah9 Υ) h
theorem acb{op:CmpOp}(hm:behindInMarks op b=false)(h:EV X a σ H λx H1=>EV X b σ H1 λy H2=>OP X (adh op) x y H2 Q):EV X (.Compare a [op] [b] pos) σ H Q:=ao (We mq Υ Υ hm) h
theorem Uk{op:CmpOp}(hm:behindInMarks op b=false)(h:EV X a σ H λx H1=>EV X b σ H1 λy H2=>OP X (adh op) x y H2 λz H3=>∃k,z=.bl k/\QT k H3):ET X (.Compare a [op] [b] pos) σ H QT:=rC (ahB mq Υ Υ hm) h
theorem Xc{op op':CmpOp}(hm:lastMarks [op,op'] [b,c]=false)(h:EV X a σ H λx H1=>EV X b σ H1 λy H2=>OP X (adh op) x y H2 λz H3=>∃k,z=.bl k/\(if k=true then EV X c σ H3 λw' H4=>OP X (adh op') y w' H4 Q else Q (.bl false) H3)):EV X (.Compare a [op,op'] [b,c] pos) σ H Q:=ao (af6 mq mq Υ Υ Υ hm) h
theorem VB{op op':CmpOp}(hm:lastMarks [op,op'] [b,c]=false)(h:EV X a σ H λx H1=>EV X b σ H1 λy H2=>OP X (adh op) x y H2 λz H3=>∃k,z=.bl k/\(if k=true then EV X c σ H3 λw' H4=>OP X (adh op') y w' H4 λz' H5=>∃k',z'=.bl k'/\QT k' H5 else ∃k',V.bl false=.bl k'/\QT k' H3)):ET X (.Compare a [op,op'] [b,c] pos) σ H QT:=rC (aeQ mq mq Υ Υ Υ hm) h
theorem Mh(he:∀whole,isTrue e X.env whole=(do let v<-whole;standAt e.pos;holding [v] (truthy v)))(h:EV X e σ H λx H'=>∃k,vI X.K x H' k/\QT k H'):ET X e σ H QT:=rC (aam Υ he) h
theorem V6(h:ET X a σ H λk H1=>QT (!k) H1):ET X (.UnaryOp .Not a pos) σ H QT:=rC (ab4 jW) h
theorem agF(h:EW X e σ H QT):ET X e σ H QT:=rC Bw.pt h
theorem vo{t:TT}(h:PW X e t)(q:t σ H QT):EW X e σ H QT:=λwhole ϵ s I=>h whole ϵ s σ H QT I q
theorem aa5{rest:List ν}(h:ET X a σ H λk H1=>if k=true then EW X (.BoolOp .And (b::rest) pos) σ H1 QT else QT false H1):EW X (.BoolOp .And (a::b::rest) pos) σ H QT:=vo (aaw jW Bw) h
theorem Zm{rest:List ν}(h:ET X a σ H λk H1=>if k=true then QT true H1 else EW X (.BoolOp .Or (b::rest) pos) σ H1 QT):EW X (.BoolOp .Or (a::b::rest) pos) σ H QT:=vo (Uz jW Bw) h
theorem ZM(h:ET X a σ H QT):EW X (.BoolOp .And [a] pos) σ H QT:=vo (acj jW) h
theorem abZ(h:ET X a σ H QT):EW X (.BoolOp .Or [a] pos) σ H QT:=vo (abO jW) h
theorem N8{op}(h:EV X a σ H Q):EV X (.BoolOp op [a] pos) σ H Q:=ao (Zh Υ) h
theorem ai7{rest:List ν}(h:EV X a σ H λx H1=>∃k,x=.bl k/\if k=true then EV X (.BoolOp .And (b::rest) pos) σ H1 Q else Q (.bl false) H1):EV X (.BoolOp .And (a::b::rest) pos) σ H Q:=ao (ac2 Υ Υ) h
theorem ai4{rest:List ν}(h:EV X a σ H λx H1=>∃k,x=.bl k/\if k=true then Q (.bl true) H1 else EV X (.BoolOp .Or (b::rest) pos) σ H1 Q):EV X (.BoolOp .Or (a::b::rest) pos) σ H Q:=ao (afR Υ Υ) h
theorem ahF(h:EV X a σ H λx H1=>∃k,x=.bl k/\Q (.bl (!k)) H1):EV X (.UnaryOp .Not a pos) σ H Q:=ao (afk Υ) h
theorem Yw(h:ET X c σ H λk H1=>if k=true then EV X a σ H1 Q else EV X b σ H1 Q):EV X (.IfExp c a b pos) σ H Q:=ao (Tn jW Υ Υ) h
theorem eY(q:QA [] H):EA X [] σ H QA:=Lz acD q
theorem eQ(hs:ϯ (e::es) X.env=(false,eval e X.env)::ϯ es X.env)(h:EV X e σ H λx H1=>EA X es σ H1 λxs H2=>QA (x::xs) H2):EA X (e::es) σ H QA:=Lz (adH Υ lG hs) h
theorem Ky{x1}(h:EA X es σ H λxs H1=>xs.length<=ϩ/\∀p,H1 p=none->Q (.ref p) (upd H1 p (.tup xs))):EV X (.Tuple es x1 pos) σ H Q:=ao (Vt lG) h
theorem WK(h:EA X es σ H λxs H1=>xs.length<=ϩ/\∀p,H1 p=none->Q (.ref p) (upd H1 p (.lst xs))):EV X (.List es pos) σ H Q:=ao (ajk lG) h
theorem afN{id:String}(hg:Gl X x)(hm:X.mg x=none)(hv:bootBuiltins x=some (.builtin id))(hn:x≠"__name__")(hdb:(x==("__debug__":Str))=false)(he:ϯ (e::es) X.env=(false,eval e X.env)::ϯ es X.env)(hpl:(backTo pos (ϯ es X.env)).any (·.1)=false)(h:EA X (e::es) σ H λvs H1=>CL X (.builtin id) vs H1 Q):EV X (.Call (.Name x p) (e::es) [] pos) σ H Q:=
 ao (ahn J1 hg hm hv lG hn hdb he hpl) h
theorem acB{T:String}(hg:Gl X x)(hm:X.mg x=none)(hv:bootBuiltins x=some (.type T))(hn:x≠"__name__")(hdb:(x==("__debug__":Str))=false)(he:ϯ (e::es) X.env=(false,eval e X.env)::ϯ es X.env)(hpl:(backTo pos (ϯ es X.env)).any (·.1)=false)(h:EA X (e::es) σ H λvs H1=>CL X (.type T) vs H1 Q):EV X (.Call (.Name x p) (e::es) [] pos) σ H Q:=
 ao (Ut J1 hg hm hv lG hn hdb he hpl) h
structure Def(P:Ϯ)(w:Ϭ)(K:Ϩ)(mg:Str->Option ε)(base:ϫ)(cc:Bool)(k:Nat)(x:Str)(ps:List Str)(sp:Sp):Prop where
 ex:∃f fd,mg x=some (.ref f)/\amG K (.ref f)=true/\Binds K fd ps []/\cL P w K mg base (bQ P w) cc k f fd ps sp
theorem ό.pq{cc aV:Bool}{k:Nat}{A:ϰ}(r:ό cc k A)(h:aV=true->cc=true):ό aV k A:=⟨λz=>r.hd (h z),r.dp,r.un⟩
theorem YL{Kx:St->XK}{cc aV:Bool}{k k':Nat}{ps:List Str}{sp:Sp}(F:Def X.prog X.w X.K X.mg X.base aV k x ps sp)(hr:ό cc k' X.A)(hk:k<=k')(hcc:aV=true->cc=true)(hg:Gl X x)(hx:bc X Kx)(hdb:(x==("__debug__":Str))=false)(he:ϯ (e::es) X.env=(false,eval e X.env)::ϯ es X.env)(hpl:(backTo pos (ϯ es X.env)).any (·.1)=false)(h:EA X (e::es) σ H λvs H1=>sp vs H1 Q (Kx σ)):EV X (.Call (.Name x p) (e::es) [] pos) σ H Q:=by
 obtain⟨f,fd,h1,h2,h3,h4⟩:=F.ex;intro ϵ s I;refine akj (lE I hg h1 ?_ hdb);refine anQ (h₀:=X.base) I.ok.mod.kin h2 (χ (h pos ϵ s I) λus s1 ⟨vs,H1,I1,r,q⟩=>⟨I1.kIn,?_⟩) he hpl;exact qj h4 ((hr.mono hk).pq hcc) h3 hx I1 r q
theorem Wc(hs:Ku b)(h:EV X a σ H λx H1=>EV X b σ H1 λy H2=>IX X x y H2 Q):EV X (.Subscript a b pos) σ H Q:=ao (acR WM Υ Υ hs) h
theorem aju{QO:Option Int->Hp->Prop}(q:QO none H):EO X none σ H QO:=⟨_,aca,q⟩
theorem ab8{QO:Option Int->Hp->Prop}(q:EV X e σ H λx H1=>∃i,x=.int i/\QO (some i) H1):EO X (some e) σ H QO:=⟨_,Wf Υ,q⟩
theorem adG{lo hi:Option ν}{p2:Pos}(h:EV X a σ H λx H1=>EO X lo σ H1 λl H2=>EO X hi σ H2 λu H3=>SL X x l u H3 Q):EV X (.Subscript a (.Slice lo hi none p2) pos) σ H Q:=ao (aiu aah Υ N5 N5) h
theorem du{T id:String}{name:Str}(pa:PlainAttrs T)(slot:Slot T name id)(hty:typeOf (.builtin id)=pure (.type "method_descriptor"))(hbase:attributeBase a name X.env (eval a X.env)=eval a X.env:=by rfl)(hfew:((backTo pos (ϯ (e::es) X.env)).all (λx=> !x.1)&&(backToKw pos (keywordEach [] X.env)).all (λx=>x.1.isSome)
   &&decide ((e::es).length+([]:List Keyword).length+(if([]:List Keyword).isEmpty then 0 else 1)<30))=true:=by rfl)(hline:(apos.endLine==pos.line)=true:=by rfl)(hs:ϯ (e::es) X.env=(false,eval e X.env)::ϯ es X.env:=by rfl)(hplain:(backTo pos (ϯ es X.env)).any (·.1)=false:=by rfl)(h:EV X a σ H λx H1=>oh X.K T x H1/\EA X (e::es) σ H1 λxs H2=>MT X id x xs H2 Q):EV X (.Call (.Attribute a name apos) (e::es) [] pos) σ H Q:=
 ao (Xo pa slot hty Iz Υ lG hbase hfew hline hs hplain) h
theorem Vh{T id:String}{name:Str}(pa:PlainAttrs T)(slot:Slot T name id)(hty:typeOf (.builtin id)=pure (.type "method_descriptor"))(hbase:attributeBase a name X.env (eval a X.env)=eval a X.env)(hline:(apos.endLine==pos.line)=true)(h:EV X a σ H λx H1=>oh X.K T x H1/\MT X id x [] H1 Q):EV X (.Call (.Attribute a name apos) [] [] pos) σ H Q:=
 ao (X8 pa slot hty Iz Υ hbase hline) h
theorem Γ(q:D.nx σ H):Κ X [] D σ H:=zm Tu q
theorem ξ{st:ϧ}{rest:List ϧ}(h:SX X st {D with nx:=λσ' H'=>Κ X rest D σ' H'} σ H):Κ X (st::rest) D σ H:=zm (YB KN oR) h
theorem ς{st:ϧ}(h:SX X st D σ H):Κ X [st] D σ H:=zm (agy KN) h
theorem au(h:EV X e σ H λ_ H1=>D.nx σ H1)(hs:akr e none pos.line X.env=pure false:=by rfl):SX X (.Expr e pos) D σ H:=m8 (Xw Υ hs) h
theorem Ζ(h:EV X e σ H D.rt):SX X (.Return (some e) pos) D σ H:=m8 (Xl Υ) h
theorem Ψ{t u:List ϧ}(h:ET X c σ H λk H1=>if k=true then Κ X t D σ H1 else Κ X u D σ H1):SX X (.If c t u pos) D σ H:=m8 (YK jW oR oR) h
theorem Yo{i:Nat}{p':Pos}(hN:X.N.Nodup)(hi:nameAt X.N x=some i)(hx:Loc X.env.scope x)(hs:akr e (some (.Name x p')) pos.line X.env=pure false)(hf:X.fn x=true\/X.env.scope.names.lookup x=some .local)(h:EV X e σ H λv H1=>D.nx (σ.set i (some v)) H1):SX X (.Assign [.Name x p'] e pos) D σ H:=m8 (ah6 hN (pM hi) hx Υ hs hf) h
theorem Ο{i:Nat}{QG:St->Hp->Prop}(hN:X.N.Nodup)(hi:nameAt X.N x=some i)(hx:Loc X.env.scope x)(hf:X.fn x=true\/X.env.scope.names.lookup x=some .local)(q:QG (σ.set i (some v)) H):EG X (.Name x pos) v σ H QG:=
 Lh (acE hN (pM hi) hx hf) q
theorem bJ{QG:St->Hp->Prop}(q:QG σ H):kW X [] [] σ H QG:=GR aba ⟨rfl,q⟩
theorem ϖ{ts:List ν}{vs:List V}{QG:St->Hp->Prop}(h:EG X e v σ H λσ' H'=>kW X ts vs σ' H' QG)(hs:(ald (e::ts) X.env).map (·.2)=assign e X.env::(ald ts X.env).map (·.2):=by rfl):kW X (e::ts) (v::vs) σ H QG:=
 GR (YS Nj Q0 hs) ⟨v,vs,rfl,h⟩
theorem bM{n:Nat}{k:Nat}{QG:St->Hp->Prop}{q:δ}{xs:List V}(ht:ψ X.K H q xs)(h:kW X es xs σ H QG)(hc:X.calm=true:=by rfl)(hn:(ald es X.env).length=n:=by rfl)(hst:(ald es X.env).findIdx? (·.1)=none:=by rfl)(hl:xs.length=n:=by rfl):EG X (.Tuple es k pos) (.ref q) σ H QG:=
 Lh (abU hc Q0 hn hst) ⟨q,xs,rfl,ht,hl,h⟩
theorem qQ{tg iter:ν}{body:List ϧ}(hp:amZ (Ϧ X.prog X.w) X.A X.env X.xe)(hc:X.calm=true)(hs:∀x,foldedSetIterable iter X.env x=pure x)(h:EI X tg iter σ H λJ H1=>∃W:Nat->Nat->St->Hp->Prop,(∃m,W 0 m σ H1)/\∀i m σ H,W i m σ H->
   (J.stop i H/\D.nx σ H)\/(J.go i H/\∃N:St->Hp->Prop,(∀σ' H',N σ' H'->∃m',m'<m/\W (i+1) m' σ' H')/\∀x H',J.yld i H x H'->EG X tg x σ H' λσ2 H2=>Κ X body {D with nx:=N,ct:=N,bk:=D.nx} σ2 H2)):SX X (.For tg iter body [] pos) D σ H:=m8 (aaQ hp hc aeN Nj oR hs) h
theorem qI{tg l:ν}{R:It->Hp->Prop}(h:EV X l σ H λx H1=>∃a,x=.ref a/\(∃xs,η X.K H1 a xs)/\R (ig X.K a) H1):EI X tg l σ H R:=Py (adD Υ) h
theorem Em{tg:ν}{R:It->Hp->Prop}(hg:Gl X "range")(hm:X.mg "range"=none)(hs:ϯ [a] X.env=[(false,eval a X.env)])(h:EA X [a] σ H λvs H1=>∃j:Int,vs=[.int j]/\ -(2^62)<=j/\j<2^62/\R (iZ 0 j.toNat) H1):EI X tg (.Call (.Name "range" p) [a] [] pos) σ H R:=Py (Ub hg hm lG hs) h
theorem ϡ{Q':VK}(h:EV X e σ H Q)(m:∀v H',Q v H'->Q' v H'):EV X e σ H Q':=λϵ s I=>χ (h ϵ s I) λ_ _ ⟨v,H',I',r,q⟩=>⟨v,H',I',r,m v H' q⟩
theorem aX{f:ε->ε->Sem ε}{r:R2}{y z:V}(h:Ϣ X f r)(q:r y z H Q):OP X f y z H Q:=⟨r,h,q⟩
variable{i j:Int}{k k':Bool}{z z':Str}
theorem aiZ(q:Q (.int (i+j)) H):OP X (binaryOp .Add) (.int i) (.int j) H Q:=aX ajH ⟨i,j,rfl,rfl,q⟩
theorem ab0(q:Q (.int (i-j)) H):OP X (binaryOp .Sub) (.int i) (.int j) H Q:=aX Zr ⟨i,j,rfl,rfl,q⟩
theorem agE(c:vg i j)(q:Q (.int (i*j)) H):OP X (binaryOp .Mult) (.int i) (.int j) H Q:=aX aeR ⟨i,j,rfl,rfl,c,q⟩
theorem aer(c:0<j)(q:Q (.int (i % j)) H):OP X (binaryOp .Mod) (.int i) (.int j) H Q:=aX YC ⟨i,j,rfl,rfl,c,q⟩
theorem Bs(c:Qx i j)(q:Q (.int (i^j.toNat)) H):OP X (binaryOp .Pow) (.int i) (.int j) H Q:=aX afY ⟨i,j,rfl,rfl,c,q⟩
theorem ahM(q:Q (.bl (decide (i<j))) H):OP X (adh .Lt) (.int i) (.int j) H Q:=aX aiq ⟨i,j,rfl,rfl,q⟩
theorem ZQ(q:Q (.bl (decide (i<=j))) H):OP X (adh .LtE) (.int i) (.int j) H Q:=aX U9 ⟨i,j,rfl,rfl,q⟩
theorem aio(q:Q (.bl (decide (j<i))) H):OP X (adh .Gt) (.int i) (.int j) H Q:=aX afo ⟨i,j,rfl,rfl,q⟩
theorem aay(q:Q (.bl (decide (j<=i))) H):OP X (adh .GtE) (.int i) (.int j) H Q:=aX adO ⟨i,j,rfl,rfl,q⟩
theorem Fi{y z:V}(s:rZ y z=true)(q:Q (.bl (decide (y=z))) H):OP X (adh .Eq) y z H Q:=aX adp ⟨s,q⟩
theorem Jg{y z:V}(s:rZ y z=true)(q:Q (.bl (!decide (y=z))) H):OP X (adh .NotEq) y z H Q:=aX aaZ ⟨s,q⟩
theorem ajx(q:Q (.bl (decide (z.cps.toList<z'.cps.toList))) H):OP X (adh .Lt) (.str z) (.str z') H Q:=aX aeW ⟨z,z',rfl,rfl,q⟩
theorem ajD(q:Q (.bl (!(Builtin.Str.occurrences z' z 0 z'.length 1).isEmpty)) H):OP X (adh .In) (.str z) (.str z') H Q:=aX ajX ⟨z,z',rfl,rfl,q⟩
theorem aeE{y:V}(q:Q (.bl (decide (y=.non))) H):OP X (adh .Is) y .non H Q:=aX afv ⟨rfl,q⟩
theorem agU{y:V}(q:Q (.bl (!decide (y=.non))) H):OP X (adh .IsNot) y .non H Q:=aX Z0 ⟨rfl,q⟩
theorem j9(c:z.length+z'.length<=ϩ)(q:Q (.str (z++z')) H):OP X (binaryOp .Add) (.str z) (.str z') H Q:=aX acS ⟨z,z',rfl,rfl,c,q⟩
theorem Td(q:Q (.int (-i)) H):UN X (unaryOp .USub) (.int i) H Q:=⟨_,ajv,i,rfl,q⟩
theorem dC{f:ε}{r:List V->Hp->VK->Prop}{vs:List V}(h:eN X f r)(q:r vs H Q):CL X f vs H Q:=⟨r,h,q⟩
theorem qt{q:δ}{ys:List V}(h:η X.K H q ys\/ψ X.K H q ys)(g:Q (.int ys.length) H):CL X (.builtin "len") [.ref q] H Q:=dC aeO ⟨q,ys,rfl,h,g⟩
theorem aiP(h:z.length<=ϩ)(g:Q (.int z.length) H):CL X (.builtin "len") [.str z] H Q:=dC Vm ⟨z,rfl,h,g⟩
theorem DY(g:Q (.int (if j<i then j else i)) H)(hc:X.calm=true:=by rfl):CL X (.builtin "min") [.int i,.int j] H Q:=dC (aj1 hc) ⟨i,j,rfl,g⟩
theorem QQ(h:i.natAbs.log2<1920)(g:Q (.str (toString i)) H):CL X (.type "str") [.int i] H Q:=dC aax ⟨i,rfl,h,g⟩
theorem gD{q:δ}{ys:List V}(h:η X.K H q ys\/ψ X.K H q ys)(g:∀l,H l=none->Q (.ref l) (upd H l (.lst ys))):CL X (.type "list") [.ref q] H Q:=dC ai3 ⟨q,ys,rfl,h,g⟩
theorem xM{r:R2}{y z:V}(h:j8 X r)(q:r y z H Q):IX X y z H Q:=⟨r,h,q⟩
theorem ϐ{q:δ}{xs:List V}(h:η X.K H q xs)(e:Μ xs i=some v)(g:Q v H):IX X (.ref q) (.int i) H Q:=xM abA ⟨q,xs,i,v,rfl,rfl,h,e,g⟩
theorem Θ{q:δ}{xs:List V}(h:ψ X.K H q xs)(e:Μ xs i=some v)(g:Q v H):IX X (.ref q) (.int i) H Q:=xM aaa ⟨q,xs,i,v,rfl,rfl,h,e,g⟩
theorem rB{n:Nat}(h:z.length<=ϩ)(e:Μ z.cps.toList i=some n)(g:Q (.str ⟨#[n]⟩) H):IX X (.str z) (.int i) H Q:=xM aeT ⟨z,i,n,rfl,rfl,h,e,g⟩
theorem BR{q:δ}{xs:List V}{lo hi:Option Int}(h:η X.K H q xs)(g:∀p,H p=none->Q (.ref p) (upd H p (.lst (gA xs lo hi)))):SL X (.ref q) lo hi H Q:=⟨_,Zo,q,xs,rfl,h,g⟩
theorem yI{y:V}{t:ε}{T:String}(ty:b7 X.K H y t)(e:aoe X.K t (.type T)=some k)(g:Q (.bl k) H):CL X (.builtin "isinstance") [y,.ty T] H Q:=by
 refine⟨λxs H Q=>∃y t T k,xs=[y,.ty T]/\b7 X.K H y t/\aoe X.K t (.type T)=some k/\Q (.bl k) H,?_,y,t,T,k,rfl,ty,e,g⟩;intro ϵ s σ H xs us Q I r h;obtain⟨y,t,T,k,rfl,ty,e,g⟩:=h;obtain⟨u1,u2,rfl,r1,r2⟩:=vals2 r;cases(show u2=Value.type T from r2);exact ag7 I r1 ty e λtk=>⟨.bl k,H,I.tok tk,rfl,g⟩
end
def Ob(x:Str):It:=⟨λi _=>i<x.cps.size,λi H v H'=>H'=H/\∃c,x.cps[i]?=some c/\v=.str ⟨#[c]⟩,λi _=>x.cps.size<=i⟩
theorem T9{P:Ϯ}{w:Ϭ}{K:PySem.W.Frag}{tg:ν}{T:String}(hT:T="str_ascii_iterator"\/T="str_iterator")(it:δ)(x:Str)(t:Tok):Turn P w K tg (Ob x) [it] it (λi h=>h.IsStrIter it T x t i)where
 mem:=by simp
 obj:=λi h st b hb=>by
  have e:b=it:=by simpa using hb
  subst e;obtain⟨o,e,c,d⟩:=st;exact⟨o,e,λv z=>by rw[d]at z;cases z⟩
 keep:=λi h h' st k=>by
  obtain⟨o,e,c,d⟩:=st;exact⟨o,k it (by simp) o e,c,d⟩
 item:=by
  intro X hP hw hK hc i ϵ s σ H E I hf st hg;subst hP hw hK;obtain⟨f0,f1,f2,f3,f4,f5⟩:=hf it (by simp);have hg':i<x.cps.size:=hg;have hW:∃W:Nat->ϫ->Prop,Walks X.prog X.w X.A it [it] [it] x.cps.size (SignAt x) W/\W=λi h=>h.IsStrIter it T x t i:=by
   obtain rfl|rfl:=hT
   .exact⟨_,Walks.strAscii (I.ok.hd hc) it x t,rfl⟩
   .exact⟨_,Walks.strWide (I.ok.hd hc) it x t,rfl⟩
  obtain⟨_,W,rfl⟩:=hW;refine W.item i s _ _ hg' st λv h' tk hv st' kk=>?_
  obtain⟨c,u,e1,rfl⟩:=hv;have I1:Inv X ϵ σ H {s with heap:=h',toks:=tk}:=I.turned (λb o hb e=>kk b o (by simpa using hb) e) f0 f1 f3 f4 f5;obtain⟨o,e,c',d⟩:=id st';refine⟨_,rfl,qR (s:={s with heap:=h',toks:=tk}) (n:=T) e c' d (by obtain rfl|rfl:=hT<;>decide) ⟨.str ⟨#[c]⟩,H,I1,⟨u,rfl⟩,⟨rfl,c,e1,rfl⟩,st',λb hb=>(hf b hb).1⟩⟩
 done:=by
  intro X hP hw hK hc i ϵ s σ H E I hf st hg;subst hP hw hK;obtain⟨f0,f1,f2,f3,f4,f5⟩:=hf it (by simp);have hg':x.cps[i]?=none:=Array.getElem?_eq_none hg;obtain rfl|rfl:=hT
  .exact wpAny_pyNext_ascii_end (I.ok.hd hc) st hg' λh' eb=>⟨rfl,I.turned (t':=s.toks) (λb o hb e=>eb b o hb e) f0 f1 f3 f4 f5⟩
  .exact wpAny_pyNext_wide_end (I.ok.hd hc) st hg' λh' eb=>⟨rfl,I.turned (t':=s.toks) (λb o hb e=>eb b o hb e) f0 f1 f3 f4 f5⟩
 self:=λ_ _ _ _ _ st h=>by
  obtain rfl|rfl:=hT
  .exact wpAny_pyIter_striter_ascii st h
  .exact wpAny_pyIter_striter_wide st h
section
variable{X:Cx}{tg l:ν}{σ:St}{H:Hp}{R:It->Hp->Prop}
theorem abv(h:EV X l σ H λx H1=>∃z,x=.str z/\R (Ob z) H1):EI X tg l σ H R:=by
 intro ϵ s I;refine χ (h ϵ s I) λv s1 hZ=>?_
 obtain⟨x,H1,I1,r1,z,e,q⟩:=hZ;subst e;obtain⟨t,rfl⟩:=r1
 have fin:∀T:String,(T="str_ascii_iterator"\/T="str_iterator")->
   wW X ϵ σ tg R (.ref s1.heap.objs.size) {s1 with heap:=s1.heap.push {cls:=.type T,data:=.fields #[.str z t,.int 0 0]}}:=λT hT=>by
  refine⟨s1.heap.objs.size,[s1.heap.objs.size],_,_,H1,rfl,I1.kept (t':=s1.toks) λb o e=>Heap.get?_push_of_some _ e,T9 hT _ z t,⟨_,abE _ rfl,rfl,rfl⟩,λb hb=>?_,q⟩;have e:b=s1.heap.objs.size:=by simpa using hb
  subst e;exact I1.fpOk (ϭ _) (I1.hok.fresh (ϭ _))
 cases ha:z.cps.all (· <128)
 .exact wpAny_pyIter_wide ha (fin _ (.inr rfl))
 .exact wpAny_pyIter_ascii ha (fin _ (.inl rfl))
end
def bf(N' N:List Str)(σ:St)(scope:agJ):St:=N'.map λx=>if scope.names.lookup x=some .free then dX N σ x else none
def aR(X:Cx)(N':List Str)(scope:agJ)(cl:List (Str×δ))(C:δ)(s:μ)(H:Hp)(fp:List δ):Cx:=
 {X with N:=N',s₀:=s,H₀:=H,env:=compEnvC scope cl C X.env,outer:=X.stack,stack:=X.stack,ex:=fp,fn:=λ_=>false,pn:=[],xe:=λ_ _=>False}
def Ex(X:Cx)(ifs:List ν)(σ:St)(H:Hp)(Q:Bool->Hp->Prop):Prop:=
 ∀(ϵ:List (δ×Obj))(s:μ),Inv X ϵ σ H s->
  π (Ϧ X.prog X.w) X.A (forIn ifs true λc r=>if r=true then do let ok<-isTrue c X.env (eval c X.env);pure (ForInStep.yield ok)else pure (ForInStep.yield r)) (TP X ϵ σ Q) X.xe s
theorem Dg(env:Env):∀(names:List (Str×am4))(cs:List (Str×δ)),(∀y∈names,y.2=.free->∃c,env.cells.lookup y.1=some c)->
  (forIn names cs (λ(x:Str×am4)(r:List (Str×δ))=>if(x.2==NameKind.free)=true then do let a<-cellOf env x.1;pure (ForInStep.yield ((x.1,a)::r))else pure (ForInStep.yield r)):Sem (List (Str×δ)))=
   pure (names.foldl (λcs y=>if y.2==.free then(y.1,(env.cells.lookup y.1).getD 0)::cs else cs) cs)
 |[],cs,_=>by simp
 |(n,k)::r,cs,h=>by
  rw[List.forIn_cons];by_cases hk:k=.free
  .subst hk;obtain⟨c,e⟩:=h (n,.free) aek rfl;have e':cellOf env n=pure c:=by
    unfold cellOf;have e2:env.cells.lookup n=some c:=e;rw[e2]
   simp only[beq_self_eq_true,if_true,e',pure_bind];have e2:env.cells.lookup n=some c:=e;rw[Dg env r _ λy hy=>h y (acV _ hy),List.foldl_cons];simp only[beq_self_eq_true,if_true,e2,Option.getD_some]
  .have hb:(k==NameKind.free)=false:=by simpa using hk
   simp only[hb,am0,if_false,pure_bind];rw[Dg env r _ λy hy=>h y (acV _ hy),List.foldl_cons];simp only[hb,am0,if_false]
def Ϗ(scope:agJ)(env:Env):List (Str×δ):=scope.names.foldl (λcs y=>if y.2==.free then(y.1,(env.cells.lookup y.1).getD 0)::cs else cs) []
theorem zq{scope:agJ}{env:Env}(h:∀y∈scope.names,y.2=.free->∃c,env.cells.lookup y.1=some c):closureFor scope env=pure (Ϗ scope env):=by
 have:=Dg env scope.names [] h;unfold closureFor Ϗ;rw[<-this];simp
theorem Kh{env:Env}:∀(names:List (Str×am4))(cs:List (Str×δ)),(∀y∈names,y.2=.free->∃c,env.cells.lookup y.1=some c)->
  ∀x c,(names.foldl (λcs y=>if y.2==.free then(y.1,(env.cells.lookup y.1).getD 0)::cs else cs) cs).lookup x=some c->(env.cells.lookup x=some c\/cs.lookup x=some c)
 |[],cs,_,x,c,e=>.inr e
 |(n,k)::r,cs,h,x,c,e=>by
  rw[List.foldl_cons]at e;rcases Kh r _ (λy hy=>h y (acV _ hy)) x c e with q|q
  .exact .inl q
  .by_cases hk:k=.free
   .subst hk;obtain⟨c',e'⟩:=h (n,.free) aek rfl;have e2:env.cells.lookup n=some c':=e';simp only[beq_self_eq_true,if_true,e2,Option.getD_some,List.lookup_cons]at q;cases hx:x==n with
    |true=>
     rw[hx]at q;have hx':x=n:=by simpa using hx
     subst hx';exact .inl (e2.trans q)
    |false=>rw[hx]at q;exact .inr q
   .have hb:(k==NameKind.free)=false:=by simpa using hk
    rw[if_neg (by simp[hb])]at q;exact .inr q
theorem yu{env:Env}:∀(names:List (Str×am4))(cs:List (Str×δ))(x:Str),((x,NameKind.free)∈names\/∃c,cs.lookup x=some c)->
  ∃c,(names.foldl (λcs y=>if y.2==.free then(y.1,(env.cells.lookup y.1).getD 0)::cs else cs) cs).lookup x=some c
 |[],cs,x,h=>by
  obtain h|h:=h
  .cases h
  .exact h
 |(n,k)::r,cs,x,h=>by
  rw[List.foldl_cons];refine yu r _ x ?_;by_cases hk:k=.free
  .subst hk;simp only[beq_self_eq_true,if_true,List.lookup_cons];cases hx:x==n with
   |true=>exact .inr ⟨_,rfl⟩
   |false=>
    obtain h|h:=h
    .obtain h|h:=ϴ.mp h
     .cases h;simp at hx
     .exact .inl h
    .exact .inr h
  .have hb:(k==NameKind.free)=false:=by simpa using hk
   rw[if_neg (by simp[hb])];obtain h|h:=h
   .obtain h|h:=ϴ.mp h
    .cases h;exact absurd rfl hk
    .exact .inl h
   .exact .inr h
theorem QK{env:Env}{x:Str}:∀{names:List (Str×am4)},names.lookup x=some .free->
  (names.map λ(n,k)=>if(k==NameKind.free&&env.scope.kind==.function&&env.kindOf n==some .cell)then(n,NameKind.cell)else(n,k)).lookup x=some .cell\/
  (names.map λ(n,k)=>if(k==NameKind.free&&env.scope.kind==.function&&env.kindOf n==some .cell)then(n,NameKind.cell)else(n,k)).lookup x=some .free
 |[],h=>by simp at h
 |(n,k')::r,h=>by
  have ih:= @QK env x r;show agW x ((if(k'==NameKind.free&&env.scope.kind==.function&&env.kindOf n==some .cell)=true then(n,NameKind.cell)else(n,k'))::_)=_\/agW x ((if(k'==NameKind.free&&env.scope.kind==.function&&env.kindOf n==some .cell)=true then(n,NameKind.cell)else(n,k'))::_)=_;cases hx:x==n with
  |true=>
   simp only[List.lookup_cons,hx]at h;cases h;by_cases hc:(NameKind.free==NameKind.free&&env.scope.kind==.function&&env.kindOf n==some .cell)=true
   .rw[if_pos hc];left;simp only[List.lookup_cons,hx]
   .rw[if_neg hc];right;simp only[List.lookup_cons,hx]
  |false=>
   simp only[List.lookup_cons,hx]at h;by_cases hc:(k'==NameKind.free&&env.scope.kind==.function&&env.kindOf n==some .cell)=true
   .rw[if_pos hc];simp only[List.lookup_cons,hx];exact ih h
   .rw[if_neg hc];simp only[List.lookup_cons,hx];exact ih h
theorem Ma{env:Env}{x:Str}:∀{names:List (Str×am4)},(∀y∈names,y.2≠.cell)->
  ((names.map λ(n,k)=>if(k==NameKind.free&&env.scope.kind==.function&&env.kindOf n==some .cell)then(n,NameKind.cell)else(n,k)).lookup x=some .cell\/
  (names.map λ(n,k)=>if(k==NameKind.free&&env.scope.kind==.function&&env.kindOf n==some .cell)then(n,NameKind.cell)else(n,k)).lookup x=some .free)->(x,NameKind.free)∈names
 |[],_,h=>by simp at h
 |(n,k')::r,hc0,h=>by
  have ih:= @Ma env x r λy hy=>hc0 y (acV _ hy)
  have h':agW x ((if(k'==NameKind.free&&env.scope.kind==.function&&env.kindOf n==some .cell)=true then(n,NameKind.cell)else(n,k'))::(r.map λ(n,k)=>if(k==NameKind.free&&env.scope.kind==.function&&env.kindOf n==some .cell)then(n,NameKind.cell)else(n,k)))=some .cell\/
   agW x ((if(k'==NameKind.free&&env.scope.kind==.function&&env.kindOf n==some .cell)=true then(n,NameKind.cell)else(n,k'))::(r.map λ(n,k)=>if(k==NameKind.free&&env.scope.kind==.function&&env.kindOf n==some .cell)then(n,NameKind.cell)else(n,k)))=some .free:=h
  cases hx:x==n with
  |true=>
   have hx':x=n:=by simpa using hx
   subst hx';by_cases hc:(k'==NameKind.free&&env.scope.kind==.function&&env.kindOf x==some .cell)=true
   .have :k'=.free:=by simp only[aaH]at hc;simpa using hc.1.1
    subst this;exact aek
   .rw[if_neg hc]at h';simp only[List.lookup_cons,hx]at h';obtain h'|h':=h'
    .cases h';exact absurd rfl (hc0 (x,.cell) aek)
    .cases h';exact aek
  |false=>
   refine acV _ (ih ?_);by_cases hc:(k'==NameKind.free&&env.scope.kind==.function&&env.kindOf n==some .cell)=true
   .rw[if_pos hc]at h';simpa only[List.lookup_cons,hx]using h'
   .rw[if_neg hc]at h';simpa only[List.lookup_cons,hx]using h'
theorem aiA{prog:Ϯ}{w:Ϭ}{A:ϰ}{R:Result->μ->Prop}{s:μ}{elt target iter:ν}{ifs:List ν}{scope:agJ}{pos:Pos}{it acc:ε}{env:Env}(I:Nat->μ->Prop)(turn:∀n s,I n s->π (Ϧ prog w) A (pyNext it) (λr s₁=>match r with
   |none=>R (.ok .next) s₁
   |some v=>π (Ϧ prog w) A (letOwnedTupleGo target it v) (λ_ s₁'=>π (Ϧ prog w) A (assign target env v) (λ_ s₂=>
    π (Ϧ prog w) A (forIn ifs true λc r=>if r=true then do let ok<-isTrue c env (eval c env);pure (ForInStep.yield ok)else pure (ForInStep.yield r)) (λok s₃=>
     if ok=true then π (Ϧ prog w) A (eval elt env) (λx s₄=>
      π (Ϧ prog w) A (call (.builtin "list.append") [acc,x]) (λ_ s₅=>∃m,m<n/\I m s₅) (λ_ _=>False) s₄) (λ_ _=>False) s₃
     else ∃m,m<n/\I m s₃) (λ_ _=>False) s₂) (λ_ _=>False) s₁') (λ_ _=>False) s₁) (λ_ _=>False) s)(n:Nat)(h:I n s):codeAny (Ϧ prog w) A (.compLoop (.ListComp elt [⟨target,iter,ifs,0⟩] scope pos) 0 it acc env) R s:=by
 refine codeAny_loop rfl I (λn s hI=>?_) n h;show π _ A ((compTurn (.ListComp elt [⟨target,iter,ifs,0⟩] scope pos) 0 it acc env).onRaise (λx=>do noteFrame x env;theTreesLotGoes x)) _ _ s;refine wpAny_noted ?_;rw[compTurn_list];refine Ϫ (akH (Ϫ (adu (turn n s hI) (λr s₁ h₁=>?_) λ_ _ h'=>h'.elim)));cases r with
 |none=>exact ϲ h₁
 |some v=>
  refine Ϫ (adu h₁ (λ_ s₁' h₁'=>?_) λ_ _ h'=>h'.elim);refine Ϫ (adu h₁' (λ_ s₂ h₂=>Ϫ (adu h₂ (λok s₃ h₃=>?_) λ_ _ h'=>h'.elim)) λ_ _ h'=>h'.elim);cases ok with
  |false=>exact ϲ ⟨rfl,h₃⟩
  |true=>
   exact Ϫ (Ϫ (adu h₃ (λx s₄ h₄=>Ϫ (adu h₄ (λ_ s₅ h₅=>ϲ (ϲ ⟨rfl,h₅⟩)) λ_ _ h'=>h'.elim)) λ_ _ h'=>h'.elim))
section
variable{X:Cx}{ϵ:List (δ×Obj)}{σ:St}{H H':Hp}{s s':μ}{scope:agJ}{fp:List δ}{N':List Str}
structure bu(env:Env)(scope:agJ):Prop where
 kind:scope.kind=.function
 free:∀y∈scope.names,y.2=.free->env.kindOf y.1=some .cell\/env.kindOf y.1=some .free
 cell:∀y∈scope.names,y.2≠.cell
 loc:∀y∈scope.names,y.2=.local->scope.names.lookup y.1=some .local
theorem bu.has(S:bu X.env scope)(I:Inv X ϵ σ H s):∀y∈scope.names,y.2=.free->∃c,X.env.cells.lookup y.1=some c:=λy hy e=>I.ok.has y.1 (S.free y hy e)
theorem bu.cl(S:bu X.env scope)(I:Inv X ϵ σ H s){x:Str}{c:δ}(h:(Ϗ scope X.env).lookup x=some c):X.env.cells.lookup x=some c:=by
 obtain q|q:=Kh scope.names [] (S.has I) x c h
 .exact q
 .simp at q
theorem Wj(S:bu X.env scope)(I:Inv X ϵ σ H s)(hf:∀b∈fp,aO X ϵ H b)(hfs:∀b∈fp,b<s.heap.objs.size):(aR X N' scope (Ϗ scope X.env) s.heap.objs.size s H fp).Ok where
 mod:=I.ok.mod
 kind:=S.kind
 glob:=I.ok.glob
 blt:=I.ok.blt
 above:=ϭ _
 inj:=λx y c h1 h2=>I.ok.inj x y c (S.cl I h1) (S.cl I h2)
 has:=λx hx=>yu (env:=X.env) scope.names [] x (.inl (Ma S.cell hx))
 cab:=λx c h _=>by cases h
 hd:=I.ok.hd
 frames:=I.ok.frames
 stk:=.inl rfl
 exf:=λb hb=>⟨abF (hfs b hb),λx c h=>(hf b hb).2.2.2.2.1 x c (S.cl I h)⟩
 bs:=I.bs
 bsz:=aft I.ok.bsz I.sz
 noex:=λb o e hb=>by
  rcases(hf b hb).2.2.2.1 with z|z
  .exact I.ok.noex b o e z
  .rw[(I.ok.bs b o e).1]at z;cases z
 exfs:=λb hb z=>by
  rcases ϴ.mp (I.stkSub b z)with e|e
  .exact(hf b hb).2.1 e
  .exact(hf b hb).2.2.1 e
 funs:=I.stack
 frf:=I.stkFree
theorem afW{N:List Str}{i:Nat}{x:Str}{v:V}(h1:N'[i]?=some x)(h2:(bf N' N σ scope)[i]?=some (some v)):scope.names.lookup x=some .free/\dX N σ x=some v:=by
 unfold bf at h2;rw[aa2,h1]at h2;have h3:(if scope.names.lookup x=some .free then dX N σ x else none)=some v:=by simpa using h2
 split at h3
 .rename_i e;exact⟨e,h3⟩
 .cases h3
theorem Ru(S:bu X.env scope)(I:Inv X ϵ σ H s)(hf:∀b∈fp,aO X ϵ H b)(hfs:∀b∈fp,b<s.heap.objs.size){h₁:ϫ}{m:Str->Option ε}{tk:Nat}(hns:h₁.Ns s.heap.objs.size m)(old:∀b o,s.heap.get? b=some o->h₁.get? b=some o):Inv (aR X N' scope (Ϗ scope X.env) s.heap.objs.size s H fp) [] (bf N' X.N σ scope) H {s with heap:=h₁,toks:=tk}where
 ok:=Wj S I hf hfs
 os:=rfl
 bare:=I.bare
 base:=Un.kept old
 loc:=by
  refine⟨m,hns,λi x v h1 h2 h3=>?_⟩;obtain⟨e1,e2⟩:=afW h1 h2;obtain⟨j,g1,g2⟩:=Dk e2;have hm:(x,NameKind.free)∈scope.names:=PySem.mem_of_lookup e1;have hk:=S.free _ hm rfl;obtain⟨m0,_,hl⟩:=I.loc;have vis:sW X.env.scope x:=.inr hk;obtain⟨u,r,lk⟩:=hl j x v g1 g2 vis;refine⟨u,r,.inr ⟨QK (env:=X.env) e1,?_⟩⟩;obtain⟨k,_⟩|⟨_,c,e,z⟩:=lk
  .obtain hk|hk:=hk
   .have hk':X.env.kindOf x=some .cell:=hk;rw[hk']at k;cases k
   .have hk':X.env.kindOf x=some .free:=hk;rw[hk']at k;cases k
  .obtain⟨c',e'⟩:=yu (env:=X.env) scope.names [] x (.inl hm);have e3:=S.cl I (x:=x) (c:=c') e';rw[e]at e3;cases e3;obtain⟨o,ho,hd⟩:=z;exact⟨c,e',o,old _ _ ho,hd⟩
 cell:=λx c h=>by
  obtain⟨v,o,ho,hd⟩:=I.cell x c (S.cl I h);exact⟨v,o,old _ _ ho,hd⟩
 free:=I.hok.fresh (ϭ _)
 freeC:=λx c h=>I.freeC x c (S.cl I h)
 pin:=λp hp=>absurd (show p∈([]:List (δ×Obj))from hp) (by simp)
 hok:=I.hok.kept old
 len:=by show(bf N' X.N σ scope).length=N'.length;unfold bf;rw[aaf]
theorem Rt{τ:St}(I:Inv X ϵ σ H s)(hf:∀b∈fp,aO X ϵ H b)(J:Inv (aR X N' scope (Ϗ scope X.env) s.heap.objs.size s H fp) [] τ H' s'):Inv X ϵ σ H' s':=by
 obtain⟨hh,g,d,t,os'⟩:=s';have e:os'=s.os:=J.os;subst e;exact I.call (h':=hh) (g':=g) (d':=d) (t':=t) (ch:=fp) J.base J.hok J.bare λb hb=>⟨(hf b hb).2.2.2.1,(hf b hb).2.1,(hf b hb).2.2.2.2.1,(hf b hb).2.2.2.2.2⟩
variable{elt iter tg:ν}{ifs:List ν}{pos:Pos}
def fL(X Y:Cx)(tg elt:ν)(ifs:List ν)(J:It)(D:δ)(σ':St)(H:Hp)(Q:Hp->Prop):Prop:=
 ∃W:Nat->Nat->St->Hp->Prop,(∃m,W 0 m σ' (upd H D (.lst [])))/\∀i m τ H,W i m τ H->
  (J.stop i H/\Q H)\/(J.go i H/\∃N:St->Hp->Prop,(∀τ' H',N τ' H'->∃m',m'<m/\W (i+1) m' τ' H')/\∀x H',J.yld i H x H'->
   EG Y tg x τ H' λτ2 H2=>Ex Y ifs τ2 H2 λk H3=>if k=true then EV Y elt τ2 H3 λy H4=>∃xs,H4 D=some (.lst xs)/\xs.length<ϩ/\N τ2 (upd H4 D (.lst (xs++[y])))else N τ2 H3)
theorem QC{R:ε->δ->Result->μ->Prop}{it:δ}{tn:Nat->ϫ->Prop}{J:It}{E:ε->μ->Prop}{Q:δ->Hp->Prop}(hc:X.calm=true)(S:bu X.env scope)(I:Inv X ϵ σ H s)(T:Turn X.prog X.w X.K tg J fp it tn)(st:tn 0 s.heap)(hf:∀b∈fp,aO X ϵ H b)(h:∀(D C:δ)(s3:μ),H D=none->fL X (aR X N' scope (Ϗ scope X.env) C s3 (upd H D (.lst [])) fp) tg elt ifs J D (bf N' X.N σ scope) H (Q D))(hR:∀(D C:δ)(H':Hp)(s':μ),H D=none->Q D H'->Inv X ϵ σ H' s'->aO X ϵ H' C->(∃m,s'.heap.Ns C m)->R (.ref D) C (.ok .next) s'):π (Ϧ X.prog X.w) X.A (newList []) (λacc s₃=>π (Ϧ X.prog X.w) X.A (newFunctionEnv scope X.env.globals (Ϗ scope X.env) [] X.env.qual none .none (some X.env)) (λcenv s₄=>
   codeAny (Ϧ X.prog X.w) X.A (.compStart (.ListComp elt [⟨tg,iter,ifs,0⟩] scope pos) 0 (.ref it) acc {cenv with scope:=relabel scope X.env}) (R acc cenv.locals) s₄) E s₃) E s:=by
 refine am5 ?_;have hD:H s.heap.objs.size=none:=I.hok.fresh (ϭ _);generalize hs3:({s with heap:=s.heap.push {cls:=.type "list",dict:=none,data:=.seq ([]:List ε).toArray}}:μ)=s3;have I3:Inv X ϵ σ (upd H s.heap.objs.size (.lst [])) s3:=by
  subst hs3;exact I.laid (t':=s.toks) (λb u e=>Heap.get?_push_of_some _ e) (ϭ _) ⟨afS _,[],0,.nil,abE _ rfl⟩
 have hsz:s3.heap.objs.size=s.heap.objs.size+1:=by subst hs3;exact am8 ..
 have old3:∀b o,s.heap.get? b=some o->s3.heap.get? b=some o:=λb o e=>by subst hs3;exact Heap.get?_push_of_some _ e
 have qO:∀b∈fp,b<s.heap.objs.size:=λb hb=>by
  obtain⟨o,e,_⟩:=T.obj _ _ st b hb;exact aaY e
 have gW:∀b∈fp,aO X ϵ (upd H s.heap.objs.size (.lst [])) b:=λb hb=>⟨by rw[θ (abF (qO b hb))];exact(hf b hb).1,(hf b hb).2⟩
 have st3:tn 0 s3.heap:=T.keep _ _ _ st λb _ o e=>old3 b o e
 have rD:∀b∈fp,b<s3.heap.objs.size:=λb hb=>by rw[hsz];exact amg (qO b hb)
 refine wpAny_newFunctionEnv S.cell (by intro y hy;simp at hy) (λh₁ hns hsb=>?_) S.kind;have fU:∀b o,s3.heap.get? b=some o->h₁.get? b=some o:=λb o e=>hsb.extBut b o (abF (aaY e)) (Heap.get?_push_of_some _ e)
 generalize hY:aR X N' scope (Ϗ scope X.env) s3.heap.objs.size s3 (upd H s.heap.objs.size (.lst [])) fp=Y;have hT:=h s.heap.objs.size s3.heap.objs.size s3 hD;rw[hY]at hT;obtain⟨W,⟨m0,w0⟩,turn⟩:=hT;generalize qC:({s3 with heap:=h₁,toks:=s3.toks+([]:List (Str×ε)).length}:μ)=s4;have I4:Inv Y [] (bf N' X.N σ scope) (upd H s.heap.objs.size (.lst [])) s4:=by
  subst qC;rw[<-hY];exact Ru S I3 gW rD hns fU
 have tG:tn 0 s4.heap:=by
  subst qC;exact T.keep _ _ _ st3 λb _ o e=>fU b o e
 have hP:Y.prog=X.prog:=by rw[<-hY];rfl
 have hw:Y.w=X.w:=by rw[<-hY];rfl
 have hK:Y.K=X.K:=by rw[<-hY];rfl
 have hA:Y.A=X.A:=by rw[<-hY];rfl
 have pN:Y.calm=true:=by rw[<-hY];exact hc
 have hE:Y.xe=λ_ _=>False:=by rw[<-hY];rfl
 have hen:Y.env=compEnvC scope (Ϗ scope X.env) s3.heap.objs.size X.env:=by rw[<-hY];rfl
 have hloc:Y.env.locals=s3.heap.objs.size:=by rw[hen];rfl
 have lQ:∀b∈fp,∀H':Hp,H' b=none->aO Y [] H' b:=λb hb H' e=>by
  rw[<-hY];refine⟨e,abF (rD b hb),λz=>?_,.inl hb,λx c q=>(gW b hb).2.2.2.2.1 x c (S.cl I3 q),λp hp=>absurd (show p∈([]:List (δ×Obj))from hp) (by simp)⟩;rcases ϴ.mp (I3.stkSub b z)with e|e
  .exact(hf b hb).2.1 e
  .exact(hf b hb).2.2.1 e
 have loop:codeAny (Ϧ X.prog X.w) X.A (.compLoop (.ListComp elt [⟨tg,iter,ifs,0⟩] scope pos) 0 (.ref it) (.ref s.heap.objs.size) Y.env) (R (.ref s.heap.objs.size) s3.heap.objs.size) s4:=by
  refine aiA (λn s'=>∃i τ H',Inv Y [] τ H' s'/\tn i s'.heap/\(∀b∈fp,H' b=none)/\W i n τ H') ?_ m0 ⟨0,_,_,I4,tG,λb hb=>(gW b hb).1,w0⟩
  rintro n s5 ⟨i,τ,H5,I5,st5,fr5,w5⟩
  have toF:∀{α:Type}{t:Sem α}{Q:α->μ->Prop}{s:μ},π (Ϧ Y.prog Y.w) Y.A t Q Y.xe s->π (Ϧ X.prog X.w) X.A t Q (λ_ _=>False) s:=λh=>by
   rw[hP,hw,hA,hE]at h;exact h
  obtain⟨stop,qn⟩|⟨go,N,hN,step⟩:=turn i n τ H5 w5
  .have q:=T.done Y hP hw hK pN i [] s5 τ H5 (λ_ _=>False) I5 (λb hb=>lQ b hb _ (fr5 b hb)) st5 stop;rw[hA]at q;refine χ q λr s6 hZ=>?_
   obtain⟨hr,I6⟩:=hZ;subst hr;have IX6:Inv X ϵ σ H5 s6:=by
    have KJ:=I6;rw[<-hY]at KJ;exact Rt I3 gW KJ
   refine hR _ _ H5 s6 hD qn IX6 (I3.fpOk (ϭ _) ?_) ?_
   .have :=I6.free;rw[hloc]at this;exact this
   .obtain⟨m,hn,_⟩:=I6.loc;rw[hloc]at hn;exact⟨m,hn⟩
  .have q:=T.item Y hP hw hK pN i [] s5 τ H5 (λ_ _=>False) I5 (λb hb=>lQ b hb _ (fr5 b hb)) st5 go;rw[hA]at q;refine χ q λr s6 hZ=>?_
   obtain⟨u,hr,h6⟩:=hZ;subst hr;refine χ h6 λ_ s7 hZ=>?_
   obtain⟨x,H7,I7,r7,y7,jZ,Cq⟩:=hZ;have yL:=I7.pinned (λb hb=>lQ b hb _ (Cq b hb)) (T.obj _ _ jZ);have qP:∀{τ':St}{H8:Hp}{s8:μ},Inv Y ([]++dO fp s7.heap) τ' H8 s8->tn (i+1) s8.heap/\∀b∈fp,H8 b=none:=λ{τ' H8 s8} I8=>by
    refine⟨T.keep _ _ _ jZ λb hb o e=>(I8.pin (b,o) (acp _ (acp _ (mZ hb e)))).1,λb hb=>?_⟩;obtain⟨o,e,d⟩:=T.obj _ _ jZ b hb;exact(I8.pin (b,o) (acp _ (acp _ (mZ hb e)))).2.1
   refine toF (χ (step x H7 y7 _ s7 u yL r7) λ_ s8 hZ=>?_);obtain⟨τ8,H8,I8,q8⟩:=hZ;refine toF (χ (q8 _ s8 I8) λok s9 hZ=>?_);obtain⟨H9,I9,q9⟩:=hZ;cases ok with
   |false=>
    have lL:N τ8 H9:=by simpa using q9
    obtain⟨m',hm,w9⟩:=hN _ _ lL;obtain⟨k1,k2⟩:=qP I9;show ∃m,_;exact⟨m',hm,i+1,τ8,H9,I9.unpinned,k1,k2,w9⟩
   |true=>
    have lL:EV Y elt τ8 H9 λy H4=>∃xs,H4 s.heap.objs.size=some (.lst xs)/\xs.length<ϩ/\N τ8 (upd H4 s.heap.objs.size (.lst (xs++[y]))):=by simpa using q9
    show π _ _ _ _ _ _;refine toF (χ (lL _ s9 I9) λz fO hZ=>?_);obtain⟨y,iC,Gf,r10,xs,e10,l10,n10⟩:=hZ;refine toF (χ (jM _ fO τ8 iC (.ref s.heap.objs.size) [y] _ [z] (λv gJ=>v=.non/\gJ=upd iC s.heap.objs.size (.lst (xs++[y]))) Gf rfl (.cons r10 .nil) ⟨_,xs,y,rfl,rfl,e10,l10,rfl,rfl⟩) λ_ fV hZ=>?_);obtain⟨_,gJ,tM,_,_,Ae⟩:=hZ;subst Ae;obtain⟨m',hm,w11⟩:=hN _ _ n10;obtain⟨k1,k2⟩:=qP tM;exact⟨m',hm,i+1,τ8,_,tM.unpinned,k1,k2,w11⟩
 rw[hen]at loop;exact codeAny_compStart_list loop (T.self X.A 0 s4 _ _ tG loop)
theorem pB{Q:VK}(hc:X.calm=true)(S:bu X.env scope)(hs:∀x,foldedSetIterable iter X.env x=pure x)(h:EI X tg iter σ H λJ H1=>∀(fp:List δ)(D C:δ)(s3:μ),H1 D=none->fL X (aR X N' scope (Ϗ scope X.env) C s3 (upd H1 D (.lst [])) fp) tg elt ifs J D (bf N' X.N σ scope) H1 (λH'=>Q (.ref D) H')):EV X (.ListComp elt [⟨tg,iter,ifs,0⟩] scope pos) σ H Q:=by
 intro ϵ s I;rw[eval_ListComp];refine wpAny_comprehension_free (use:=none) rfl hs (zq (S.has I)) S.kind S.loc (χ (h ϵ s I) λv s1 h1=>χ h1 λitv s2 h2=>?_);obtain⟨it,fp,tn,J,H2,e,I2,T,st2,f2,q2⟩:=h2;subst e;refine QC (R:=λacc C=>compPost (Ϧ X.prog X.w) X.A X.xe none (EP X ϵ σ Q) acc C) (Q:=λD H'=>Q (.ref D) H') hc S I2 T st2 f2 (λD C s3 hD=>q2 fp D C s3 hD) λD C H' s' hD qD IX fC hn=>?_
 obtain⟨m,hn⟩:=hn;obtain⟨f0,f1,IV,f3,f4,f5⟩:=fC;exact⟨m,hn,λh' hsb=>⟨.ref D,H',IX.turned (t':=s'.toks) (λb o hb e=>hsb.extBut b o hb e) f0 f1 f3 f4 f5,rfl,qD⟩⟩
theorem agZ{D:Ends}{y:Str}{py spos:Pos}{j:Nat}(hsw:akr (.ListComp elt [⟨tg,iter,ifs,0⟩] scope pos) (some (.Name y py)) spos.line X.env=pure true)(hc:X.calm=true)(S:bu X.env scope)(hs:∀x,foldedSetIterable iter X.env x=pure x)(hN:X.N.Nodup)(hi:nameAt X.N y=some j)(hx:X.env.scope.names.lookup y=some .local)(h:EI X tg iter σ H λJ H1=>∀(fp:List δ)(E C:δ)(s3:μ),H1 E=none->fL X (aR X N' scope (Ϗ scope X.env) C s3 (upd H1 E (.lst [])) fp) tg elt ifs J E (bf N' X.N σ scope) H1 (λH'=>D.nx (σ.set j (some (.ref E))) H')):SX X (.Assign [.Name y py] (.ListComp elt [⟨tg,iter,ifs,0⟩] scope pos) spos) D σ H:=by
 intro ϵ s I;rw[exec_Assign_Name_used _ _ _ _ hsw];refine Ϫ (akH (Ϫ ?_));show π _ X.A (do let _<-comprehension (.ListComp elt [⟨tg,iter,ifs,0⟩] scope pos) scope X.env _ (newList []) false (eval iter X.env) (some (assign (.Name y py) X.env))) _ _ s;refine Ϫ (adu (wpAny_comprehension_free (use:=some (assign (.Name y py) X.env)) (Q:=λ_ s'=>SP X ϵ D .next s') rfl hs (zq (S.has I)) S.kind S.loc
  (χ (h ϵ s I) λv s1 h1=>χ h1 λitv s2 h2=>?_)) (λ_ s' hq=>ϲ (ϲ hq)) λ_ _ e=>e)
 obtain⟨it,fp,tn,J,H2,e,I2,T,st2,f2,q2⟩:=h2;subst e;refine QC (R:=λacc C=>compPost (Ϧ X.prog X.w) X.A X.xe (some (assign (.Name y py) X.env)) (λ_ s'=>SP X ϵ D .next s') acc C) (Q:=λE H'=>D.nx (σ.set j (some (.ref E))) H') hc S I2 T st2 f2 (λE C s3 hD=>q2 fp E C s3 hD) λE C H' s' hD qD IX fC hn=>?_
 obtain⟨m,hn⟩:=hn;obtain⟨f0,f1,IV,f3,f4,f5⟩:=fC;show π _ _ (assign (.Name y py) X.env (.ref E)) _ _ _;refine wpAny_assign_Name (qp IX hN (pM hi) (.inl hx) (v:=.ref E) rfl (λs'' Fv hb=>?_) (.inr hx));obtain⟨a,sb,ha⟩:=hb;have BL:C≠a:=by
  obtain ha|ha:=ha
  .rw[ha];exact f1
  .intro z;exact f4 y a ha z.symm
 refine⟨m,hn.sameBut sb BL,λh' hsb=>⟨σ.set j (some (.ref E)),H',Fv.turned (t':=s''.toks) (λb o hb e=>hsb.extBut b o hb e) f0 f1 f3 f4 f5,qD⟩⟩
theorem yE{Q:Bool->Hp->Prop}(q:Q true H):Ex X [] σ H Q:=λϵ s I=>by
 rw[List.forIn_nil];exact ϲ ⟨H,I,q⟩
theorem Xe{c:ν}{Q:Bool->Hp->Prop}(h:ET X c σ H Q):Ex X [c] σ H Q:=λϵ s I=>by
 rw[List.forIn_cons];simp only[if_true];refine Ϫ (Ϫ (χ (h ϵ s I) λk s1 q=>ϲ ?_));dsimp only;rw[List.forIn_nil];exact ϲ q
end
theorem Ε{c A B:Prop}[Decidable c](h1:c->A)(h2:¬c->B):if decide c=true then A else B:=by
 by_cases h:c
 .rw[if_pos (decide_eq_true h)];exact h1 h
 .rw[if_neg (by simpa using h)];exact h2 h
theorem aY{c A B:Prop}[Decidable c](q:B)(h:¬c:=by decide+kernel):if decide c=true then A else B:=Ε (λz=>absurd z h) λ_=>q
theorem cD{c A B:Prop}[Decidable c](q:A)(h:c:=by rfl):if decide c=true then A else B:=Ε (λ_=>q) λz=>absurd h z
theorem jg{c A B:Prop}[Decidable c](h1:¬c->A)(h2:c->B):if(!decide c)=true then A else B:=by
 by_cases h:c
 .rw[if_neg (by simp[h])];exact h2 h
 .rw[if_pos (by simp[h])];exact h1 h
theorem jr{k:Bool}{A B:Prop}(h1:k=true->A)(h2:k=false->B):if k=true then A else B:=by
 cases k with
 |true=>rw[if_pos rfl];exact h1 rfl
 |false=>rw[if_neg aaD];exact h2 rfl
theorem Dq{k:Bool}{A B:Prop}(h1:k=false->A)(h2:k=true->B):if(!k)=true then A else B:=by
 cases k with
 |true=>rw[if_neg (by decide)];exact h2 rfl
 |false=>rw[if_pos (by decide)];exact h1 rfl
theorem aeA{A B:Prop}(h:B):if(!true)=true then A else B:=by rw[if_neg (by decide)];exact h
theorem ahe{A B:Prop}(h:A):if(!false)=true then A else B:=by rw[if_pos (by decide)];exact h
theorem ζ.upd{H:Hp}{p:δ}{o:HO}(h:H p=none):ζ H (L2.upd H p o):=λb u e=>by rw[θ (Ι e h)];exact e
theorem ϙ{H:Hp}{p:δ}(h:H p=none)(o:HO):ζ H (upd H p o)/\(upd H p o) p=some o:=⟨ζ.upd h,υ⟩
theorem ζ.acA{K:Ϩ}{H H':Hp}{a:δ}{xs:List V}(e:ζ H H')(h:ψ K H a xs):ψ K H' a xs:=by
 rcases h with(h|⟨o,h⟩)|h
 .exact .inl (.inl (e _ _ h))
 .exact .inl (.inr ⟨o,e _ _ h⟩)
 .exact .inr h
section
variable{X:Cx}{a e:ν}{σ:St}{H:Hp}{Q:VK}{D:Ends}{pos p p':Pos}
theorem pO{tg:ν}{body:List ϧ}(hp:amZ (Ϧ X.prog X.w) X.A X.env X.xe)(hc:X.calm=true)(hg:Gl X "range")(hm:X.mg "range"=none)(hs:ϯ [a] X.env=[(false,eval a X.env)])(h:EV X a σ H λv H1=>∃n:Int,v=.int n/\ -(2^62)<=n/\n<2^62/\∃Pv:Nat->St->Hp->Prop,Pv 0 σ H1/\
   (∀i σ' H',i<n.toNat->Pv i σ' H'->EG X tg (.int i) σ' H' λσ2 H2=>Κ X body {D with nx:=Pv (i+1),ct:=Pv (i+1),bk:=D.nx} σ2 H2)/\∀σ' H',Pv n.toNat σ' H'->D.nx σ' H'):SX X (.For tg (.Call (.Name "range" p) [a] [] p') body [] pos) D σ H:=by
 refine qQ hp hc (by intro _;rfl) (Em hg hm hs (eQ hs (ϡ h λv H1 q=>?_)));obtain⟨n,rfl,h1,h2,Pv,h0,hst,hd⟩:=q;refine eY ⟨n,rfl,h1,h2,?_⟩;exact aby (g:=EG X tg) (tb:=Κ X body) Pv h0 (λi σ' H' hi hP=>by rw[aol];exact hst i σ' H' hi hP) hd
theorem tE{tg:ν}{body:List ϧ}(hp:amZ (Ϧ X.prog X.w) X.A X.env X.xe)(hc:X.calm=true)(hs:∀x,foldedSetIterable e X.env x=pure x)(h:EV X e σ H λv H1=>∃q xs,v=.ref q/\η X.K H1 q xs/\∃Pv:Nat->St->Hp->Prop,Pv 0 σ H1/\(∀i σ' H',i<=xs.length->Pv i σ' H'->η X.K H' q xs)/\
   (∀i x σ' H',xs[i]?=some x->Pv i σ' H'->EG X tg x σ' H' λσ2 H2=>Κ X body {D with nx:=Pv (i+1),ct:=Pv (i+1),bk:=D.nx} σ2 H2)/\∀σ' H',Pv xs.length σ' H'->D.nx σ' H'):SX X (.For tg e body [] pos) D σ H:=by
 refine qQ hp hc hs (qI (ϡ h λv H1 q=>?_));obtain⟨q,xs,rfl,hq,Pv,h0,hl,hst,hd⟩:=q;exact⟨q,rfl,⟨xs,hq⟩,ahO (g:=EG X tg) (tb:=Κ X body) Pv h0 hl hst hd⟩
theorem Jx{Y:Cx}{elt:ν}{J:It}{E:δ}{τ0:St}{Q:Hp->Prop}{y:Str}{py:Pos}{j:Nat}(hN:Y.N.Nodup)(hj:nameAt Y.N y=some j)(hx:Y.env.scope.names.lookup y=some .local)(n:Nat)(hn:n<=ϩ)(Pi:Nat->V->Prop)(It:Nat->V->Prop)(hE:H E=none)(go:∀i H1,ζ (upd H E (.lst [])) (upd H1 E (.lst []))->i<n->J.go i H1)(stop:∀H1,ζ (upd H E (.lst [])) (upd H1 E (.lst []))->J.stop n H1)(yld:∀i H1 x H2,i<n->ζ (upd H E (.lst [])) (upd H1 E (.lst []))->J.yld i H1 x H2->It i x/\H2=H1)(step:∀i x H1,i<n->It i x->ζ H H1->EV Y elt (τ0.set j (some x)) H1 λv H2=>Pi i v/\ζ H1 H2)(fin:∀H1 xs,xs.length=n->(∀i v,xs[i]?=some v->Pi i v)->H1 E=some (.lst xs)->ζ H H1->Q H1):fL X Y (.Name y py) elt [] J E τ0 H Q:=by
 have sU:∀{H1:Hp},ζ H H1->ζ (upd H E (.lst [])) (upd H1 E (.lst [])):=λ{H1} s b o e=>by
  by_cases hb:b=E
  .subst hb;rw[υ]at e⊢;exact e
  .rw[θ hb]at e⊢;exact s b o e
 refine⟨λi m τ H1=>m=n-i/\i<=n/\ζ H H1/\(τ=τ0\/∃x,τ=τ0.set j (some x))/\∃xs,H1 E=some (.lst xs)/\xs.length=i/\∀k v,xs[k]?=some v->Pi k v,⟨n,by simp,afS _,ζ.upd hE,.inl rfl,[],υ,rfl,λk v e=>by simp at e⟩,?_⟩
 rintro i m τ H1 ⟨rfl,hi,s1,hτ,xs,eE,lx,px⟩
 by_cases hlt:i<n
 .refine .inr ⟨go i H1 (sU s1) hlt,λτ' H'=>ζ H H'/\(τ'=τ0\/∃x,τ'=τ0.set j (some x))/\∃xs,H' E=some (.lst xs)/\xs.length=i+1/\∀k v,xs[k]?=some v->Pi k v,λτ' H' ⟨a,b,c⟩=>⟨n-(i+1),by omega,rfl,hlt,a,b,c⟩,λx H2 y=>?_⟩;obtain⟨hI,e2⟩:=yld i H1 x H2 hlt (sU s1) y;subst e2;refine Ο hN hj (.inl hx) (.inr hx) (yE ?_);rw[if_pos rfl];have eτ:τ.set j (some x)=τ0.set j (some x):=by
   obtain e|⟨z,e⟩:=hτ
   .rw[e]
   .rw[e,List.set_set]
  rw[eτ];refine ϡ (step i x H2 hlt hI s1) λv H3 ⟨pv,s2⟩=>⟨xs,s2 _ _ eE,by omega,?_⟩
  refine⟨λb o e=>?_,.inr ⟨x,rfl⟩,xs++[v],υ,by simp[lx],λk u e=>?_⟩
  .rw[θ (Ι e hE)];exact s2 _ _ (s1 _ _ e)
  .by_cases hk:k<xs.length
   .rw[ahS hk]at e;exact px k u e
   .have hk2:k=i:=by
     have:=(aae.mp e).1;rw[ab7,ad5]at this;omega
    subst hk2;rw[<-lx,ajP]at e;cases e;exact pv
 .have e:i=n:=by omega
  subst e;exact .inl ⟨stop H1 (sU s1),fin H1 xs lx px eE s1⟩
theorem O6{elt:ν}{scope:agJ}{y:Str}{py:Pos}{j:Nat}(N':List Str){σ':St}(S:bu X.env scope)(hm:X.mg "range"=none)(h:EV X a σ H λv H1=>∃n:Int,v=.int n/\ -(2^62)<=n/\n.toNat<=ϩ/\∃Pi:Nat->V->Prop,
   (∀(fp:List δ)(E C:δ)(s3:μ)(H0:Hp)(i:Nat)(H2:Hp),i<n.toNat->ζ H1 H2->EV (aR X N' scope (Ϗ scope X.env) C s3 H0 fp) elt (σ'.set j (some (.int i))) H2 λv H3=>Pi i v/\ζ H2 H3)/\
   ∀(E:δ)(H2:Hp)(xs:List V),H1 E=none->xs.length=n.toNat->(∀i v,xs[i]?=some v->Pi i v)->H2 E=some (.lst xs)->ζ H1 H2->Q (.ref E) H2)(hσ:bf N' X.N σ scope=σ':=by rfl)(hc:X.calm=true:=by rfl)(hN:N'.Nodup:=by decide+kernel)(hj:nameAt N' y=some j:=by rfl)(hx:scope.names.lookup y=some .local:=by rfl)(hg:Gl X "range":=by rfl)(hs:ϯ [a] X.env=[(false,eval a X.env)]:=by rfl):EV X (.ListComp elt [⟨.Name y py,.Call (.Name "range" p) [a] [] p',[],0⟩] scope pos) σ H Q:=by
 refine pB (N':=N') hc S (by intro _;rfl) (Em hg hm hs (eQ hs (ϡ h λv H1 q=>?_)));obtain⟨n,rfl,h1,h2,Pi,hst,hfin⟩:=q;have hsz:(ϩ:Nat)<2^62:=by rw[ϱ];decide
 refine eY ⟨n,rfl,h1,by omega,λfp E C s3 hE=>?_⟩;rw[hσ];refine Jx (Y:=aR X N' scope (Ϗ scope X.env) C s3 (upd H1 E (.lst [])) fp) hN hj (lookup_relabel_local hx) n.toNat h2 Pi (λi x=>x=.int i) hE (λi _ _ hi=>hi) (λ_ _=>ϭ _) (λi H1 x H2 _ _ yl=>?_) (λi x H2 hi ex s=>?_) (λH2 xs l px eE s=>hfin E H2 xs hE l px eE s)
 .obtain⟨e1,e2⟩:=yl;exact⟨by rw[e2,aol],e1⟩
 .subst ex;exact hst fp E C s3 _ i H2 hi s
theorem ahJ{elt:ν}{scope:agJ}{y:Str}{py:Pos}{j:Nat}(N':List Str){σ':St}(hσ:bf N' X.N σ scope=σ')(hc:X.calm=true)(S:bu X.env scope)(hN:N'.Nodup)(hj:nameAt N' y=some j)(hx:scope.names.lookup y=some .local)(hs:∀x,foldedSetIterable e X.env x=pure x)(h:EV X e σ H λv H1=>∃z:Str,v=.str z/\z.cps.size<=ϩ/\∃Pi:Nat->V->Prop,
   (∀(fp:List δ)(E C:δ)(s3:μ)(H0:Hp)(i c:Nat)(H2:Hp),z.cps.toList[i]?=some c->ζ H1 H2->EV (aR X N' scope (Ϗ scope X.env) C s3 H0 fp) elt (σ'.set j (some (.str ⟨#[c]⟩))) H2 λv H3=>Pi i v/\ζ H2 H3)/\
   ∀(E:δ)(H2:Hp)(xs:List V),H1 E=none->xs.length=z.cps.size->(∀i v,xs[i]?=some v->Pi i v)->H2 E=some (.lst xs)->ζ H1 H2->Q (.ref E) H2):EV X (.ListComp elt [⟨.Name y py,e,[],0⟩] scope pos) σ H Q:=by
 refine pB (N':=N') hc S hs (abv (ϡ h λv H1 q=>?_));obtain⟨z,rfl,h2,Pi,hst,hfin⟩:=q;refine⟨z,rfl,λfp E C s3 hE=>?_⟩;rw[hσ];refine Jx (Y:=aR X N' scope (Ϗ scope X.env) C s3 (upd H1 E (.lst [])) fp) hN hj (lookup_relabel_local hx) z.cps.size h2 Pi (λi x=>∃c,z.cps.toList[i]?=some c/\x=.str ⟨#[c]⟩) hE (λi _ _ hi=>hi) (λ_ _=>ϭ _) (λi H1 x H2 _ _ yl=>?_) (λi x H2 hi ex s=>?_) (λH2 xs l px eE s=>hfin E H2 xs hE l px eE s)
 .obtain⟨e1,c,e2,e3⟩:=yl;exact⟨⟨c,by simpa using e2,e3⟩,e1⟩
 .obtain⟨c,e1,e2⟩:=ex;subst e2;exact hst fp E C s3 _ i c H2 e1 s
end
section
variable{P:Ϯ}{w:Ϭ}{K:Ϩ}{mg:Str->Option ε}{base:ϫ}{cc:Bool}
abbrev dW(cc:Bool)(P:Ϯ)(w:Ϭ)(K:Ϩ)(mg:Str->Option ε)(base:ϫ)(N:List Str)(qual:Str)(scope:agJ)(f:δ)(cd:ε)(A:ϰ)(outer:List Env)(s:μ)(H:Hp)(E:XK):Cx:=
 jF cc (bQ P w) P w K mg base N qual scope f cd A outer s H E
theorem xf{x qual:Str}{st:ϧ}{ps N:List Str}{k:Nat}{sp:Sp}{f:δ}{fd:ahy}(F:cA K x qual st f fd)(S:Α N ps (ρ st))(len:∀vs H Q E,sp vs H Q E->vs.length=ps.length)(body:∀(Ϻ:ε)(A:ϰ)(outer:List Env)(s:μ)(H:Hp)(vs:List V)(Q:VK)(E:XK),ό cc k (A.deeper (envOfC qual (ρ st) s.heap.objs.size f Ϻ))->sp vs H Q E->
   Κ (dW cc P w K mg base N qual (ρ st) f Ϻ A outer s H E) (ϗ st) {nx:=λ_ H'=>Q .non H',rt:=Q} (start N vs) H):cL P w K mg base (bQ P w) cc (k+1) f fd ps sp:=by
 obtain⟨oc,od,kV,doc,pm,an,Ϻ,ct,osl,rfl,lk,hcd⟩:=id F.ex;exact HQ lk hcd S len λA outer s H vs Q E hr h=>⟨_,oR,body Ϻ A outer s H vs Q E hr h⟩
theorem Ν{x:Str}{st:ϧ}{ps N:List Str}{k:Nat}{sp:Sp}(F:∃f fd,cA K x x st f fd/\mg x=some (.ref f))(S:Α N ps (ρ st))(body:∀(f:δ)(Ϻ:ε)(A:ϰ)(outer:List Env)(s:μ)(H:Hp)(vs:List V)(Q:VK)(E:XK),ό cc k (A.deeper (envOfC x (ρ st) s.heap.objs.size f Ϻ))->sp vs H Q E->
   let X:=dW cc P w K mg base N x (ρ st) f Ϻ A outer s H E;Κ X (ϗ st) {nx:=λ_ H'=>Q .non H',rt:=Q} (start N vs) H)(hb:∀(kV doc pm:ε)(an:Option δ)(Ϻ ct:ε)(us:List ε),us.length=ps.length->bindArgs (anZ x x (iI st) (ϗ st) (ρ st) .none kV doc pm an Ϻ ct) ⟨us,[]⟩=pure (ps.zip us):=by walk_at"bb")(len:∀vs H Q E,sp vs H Q E->vs.length=ps.length:=by walk_at"ln"):Def P w K mg base cc (k+1) x ps sp:=by
 obtain⟨f,fd,F,hm⟩:=F;exact⟨f,fd,hm,F.kp,F.binds hb,xf F S len λϺ A outer s H vs Q E hr h=>body f Ϻ A outer s H vs Q E hr h⟩
end
def ώ(z:Str)(lo hi:Option Int):Str:=⟨((z.cps.toList.drop (HT.Ω z.length 0 lo)).take (HT.Ω z.length z.length hi-HT.Ω z.length 0 lo)).toArray⟩
theorem uO(n d:Nat)(v:Int):max 0 (min (if v<0 then v+(n:Int)else v) (n:Int))=((HT.Ω n d (some v):Nat):Int):=by
 rw[<-HT.ajU];split <;>omega
theorem Om(lo hi:Option Int)(n:Nat):Builtin.Str.strSliceIndices lo hi 1 n=(ady (HT.Ω n n hi-HT.Ω n 0 lo)).map (λm=>HT.Ω n 0 lo+m):=by
 have e:Builtin.Str.strSliceIndices lo hi 1 n=sliceRange ((HT.Ω n 0 lo:Nat):Int) ((HT.Ω n n hi:Nat):Int) 1:=by
  cases lo with
  |none=>
   cases hi with
   |none=>rfl
   |some v=>rw[<-uO n n v];rfl
  |some u=>
   cases hi with
   |none=>rw[<-uO n 0 u];rfl
   |some v=>rw[<-uO n 0 u, <-uO n n v];rfl
 rw[e];generalize HT.Ω n 0 lo=a;generalize HT.Ω n n hi=b;by_cases h:a<=b
 .have :=StrLaws.strSliceIndices_plain (len:=b) h (ϭ b);rw[<-this];have e2:Builtin.Str.strSliceIndices (some (a:Int)) (some (b:Int)) 1 b=sliceRange (a:Int) (b:Int) 1:=by
   have h1:¬((a:Int)<0):=by omega
   have h2:¬((b:Int)<0):=by omega
   have e1:max (0:Int) (min (a:Int) (b:Int))=a:=by omega
   have e2:max (0:Int) (min (b:Int) (b:Int))=b:=by omega
   simp only[Builtin.Str.strSliceIndices,h1,h2,if_false,e1,e2,show((1:Int)>0)=True from by simp,if_true]
  rw[e2]
 .have e3:b-a=0:=by omega
  rw[e3];have:¬((a:Int)<b):=by omega
  simp[sliceRange,this]
theorem U4(z:Str)(lo hi:Option Int):(⟨((Builtin.Str.strSliceIndices lo hi 1 z.length).filterMap (z.cps[·]?)).toArray⟩:Str)=ώ z lo hi:=by
 rw[Om];unfold ώ;have h1:=HT.Oi z.length z.length (ϭ _) hi;have hl:z.cps.toList.length=z.length:=by simp[Str.length]
 by_cases h:HT.Ω z.length 0 lo<=HT.Ω z.length z.length hi
 .have :=StrLaws.picks z.cps.toList (HT.Ω z.length z.length hi-HT.Ω z.length 0 lo) (HT.Ω z.length 0 lo) (by omega);rw[<-this];simp
 .have e3:HT.Ω z.length z.length hi-HT.Ω z.length 0 lo=0:=by omega
  rw[e3];simp
theorem Nx{v:ε}{o:Option Int}(h:IsPart v o):∃l:Option (Int×Tok),v=partValue l/\l.map (·.1)=o:=by
 cases h with
 |none=>exact⟨none,rfl,rfl⟩
 |int i t=>exact⟨some (i,t),rfl,rfl⟩
theorem acO{X:Cx}:qU X (λx lo hi H Q=>∃z,x=.str z/\z.length<=ϩ/\Q (.str (ώ z lo hi)) H):=by
 intro ϵ s σ H x v vl vu lo hi sl Q I rx hs pl pu h;obtain⟨z,rfl,hz,q⟩:=h;obtain⟨t,rfl⟩:=rx;refine⟨"str",_,F.slot_str_getitem.lookup,typeIs_str s z t,?_⟩;obtain⟨l,rfl,rfl⟩:=Nx pl;obtain⟨u,rfl,rfl⟩:=Nx pu;have hsl:s.heap.IsSlice sl l u none:=by
  obtain⟨o,ho,hc,hd⟩:=hs;exact⟨o,ho,hc,hd⟩
 refine wpAny_getItem_str_slice hsl rfl ?_;have e:(slicePicked z l u none)=Builtin.Str.strSliceIndices (l.map (·.1)) (u.map (·.1)) 1 z.length:=rfl;unfold sliceMade;have key:(⟨((slicePicked z l u none).filterMap (z.cps[·]?)).toArray⟩:Str)=ώ z (l.map (·.1)) (u.map (·.1)):=by rw[e];exact U4 z _ _
 split
 .rename_i hh;have hlen:(slicePicked z l u none).length=z.length:=by
   simp only[aaH,beq_iff_eq]at hh;exact hh.2
  have whole:ώ z (l.map (·.1)) (u.map (·.1))=z:=by
   rw[e,Om,aaf,af7]at hlen;have h1:=HT.Oi z.length z.length (ϭ _) (u.map (·.1));have hl:z.cps.toList.length=z.length:=by simp[Str.length]
   unfold ώ;by_cases hz0:z.length=0
   .have :z.cps.toList=[]:=List.eq_nil_of_length_eq_zero (by omega);rw[this];have e2:z.cps= #[]:=by
     have:=congrArg aee this;simpa using this
    obtain⟨c⟩:=z;simp at e2;subst e2;simp
   .have ha:HT.Ω z.length 0 (l.map (·.1))=0:=by omega
    have hb:HT.Ω z.length z.length (u.map (·.1))=z.length:=by omega
    rw[ha,hb,an0,aom,agN (by omega)]
  exact⟨.str (ώ z (l.map (·.1)) (u.map (·.1))),H,I,⟨t,by rw[whole]⟩,q⟩
 .rw[key];refine⟨?_,.str (ώ z (l.map (·.1)) (u.map (·.1))),H,I.tok _,⟨_,rfl⟩,q⟩;have:(ώ z (l.map (·.1)) (u.map (·.1))).length<=z.length:=by
   unfold ώ Str.length;simp;omega
  omega
section
variable{X:Cx}{H:Hp}{Q:VK}{z y:Str}
theorem ju{lo hi:Option Int}(g:Q (.str (ώ z lo hi)) H)(h:z.length<=ϩ:=by omega):SL X (.str z) lo hi H Q:=⟨_,acO,z,rfl,h,g⟩
theorem dZ{id:String}{r:V->List V->Hp->VK->Prop}{x:V}{xs:List V}(h:tD X id r)(q:r x xs H Q):MT X id x xs H Q:=⟨r,h,q⟩
theorem Ls{ys:List Str}:∀{us:List ε},Vals (ys.map V.str) us->StrsAre us ys:=by
 induction ys with
 |nil=>intro us r;cases r;exact .nil
 |cons y ys ih=>
  intro us r;cases r with
  |cons r rr=>
   obtain⟨t,rfl⟩:=r;exact .cons y t (ih rr)
theorem qw{q:δ}{ys:List Str}(h:η X.K H q (ys.map V.str))(hw:(ys.map (·.length)).sum+ys.length*z.length<=16777216)(g:Q (.str (Str.join z ys)) H):MT X "str.join" (.str z) [.ref q] H Q:=by
 refine dZ (r:=λx xs H Q=>∃z q ys,x=.str z/\xs=[.ref q]/\η X.K H q (ys.map V.str)/\(ys.map (·.length)).sum+ys.length*z.length<=16777216/\Q (.str (Str.join z ys)) H) ?_ ⟨z,q,ys,rfl,rfl,h,hw,g⟩;intro ϵ s σ H x xs v us Q I rx rs h;obtain⟨z,q,ys,rfl,rfl,h,hw,g⟩:=h;obtain⟨t,rfl⟩:=rx;obtain⟨u,rfl,ru⟩:=vals1 rs;cases(show u=Value.ref q from ru);obtain⟨ϸ,rv,pl,_⟩:=I.list h;refine join_list pl.isList (by simpa using Ls rv) hw λt' k=>⟨.str (Str.join z ys),H,I.tok k,⟨t',?_⟩,g⟩
 have e:Txt.join z ys=Str.join z ys:=by
  unfold Txt.join;cases ys with
  |nil=>rfl
  |cons y r=>exact StrLaws.glued_cons z r y
 rw[e]
theorem Pn(g:Q (.bl (Txt.startswith z y)) H):MT X "str.startswith" (.str z) [.str y] H Q:=by
 refine dZ (r:=λx xs H Q=>∃z y,x=.str z/\xs=[.str y]/\Q (.bl (Txt.startswith z y)) H) ?_ ⟨z,y,rfl,rfl,g⟩;intro ϵ s σ H x xs v us Q I rx rs h;obtain⟨z,y,rfl,rfl,g⟩:=h;obtain⟨t,rfl⟩:=rx;obtain⟨u,rfl,ru⟩:=vals1 rs;obtain⟨t',rfl⟩:=ru;exact SC.startswith ⟨.bl _,H,I,rfl,g⟩
theorem Il{q:δ}{bs:List Bool}(hc:X.calm=true)(h:η X.K H q (bs.map V.bl))(g:Q (.bl (bs.all id)) H):CL X (.builtin "all") [.ref q] H Q:=by
 refine dC (r:=λxs H Q=>∃q bs,xs=[.ref q]/\η X.K H q (bs.map V.bl)/\Q (.bl (bs.all id)) H) ?_ ⟨q,bs,rfl,h,g⟩;intro ϵ s σ H xs us Q I r h;obtain⟨q,bs,rfl,h,g⟩:=h;obtain⟨u,rfl,ru⟩:=vals1 r;cases(show u=Value.ref q from ru);obtain⟨ϸ,rv,pl,hz⟩:=I.list h;refine call_all_walk (wpAny_pyIter_list pl.isList ?_);have hq:q<s.heap.objs.size:=by
  obtain⟨o,ho,_⟩:=pl.isList;exact aaY ho
 have hlen:ϸ.length=bs.length:=by have:=rv.length;rw[aaf]at this;exact this.symm
 refine⟨s.heap.objs.size,[s.heap.objs.size,q],[s.heap.objs.size],ϸ.toArray.size,(λi v=>ϸ.toArray[i]?=some v),(λi h=>h.IsListIter s.heap.objs.size q i/\h.IsList q ϸ.toArray),λi=>bs.getD i true,rfl,Walks.list (A:=X.A.in1) (show X.A.in1.handled=none from I.ok.hd hc) s.heap.objs.size q (abF hq) ϸ.toArray,⟨⟨_,abE _ rfl,rfl,rfl⟩,?_⟩,?_,λh' tk hk=>?_⟩
 .obtain⟨o,ho,r⟩:=pl.isList;exact⟨o,Heap.get?_push_of_some _ ho,r⟩
 .intro i v s Q E hv hq;have hv':ϸ[i]?=some v:=by simpa using hv
  have hi:i<bs.length:=by rw[<-hlen];exact(aae.mp hv').1
  obtain⟨u,e1,e2⟩:=rv.get (i:=i) (x:=V.bl bs[i]) (by simp[hi]);rw[hv']at e1;cases e1;cases(show v=Value.bool bs[i]from e2);refine afP ?_;have:bs.getD i true=bs[i]:=by simp[hi]
  have hq':Q (bs.getD i true) s:=hq;rw[this]at hq';exact hq'
 .have e:(ady ϸ.toArray.size).all (λi=>bs.getD i true)=bs.all id:=by
   rw[aaU,hlen,aik,adM,adM];constructor
   .intro h b hb;obtain⟨i,hi,e⟩:=amU hb;have:=h i (by simpa using hi);simpa [hi,e]using this
   .intro h i hi;have hi':i<bs.length:=by simpa using hi
    have:=h bs[i] (ahu hi');simpa [hi']using this
  rw[e];have fp:=I.fpOk (ϭ _) (I.hok.fresh (ϭ _));have I1:Inv X ϵ σ H {s with heap:=s.heap.push {cls:=.type "list_iterator",data:=.fields #[.ref q,.int 0 0]}}:=I.kept (t':=s.toks) λb o e=>Heap.get?_push_of_some _ e
  refine⟨.bl _,H,I1.turned (it:=s.heap.objs.size) (λb o hb e=>hk b o (by simpa using hb) e) (I.hok.fresh (ϭ _)) fp.2.1 fp.2.2.2.1 fp.2.2.2.2.1 fp.2.2.2.2.2,rfl,g⟩
end
theorem cC{env:Env}{scope:agJ}(sc:agJ)(hsc:env.scope=sc:=by rfl)(hk:scope.kind=.function:=by rfl)(h:(scope.names.all λy=>(if y.2==.free then(sc.names.lookup y.1==some .cell||sc.names.lookup y.1==some .free)else true)&&y.2 !=.cell&&(if y.2==.local then scope.names.lookup y.1==some .local else true))=true:=by decide+kernel):bu env scope:=by
 have h':=adM.mp h;refine⟨hk,λy hy e=>?_,λy hy e=>?_,λy hy e=>?_⟩
 .have q:=h' y hy;simp only[e,beq_self_eq_true,if_true,aaH,am1,beq_iff_eq]at q;show env.scope.names.lookup y.1=_\/env.scope.names.lookup y.1=_;rw[hsc];exact q.1.1
 .have q:=h' y hy;rw[e]at q;simp at q
 .have q:=h' y hy;simp only[e,aaH,beq_iff_eq,beq_self_eq_true,if_true]at q;exact q.2
theorem jT{α:Type}{xs:List V}{ys:List α}(f:α->V)(hl:xs.length=ys.length)(h:∀(i:Nat) v,xs[i]?=some v->∃c,ys[i]?=some c/\v=f c):xs=ys.map f:=by
 apply List.ext_getElem?;intro i;rw[aa2];cases e:xs[i]? with
 |none=>
  have:xs.length<=i:=List.getElem?_eq_none_iff.mp e;rw[List.getElem?_eq_none (by omega)];rfl
 |some v=>
  obtain⟨c,e1,e2⟩:=h i v e;rw[e1,e2];rfl
section
variable{X:Cx}{H:Hp}{Q:VK}
theorem aa7(q:Q (.int 1000000000) H):OP X (binaryOp .Pow) (.int 10) (.int 9) H Q:=Bs ⟨by decide,by decide,by decide⟩ (show Q (.int (10^(9:Int).toNat)) H from(show(10:Int)^(9:Int).toNat=1000000000 from by decide)▸q)
theorem aii(q:Q (.int 1000000000000000000) H):OP X (binaryOp .Pow) (.int 10) (.int 18) H Q:=Bs ⟨by decide,by decide,by decide⟩ (show Q (.int (10^(18:Int).toNat)) H from(show(10:Int)^(18:Int).toNat=1000000000000000000 from by decide)▸q)
end
def EJ(X:Cx)(vs:List ν)(out:Str)(σ:St)(H:Hp)(Q:VK):Prop:=
 ∀(ϵ:List (δ×Obj))(s:μ),Inv X ϵ σ H s->π (Ϧ X.prog X.w) X.A (joinParts out (evalEach vs X.env)) (EP X ϵ σ Q) X.xe s
section
variable{X:Cx}{σ:St}{H:Hp}{Q:VK}{v v₁ v₂:ν}{rest:List ν}{pos:Pos}{out:Str}
theorem Ux(h:EJ X (v₁::v₂::rest) Str.empty σ H Q):EV X (.JoinedStr (v₁::v₂::rest) pos) σ H Q:=λϵ s I=>h ϵ s I
theorem V4(hl:out.length<=ϩ)(q:Q (.str out) H):EJ X [] out σ H Q:=λϵ s I=>joinParts_nil ⟨.str out,H,I.tok _,⟨_,rfl⟩,q⟩ hl
theorem Yn(h:EV X v σ H λx H1=>∃y,x=.str y/\(out++y).length<=ϩ/\EJ X rest (out++y) σ H1 Q):EJ X (v::rest) out σ H Q:=λϵ s I=>by
 refine joinParts_cons (χ (h ϵ s I) λu s1 hZ=>?_);obtain⟨x,H1,I1,r,y,e,hl,q⟩:=hZ;subst e;obtain⟨t,rfl⟩:=r;exact⟨hl,q ϵ s1 I1⟩
theorem oX(h:EV X v σ H λx H1=>∃z,x=.str z/\z.length<=ϩ/\Q (.str z) H1):EV X (.FormattedValue v (-1) none pos) σ H Q:=λϵ s I=>by
 refine FormattedValue_plain (χ (h ϵ s I) λu s1 hZ=>?_);obtain⟨x,H1,I1,r,z,e,hl,q⟩:=hZ;subst e;obtain⟨t,rfl⟩:=r;exact formatField_str (λt' tk=>⟨.str z,H1,I1.tok tk,⟨t',rfl⟩,q⟩) hl
theorem DW(h:EV X v σ H λx H1=>∃i,x=.int i/\i.natAbs.log2<1920/\Q (.str (toString i)) H1):EV X (.FormattedValue v (-1) none pos) σ H Q:=λϵ s I=>by
 refine FormattedValue_plain (χ (h ϵ s I) λu s1 hZ=>?_);obtain⟨x,H1,I1,r,z,e,hl,q⟩:=hZ;subst e;obtain⟨t,rfl⟩:=r;exact formatField_int_small hl ⟨.str (toString z),H1,I1.tok _,⟨_,rfl⟩,q⟩
end
def jL(X:Cx)(vs:List ν)(n:Nat)(σ:St)(H:Hp)(R:Hp->Prop):=∀out:Str,out.length<=n->∀Q:VK,(∀z H',R H'->Q (.str z) H')->EJ X vs out σ H Q
theorem JW(x y:Str):(x++y).length=x.length+y.length:=by
 show(x.cps++y.cps).size=_;rw[aoh];rfl
section
variable{X:Cx}{σ:St}{H:Hp}{Q:VK}{R:Hp->Prop}{v v₁ v₂:ν}{rest:List ν}{pos:Pos}{n:Nat}
theorem ahW(h:jL X (v₁::v₂::rest) 0 σ H λH'=>∀z,Q (.str z) H'):EV X (.JoinedStr (v₁::v₂::rest) pos) σ H Q:=Ux (h Str.empty (ϭ _) Q λz H' r=>r z)
theorem ab3(hn:n<=ϩ)(r:R H):jL X [] n σ H R:=λout ho Q k=>V4 (aft ho hn) (k out H r)
theorem M5(h:EV X v σ H λx H1=>∃y m,x=.str y/\y.length<=m/\n+m<=ϩ/\jL X rest (n+m) σ H1 R):jL X (v::rest) n σ H R:=λout ho Q k=>
 Yn (ϡ h λx H1 ⟨y,m,e,hy,hm,q⟩=>⟨y,e,by rw[JW];omega,q (out++y) (by rw[JW];omega) Q k⟩)
end
abbrev dw:List ε:=[.type "ValueError",.type "Exception",.type "BaseException",.type "object"]
def ι(mg:Str->Option ε)(x:Str):δ:=match mg x with
 |some (.ref C)=>C
 |_=>0
theorem bY{mg:Str->Option ε}{x:Str}{C:δ}(h:mg x=some (.ref C)):ι mg x=C:=by unfold ι;rw[h]
structure pF(K:Ϩ)(mg:Str->Option ε)(x:Str):Prop where
 at_:mg x=some (.ref (ι mg x))
 ex:aoT K (ι mg x) dw "ValueError.__new__"=true
theorem aeP{K:Ϩ}{mg:Str->Option ε}{x:Str}{C:δ}(h:mg x=some (.ref C))(e:aoT K C dw "ValueError.__new__"=true):pF K mg x:=by
 have z:ι mg x=C:=by unfold ι;rw[h]
 exact⟨by rw[z];exact h,by rw[z];exact e⟩
theorem ahN{K:Ϩ}{h:ϫ}{N:δ}{mg:Str->Option ε}{n:Str}{v:ε}(X:K.In h)(G:h.Ns N mg)(e:aoJ K N n=some (some v)):mg n=some v:=by
 obtain⟨o,es,ep,ho,hd,_,hf⟩:=G;unfold aoJ at e;split at e
 .rename_i c d es' n' sl q;have:=X _ _ q;rw[ho]at this;cases this;cases hd;split at e
  .rename_i en he;cases e;rw[<-hf];unfold nsFind findBy;rw[<-aoa,he];rfl
  .split at e<;>cases e
 .cases e
def zR(K:Ϩ)(C:δ)(i:Option ε):Bool:=match K.lookup C with
 |some ⟨.type "type",_,.cls cd,sl⟩=>(match cd.mro,sl.toList with
  |.ref C'::bm,[_,_,_,_,some (.builtin n),_]=>C'==C&&n=="ValueError.__new__"&& !cd.hasDel&&W.tailIn K dw bm&&W.nsOkIn K cd.ns&&aoJ K cd.ns "__init__"==some i
  |_,_=>false)
 |_=>false
theorem Gy{K:Ϩ}{C:δ}{h:ϫ}{i:Option ε}(kin:K.In h)(e:zR K C i=true):∃bm N nm q bs hdct sn sub ab col dd k0 k1 k2 k3 k5 mN,h.get? C=some (excClassObj nm q C N bs bm hdct sn sub ab col dd k0 k1 k2 k3 k5 "ValueError.__new__")/\h.Ns N mN/\mN "__init__"=i/\OwnTail h dw bm:=by
 unfold zR at e;split at e
 .rename_i dd cd sl ho;split at e
  .rename_i C' bm k0 k1 k2 k3 n k5 hm hs;simp only[aaH,beq_iff_eq,Bool.not_eq_true']at e;obtain⟨⟨⟨⟨⟨e1,e2⟩,e3⟩,e4⟩,e5⟩,e6⟩:=e;subst e1 e2;obtain⟨nm,bs,mro,ns,qn,hd,sn,sub,ab,col,del⟩:=cd;dsimp only at hm e3 e5 e6;subst hm e3;have hl:sl= #[k0,k1,k2,k3,some (.builtin "ValueError.__new__"),k5]:=by
    obtain⟨l⟩:=sl;simp only at hs;rw[hs]
   subst hl;have hN:h.Ns ns (h.nsMap ns):=.of_isNs (W.isNs_of_in kin e5);refine⟨bm,ns,nm,qn,bs,hd,sn,sub,ab,col,dd,k0,k1,k2,k3,k5,_,kin _ _ ho,hN,?_,W.tail_of_in kin e4⟩;cases i with
   |none=>exact W.nsMap_none_of_in kin e5 e6
   |some v=>exact ahN kin hN e6
  .cases e
 .cases e
theorem adW{K:Ϩ}{C:δ}{h:ϫ}(kin:K.In h)(e:aoT K C dw "ValueError.__new__"=true):∃bm N nm q bs hdct sn sub ab col dd k0 k1 k2 k3 k5 mN,h.get? C=some (excClassObj nm q C N bs bm hdct sn sub ab col dd k0 k1 k2 k3 k5 "ValueError.__new__")/\h.Ns N mN/\mN "__init__"=none/\OwnTail h dw bm:=Gy kin e
section
variable{X:Cx}{Kx:St->XK}{D:Ends}{σ:St}{H:Hp}{x:Str}{np cpos pos:Pos}{e:ν}{es:List ν}
theorem fB(hx:bc X Kx)(O:pF X.K X.mg x)(h:EA X (e::es) σ H λvs H1=>vs.length<=ϩ/\Kx σ (.ref (ι X.mg x)) (none,true) H1)(hc:X.calm=true:=by rfl)(hg:Gl X x:=by rfl)(hd:(x==("__debug__":Str))=false:=by decide)(he:ϯ (e::es) X.env=(false,eval e X.env)::ϯ es X.env:=by rfl)(hpl:(backTo cpos (ϯ es X.env)).any (·.1)=false:=by rfl):SX X (.Raise (some (.Call (.Name x np) (e::es) [] cpos)) none pos) D σ H:=by
 intro ϵ s I;obtain⟨bm,N,nm,q,bs,hdct,sn,sub,ab,col,dd,k0,k1,k2,k3,k5,mN,hC,hN,hni,T⟩:=adW I.ok.mod.kin O.ex;refine wpAny_Raise_call_subT (C:=ι X.mg x) (nm:=nm) (q:=q) (N:=N) (bs:=bs) (bm:=bm) (hdct:=hdct) (sn:=sn) (sub:=sub) (ab:=ab) (col:=col) (dd:=dd) (k0:=k0) (k1:=k1) (k2:=k2) (k3:=k3) (k5:=k5)
  F.excBase_ValueError (mN:=mN) (T.hasType (by decide+kernel)) (I.ok.hd hc) ?_ hni (lE I hg O.at_ ⟨rfl,?_⟩ hd)
 .rw[he];show(false||(backTo cpos (ϯ es X.env)).any (·.1))=false;rw[hpl];rfl
 .have h':=h cpos ϵ s I;rw[he]at h'⊢;refine Calls.evalArgs_plain (χ h' λus s2 ⟨vs,H1,I2,r,hl,kq⟩=>⟨rfl,by rw[<-r.length];exact hl,I2.bk _ _ hC,hN.keeps I2.bk,T.keeps I2.bk,λh3 a M=>?_⟩);obtain⟨t,m1,m2,m3⟩:=M.there;refine hx ϵ σ H1 _ a _ (none,true) ⟨I2.kept (t':=s2.toks) M.keeps,none,.none,⟨_,_,m1,rfl,rfl,rfl,rfl,by simp,Ctx.yes rfl,λT z=>nomatch z⟩,.inl rfl,λb hb=>?_⟩ kq;have z:b=a:=by simpa using hb
  subst z;exact⟨I2.hok.free M.new,I2.ch M.new⟩
end
abbrev Cx.tri(X:Cx)(F:ε->μ->Prop)(pn:List (δ×Obj)):Cx:={X with xe:=F,pn:=pn}
section
variable{X:Cx}{ϵ pins':List (δ×Obj)}{σ:St}{H:Hp}{s:μ}{F:ε->μ->Prop}{e:ε}
theorem Cx.Ok.tri(ok:X.Ok)(pn:List (δ×Obj)):(X.tri F pn).Ok:=
 ⟨ok.mod,ok.kind,ok.glob,ok.blt,ok.above,ok.inj,ok.has,ok.cab,ok.hd,ok.frames,ok.stk,ok.exf,ok.bs,ok.bsz,ok.noex,ok.exfs,ok.funs,ok.frf⟩
theorem Inv.tri(I:Inv X ϵ σ H s):Inv (X.tri F (X.pn++ϵ)) [] σ H s:=
 ⟨I.ok.tri _,I.os,I.bare,I.base,I.loc,I.cell,I.free,I.freeC,λp hp=>I.pin p (by simpa using hp),I.hok,I.len⟩
theorem Inv.jE(ok:X.Ok)(I:Inv (X.tri F (X.pn++ϵ)) pins' σ H s):Inv X ϵ σ H s:=
 ⟨ok,I.os,I.bare,I.base,I.loc,I.cell,I.free,I.freeC,λp hp=>I.pin p (agg _ hp),I.hok,I.len⟩
theorem Ch.jE{b:δ}(c:Ch (X.tri F (X.pn++ϵ)) pins' b):Ch X ϵ b:=⟨c.1,c.2.1,c.2.2.1,λp hp=>c.2.2.2 p (agg _ hp)⟩
end
def EH(X:Cx)(hs:List alO)(D:Ends)(σ:St)(cls:ε)(d:Option δ×Bool)(H:Hp):Prop:=
 ∀(ϵ:List (δ×Obj))(s:μ)(e T:δ),Inv X ϵ σ H s->bO s.heap e cls d (some T) .none->(∀b∈[e,T],H b=none/\Ch X ϵ b)->
  π (Ϧ X.prog X.w) X.A (handleBy (.ref e) X.env hs) (SP X ϵ D) X.xe s
section
variable{X:Cx}{D:Ends}{σ:St}{H:Hp}{h₀:alO}{hs rest:List alO}{body orelse suite:List ϧ}{b₀:ϧ}{pos np:Pos}{x n:Str}{cls c:ε}{d:Option δ×Bool}
theorem age(Kx:St->XK)(hst:X.stack=X.env::X.outer)(hf:X.env.frame=some X.env.locals)(hb:∀F pn,bc (X.tri F pn) Kx->amZ (Ϧ X.prog X.w) X.A X.env F->Κ (X.tri F pn) body {D with nx:=λσ' H'=>Κ X orelse D σ' H'} σ H)(hh:∀σ' cls d H',Kx σ' cls d H'->EH X (h₀::hs) D σ' cls d H'):SX X (.Try body (h₀::hs) orelse [] pos) D σ H:=by
 intro ϵ s I;refine wpAny_Try_except ?_;refine adu (hb (λe s1=>π (Ϧ X.prog X.w) X.A (noteFrame e X.env) (λ_ s2=>π (Ϧ X.prog X.w) X.A (setFlight e none) (λ_ s3=>π (Ϧ X.prog X.w) X.A (handleBy e X.env (h₀::hs)) (SP X ϵ D) X.xe s3) X.xe s2) X.xe s1)
  (X.pn++ϵ) ?_ PassesOwn.looking [] s I.tri) (λf s1 q=>?_) λ_ _ q=>q
 .intro pins' σ' H' s' e cls d xa q;obtain⟨I',tb,fl,F',hfl,ch⟩:=xa;have I2:=Inv.jE I.ok I';refine qM.note (X:=X) (ϵ:=ϵ) ⟨I2,tb,fl,F',hfl,λb hb=>⟨(ch b hb).1,(ch b hb).2.jE⟩⟩ hst hf λs2 T I3 F3 c3=>?_
  exact I3.off F3 c3 λs4 I4 F4=>hh σ' cls d H' q ϵ s4 e T I4 F4 c3
 .cases f with
  |next=>
   obtain⟨σ',H',J,q⟩:=q;exact q ϵ s1 (Inv.jE I.ok J)
  |brk=>
   obtain⟨σ',H',J,q⟩:=q;exact⟨σ',H',Inv.jE I.ok J,q⟩
  |cont=>
   obtain⟨σ',H',J,q⟩:=q;exact⟨σ',H',Inv.jE I.ok J,q⟩
  |ret u=>
   obtain⟨v,σ',H',J,r,q⟩:=q;exact⟨v,σ',H',Inv.jE I.ok J,r,q⟩
end
mutual
inductive RD (K:Ϩ) (H:Hp):V->amX->Prop
 |non:RD K H .non .none
 |bl (b:Bool):RD K H (.bl b) (.bool b)
 |int (i:Int):RD K H (.int i) (.int i)
 |str (x:Str):RD K H (.str x) (.str x)
 |lst {a:δ} {xs:List V} {ds:List amX} (h:η K H a xs) (r:cj K H xs ds):RD K H (.ref a) (.list ds)
 |tup {a:δ} {xs:List V} {ds:List amX} (h:ψ K H a xs) (r:cj K H xs ds):RD K H (.ref a) (.tuple ds)
inductive cj (K:Ϩ) (H:Hp):List V->List amX->Prop
 |nil:cj K H [] []
 |cons {x:V} {d:amX} {xs:List V} {ds:List amX} (h:RD K H x d) (r:cj K H xs ds):cj K H (x::xs) (d::ds)
end
mutual
theorem RD.same{K:Ϩ}{H H':Hp}(e:ζ H H'):∀{v:V}{d:amX},RD K H v d->RD K H' v d
 |_,_,.non=>.non
 |_,_,.bl b=>.bl b
 |_,_,.int i=>.int i
 |_,_,.str x=>.str x
 |_,_,.lst h r=>.lst (e.seq h) (cj.same e r)
 |_,_,.tup h r=>.tup (e.acA h) (cj.same e r)
theorem cj.same{K:Ϩ}{H H':Hp}(e:ζ H H'):∀{v:List V}{d:List amX},cj K H v d->cj K H' v d
 |_,_,.nil=>.nil
 |_,_,.cons h r=>.cons (RD.same e h) (cj.same e r)
end
mutual
theorem RD.reads{X:Cx}{ϵ:List (δ×Obj)}{σ:St}{H:Hp}{s:μ}(I:Inv X ϵ σ H s):∀{v:V}{d:amX}{u:ε},RD X.K H v d->RelV v u->∃as,Reads s.heap u d as
 |_,_,_,.non,e=>by cases(show _=Value.none from e);exact⟨_,.none⟩
 |_,_,_,.bl b,e=>by cases(show _=Value.bool b from e);exact⟨_,.bool b⟩
 |_,_,_,.int i,e=>by obtain⟨t,rfl⟩:=e;exact⟨_,.int i t⟩
 |_,_,_,.str x,e=>by obtain⟨t,rfl⟩:=e;exact⟨_,.str x t⟩
 |_,_,_,.lst h r,e=>by
  cases(show _=Value.ref _ from e);obtain⟨ϸ,rv,pl,_⟩:=I.list h;obtain⟨as,q⟩:=cj.reads I r rv;obtain⟨o,ho,hc,n,hd⟩:=pl.isList;exact⟨_,.list ho hc hd (by simpa using q)⟩
 |_,_,_,.tup h r,e=>by
  cases(show _=Value.ref _ from e);obtain⟨ϸ,rv,tp,_⟩:=I.tuple h;obtain⟨as,q⟩:=cj.reads I r rv;obtain⟨o,ho,hc,n,hd⟩:=tp;exact⟨_,.tuple ho hc hd (by simpa using q)⟩
theorem cj.reads{X:Cx}{ϵ:List (δ×Obj)}{σ:St}{H:Hp}{s:μ}(I:Inv X ϵ σ H s):∀{vs:List V}{ds:List amX}{us:List ε},cj X.K H vs ds->Vals vs us->∃as,ReadsAll s.heap us ds as
 |_,_,_,.nil,.nil=>⟨_,.nil⟩
 |_,_,_,.cons h r,.cons e t=>by
  obtain⟨as,q⟩:=RD.reads I h e;obtain⟨bs,q2⟩:=cj.reads I r t;exact⟨_,.cons q q2⟩
end
section
variable{X:Cx}{H:Hp}{Q:VK}{x y:V}{d d':amX}
theorem abe(hu:X.A.units+64<cLine)(hx:RD X.K H x d)(hy:RD X.K H y d')(h1:d.canLay0=true)(h2:d'.canLay0=true)(hd:d.depth<=60)(q:Q (.bl (PyData.eqv d d')) H):OP X (adh .Eq) x y H Q:=by
 refine⟨λx y H Q=>RD X.K H x d/\RD X.K H y d'/\Q (.bl (PyData.eqv d d')) H,?_,hx,hy,q⟩;intro ϵ s σ H x y v u Q I rx ry ⟨hx,hy,q⟩;obtain⟨as,r1⟩:=RD.reads I hx rx;obtain⟨bs,r2⟩:=RD.reads I hy ry;exact SeqAt.rcAt_reads r1 r2 h1 h2 (by have:=aoA d.depth d'.depth;omega) X.prog X.w X.xe _ ⟨.bl _,H,I,rfl,q⟩
theorem Q4(hu:X.A.units+64<cLine)(hx:RD X.K H x d)(hy:RD X.K H y d')(h1:d.canLay0=true)(h2:d'.canLay0=true)(hd:d.depth<=60)(q:Q (.bl (!PyData.eqv d d')) H):OP X (adh .NotEq) x y H Q:=by
 refine⟨λx y H Q=>RD X.K H x d/\RD X.K H y d'/\Q (.bl (!PyData.eqv d d')) H,?_,hx,hy,q⟩;intro ϵ s σ H x y v u Q I rx ry ⟨hx,hy,q⟩;obtain⟨as,r1⟩:=RD.reads I hx rx;obtain⟨bs,r2⟩:=RD.reads I hy ry;exact SeqAt.rcNeAt_reads r1 r2 h1 h2 (by have:=aoA d.depth d'.depth;omega) X.prog X.w X.xe _ ⟨.bl _,H,I,rfl,q⟩
end
def mK(l:List ϧ)(i:Nat):ϧ:=l.getD i (.Pass ⟨0,0,0,0⟩)
def abk(s:ϧ):List ϧ:=match s with
 |.For _ _ b _ _=>b
 |_=>[]
def Jm(s:ϧ):List ϧ:=match s with
 |.If _ b _ _=>b
 |_=>[]
theorem abC{A B:Prop}(h:A):if decide (V.non=V.non)=true then A else B:=by rw[if_pos (by decide)];exact h
theorem acU{A B:Prop}{i:Int}(h:B):if decide (V.int i=V.non)=true then A else B:=by rw[if_neg (by simp)];exact h
theorem acT{A B:Prop}{i:δ}(h:B):if decide (V.ref i=V.non)=true then A else B:=by rw[if_neg (by simp)];exact h
theorem aaM{A B:Prop}(h:B):if(!decide (V.non=V.non))=true then A else B:=by rw[if_neg (by decide)];exact h
theorem Xv{A B:Prop}{i:Int}(h:A):if(!decide (V.int i=V.non))=true then A else B:=by rw[if_pos (by simp)];exact h
theorem ago{A B:Prop}{i:Str}(h:A):if(!decide (V.str i=V.non))=true then A else B:=by rw[if_pos (by simp)];exact h
theorem TX{X:Cx}{H:Hp}{Q:VK}{z:Str}{n:Int}(hn:intText? z=some n)(hl:z.length<=640)(q:Q (.int n) H):CL X (.type "int") [.str z] H Q:=by
 refine dC (r:=λxs H Q=>∃z n,xs=[.str z]/\intText? z=some n/\z.length<=640/\Q (.int n) H) ?_ ⟨z,n,rfl,hn,hl,q⟩;intro ϵ s σ H xs us Q I r h;obtain⟨z,n,rfl,hn,hl,q⟩:=h;obtain⟨u,rfl,ru⟩:=vals1 r;obtain⟨t,rfl⟩:=ru;exact W.KIN.call_text hn hl ⟨.int n,H,I.tok _,⟨_,rfl⟩,q⟩
def mV(x:Str)(n:Int):Str:=⟨(agR n.toNat x.cps).foldl (· ++ ·) #[]⟩
theorem agj{X:Cx}{H:Hp}{Q:VK}{z:Str}{n:Int}(h1:2<=n)(h2:n<1000000)(h3:0<z.length)(h4:z.length*n.toNat<=ϩ)(q:Q (.str (mV z n)) H):OP X (binaryOp .Mult) (.str z) (.int n) H Q:=by
 refine aX (r:=λx y H Q=>∃z n,x=.str z/\y=.int n/\2<=n/\n<1000000/\0<z.length/\z.length*n.toNat<=ϩ/\Q (.str (mV z n)) H) ?_ ⟨z,n,rfl,rfl,h1,h2,h3,h4,q⟩;intro ϵ s σ H x y v u Q I rx ry h;obtain⟨z,n,rfl,rfl,h1,h2,h3,h4,q⟩:=h;obtain⟨t,rfl⟩:=rx;obtain⟨t',rfl⟩:=ry;have hsz:=ϱ;have e1:(n==1||z.length==0)=false:=by
  rw[Bool.or_eq_false_iff,beq_eq_false_iff_ne,beq_eq_false_iff_ne];omega
 have hle:z.length<=16777216:=by
  have:z.length*1<=z.length*n.toNat:=Nat.mul_le_mul_left _ (by omega);omega
 refine PySem.P.mul_str (by rw[decide_eq_false (by omega),decide_eq_false (by omega)];rfl) (λ_ _ h5=>?_) (λ_ _=>?_) ?_
 .have h6:(2^63-1) / 1000000<=(2^63-1:Int) / n:=by
   apply Int.le_ediv_of_mul_le (by omega);have:(2^63-1:Int) / 1000000*n<=(2^63-1) / 1000000*1000000:=Int.mul_le_mul_of_nonneg_left (by omega) (by decide);omega
  omega
 .unfold Builtin.Str.tooLong;rw[decide_eq_false];omega
 .rw[if_neg (by omega),e1];exact⟨by
   have hw:∀(k:Nat)(acc:Array Nat),((agR k z.cps).foldl (· ++ ·) acc).size=acc.size+k*z.cps.size:=by
    intro k;induction k with
    |zero=>intro acc;simp
    |succ k ih=>
     intro acc;rw[anj,List.foldl_cons,ih,aoh,aoP];omega
   show((agR n.toNat z.cps).foldl (· ++ ·) #[]).size<=ϩ;rw[hw];have:z.cps.size=z.length:=rfl;rw[this,aoQ];simpa using h4,.str (mV z n),H,I.tok _,⟨_,rfl⟩,q⟩
theorem ad9{X:Cx}{H:Hp}{Q:VK}{a:δ}{xs:List V}(e:H a=some (.lst xs))(q:Q (.bl true) H):CL X (.builtin "isinstance") [V.ref a,.ty "list"] H Q:=yI (b7.lst e) (k:=true) (by rfl) q
theorem Xj{X:Cx}{H:Hp}{Q:VK}{a:δ}{xs:List V}(e:H a=some (.tup xs))(q:Q (.bl true) H):CL X (.builtin "isinstance") [V.ref a,.ty "tuple"] H Q:=yI (b7.tup e) (k:=true) (by rfl) q
section
variable{X:Cx}{e:ν}{es:List ν}{σ:St}{H:Hp}{Q:VK}{pos p:Pos}
def Af:List (Str×String):=[("len","len"),("isinstance","isinstance"),("all","all"),("any","any"),("min","min"),("max","max"),("abs","abs"),("sum","sum"),("sorted","sorted"),("ord","ord"),("divmod","divmod")]
def vJ:List (Str×String):=[("str","str"),("list","list"),("tuple","tuple"),("int","int"),("set","set"),("bool","bool"),("dict","dict")]
theorem vp{x:Str}{i:String}{P:Str×String->Prop}:∀{l:List (Str×String)},l.lookup x=some i->(∀p∈l,P p)->P (x,i)
 |[],e,_=>by cases e
 |(y,k)::l,e,h=>by
  rw[List.lookup_cons]at e;split at e
  .next q=>cases e;rw[beq_iff_eq.mp q];exact h _ (by simp)
  .exact vp e λp hp=>h p (by simp[hp])
theorem ac8:∀p∈Af,bootBuiltins p.1=some (.builtin p.2)/\p.1≠"__name__"/\(p.1==("__debug__":Str))=false:=by
 simp only[Af,List.forall_mem_cons];exact⟨⟨PySem.boot_len,by decide,by decide⟩,⟨PyProof.Rows.boot_isinstance,by decide,by decide⟩,⟨PyProof.Rows.boot_all,by decide,by decide⟩,⟨PyProof.Rows.boot_any,by decide,by decide⟩,⟨PyProof.Rows.boot_min,by decide,by decide⟩,⟨PyProof.Rows.boot_max,by decide,by decide⟩,⟨PyProof.Rows.boot_abs,by decide,by decide⟩,⟨PyProof.Rows.boot_sum,by decide,by decide⟩,⟨PyProof.Rows.boot_sorted,by decide,by decide⟩,⟨PyProof.Rows.boot_ord,by decide,by decide⟩,⟨PyProof.Rows.boot_divmod,by decide,by decide⟩,(λ_ h=>by cases h)⟩
theorem RB:∀p∈vJ,bootBuiltins p.1=some (.type p.2)/\p.1≠"__name__"/\(p.1==("__debug__":Str))=false:=by
 simp only[vJ,List.forall_mem_cons];exact⟨⟨PyProof.Rows.boot_str,by decide,by decide⟩,⟨PyProof.Rows.boot_list,by decide,by decide⟩,⟨PyProof.Rows.boot_tuple,by decide,by decide⟩,⟨PyProof.Rows.boot_int,by decide,by decide⟩,⟨PyProof.Rows.boot_set,by decide,by decide⟩,⟨PyProof.Rows.boot_bool,by decide,by decide⟩,⟨PyProof.Rows.boot_dict,by decide,by decide⟩,(λ_ h=>by cases h)⟩
variable{x:Str}{i:String}
theorem adZ(ht:Af.lookup x=some i)(hg:Gl X x)(hm:X.mg x=none)(he:ϯ (e::es) X.env=(false,eval e X.env)::ϯ es X.env)(hpl:(backTo pos (ϯ es X.env)).any (·.1)=false)(h:EA X (e::es) σ H λvs H1=>CL X (.builtin i) vs H1 Q):EV X (.Call (.Name x p) (e::es) [] pos) σ H Q:=by
 obtain⟨a,b,c⟩:=vp ht ac8;exact afN hg hm a b c he hpl h
theorem aiC(ht:vJ.lookup x=some i)(hg:Gl X x)(hm:X.mg x=none)(he:ϯ (e::es) X.env=(false,eval e X.env)::ϯ es X.env)(hpl:(backTo pos (ϯ es X.env)).any (·.1)=false)(h:EA X (e::es) σ H λvs H1=>CL X (.type i) vs H1 Q):EV X (.Call (.Name x p) (e::es) [] pos) σ H Q:=by
 obtain⟨a,b,c⟩:=vp ht RB;exact acB hg hm a b c he hpl h
theorem adV(ht:vJ.lookup x=some i)(hg:Gl X x)(hm:X.mg x=none)(q:Q (.ty i) H):EV X (.Name x pos) σ H Q:=by
 obtain⟨a,b,c⟩:=vp ht RB;exact ajM hg hm a q b c
def O4:V->Option ε
 |.non=>some (.type "NoneType")|.bl _=>some (.type "bool")|.int _=>some (.type "int")|.str _=>some (.type "str")|_=>none
theorem ZD{K:Ϩ}{y:V}{t:ε}(h:O4 y=some t):b7 K H y t:=by
 cases y<;>cases h
 .exact .non
 .exact .bl _
 .exact .int _
 .exact .str _
theorem Mx{y:V}{t:ε}{T:String}{k:Bool}(q:Q (.bl k) H)(h:O4 y=some t:=by rfl)(e:aoe X.K t (.type T)=some k:=by rfl):CL X (.builtin "isinstance") [y,.ty T] H Q:=yI (ZD h) e q
def Qz(X:Cx)(x:Str)(σ:St):Option V:=match X.env.scope.names.lookup x with
 |some .local=>if(x==("__debug__":Str))||(x==("__classdict__":Str))then none else dX X.N σ x
 |some .cell=>if(x==("__debug__":Str))||(x==("__classdict__":Str))then none else dX X.N σ x
 |some .free=>if(x==("__debug__":Str))||(x==("__classdict__":Str))then none else dX X.N σ x
 |_=>none
theorem aac{v:V}(h:Qz X x σ=some v)(q:Q v H):EV X (.Name x pos) σ H Q:=by
 have key:sW X.env.scope x->(if(x==("__debug__":Str))||(x==("__classdict__":Str))then none else dX X.N σ x)=some v->EV X (.Name x pos) σ H Q:=λhv h=>by
  split at h
  .cases h
  .next c=>
   rw[am1,not_or,aop,aop]at c;exact ad1 h hv q c.1 c.2
 unfold Qz at h;split at h
 .exact key (.inl ‹_›) h
 .exact key (.inr (.inl ‹_›)) h
 .exact key (.inr (.inr ‹_›)) h
 .cases h
end
section
variable{X:Cx}{ϵ:List (δ×Obj)}{σ:St}{H:Hp}{s:μ}
theorem Inv.Ie{ch:List δ}{T:δ}{xs:List V}{us:List ε}{h':ϫ}{tk:Nat}(I:Inv X ϵ σ H s)(hf:∀b∈ch,aO X ϵ H b)(hT:s.heap.objs.size<=T)(k:∀b o,b∉ch->s.heap.get? b=some o->h'.get? b=some o)(hz:xs.length<=ϩ)(rv:Vals xs us)(tp:IsTup h' T us.toArray):Inv X ϵ σ (upd H T (.tup xs)) {s with heap:=h',toks:=tk}:=by
 have nT:=I.hok.fresh hT;have neT:∀b o,s.heap.get? b=some o->b≠T:=λb o e z=>ahP _ (abX (aaY e) (z▸hT))
 have nch:∀b u,H b=some u->b∉ch:=λb u e z=>by rw[(hf b z).1]at e;cases e
 refine I.call (g':=s.gens) (d':=s.drawn) (t':=tk) (ch:=ch) (h':=h') ⟨λb o e _ _ hx=>k b o hx e,λb o e _ _ hx=>⟨o.slots,k b o hx e⟩,λb o e n _=>?_,λb o e hx=>⟨o,k b o hx e⟩,λb ys e=>?_,λb o u e=>?_,λb ps e=>⟨#[],?_⟩⟩ ?_ I.bare
  λb hb=>⟨(hf b hb).2.2.2.1,(hf b hb).2.1,(hf b hb).2.2.2.2.1,(hf b hb).2.2.2.2.2⟩
 .rw[θ (neT b o e)];exact n
 .rw[θ (Ι e nT)];exact e
 .rw[θ (Ι e nT)];exact e
 .rw[θ (Ι e nT),e];simp
 .intro b u e;by_cases hb:b=T
  .subst hb;rw[υ]at e;cases e;exact⟨hz,us,rv,tp⟩
  .rw[θ hb]at e;refine(I.hok b u e).stay (λc v hc q=>k c v ?_ q) (λc q=>by rw[θ (Ι q nT)];exact q) (λc ys q=>by rw[θ (Ι q nT)];exact q) λc ob v q=>by rw[θ (Ι q nT)];exact q
   obtain z|z:=hc
   .subst z;exact nch c u e
   .exact nch c _ z
end
def xT(K:Ϩ)(l:δ):It:=
 ⟨λi H=>∃xs x,η K H l xs/\xs[i]?=some x,λi H v H'=>∃T x,v=.ref T/\H T=none/\H'=upd H T (.tup [.int i,x])/\∀xs,η K H l xs->xs[i]?=some x,λi H=>∃xs,η K H l xs/\xs.length<=i⟩
theorem V3{P:Ϯ}{w:Ϭ}{K:PySem.W.Frag}{elts:List ν}{k:Nat}{pos:Pos}(l e it:δ)(hei:e≠it)(hle:l≠e)(hli:l≠it):Turn P w K (.Tuple elts k pos) (xT K l) [e,it] e (λi h=>(∃old,IsEnum h e it i old)/\h.IsListIter it l i)where
 mem:=by simp
 obj:=λi h st b hb=>by
  obtain⟨⟨old,he⟩,o,ho,_,hd⟩:=st;obtain z|z:=ϴ.mp hb
  .subst z;exact⟨_,he,λv z=>by cases z⟩
  .have z':b=it:=by simpa using z
   subst z';exact⟨o,ho,λv z=>by rw[hd]at z;cases z⟩
 keep:=λi h h' st kk=>by
  obtain⟨⟨old,he⟩,o,ho,r⟩:=st;exact⟨⟨old,kk e (by simp) _ he⟩,o,kk it (by simp) _ ho,r⟩
 item:=by
  intro X hP hw hK hc i ϵ s σ H E I hf st hg;subst hP hw hK;obtain⟨⟨old,he⟩,hit⟩:=st;obtain⟨xs,x,hS,hx⟩:=hg;obtain⟨ϸ,rv,pl,hz⟩:=I.list hS;have W:=WalksT.enumerate (prog:=X.prog) (w:=X.w) (A:=X.A) (I.ok.hd hc) e it l hei hle hli ϸ.toArray;have hi:i<ϸ.toArray.size:=by
   rw[aaU, <-rv.length];exact(aae.mp hx).1
  obtain⟨u,hu,ru⟩:=rv.get hx;refine W.item i s _ _ hi ⟨⟨old,he⟩,hit,pl.isList⟩ λT vals h1 tk hp hT tup mid keep=>⟨.ref T,rfl,?_⟩
  obtain⟨t,y,ey,rfl⟩:=hp;have Zd:y=u:=by
   have:ϸ[i]?=some y:=by simpa using ey
   rw[hu]at this;exact(Option.some.inj this).symm
  subst Zd;refine W.go elts k pos i T {s with heap:=h1,toks:=tk} _ _ mid λh2 st2 mC=>?_
  obtain⟨⟨Zt,he2⟩,hit2,_⟩:=st2;have xR:IsTup h2 T [Value.int i t,y].toArray:=by
   obtain⟨o,ho,r⟩:=tup;exact⟨o,mC T o (W.apart i T h1 mid) ho,r⟩
  refine⟨.ref T,upd H T (.tup [.int i,x]),I.Ie (ch:=[e,it]) (tk:=tk) hf hT (λb o hb q=>mC b o hb (keep b o hb q)) (by show 2<=ϩ;rw[ϱ];decide) (.cons ⟨t,rfl⟩ (.cons ru .nil)) xR,rfl,?_,?_,λb hb=>?_⟩
  .refine⟨T,x,rfl,I.hok.fresh hT,rfl,λys hy=>?_⟩;rw[<-I.list_inj hS hy];exact hx
  .exact⟨⟨Zt,by simpa using he2⟩,hit2⟩
  .have :b≠T:=λz=>by
    obtain⟨o,ho,_⟩:∃o,s.heap.get? b=some o/\True:=by
     obtain z|z:=ϴ.mp hb
     .subst z;exact⟨_,he,trivial⟩
     .have z':b=it:=by simpa using z
      subst z';obtain⟨o,ho,_⟩:=hit;exact⟨o,ho,trivial⟩
    exact ahP _ (abX (aaY ho) (z▸hT))
   rw[θ this];exact(hf b hb).1
 done:=by
  intro X hP hw hK hc i ϵ s σ H E I hf st hg;subst hP hw hK;obtain⟨⟨old,he⟩,hit⟩:=st;obtain⟨xs,hS,hx⟩:=hg;obtain⟨ϸ,rv,pl,hz⟩:=I.list hS;have hn:ϸ.toArray[i]?=none:=Array.getElem?_eq_none (by rw[aaU, <-rv.length];exact hx);refine wpAny_pyNext_enum_end (I.ok.hd hc) he hit pl.isList hn λh' hk=>⟨rfl,?_⟩
  obtain⟨f0,f1,f2,f3,f4,f5⟩:=hf it (by simp);exact I.turned (t':=s.toks) (it:=it) (λb o hb q=>hk b o hb q) f0 f1 f3 f4 f5
 self:=λA i s Q E st h=>by
  obtain⟨⟨old,he⟩,_⟩:=st;exact wpAny_pyIter_enum he h
section
variable{X:Cx}{σ:St}{H:Hp}{a b:ν}{elts:List ν}{k:Nat}{tp p pos:Pos}{R:It->Hp->Prop}
theorem Uv(hg:Gl X "enumerate")(hm:X.mg "enumerate"=none)(hs:ϯ [a] X.env=[(false,eval a X.env)])(h:EV X a σ H λv H1=>∃l xs,v=.ref l/\H1 l=some (.lst xs)/\R (xT X.K l) H1):EI X (.Tuple elts k tp) (.Call (.Name "enumerate" p) [a] [] pos) σ H R:=by
 intro ϵ s I;refine Call_ (iU I hg hm boot_enumerate (PyProof.Rows.callWith_type1 (χ (eQ (es:=[]) (QA:=λvs H1=>∃l xs,vs=[.ref l]/\H1 l=some (.lst xs)/\R (xT X.K l) H1) hs (ϡ h λv H1 ⟨l,xs,e,q1,q2⟩=>eY ⟨l,xs,by rw[e],q1,q2⟩) pos ϵ s I) λus s1 hZ=>?_) hs rfl));obtain⟨vs,H1,I1,r1,l,xs,e,hl,q⟩:=hZ;subst e;obtain⟨u,rfl,ru⟩:=vals1 r1;cases(show u=Value.ref l from ru);obtain⟨hz,ϸ,n,rv,ho⟩:=I1.hok l _ hl;refine call_enumerate_1 ho λh' he hit hsz hk=>?_
 refine wpAny_pyIter_enum he ?_;have hlt:l<s1.heap.objs.size:=aaY ho;refine⟨s1.heap.objs.size+1,[s1.heap.objs.size+1,s1.heap.objs.size],_,_,H1,rfl,I1.kept (t':=s1.toks) hk,V3 l _ _ (Nat.succ_ne_self _) (abF (amg hlt)) (abF hlt),⟨⟨_,he⟩,hit⟩,λb hb=>?_,q⟩;have hb':b=s1.heap.objs.size+1\/b=s1.heap.objs.size:=by simpa using hb
 obtain z|z:=hb'<;>subst z
 .exact I1.fpOk (amT _) (I1.hok.fresh (amT _))
 .exact I1.fpOk (ϭ _) (I1.hok.fresh (ϭ _))
end
section
variable{X:Cx}{ϵ:List (δ×Obj)}{σ:St}{H:Hp}{s:μ}
theorem Inv.ais{ch:List δ}{h':ϫ}{tk:Nat}(I:Inv X ϵ σ H s)(hf:∀b∈ch,aO X ϵ H b)(k:∀b o,b∉ch->s.heap.get? b=some o->h'.get? b=some o):Inv X ϵ σ H {s with heap:=h',toks:=tk}:=by
 have nch:∀b u,H b=some u->b∉ch:=λb u e z=>by rw[(hf b z).1]at e;cases e
 refine I.call (g':=s.gens) (d':=s.drawn) (t':=tk) (ch:=ch) (h':=h') ⟨λb o e _ _ hx=>k b o hx e,λb o e _ _ hx=>⟨o.slots,k b o hx e⟩,λb o e n _=>n,λb o e hx=>⟨o,k b o hx e⟩,λb ys e=>e,λb o u e=>e,λb ps e=>⟨#[],?_⟩⟩ ?_ I.bare
  λb hb=>⟨(hf b hb).2.2.2.1,(hf b hb).2.1,(hf b hb).2.2.2.2.1,(hf b hb).2.2.2.2.2⟩
 .rw[e];simp
 .intro b u e;refine(I.hok b u e).stay (λc v hc q=>k c v ?_ q) (λc q=>q) λc ys q=>q
  obtain z|z:=hc
  .subst z;exact nch c u e
  .exact nch c _ z
end
def Am(K:Ϩ)(l m:δ):It:=
 ⟨λi H=>∃xs ys x y,η K H l xs/\η K H m ys/\xs[i]?=some x/\ys[i]?=some y,
  λi H v H'=>∃T x y,v=.ref T/\H T=none/\H'=upd H T (.tup [x,y])/\(∀xs,η K H l xs->xs[i]?=some x)/\∀ys,η K H m ys->ys[i]?=some y,
  λi H=>∃xs ys,η K H l xs/\η K H m ys/\min xs.length ys.length<=i⟩
theorem agG{P:Ϯ}{w:Ϭ}{K:PySem.W.Frag}{elts:List ν}{k:Nat}{pos:Pos}(z TI TO i1 i2 l m:δ)(D:ZipApart z TI TO i1 i2 l m):Turn P w K (.Tuple elts k pos) (Am K l m) [z,TI,TO,i1,i2] z (λi h=>IsZip h z TI TO .none/\IsPair h TI (.ref i1) (.ref i2)/\(∃a b,IsPair h TO a b)/\h.IsListIter i1 l i/\h.IsListIter i2 m i)where
 mem:=by simp
 obj:=λi h st b hb=>by
  obtain⟨hz,hTI,⟨a,a',hTO⟩,⟨o1,h1,_,d1⟩,⟨o2,h2,_,d2⟩⟩:=st;simp only[List.mem_cons,List.not_mem_nil,or_false]at hb;obtain e|e|e|e|e:=hb<;>subst e
  .exact⟨_,hz,λv z=>by cases z⟩
  .exact⟨_,hTI,λv z=>by cases z⟩
  .exact⟨_,hTO,λv z=>by cases z⟩
  .exact⟨_,h1,λv z=>by rw[d1]at z;cases z⟩
  .exact⟨_,h2,λv z=>by rw[d2]at z;cases z⟩
 keep:=λi h h' st kk=>by
  obtain⟨hz,hTI,⟨a,a',hTO⟩,⟨o1,h1,r1⟩,⟨o2,h2,r2⟩⟩:=st;exact⟨kk z (by simp) _ hz,kk TI (by simp) _ hTI,⟨a,a',kk TO (by simp) _ hTO⟩,⟨o1,kk i1 (by simp) _ h1,r1⟩,⟨o2,kk i2 (by simp) _ h2,r2⟩⟩
 item:=by
  intro X hP hw hK hc i ϵ s σ H E I hf st hg;subst hP hw hK;obtain⟨hz,hTI,hTO,h1,h2⟩:=st;obtain⟨xs,ys,x,y,hS,hS',hx,hy⟩:=hg;obtain⟨ϸ,rv,pl,hsz⟩:=I.list hS;obtain⟨its',rv',Dd,hsz'⟩:=I.list hS';have W:=WalksT.zip2 (prog:=X.prog) (w:=X.w) (A:=X.A) (I.ok.hd hc) z TI TO i1 i2 l m D ϸ.toArray its'.toArray;have hi:i<min ϸ.toArray.size its'.toArray.size:=by
   rw[aaU, <-rv.length,aaU, <-rv'.length];exact Nat.lt_min.mpr ⟨(aae.mp hx).1,(aae.mp hy).1⟩
  obtain⟨u,hu,ru⟩:=rv.get hx;obtain⟨u',hu',Ec⟩:=rv'.get hy;refine W.item i s _ _ hi ⟨hz,hTI,hTO,h1,h2,pl.isList,Dd.isList⟩ λT vals hh tk hp hT tup mid keep=>⟨.ref T,rfl,?_⟩
  obtain⟨v,v',ev,ev',rfl⟩:=hp;have e1:v=u:=by
   have:ϸ[i]?=some v:=by simpa using ev
   rw[hu]at this;exact(Option.some.inj this).symm
  have e2:v'=u':=by
   have:its'[i]?=some v':=by simpa using ev'
   rw[hu']at this;exact(Option.some.inj this).symm
  subst e1 e2;refine W.go elts k pos i T {s with heap:=hh,toks:=tk} _ _ mid λh3 st2 mC=>?_
  obtain⟨gz,Yy,T7,g1,g2,_⟩:=st2;have nin:∀b,b∉[z,TI,TO,i1,i2]->b∉[z,TO,i1,i2]:=λb hb hb'=>hb (by simp at hb'⊢;obtain e|e|e|e:=hb'<;>simp[e])
  have xR:IsTup h3 T [v,v'].toArray:=by
   obtain⟨o,ho,r⟩:=tup;exact⟨o,mC T o (W.apart i T hh mid) ho,r⟩
  refine⟨.ref T,upd H T (.tup [x,y]),I.Ie (ch:=[z,TI,TO,i1,i2]) (tk:=tk) hf hT (λb o hb q=>mC b o (nin b hb) (keep b o (nin b hb) q)) (by show 2<=ϩ;rw[ϱ];decide) (.cons ru (.cons Ec .nil)) xR,rfl,?_,⟨gz,Yy,T7,g1,g2⟩,λb hb=>?_⟩
  .refine⟨T,x,y,rfl,I.hok.fresh hT,rfl,λa ha=>?_,λa ha=>?_⟩
   .rw[<-I.list_inj hS ha];exact hx
   .rw[<-I.list_inj hS' ha];exact hy
  .have :b≠T:=λq=>by
    obtain⟨o,ho⟩:∃o,s.heap.get? b=some o:=by
     obtain⟨a,a',hTO⟩:=hTO;obtain⟨o1,h1,_⟩:=h1;obtain⟨o2,h2,_⟩:=h2;simp only[List.mem_cons,List.not_mem_nil,or_false]at hb;obtain e|e|e|e|e:=hb<;>subst e
     .exact⟨_,hz⟩
     .exact⟨_,hTI⟩
     .exact⟨_,hTO⟩
     .exact⟨_,h1⟩
     .exact⟨_,h2⟩
    exact ahP _ (abX (aaY ho) (q▸hT))
   rw[θ this];exact(hf b hb).1
 done:=by
  intro X hP hw hK hc i ϵ s σ H E I hf st hg;subst hP hw hK;obtain⟨hz,hTI,⟨a,b,hTO⟩,h1,h2⟩:=st;obtain⟨xs,ys,hS,hS',hx⟩:=hg;obtain⟨ϸ,rv,pl,hsz⟩:=I.list hS;obtain⟨its',rv',Dd,hsz'⟩:=I.list hS';have hend:ϸ.toArray[i]?=none\/its'.toArray[i]?=none:=by
   by_cases q:xs.length<=i
   .exact .inl (Array.getElem?_eq_none (by rw[aaU, <-rv.length];exact q))
   .exact .inr (Array.getElem?_eq_none (by rw[aaU, <-rv'.length];omega))
  refine wpAny_pyNext_zip_end (I.ok.hd hc) D hz hTI hTO h1 h2 pl.isList Dd.isList hend λh' hk=>⟨rfl,?_⟩
  exact I.ais (tk:=s.toks) hf λb o hb q=>hk b o (λe=>hb (by simp[e])) (λe=>hb (by simp[e])) (λe=>hb (by simp[e])) (λe=>hb (by simp[e])) q
 self:=λA i s Q E st h=>wpAny_pyIter_zip st.1 h
theorem adf(n l m:Nat)(h1:l<n)(h2:m<n):ZipApart (n+4) (n+2) (n+3) n (n+1) l m:=by
 constructor<;>(intro e;have e':(_:Nat)=_:=e;omega)
section
variable{X:Cx}{σ:St}{H:Hp}{a b:ν}{elts:List ν}{k:Nat}{tp p pos:Pos}{R:It->Hp->Prop}
theorem ahc(hg:Gl X "zip")(hm:X.mg "zip"=none)(hs:ϯ [a,b] X.env=[(false,eval a X.env),(false,eval b X.env)])(hs2:ϯ [b] X.env=[(false,eval b X.env)])(h:EV X a σ H λv H1=>EV X b σ H1 λv' H2=>∃l m xs ys,v=.ref l/\v'=.ref m/\H2 l=some (.lst xs)/\H2 m=some (.lst ys)/\R (Am X.K l m) H2):EI X (.Tuple elts k tp) (.Call (.Name "zip" p) [a,b] [] pos) σ H R:=by
 intro ϵ s I;refine Call_ (iU I hg hm boot_zip (PyProof.Rows.callWith_type1 (χ (eQ (es:=[b]) (QA:=λvs H1=>∃l m xs ys,vs=[.ref l,.ref m]/\H1 l=some (.lst xs)/\H1 m=some (.lst ys)/\R (Am X.K l m) H1) (by rw[hs,hs2]) (ϡ h λv H1 q=>eQ (es:=[]) hs2 (ϡ q λv' H2 ⟨l,m,xs,ys,e,e',q1,q2,q3⟩=>eY ⟨l,m,xs,ys,by rw[e,e'],q1,q2,q3⟩)) pos ϵ s I) λus s1 hZ=>?_) (by rw[hs,hs2]) (by rw[hs2];rfl)));obtain⟨vs,H1,I1,r1,l,m,xs,ys,e,hl,hm',q⟩:=hZ;subst e;obtain⟨u,u',rfl,ru,Ec⟩:=vals2 r1;cases(show u=Value.ref l from ru);cases(show u'=Value.ref m from Ec);obtain⟨hz,ϸ,n,rv,ho⟩:=I1.hok l _ hl;obtain⟨hz',its',n',rv',ho'⟩:=I1.hok m _ hm';refine call_zip_2 (xs:=ϸ.toArray) (ys:=its'.toArray) ⟨_,ho,rfl,_,rfl⟩ ⟨_,ho',rfl,_,rfl⟩ λh' h1 h2 h3 h4 h5 hsz hk=>?_
 refine wpAny_pyIter_zip h1 ?_;refine⟨s1.heap.objs.size+4,[s1.heap.objs.size+4,s1.heap.objs.size+2,s1.heap.objs.size+3,s1.heap.objs.size,s1.heap.objs.size+1],_,_,H1,rfl,I1.kept (t':=s1.toks) hk,agG _ _ _ _ _ l m (adf _ _ _ (aaY ho) (aaY ho')),⟨h1,h2,⟨_,_,h3⟩,h4,h5⟩,λb hb=>?_,q⟩;have hb':s1.heap.objs.size<=b:=by
  simp only[List.mem_cons,List.not_mem_nil,or_false]at hb;obtain e|e|e|e|e:=hb<;>subst e
  .exact alo _ _
  .exact alo _ _
  .exact alo _ _
  .exact ϭ _
  .exact alo _ _
 exact I1.fpOk hb' (I1.hok.fresh hb')
end
section
variable{X:Cx}{a e:ν}{σ:St}{H:Hp}{Q:VK}{D:Ends}{pos p p':Pos}
theorem ab5{Y:Cx}{tg elt:ν}{J:It}{E:δ}{τ0:St}{Q:Hp->Prop}(n:Nat)(hn:n<=ϩ)(Tp:St->Prop)(hT:Tp τ0)(Pi:Nat->V->Hp->Prop)(hE:H E=none)(mono:∀i v H1 H2 ys,H1 E=some (.lst ys)->(∀b o,b≠E->H1 b=some o->H2 b=some o)->Pi i v H1->Pi i v H2)(go:∀i H1,ζ H H1->i<n->J.go i H1)(stop:∀H1,ζ H H1->J.stop n H1)(step:∀i τ x H1 H2,i<n->Tp τ->ζ H H1->(∃ys,H1 E=some (.lst ys))->J.yld i H1 x H2->EG Y tg x τ H2 λτ2 H3=>EV Y elt τ2 H3 λv H4=>Tp τ2/\Pi i v H4/\ζ H1 H4)(fin:∀H1 xs,xs.length=n->(∀i v,xs[i]?=some v->Pi i v H1)->H1 E=some (.lst xs)->ζ H H1->Q H1):fL X Y tg elt [] J E τ0 H Q:=by
 refine⟨λi m τ H1=>m=n-i/\i<=n/\ζ H H1/\Tp τ/\∃xs,H1 E=some (.lst xs)/\xs.length=i/\∀k v,xs[k]?=some v->Pi k v H1,⟨n,by simp,afS _,ζ.upd hE,hT,[],υ,rfl,λk v e=>by simp at e⟩,?_⟩
 rintro i m τ H1 ⟨rfl,hi,s1,hτ,xs,eE,lx,px⟩
 by_cases hlt:i<n
 .refine .inr ⟨go i H1 s1 hlt,λτ' H'=>ζ H H'/\Tp τ'/\∃xs,H' E=some (.lst xs)/\xs.length=i+1/\∀k v,xs[k]?=some v->Pi k v H',λτ' H' ⟨a,b,c⟩=>⟨n-(i+1),by omega,rfl,hlt,a,b,c⟩,λx H2 y=>?_⟩;intro ϵ s u I r;refine χ (step i τ x H1 H2 hlt hτ s1 ⟨xs,eE⟩ y ϵ s u I r) λ_ s' ⟨τ2,H3,I3,q3⟩=>⟨τ2,H3,I3,yE ?_⟩
  rw[if_pos rfl];refine ϡ q3 λv H4 ⟨t2,pv,s2⟩=>⟨xs,s2 _ _ eE,by omega,?_⟩
  have mm:∀k w',Pi k w' H4->Pi k w' (upd H4 E (.lst (xs++[v]))):=λk w' q=>mono k w' H4 _ xs (s2 _ _ eE) (λb o hb e=>by rw[θ hb];exact e) q
  refine⟨λb o e=>?_,t2,xs++[v],υ,by simp[lx],λk u e=>?_⟩
  .rw[θ (Ι e hE)];exact s2 _ _ (s1 _ _ e)
  .by_cases hk:k<xs.length
   .rw[ahS hk]at e;refine mono k u H1 _ xs eE (λb o hb e=>?_) (px k u e);rw[θ hb];exact s2 _ _ e
   .have hk2:k=i:=by
     have:=(aae.mp e).1;rw[ab7,ad5]at this;omega
    subst hk2;rw[<-lx,ajP]at e;cases e;exact mm _ _ pv
 .have e:i=n:=by omega
  subst e;exact .inl ⟨stop H1 s1,fin H1 xs lx px eE s1⟩
variable{tg elt iter:ν}{scope:agJ}{σ':St}
def tL(X:Cx)(N':List Str)(scope:agJ)(tg elt:ν)(σ':St)(H1:Hp)(Q:VK)(n:Nat)(G:Nat->Hp->V->Hp->Prop):Prop:=
 ∃(Tp:St->Prop)(Pi:δ->Nat->V->Hp->Prop),Tp σ'/\
  (∀E i v H2 H3 ys,H2 E=some (.lst ys)->(∀b o,b≠E->H2 b=some o->H3 b=some o)->Pi E i v H2->Pi E i v H3)/\
  (∀(fp:List δ)(E C:δ)(s3:μ)(H0:Hp)(i:Nat)(τ:St)(x:V)(H2 H3:Hp),H1 E=none->i<n->Tp τ->ζ H1 H2->(∃ys,H2 E=some (.lst ys))->G i H2 x H3->
   EG (aR X N' scope (Ϗ scope X.env) C s3 H0 fp) tg x τ H3 λτ2 H4=>EV (aR X N' scope (Ϗ scope X.env) C s3 H0 fp) elt τ2 H4 λv H5=>Tp τ2/\Pi E i v H5/\ζ H2 H5)/\
  ∀(E:δ)(H2:Hp)(xs:List V),H1 E=none->xs.length=n->(∀i v,xs[i]?=some v->Pi E i v H2)->H2 E=some (.lst xs)->ζ H1 H2->Q (.ref E) H2
theorem vz{N':List Str}{J:It}{n:Nat}{G:Nat->Hp->V->Hp->Prop}(hn:n<=ϩ)(go:∀i H2,ζ H H2->i<n->J.go i H2)(stop:∀H2,ζ H H2->J.stop n H2)(yl:∀i H2 x H3,i<n->ζ H H2->J.yld i H2 x H3->G i H2 x H3)(h:tL X N' scope tg elt σ' H Q n G):∀(fp:List δ)(D C:δ)(s3:μ),H D=none->fL X (aR X N' scope (Ϗ scope X.env) C s3 (upd H D (.lst [])) fp) tg elt [] J D σ' H (λH'=>Q (.ref D) H'):=by
 intro fp E C s3 hE;obtain⟨Tp,Pi,t0,mono,step,fin⟩:=h;exact ab5 n hn Tp t0 (Pi E) hE (λi v H1 H2 ys=>mono E i v H1 H2 ys) go stop (λi τ x H1 H2 hi ht hs hy y=>step fp E C s3 _ i τ x H1 H2 hE hi ht hs hy (yl i H1 x H2 hi hs y)) λH1 xs l px eE s=>fin E H1 xs hE l px eE s
theorem rm(N':List Str)(S:bu X.env scope)(h:EV X e σ H λv H1=>∃l xs,v=.ref l/\η X.K H1 l xs/\xs.length<=ϩ/\tL X N' scope tg elt σ' H1 Q xs.length λi H2 x H3=>xs[i]?=some x/\H2=H3)(hσ:bf N' X.N σ scope=σ':=by rfl)(hc:X.calm=true:=by rfl)(hs:∀x,foldedSetIterable e X.env x=pure x:=by intro _;rfl):EV X (.ListComp elt [⟨tg,e,[],0⟩] scope pos) σ H Q:=by
 refine pB (N':=N') hc S hs (qI (ϡ h λv H1 q=>?_));obtain⟨l,xs,rfl,hl,hz,hw⟩:=q;refine⟨l,rfl,⟨xs,hl⟩,?_⟩;rw[hσ];refine vz hz (λi H2 s hi=>⟨xs,xs[i],ζ.seq s hl,ϳ hi⟩) (λH2 s=>⟨xs,ζ.seq s hl,ϭ _⟩) (λi H2 x H3 hi s y=>⟨y.2 xs (ζ.seq s hl),y.1.symm⟩) hw
theorem Lg(N':List Str)(S:bu X.env scope)(hm:X.mg "range"=none)(h:EV X a σ H λv H1=>∃n:Int,v=.int n/\ -(2^62)<=n/\n.toNat<=ϩ/\tL X N' scope tg elt σ' H1 Q n.toNat λi H2 x H3=>x=.int i/\H2=H3)(hσ:bf N' X.N σ scope=σ':=by rfl)(hc:X.calm=true:=by rfl)(hg:Gl X "range":=by rfl)(hs:ϯ [a] X.env=[(false,eval a X.env)]:=by rfl):EV X (.ListComp elt [⟨tg,.Call (.Name "range" p) [a] [] p',[],0⟩] scope pos) σ H Q:=by
 refine pB (N':=N') hc S (by intro _;rfl) (Em hg hm hs (eQ hs (ϡ h λv H1 q=>?_)));obtain⟨n,rfl,h1,h2,hw⟩:=q;have hsz:(ϩ:Nat)<2^62:=by rw[ϱ];decide
 refine eY ⟨n,rfl,h1,by omega,?_⟩;rw[hσ];exact vz h2 (λi H2 s hi=>hi) (λH2 s=>ϭ _) (λi H2 x H3 hi s y=>⟨by rw[y.2,aol],y.1.symm⟩) hw
theorem abo{b:ν}{elts:List ν}{k:Nat}{tp:Pos}(N':List Str)(hσ:bf N' X.N σ scope=σ')(hc:X.calm=true)(S:bu X.env scope)(hg:Gl X "zip")(hm:X.mg "zip"=none)(hs:ϯ [a,b] X.env=[(false,eval a X.env),(false,eval b X.env)])(hs2:ϯ [b] X.env=[(false,eval b X.env)])(h:EV X a σ H λv H1=>EV X b σ H1 λv' H2=>∃l m xs ys,v=.ref l/\v'=.ref m/\H2 l=some (.lst xs)/\H2 m=some (.lst ys)/\min xs.length ys.length<=ϩ/\
   tL X N' scope (.Tuple elts k tp) elt σ' H2 Q (min xs.length ys.length) λi H3 x H4=>∃T y z,x=.ref T/\H3 T=none/\H4=upd H3 T (.tup [y,z])/\xs[i]?=some y/\ys[i]?=some z):EV X (.ListComp elt [⟨.Tuple elts k tp,.Call (.Name "zip" p) [a,b] [] p',[],0⟩] scope pos) σ H Q:=by
 refine pB (N':=N') hc S (by intro _;rfl) (ahc hg hm hs hs2 (ϡ h λv H1 q=>ϡ q λv' H2 q=>?_));obtain⟨l,m,xs,ys,e1,e2,hl,hm',h2,hw⟩:=q;refine⟨l,m,xs,ys,e1,e2,hl,hm',?_⟩;rw[hσ];have S1:η X.K H2 l xs:=.inl (.inl hl);have S2:η X.K H2 m ys:=.inl (.inl hm');refine vz h2 (λi H3 s hi=>⟨xs,ys,xs[i]'(by omega),ys[i]'(by omega),ζ.seq s S1,ζ.seq s S2,ϳ _,ϳ _⟩) (λH3 s=>⟨xs,ys,ζ.seq s S1,ζ.seq s S2,ϭ _⟩) (λi H3 x H4 hi s y=>?_) hw;obtain⟨T,u,u',a1,a2,a3,a4,a5⟩:=y;exact⟨T,u,u',a1,a2,a3,a4 xs (ζ.seq s S1),a5 ys (ζ.seq s S2)⟩
theorem ag6{elts:List ν}{k:Nat}{tp:Pos}{body:List ϧ}(hp:amZ (Ϧ X.prog X.w) X.A X.env X.xe)(hc:X.calm=true)(hg:Gl X "enumerate")(hm:X.mg "enumerate"=none)(hs:ϯ [a] X.env=[(false,eval a X.env)])(h:EV X a σ H λv H1=>∃l xs,v=.ref l/\H1 l=some (.lst xs)/\∃Pv:Nat->St->Hp->Prop,Pv 0 σ H1/\(∀i σ' H',i<=xs.length->Pv i σ' H'->η X.K H' l xs)/\
   (∀i x T σ' H',xs[i]?=some x->Pv i σ' H'->H' T=none->EG X (.Tuple elts k tp) (.ref T) σ' (upd H' T (.tup [.int i,x])) λσ2 H2=>Κ X body {D with nx:=Pv (i+1),ct:=Pv (i+1),bk:=D.nx} σ2 H2)/\∀σ' H',Pv xs.length σ' H'->D.nx σ' H'):SX X (.For (.Tuple elts k tp) (.Call (.Name "enumerate" p) [a] [] p') body [] pos) D σ H:=by
 refine qQ hp hc (by intro _;rfl) (Uv hg hm hs (ϡ h λv H1 q=>?_));obtain⟨l,xs,rfl,hq,Pv,h0,hl,hst,hd⟩:=q;refine⟨l,xs,rfl,hq,λi m σ H=>m=xs.length-i/\i<=xs.length/\Pv i σ H,⟨xs.length,by simp,afS _,h0⟩,?_⟩
 rintro i m σ' H' ⟨rfl,hi,p⟩
 have hS:=hl i σ' H' hi p;by_cases hlt:i<xs.length
 .refine .inr ⟨⟨xs,xs[i],hS,ϳ hlt⟩,Pv (i+1),λσ2 H2 p2=>⟨xs.length-(i+1),by omega,rfl,hlt,p2⟩,λx H2 y=>?_⟩;obtain⟨T,u,e1,e2,e3,e4⟩:=y;subst e1 e3;exact hst i u T σ' H' (e4 xs hS) p e2
 .have e:i=xs.length:=by omega
  subst e;exact .inl ⟨⟨xs,hS,ϭ _⟩,hd σ' H' p⟩
end
section
variable{Kt:Type} [DecidableEq Kt] [BEq Kt] [LawfulBEq Kt]
def cM(ks:List Kt):List Kt:=ks.foldl (λa k=>if k∈a then a else a++[k]) []
theorem pQ(ks:List Kt)(k:Kt):cM (ks++[k])=if k∈cM ks then cM ks else cM ks++[k]:=by
 unfold cM;rw[List.foldl_append];rfl
theorem xH:∀n (ks:List Kt),ks.length=n->(cM ks).length<=ks.length
 |0,ks,h=>by rw[am2.mp h];exact ϭ _
 |n+1,ks,h=>by
  obtain⟨l,k,rfl⟩:∃l k,ks=l++[k]:=⟨_,_,(alT (akI h)).symm⟩;have hl:l.length=n:=by simpa using h
  have ih:=xH n l hl;rw[pQ];split <;>simp <;>omega
theorem Ov:∀n (ks:List Kt),ks.length=n->∀k,k∈cM ks↔k∈ks
 |0,ks,h=>by rw[am2.mp h];intro k;exact Iff.rfl
 |n+1,ks,h=>by
  obtain⟨l,x,rfl⟩:∃l k,ks=l++[k]:=⟨_,_,(alT (akI h)).symm⟩;have hl:l.length=n:=by simpa using h
  have ih:=Ov n l hl;intro k;rw[pQ,adT,adY];split
  .rename_i hx;rw[ih];constructor
   .exact .inl
   .rintro(e|e)
    .exact e
    .rw[e];exact(ih x).mp hx
  .rw[adT,adY,ih]
theorem Bx:∀n (ks:List Kt),ks.length=n->((cM ks).length=ks.length↔ks.Nodup)
 |0,ks,h=>by rw[am2.mp h];simp[cM]
 |n+1,ks,h=>by
  obtain⟨l,x,rfl⟩:∃l k,ks=l++[k]:=⟨_,_,(alT (akI h)).symm⟩;have hl:l.length=n:=by simpa using h
  have ih:=Bx n l hl;have le:=xH n l hl;have me:=Ov n l hl x;rw[pQ,am7];split
  .rename_i hx;constructor
   .intro e;simp at e;omega
   .intro e;exact absurd rfl (e.2.2 x (me.mp hx) x (by simp))
  .rename_i hx;rw[ab7,ab7,ad5];constructor
   .intro e;refine⟨ih.mp (by omega),by simp,λa ha b hb=>?_⟩;rw[adY.mp hb];intro e';exact hx (me.mpr (e'▸ha))
   .intro e;rw[ih.mpr e.1]
end
section
variable{prog:Ϯ}{w:Ϭ}{A:ϰ}{E:ε->μ->Prop}{s:μ}{zs:List Str}{us:Array ε}
def strAt(us:Array ε)(zs:List Str):=∀(i:Nat)(v:ε),us[i]?=some v->∃t z,v=.str z t/\zs[i]?=some z
def gU(prog:Ϯ)(w:Ϭ)(h:ϫ)(S:δ)(zs:List Str):Prop:=h.SetOf (strKind prog w) S (λk=>decide (k∈cM zs)) (cM zs).length
theorem gU.stay{h h':ϫ}{S:δ}(x:gU prog w h S zs)(k:∀o,h.get? S=some o->h'.get? S=some o):gU prog w h' S zs:=by
 obtain⟨o,es,ep,t,ho,rest⟩:=x;exact⟨o,es,ep,t,k _ ho,rest⟩
theorem aj2{R:Result->μ->Prop}{it:δ}{fp wr:List δ}{G:Array GenState->Array GenState->Prop}{St:Nat->μ->Prop}(W:WalksS prog w A.in1 it fp wr G us.size (λi v=>us[i]?=some v) St)(S:δ)(hS:S∉fp)(hz:strAt us zs)(hl:us.size=zs.length)(hb:us.size+1<scanBound)(d:Nat):∀(i:Nat)(s:μ),d+i=us.size->St i s->gU prog w s.heap S (zs.take i)->
   (∀s',Moved (S::wr) G s s'->gU prog w s'.heap S zs->R (.ok (.ret .none)) s')->codeAny (Ϧ prog w) A (.builtin "set.update.loop" ⟨[.ref S,.ref it],[]⟩) R s:=by
 have hSw:S∉wr:=λh=>hS (W.sub _ h)
 have up:∀b∈wr,b∈S::wr:=λb hb=>acV _ hb
 induction d with
 |zero=>
  intro i s hi st ts hR;have e:i=us.size:=by omega
  subst e;refine amR F.entry_set_update_loop ?_;rw[Around.under_plainId F.plain_set_update_loop _];refine Ϫ (m:=pyNext (.ref it)) (W.done s _ _ st λs' hm=>?_);refine ϲ (hR s' (hm.mono up) ?_);rw[hl,anH]at ts;exact ts.stay λo ho=>hm.heap S o hSw ho
 |succ d ih=>
  intro i s hi st ts hR;refine amR F.entry_set_update_loop ?_;rw[Around.under_plainId F.plain_set_update_loop _];refine Ϫ (m:=pyNext (.ref it)) (W.item i s _ _ (by omega) st λv s' hv st' hm=>?_);obtain⟨t,z,rfl,ez⟩:=hz i v hv;have ts':=ts.stay (h':=s'.heap) λo ho=>hm.heap S o hSw ho
  show π _ A.in1 (holding [Value.str z t] (setAdd S (.str z t))>>=_) _ _ s';refine Ϫ (afE ?_);unfold setAdd;refine afE (Ϫ ((strKind prog w).pyHash (k:=z) (strKind_is _ _ _ _) ?_));have et:zs.take (i+1)=zs.take i++[z]:=by rw[anu,ez];rfl
  have room:(cM (zs.take i)).length+1<scanBound:=by
   have:=xH _ (zs.take i) rfl;have:(zs.take i).length<=zs.length:=by simp;omega
   omega
  refine wpAny_setAddHashed_of (knd:=strKind prog w) (s:={s' with toks:=s'.toks+1}) (strKind_is _ _ _ _) rfl ts' room λh' sb ts2=>?_
  have ts3:gU prog w h' S (zs.take (i+1)):=by
   refine SetOf_congr ts2 (λk=>?_) ?_
   .rw[et,pQ];split
    .rename_i hk;by_cases e:k=z
     .subst e;simp[hk]
     .simp[e]
    .by_cases e:k=z
     .subst e;simp
     .simp[e]
   .rw[et,pQ];by_cases hk:z∈cM (zs.take i)
    .simp[hk]
    .simp[hk]
  refine ϲ ⟨plainId_quiet F.plain_set_update_loop _,ih (i+1) _ (by omega) (W.frame _ s' _ _ st' (amT _) λb hb o e=>?_) ts3 λs2 hm2 ts4=>?_⟩
  .rw[sb.2 b (λh:b=S=>hS (h▸hb))];exact e
  .refine hR s2 (Moved.trans W.gtrans ((hm.mono up).then_heap (amT _) λb o hb e=>?_) hm2) ts4;rw[sb.2 b (λh:b=S=>hb (h▸aek))];exact e
abbrev newSet(h:ϫ)(led:Bool):ϫ:=h.push {cls:=.type "set",dict:=none,data:=.set #[] 0 (.fresh 0 0 led)}
set_option maxRecDepth 100000 in
theorem ahR{l S:δ}{Q:ε->μ->Prop}(hh:A.handled=none)(hl:s.heap.IsList l us)(hS:∃led,s.heap.get? S=some {cls:=.type "set",dict:=none,data:=.set #[] 0 (.fresh 0 0 led)})(hz:strAt us zs)(hn:us.size=zs.length)(hb:us.size+1<scanBound)(h:∀(h':ϫ)(tk:Nat),gU prog w h' S zs->(∀b o,b≠S->s.heap.get? b=some o->h'.get? b=some o)->Q .none {s with heap:=h',toks:=tk}):codeAny (Ϧ prog w) A (.call (.builtin "set.__init__") ⟨[.ref S,.ref l],[]⟩) (wants Q E) s:=by
 obtain⟨led,hS⟩:=hS;have hT:s.TypeIs (.ref S) "set":=⟨_,hS,rfl⟩;refine codeAny_call_builtin F.called_set.init.plain F.entry_set_init (check_set_init_1 hT ?_);have hl0:=hl;obtain⟨⟨oc,od,odata,os⟩,hol,hc,nl,hd⟩:=hl;simp only at hc hd;subst hc hd;have f1:=F.sub_list_set;have f2:=F.sub_list_frozenset;have f3:(Value.type "list"==Value.type "dict")=false:=by decide
 unfold Builtin.«set.__init__» noKeywords Builtin.Frozenset.updateFrom;generalize hPI:pyIter=PI
 wp_walk
 subst hPI;refine wpAny_pyIter_list hl0 (Ϫ (wpAny_runValue ?_));have lS:S<s.heap.objs.size:=aaY hS;have ll:l<s.heap.objs.size:=aaY hol;have h3:A.in1.in1.handled=none:=by simp[hh]
 have hlS:S≠l:=λe=>by subst e;rw[hS]at hol;simp at hol
 refine aj2 (us:=us) ((Walks.list h3 _ l (abF ll) us).toS) S (by simp only[List.mem_cons,List.not_mem_nil,or_false,not_or];exact⟨abF lS,hlS⟩) hz hn hb us.size 0 {s with heap:=s.heap.push {cls:=.type "list_iterator",data:=.fields #[.ref l,.int 0 0]}} (by omega)
  ⟨⟨_,abE _ rfl,rfl,rfl⟩,(hl0.push _)⟩ ?_ ?_
 .have hget:=Heap.get?_push_of_some {cls:=.type "list_iterator",data:=.fields #[.ref l,.int 0 0]} hS;exact SetOf_congr ((setObjOf_fresh (knd:=strKind prog w) led).setOf hget (by unfold scanBound;omega)) (λ_=>rfl) rfl
 .intro s' hm ts;obtain⟨h',g',d',tk',os'⟩:=s';have eg:g'=s.gens:=hm.gens;have ed:d'=s.drawn:=hm.drawn;have eo:os'=s.os:=hm.os;subst eg ed eo;refine ϲ ?_;show π _ _ (ret Value.none) _ _ _;refine ϲ (h h' tk' ts λb o hb e=>?_);refine hm.heap b o ?_ (Heap.get?_push_of_some _ e);simp only[List.mem_cons,List.not_mem_nil,or_false,not_or];exact⟨hb,abF (aaY e)⟩
set_option maxRecDepth 100000 in
theorem ahv{l:δ}{Q:ε->μ->Prop}(hh:A.handled=none)(hl:s.heap.IsList l us)(hz:strAt us zs)(hn:us.size=zs.length)(hb:us.size+1<scanBound)(h:∀(h':ϫ)(tk:Nat),gU prog w h' s.heap.objs.size zs->(∀b o,s.heap.get? b=some o->h'.get? b=some o)->Q (.ref s.heap.objs.size) {s with heap:=h',toks:=tk}):π (Ϧ prog w) A (call (.type "set") [.ref l]) Q E s:=by
 obtain⟨c,tl,hmro⟩:=F.called_set.mro;have hmade:=F.called_set.made;have hsub:=F.called_set.sub;have h1:=F.called_set.notType;have h2:=F.called_set.canCreate;have hct:=F.typeCall_set_1 (.ref l);refine wpAny_call (codeAny_of_tree ?_);show π _ _ (callAny (.type "set") _) _ _ _;refine ϲ ⟨Code.quiet_builtin _ (by decide+kernel),amR F.entry_type_call ?_⟩;rw[Around.under_plain (weight_type_call_type "set" [.ref l] []) rfl]
 repeat (any_goals (first|assumption|wp_step))
 refine aiS (code_set_new_1 (.ref l) (E:=E) (Q₁:=λobj s₁=>∃led:Bool,obj=.ref s.heap.objs.size/\s₁={s with heap:=newSet s.heap led}) λled=>⟨led,rfl,rfl⟩) λr s₁ hr=>?_
 rcases r with e|(_|_|_|obj)
 all_goals first|exact hr|exact hr.elim|skip
 obtain⟨led,rfl,rfl⟩:=hr;have hS:(newSet s.heap led).get? s.heap.objs.size=some {cls:=.type "set",dict:=none,data:=.set #[] 0 (.fresh 0 0 led)}:=abE _ rfl;have hT:Shared.TypeIs {s with heap:=newSet s.heap led} (.ref s.heap.objs.size) "set":=⟨_,hS,rfl⟩;have hli:=F.called_set.init.lookup;have hbi:=F.called_set.init.bind (.ref s.heap.objs.size)
 repeat (any_goals (first|assumption|wp_step))
 refine aiS (ahR (E:=E) (s:={s with heap:=newSet s.heap led}) (Q:=λr s₂=>r=.none/\∃h' tk,s₂={s with heap:=h',toks:=tk}/\gU prog w h' s.heap.objs.size zs/\∀b o,s.heap.get? b=some o->h'.get? b=some o) (by simp[hh]) (hl.push _) ⟨led,hS⟩ hz hn hb λh' tk ts k=>⟨rfl,h',tk,rfl,ts,λb o e=>k b o (abF (aaY e)) (Heap.get?_push_of_some _ e)⟩) λr₂ s₂ hr₂=>?_
 rcases r₂ with e|(_|_|_|r)
 all_goals first|exact hr₂|exact hr₂.elim|skip
 obtain⟨rfl,h',tk,rfl,ts,k⟩:=hr₂
 repeat (any_goals (first|assumption|wp_step))
 exact h _ _ ts k
end
section
variable{X:Cx}{H:Hp}{Q:VK}{v:V}
def jc(X:Cx)(S:δ)(zs:List Str):HO:=.ext λh=>gU X.prog X.w h S zs
theorem Mg{q:δ}{zs:List Str}(hc:X.calm=true)(h:η X.K H q (zs.map V.str))(hz:zs.length<=4000)(g:∀S,H S=none->Q (.ref S) (upd H S (jc X S zs))):CL X (.type "set") [.ref q] H Q:=by
 refine dC (r:=λxs H Q=>∃q zs,xs=[.ref q]/\η X.K H q (zs.map V.str)/\zs.length<=4000/\∀S,H S=none->Q (.ref S) (upd H S (jc X S zs))) ?_ ⟨q,zs,rfl,h,hz,g⟩;intro ϵ s σ H xs us Q I r h;obtain⟨q,zs,rfl,h,hz,g⟩:=h;obtain⟨u,rfl,ru⟩:=vals1 r;cases(show u=Value.ref q from ru);obtain⟨ϸ,rv,pl,_⟩:=I.list h;have hl:ϸ.length=zs.length:=by have:=rv.length;rw[aaf]at this;exact this.symm
 have hat:strAt ϸ.toArray zs:=λi v e=>by
  have e':ϸ[i]?=some v:=by simpa using e
  have hi:i<zs.length:=by rw[<-hl];exact(aae.mp e').1
  obtain⟨u,e1,e2⟩:=rv.get (i:=i) (x:=V.str zs[i]) (by simp[hi]);rw[e']at e1;cases e1;obtain⟨t,rfl⟩:=e2;exact⟨t,zs[i],rfl,ϳ hi⟩
 refine ahv (I.ok.hd hc) pl.isList hat (by simpa using hl) (by show _<4096;simp;omega) λh' tk ts k=>?_
 refine⟨.ref s.heap.objs.size,_,I.laid (t':=tk) (o:=jc X s.heap.objs.size zs) k (ϭ _) ⟨ts,?_,λh1 h2 ts hk=>ts.stay hk⟩,rfl,g _ (I.hok.fresh (ϭ _))⟩;obtain⟨o,es,ep,t,ho,_⟩:=ts;exact⟨o,ho⟩
theorem Mp{S:δ}{zs:List Str}(h:H S=some (jc X S zs))(hz:zs.length<=4000)(g:Q (.int (cM zs).length) H):CL X (.builtin "len") [.ref S] H Q:=by
 refine dC (r:=λxs H Q=>∃S zs,xs=[.ref S]/\H S=some (jc X S zs)/\zs.length<=4000/\Q (.int (cM zs).length) H) ?_ ⟨S,zs,rfl,h,hz,g⟩;intro ϵ s σ H xs us Q I r h;obtain⟨S,zs,rfl,h,hz,g⟩:=h;obtain⟨u,rfl,ru⟩:=vals1 r;cases(show u=Value.ref S from ru);obtain⟨⟨o,es,ep,t,ho,hex,hd,hel,hm,hb,hf,hn⟩,_⟩:=I.hok S _ h;have le:=xH _ zs rfl;refine call_len_set ho hex hd hf (by omega) ⟨.int es.size,H,I.tok _,⟨_,rfl⟩,?_⟩;rw[hn];exact g
theorem Og{x:V}{p:δ}{xs:List V}(h:ψ X.K H p xs)(q:Q (.bl (!gh x xs)) H)(f:eV x=true:=by rfl)(fs:xs.all eV=true:=by rfl):OP X (adh .NotIn) x (.ref p) H Q:=aX Ti ⟨p,xs,rfl,.inr h,f,fs,q⟩
theorem BX{x:V}{p:δ}{xs:List V}(h:ψ X.K H p xs)(q:Q (.bl (gh x xs)) H)(f:eV x=true:=by rfl)(fs:xs.all eV=true:=by rfl):OP X (adh .In) x (.ref p) H Q:=aX acx ⟨p,xs,rfl,.inr h,f,fs,q⟩
end
section
variable{X:Cx}{H:Hp}{D:Ends}{σ σ':St}{e a elt tg:ν}{scope:agJ}{pos spos py p p':Pos}{y:Str}{j:Nat}
theorem vA(N':List Str)(S:bu X.env scope)(hN:X.N.Nodup)(h:EV X e σ H λv H1=>∃l xs,v=.ref l/\η X.K H1 l xs/\xs.length<=ϩ/\tL X N' scope tg elt σ' H1 (λv H'=>D.nx (σ.set j (some v)) H') xs.length λi H2 x H3=>xs[i]?=some x/\H2=H3)(hσ:bf N' X.N σ scope=σ':=by rfl)(hsw:akr (.ListComp elt [⟨tg,e,[],0⟩] scope pos) (some (.Name y py)) spos.line X.env=pure true:=by rfl)(hc:X.calm=true:=by rfl)(hs:∀x,foldedSetIterable e X.env x=pure x:=by intro _;rfl)(hi:nameAt X.N y=some j:=by rfl)(hx:X.env.scope.names.lookup y=some .local:=by rfl):SX X (.Assign [.Name y py] (.ListComp elt [⟨tg,e,[],0⟩] scope pos) spos) D σ H:=by
 refine agZ (N':=N') hsw hc S hs hN hi hx (qI (ϡ h λv H1 q=>?_));obtain⟨l,xs,rfl,hl,hz,hw⟩:=q;refine⟨l,rfl,⟨xs,hl⟩,?_⟩;rw[hσ];refine vz (J:=ig X.K l) hz (λi H2 s hi=>⟨xs,xs[i],ζ.seq s hl,ϳ hi⟩) (λH2 s=>⟨xs,ζ.seq s hl,ϭ _⟩) (λi H2 x H3 hi s y=>⟨y.2 xs (ζ.seq s hl),y.1.symm⟩) hw
end
def cutAt(c:Nat):List Nat->List (List Nat)
 |[]=>[[]]
 |x::r=>if x=c then[]::cutAt c r else match cutAt c r with
  |[]=>[[x]]
  |h::t=>(x::h)::t
def jz(c:Nat):List (List Nat)->List Nat
 |[]=>[]
 |[p]=>p
 |p::q::r=>p++c::jz c (q::r)
theorem Ln{c:Nat}:∀{p:List Nat},c∉p->cutAt c p=[p]
 |[],_=>rfl
 |x::r,h=>by
  have ih:=Ln (c:=c) (p:=r) λz=>h (by simp[z])
  unfold cutAt;rw[if_neg (λz=>h (by simp[z])),ih]
theorem Qn{c:Nat}{l:List Nat}:∀{p:List Nat},c∉p->cutAt c (p++c::l)=p::cutAt c l
 |[],_=>by
  show cutAt c (c::l)=_;rw[cutAt,if_pos rfl]
 |x::r,h=>by
  have ih:=Qn (c:=c) (l:=l) (p:=r) λz=>h (by simp[z])
  show cutAt c (x::(r++c::l))=_;rw[cutAt,if_neg (λz=>h (by simp[z])),ih]
theorem Ft{c:Nat}:∀{ps:List (List Nat)},ps≠[]->(∀p∈ps,c∉p)->cutAt c (jz c ps)=ps
 |[],h,_=>absurd rfl h
 |[p],_,h=>Ln (h p (by simp))
 |p::q::r,_,h=>by
  show cutAt c (p++c::jz c (q::r))=_;rw[Qn (h p (by simp)),Ft (by simp) λx hx=>h x (acV _ hx)]
theorem CN(c:Nat):∀l,(cutAt c l).length<=l.length+1
 |[]=>by simp[cutAt]
 |x::r=>by
  have ih:=CN c r;unfold cutAt;split
  .simp;exact ih
  .split
   .simp
   .rename_i h t e;rw[e]at ih;simp at ih⊢;omega
theorem wF(c:Nat):∀ps:List Str,(Str.join ⟨#[c]⟩ ps).cps.toList=jz c (ps.map λp=>p.cps.toList)
 |[]=>rfl
 |[p]=>rfl
 |p::q::r=>by
  have ih:=wF c (q::r);have e:Str.join ⟨#[c]⟩ (p::q::r)=p++⟨#[c]⟩++Str.join ⟨#[c]⟩ (q::r):=rfl;rw[e];show((p.cps++ #[c])++(Str.join ⟨#[c]⟩ (q::r)).cps).toList=_;simp only[ank];rw[ih];simp[jz]
theorem afr(x:Str)(c:Nat):Txt.split x ⟨#[c]⟩≠[]:=by
 unfold Txt.split;split
 .simp
 .split
  .simp
  .unfold Builtin.Str.partsBetween;simp
theorem split_list(x:Str)(c:Nat):(Txt.split x ⟨#[c]⟩).map (λp=>p.cps.toList)=cutAt c x.cps.toList:=by
 have h1:(Str.join ⟨#[c]⟩ (Txt.split x ⟨#[c]⟩)).cps.toList=x.cps.toList:=by rw[StrLaws.join_split]
 rw[wF]at h1;rw[<-h1];refine(Ft (by simpa using afr x c) λp hp=>?_).symm;obtain⟨q,hq,rfl⟩:=acQ.mp hp;exact StrLaws.split_free x c q hq
def ϥ(c:Nat)(x:Str):List Str:=(cutAt c x.cps.toList).map λl=>⟨l.toArray⟩
theorem tZ(x:Str)(c:Nat):Txt.split x ⟨#[c]⟩=ϥ c x:=by
 unfold ϥ;rw[<-split_list,agn];have:((λl:List Nat=>(⟨l.toArray⟩:Str))∘λp:Str=>p.cps.toList)=id:=by
  funext p;rfl
 rw[this,aoB]
section
variable{X:Cx}{H:Hp}{Q:VK}{z y:Str}{v:V}
theorem Qm:∀l:List (Str×Tok),Vals ((l.map (·.1)).map V.str) (strValues l)
 |[]=>.nil
 |p::l=>.cons ⟨p.2,rfl⟩ (Qm l)
theorem m_split{c:Nat}(hz:z.length<=100000)(g:∀p,H p=none->Q (.ref p) (upd H p (.lst ((ϥ c z).map V.str)))):MT X "str.split" (.str z) [.str ⟨#[c]⟩] H Q:=by
 refine dZ (r:=λx xs H Q=>∃z c,x=.str z/\xs=[.str ⟨#[c]⟩]/\z.length<=100000/\∀p,H p=none->Q (.ref p) (upd H p (.lst ((ϥ c z).map V.str)))) ?_ ⟨z,c,rfl,rfl,hz,g⟩;intro ϵ s σ H x xs v us Q I rx rs h;obtain⟨z,c,rfl,rfl,hz,g⟩:=h;obtain⟨t,rfl⟩:=rx;obtain⟨u,rfl,ru⟩:=vals1 rs;obtain⟨t',rfl⟩:=ru;have hl:(ϥ c z).length<=z.length+1:=by
  have h1:=CN c z.cps.toList;unfold ϥ;rw[aaf];have h2:z.cps.toList.length=z.length:=rfl;omega
 have hsz:=ϱ;have fin:∀(l:List (Str×Tok))(tk:Nat),l.map (·.1)=ϥ c z->EP X ϵ σ Q (.ref s.heap.objs.size) {s with toks:=tk,heap:=s.heap.push {cls:=.type "list",data:=.seq (strValues l).toArray}}:=λl tk e=>
  ⟨.ref s.heap.objs.size,_,I.laid (t':=tk) (o:=.lst ((ϥ c z).map V.str)) (λb o q=>Heap.get?_push_of_some _ q) (ϭ _) ⟨by rw[aaf];omega,strValues l,_,by rw[<-e];exact Qm l,abE _ rfl⟩,rfl,g _ (I.hok.fresh (ϭ _))⟩
 cases h1:(decide (z.length<(⟨#[c]⟩:Str).length)||decide (Builtin.Str.strKind z<Builtin.Str.strKind ⟨#[c]⟩))
 .cases hf:(Builtin.Str.occurrences z ⟨#[c]⟩ 0 z.length (z.length+1)).isEmpty
  .have e:Txt.split z ⟨#[c]⟩=Builtin.Str.partsBetween z (Builtin.Str.occurrences z ⟨#[c]⟩ 0 z.length (z.length+1)) (⟨#[c]⟩:Str).length:=by
    unfold Txt.split;rw[if_neg (by rw[h1];decide),if_neg (by rw[hf];decide)]
   have hlp:=hl;rw[<-tZ,e]at hlp;refine amW F.slot_str_split (typeIs_str _ _ _) F.entry_str_split (F.args_str_split_2 _ _) (meets_str_split_sep z ⟨#[c]⟩ t t' h1 rfl hf (by omega) (by omega)) ?_;have:=fin (numbered s.toks (Txt.split z ⟨#[c]⟩)) (s.toks+(Builtin.Str.partsBetween z (Builtin.Str.occurrences z ⟨#[c]⟩ 0 z.length (z.length+1)) (⟨#[c]⟩:Str).length).length) (by rw[numbered_texts,tZ]);rw[<-strsFrom_eq,e]at this;exact this
  .have e:Txt.split z ⟨#[c]⟩=[z]:=by
    unfold Txt.split;rw[if_neg (by rw[h1];decide),if_pos hf]
   exact amW F.slot_str_split (typeIs_str _ _ _) F.entry_str_split (F.args_str_split_2 _ _) (meets_str_split_not_found z ⟨#[c]⟩ t t' h1 rfl hf) (fin [(z,t)] s.toks (by rw[<-tZ,e];rfl))
 .have e:Txt.split z ⟨#[c]⟩=[z]:=by
   unfold Txt.split;rw[if_pos h1]
  exact amW F.slot_str_split (typeIs_str _ _ _) F.entry_str_split (F.args_str_split_2 _ _) (meets_str_split_cannot_occur z ⟨#[c]⟩ t t' h1) (fin [(z,t)] s.toks (by rw[<-tZ,e];rfl))
end
def Ba(K:Ϩ)(l:δ)(n:Nat):It:=
 ⟨λi H=>i<n/\∃xs,η K H l xs/\xs.length=n,λi H x H'=>H'=H/\∀xs,η K H l xs->xs[n-1-i]?=some x,λi _=>i=n⟩
theorem abP{P:Ϯ}{w:Ϭ}{K:Ϩ}{tg:ν}(l it:δ)(n:Nat):Turn P w K tg (Ba K l n) [it] it (λi h=>h.IsRevIter it l ((n:Int)-1-(i:Int)))where
 mem:=by simp
 obj:=λi h st b hb=>by
  have e:b=it:=by simpa using hb
  subst e;obtain⟨o,e,c,d⟩:=st;exact⟨o,e,λv z=>by rw[d]at z;cases z⟩
 keep:=λi h h' st k=>st.at λo e=>k it (by simp) o e
 item:=by
  intro X hP hw hK hc i ϵ s σ H E I hf st hg;subst hP hw hK;obtain⟨hi,xs,hq,hx⟩:=hg;obtain⟨ϸ,rv,p,hz⟩:=I.list hq;have hx':n-1-i<xs.length:=by omega
  obtain⟨u,hu,ru⟩:=rv.get (ϳ hx');obtain⟨f0,f1,f2,f3,f4,f5⟩:=hf it (by simp);have ei:((n:Int)-1-(i:Int))=((n-1-i:Nat):Int):=by omega
  rw[ei]at st;refine wpAny_pyNext_rev_item st p.isList (x:=u) (by simpa using hu) λh' st' sb=>?_
  have I1:Inv X ϵ σ H {s with heap:=h'}:=I.turned (t':=s.toks) (λb o hb e=>(sb.2 b hb).trans e) f0 f1 f3 f4 f5;obtain⟨o,e,c,d⟩:=id st';refine⟨u,rfl,qR (s:={s with heap:=h'}) e c d (by decide) ⟨_,H,I1,ru,⟨rfl,λys hy=>?_⟩,?_,λb hb=>(hf b hb).1⟩⟩
  .rw[I.list_inj hy hq];exact ϳ hx'
  .have e2:((n:Int)-1-((i+1:Nat):Int))=((n-1-i:Nat):Int)-1:=by omega
   rw[e2];exact st'
 done:=by
  intro X hP hw hK hc i ϵ s σ H E I hf st hg;subst hP hw hK;obtain⟨f0,f1,f2,f3,f4,f5⟩:=hf it (by simp);have e:i=n:=hg;have e2:((n:Int)-1-(i:Int))= -1:=by omega
  rw[e2]at st;exact wpAny_pyNext_rev_end (I.ok.hd hc) st λh' eb=>⟨rfl,I.turned (t':=s.toks) (λb o hb e=>eb b o hb e) f0 f1 f3 f4 f5⟩
 self:=λ_ _ _ _ _ st h=>wpAny_pyIter_revIter st h
section
variable{X:Cx}{σ:St}{H:Hp}{a:ν}{tg:ν}{p pos p':Pos}{R:It->Hp->Prop}{D:Ends}
theorem aiT(hg:Gl X "reversed")(hm:X.mg "reversed"=none)(hs:ϯ [a] X.env=[(false,eval a X.env)])(h:EV X a σ H λv H1=>∃l xs,v=.ref l/\η X.K H1 l xs/\R (Ba X.K l xs.length) H1):EI X tg (.Call (.Name "reversed" p) [a] [] pos) σ H R:=by
 intro ϵ s I;refine Call_ (iU I hg hm boot_reversed (PyProof.Rows.callWith_type1 (χ (eQ (es:=[]) (QA:=λvs H1=>∃l xs,vs=[.ref l]/\η X.K H1 l xs/\R (Ba X.K l xs.length) H1) hs (ϡ h λv H1 ⟨l,xs,e,q1,q2⟩=>eY ⟨l,xs,by rw[e],q1,q2⟩) pos ϵ s I) λus s1 hZ=>?_) hs rfl));obtain⟨vs,H1,I1,r1,l,xs,e,hl,q⟩:=hZ;subst e;obtain⟨u,rfl,ru⟩:=vals1 r1;cases(show u=Value.ref l from ru);obtain⟨ϸ,rv,pl,hz⟩:=I1.list hl;have hlen:=rv.length;refine call_reversed_list pl.isList ?_;have hit:(s1.heap.push (revObj l ((ϸ.toArray.size:Int)-1))).IsRevIter s1.heap.objs.size l ((ϸ.toArray.size:Int)-1):=⟨_,abE _ rfl,rfl,rfl⟩;refine wpAny_pyIter_revIter hit ?_;refine⟨s1.heap.objs.size,[s1.heap.objs.size],_,_,H1,rfl,I1.kept (t':=s1.toks) λb o e=>Heap.get?_push_of_some _ e,abP l _ xs.length,?_,λb hb=>?_,q⟩
 .have e:((xs.length:Int)-1-((0:Nat):Int))=(ϸ.toArray.size:Int)-1:=by simp;omega
  rw[e];exact hit
 .have e:b=s1.heap.objs.size:=by simpa using hb
  subst e;exact I1.fpOk (ϭ _) (I1.hok.fresh (ϭ _))
theorem Z2{body:List ϧ}(hp:amZ (Ϧ X.prog X.w) X.A X.env X.xe)(hc:X.calm=true)(hg:Gl X "reversed")(hm:X.mg "reversed"=none)(hs:ϯ [a] X.env=[(false,eval a X.env)])(h:EV X a σ H λv H1=>∃q xs,v=.ref q/\η X.K H1 q xs/\∃Pv:Nat->St->Hp->Prop,Pv 0 σ H1/\(∀i σ' H',i<=xs.length->Pv i σ' H'->η X.K H' q xs)/\
   (∀i x σ' H',i<xs.length->xs[xs.length-1-i]?=some x->Pv i σ' H'->EG X tg x σ' H' λσ2 H2=>Κ X body {D with nx:=Pv (i+1),ct:=Pv (i+1),bk:=D.nx} σ2 H2)/\∀σ' H',Pv xs.length σ' H'->D.nx σ' H'):SX X (.For tg (.Call (.Name "reversed" p) [a] [] p') body [] pos) D σ H:=by
 refine qQ hp hc (by intro _;rfl) (aiT hg hm hs (ϡ h λv H1 q=>?_));obtain⟨q,xs,rfl,hq,Pv,h0,hl,hst,hd⟩:=q;refine⟨q,xs,rfl,hq,λi m σ H=>m=xs.length-i/\i<=xs.length/\Pv i σ H,⟨xs.length,by simp,afS _,h0⟩,?_⟩
 rintro i m σ' H' ⟨rfl,hi,p⟩
 by_cases hlt:i<xs.length
 .refine .inr ⟨⟨hlt,xs,hl i σ' H' hi p,rfl⟩,Pv (i+1),λσ2 H2 p2=>⟨xs.length-(i+1),by omega,rfl,hlt,p2⟩,λx H2 y=>?_⟩;obtain⟨rfl,e⟩:=y;exact hst i x σ' _ hlt (e xs (hl i σ' _ hi p)) p
 .have e:i=xs.length:=by omega
  refine .inl ⟨e,?_⟩;subst e;exact hd σ' H' p
end
theorem Yp{M:Model}{A:ϰ}{E:ε->μ->Prop}{s:μ}{α:Type}{e T L:δ}{cls:ε}{d:Option δ×Bool}{fl:ε}{what:String}{env:Env}{Q:α->μ->Prop}(hf:env.frame=some L)(F:bO s.heap e cls d (some T) fl)(k:∀h',rY s.heap h' [T] []->bO h' e cls d (some T) (rawInt L)->E (.ref e) {s with heap:=h'}):π M A (passOn what (.ref e) env) Q E s:=by
 obtain⟨oe,vs,he,hc,hdx,hd,h1,hz,h2,hT⟩:=F;obtain⟨Ϲ,oT,ws,t1,t2,t3⟩:=hT T rfl;have h3:3<ws.size:=(akn.mp t3).1;have h1':vs[1]?=some (Value.ref T):=h1;unfold PySem.passOn;refine Ϫ (wpAny_field he hd h1' ?_);rw[if_neg (show ¬((Value.ref T==Value.none)=true)from by simp)];refine Ϫ ?_;unfold setFlight;refine Ϫ (wpAny_field he hd h1' ?_);rw[if_pos (show(Value.ref T !=Value.none)=true from by simp),hf];refine wpAny_setField t1 t2 h3 (wpAny_throw (k _ ⟨λb o q _ n=>?_,λb o q n=>⟨o.slots,?_⟩,λb o q=>?_⟩ ?_))
 .rw[acu _ _ (λz=>n (by simp[z]))];exact q
 .rw[acu _ _ (λz=>n (by simp[z]))];exact q
 .by_cases z:b=T
  .subst z;exact⟨_,aeJ _ t1 (Obj.isFreed_of_fields (Obj.data_mapFields t2 _))⟩
  .exact⟨o,by rw[acu _ _ (Ne.symm z)];exact q⟩
 .refine⟨oe,vs,?_,hc,hdx,hd,h1,hz,h2.stay λv o ws hv q1 q2=>?_,λT' eT=>?_⟩
  .rw[acu _ _ Ϲ];exact he
  .by_cases z:v=T
   .subst z;rw[t1]at q1;cases q1;exact⟨_,_,aeJ _ t1 (Obj.isFreed_of_fields (Obj.data_mapFields t2 _)),Obj.data_mapFields q2 _,by rw[ahH (by decide)]⟩
   .exact⟨o,ws,by rw[acu _ _ (Ne.symm z)];exact q1,q2,rfl⟩
  .cases eT;exact⟨Ϲ,_,_,aeJ _ t1 (Obj.isFreed_of_fields (Obj.data_mapFields t2 _)),Obj.data_mapFields t2 _,by simp[h3]⟩
theorem aex{prog:Ϯ}{w:Ϭ}{A:ϰ}{R:Result->μ->Prop}{s:μ}{elt target iter:ν}{ifs:List ν}{scope:agJ}{pos:Pos}{it acc:ε}{env:Env}(I:Nat->μ->Prop){Er:ε->μ->Prop}(hE:∀x s,Er x s->notedBy (Ϧ prog w) A env (λx s'=>R (.error x) s') x s)(turn:∀n s,I n s->π (Ϧ prog w) A (pyNext it) (λr s₁=>match r with
   |none=>R (.ok .next) s₁
   |some v=>π (Ϧ prog w) A (letOwnedTupleGo target it v) (λ_ s₁'=>π (Ϧ prog w) A (assign target env v) (λ_ s₂=>
    π (Ϧ prog w) A (forIn ifs true λc r=>if r=true then do let ok<-isTrue c env (eval c env);pure (ForInStep.yield ok)else pure (ForInStep.yield r)) (λok s₃=>
     if ok=true then π (Ϧ prog w) A (eval elt env) (λx s₄=>
      π (Ϧ prog w) A (call (.builtin "list.append") [acc,x]) (λ_ s₅=>∃m,m<n/\I m s₅) Er s₄) Er s₃
     else ∃m,m<n/\I m s₃) Er s₂) Er s₁') Er s₁) Er s)(n:Nat)(h:I n s):codeAny (Ϧ prog w) A (.compLoop (.ListComp elt [⟨target,iter,ifs,0⟩] scope pos) 0 it acc env) R s:=by
 refine codeAny_loop rfl I (λn s hI=>?_) n h;show π _ A ((compTurn (.ListComp elt [⟨target,iter,ifs,0⟩] scope pos) 0 it acc env).onRaise (λx=>do noteFrame x env;theTreesLotGoes x)) _ _ s;refine wpAny_noted ?_;rw[compTurn_list];refine Ϫ (akH (Ϫ (adu (turn n s hI) (λr s₁ h₁=>?_) hE)));cases r with
 |none=>exact ϲ h₁
 |some v=>
  refine Ϫ (adu h₁ (λ_ s₁' h₁'=>?_) hE);refine Ϫ (adu h₁' (λ_ s₂ h₂=>Ϫ (adu h₂ (λok s₃ h₃=>?_) hE)) hE);cases ok with
  |false=>exact ϲ ⟨rfl,h₃⟩
  |true=>
   exact Ϫ (Ϫ (adu h₃ (λx s₄ h₄=>Ϫ (adu h₄ (λ_ s₅ h₅=>ϲ (ϲ ⟨rfl,h₅⟩)) hE)) hE))
def yc(M:Model)(A:ϰ)(E:ε->μ->Prop)(use:Option (ε->Sem Unit))(Q:ε->μ->Prop)(acc:ε)(C:Env)(r:Result)(s':μ):Prop:=
 match r,use with
 |.ok _,none=>∃m,s'.heap.Ns C.locals m/\∀h',akZ C.locals s'.heap h'->Q acc {s' with heap:=h'}
 |.ok _,some u=>π M A (u acc) (λ_ s''=>∃m,s''.heap.Ns C.locals m/\∀h',akZ C.locals s''.heap h'->Q .none {s'' with heap:=h'}) E s'
 |.error x,_=>∃m,s'.heap.Ns C.locals m/\∀h',akZ C.locals s'.heap h'->π M A (passOn "comprehension.variables-let-go" x C:Sem ε) (λ_ _=>False) E {s' with heap:=h'}
theorem ahr{M:Model}{A:ϰ}{E:ε->μ->Prop}{s:μ}{env:Env}{e:ν}{scope:agJ}{pos:Pos}{newAcc first:Sem ε}{g:Comprehension}{gs:List Comprehension}{cl:List (Str×δ)}{use:Option (ε->Sem Unit)}{Q:ε->μ->Prop}(hcl:clausesOf e=g::gs)(hs:∀x,foldedSetIterable g.iter env x=pure x)(hclos:closureFor scope env=pure cl)(hkind:scope.kind=.function)(hnames:∀x∈scope.names,x.2=.local->scope.names.lookup x.1=some .local)(h:π M A first (λx s₁=>π M A (pyIter x) (λit s₂=>π M A newAcc (λacc s₃=>π M A (newFunctionEnv scope env.globals cl [] env.qual none .none (some env)) (λcenv s₄=>
   codeAny M A (.compStart e 0 it acc {cenv with scope:=relabel scope env}) (yc M A E use Q acc {cenv with scope:=relabel scope env}) s₄) E s₃) E s₂) E s₁) E s):π M A (comprehension e scope env pos newAcc false first use) Q E s:=by
 unfold comprehension;rw[hclos,hcl];refine Ϫ (adu h (λx s₁ h₁=>Ϫ (akH (Ϫ (wpAny_of_eq (hs x) (Ϫ (afE (adu h₁ (λit s₂ h₂=>wpAny_standIf (Ϫ (adu h₂ (λacc s₃ h₃=>
  Ϫ (ϲ (Ϫ (adu h₃ (λcenv s₄ h₄=>?_) λ_ _ z=>z)))) λ_ _ z=>z))) λ_ _ z=>z))))))) λ_ _ z=>z)
 dsimp only;have hv:∀x∈(scope.names.filter λx=>(x.2==.local||x.2==.cell)&&x.1 !=(".0":Str)).reverse,x.2=.local->Env.kindOf {cenv with scope:=relabel scope env} x.1=some .local:=
  λx hx hl=>lookup_relabel_local (hnames x (aia.mp (aoq.mp hx)).1 hl)
 have hw:∀x∈(scope.names.filter λx=>(x.2==.local||x.2==.cell)&&x.1 !=(".0":Str)).reverse.drop 1++(scope.names.filter λx=>(x.2==.local||x.2==.cell)&&x.1 !=(".0":Str)).reverse.take 1,x.2=.local->Env.kindOf {cenv with scope:=relabel scope env} x.1=some .local:=λx hx hl=>by
  obtain z|z:=adT.mp hx
  .exact hv x (ag4 z) hl
  .exact hv x (ahj z) hl
 refine afE (Ϫ (wpAny_attempt (afE (wpAny_run (aiS h₄ λr s' hr=>?_)))));cases r with
 |ok f=>
  cases use with
  |none=>
   obtain⟨m,hn,hr⟩:=hr;exact Ϫ (afE (wpAny_comp_letGo (cenv:={cenv with scope:=relabel scope env}) hkind _ s' m hv hn λh' m' _ z=>ϲ (hr h' z)))
  |some u=>
   refine Ϫ (wpAny_rule (Ϫ (afE (adu hr (λ_ s'' hr'=>?_) λ_ _ z=>z))));obtain⟨m,hn,hr'⟩:=hr';exact Ϫ (wpAny_comp_letGo (cenv:={cenv with scope:=relabel scope env}) hkind _ s'' m hw hn λh' m' _ z=>ϲ (hr' h' z))
 |error x=>
  have hr':∃m,s'.heap.Ns cenv.locals m/\∀h',akZ cenv.locals s'.heap h'->π M A (passOn "comprehension.variables-let-go" x {cenv with scope:=relabel scope env}:Sem ε) (λ_ _=>False) E {s' with heap:=h'}:=by cases use<;>exact hr
  obtain⟨m,hn,hr⟩:=hr';exact Ϫ (afE (wpAny_comp_letGo (cenv:={cenv with scope:=relabel scope env}) hkind _ s' m hv hn λh' m' _ z=>adu (hr h' z) (λ_ _ f=>f.elim) λ_ _ y=>y))
abbrev dF(X:Cx)(N':List Str)(scope:agJ)(cl:List (Str×δ))(C:δ)(s:μ)(H:Hp)(fp:List δ)(F:ε->μ->Prop):Cx:=(aR X N' scope cl C s H fp).tri F []
section
variable{X:Cx}{ϵ:List (δ×Obj)}{σ:St}{H:Hp}{s:μ}{scope:agJ}{N':List Str}{fp:List δ}{elt iter tg:ν}{ifs:List ν}{pos:Pos}{Kx:St->XK}
theorem aeK{R:ε->Env->Result->μ->Prop}{it:δ}{tn:Nat->ϫ->Prop}{J:It}{E:ε->μ->Prop}{Q:δ->Hp->Prop}(hst:X.stack=X.env::X.outer)(hfr:X.env.frame=some X.env.locals)(hc:X.calm=true)(S:bu X.env scope)(I:Inv X ϵ σ H s)(T:Turn X.prog X.w X.K tg J fp it tn)(st:tn 0 s.heap)(hf:∀b∈fp,aO X ϵ H b)(h:∀(D C:δ)(s3:μ)(F:ε->μ->Prop),H D=none->bc (dF X N' scope (Ϗ scope X.env) C s3 (upd H D (.lst [])) fp F) (λ_=>Kx σ)->fL X (dF X N' scope (Ϗ scope X.env) C s3 (upd H D (.lst [])) fp F) tg elt ifs J D (bf N' X.N σ scope) H (Q D))(hR:∀(D:δ)(C:Env)(H':Hp)(s':μ),H D=none->Q D H'->Inv X ϵ σ H' s'->aO X ϵ H' C.locals->(∃m,s'.heap.Ns C.locals m)->R (.ref D) C (.ok .next) s')(hRx:∀(D:δ)(C:Env)(H':Hp)(s':μ)(e t:δ)(cls:ε)(d:Option δ×Bool),C.frame=some X.env.locals->Inv X ϵ σ H' s'->aO X ϵ H' C.locals->(∃m,s'.heap.Ns C.locals m)->bO s'.heap e cls d (some t) (rawInt X.env.locals)->
   (∀b∈[e,t],(H' b=none/\Ch X ϵ b)/\b≠C.locals)->Kx σ cls d H'->R (.ref D) C (.error (.ref e)) s'):π (Ϧ X.prog X.w) X.A (newList []) (λacc s₃=>π (Ϧ X.prog X.w) X.A (newFunctionEnv scope X.env.globals (Ϗ scope X.env) [] X.env.qual none .none (some X.env)) (λcenv s₄=>
   codeAny (Ϧ X.prog X.w) X.A (.compStart (.ListComp elt [⟨tg,iter,ifs,0⟩] scope pos) 0 (.ref it) acc {cenv with scope:=relabel scope X.env}) (R acc {cenv with scope:=relabel scope X.env}) s₄) E s₃) E s:=by
 refine am5 ?_;have hD:H s.heap.objs.size=none:=I.hok.fresh (ϭ _);generalize hs3:({s with heap:=s.heap.push {cls:=.type "list",dict:=none,data:=.seq ([]:List ε).toArray}}:μ)=s3;have I3:Inv X ϵ σ (upd H s.heap.objs.size (.lst [])) s3:=by
  subst hs3;exact I.laid (t':=s.toks) (λb u e=>Heap.get?_push_of_some _ e) (ϭ _) ⟨afS _,[],0,.nil,abE _ rfl⟩
 have hsz:s3.heap.objs.size=s.heap.objs.size+1:=by subst hs3;exact am8 ..
 have old3:∀b o,s.heap.get? b=some o->s3.heap.get? b=some o:=λb o e=>by subst hs3;exact Heap.get?_push_of_some _ e
 have qO:∀b∈fp,b<s.heap.objs.size:=λb hb=>by
  obtain⟨o,e,_⟩:=T.obj _ _ st b hb;exact aaY e
 have gW:∀b∈fp,aO X ϵ (upd H s.heap.objs.size (.lst [])) b:=λb hb=>⟨by rw[θ (abF (qO b hb))];exact(hf b hb).1,(hf b hb).2⟩
 have st3:tn 0 s3.heap:=T.keep _ _ _ st λb _ o e=>old3 b o e
 have rD:∀b∈fp,b<s3.heap.objs.size:=λb hb=>by rw[hsz];exact amg (qO b hb)
 refine wpAny_newFunctionEnv S.cell (by intro y hy;simp at hy) (λh₁ hns hsb=>?_) S.kind;have fU:∀b o,s3.heap.get? b=some o->h₁.get? b=some o:=λb o e=>hsb.extBut b o (abF (aaY e)) (Heap.get?_push_of_some _ e)
 generalize pP:compEnvC scope (Ϗ scope X.env) s3.heap.objs.size X.env=Ce;have oO:Ce.locals=s3.heap.objs.size:=by rw[<-pP];rfl
 have hCf:Ce.frame=some X.env.locals:=by rw[<-pP];exact hfr
 generalize hB:aR X N' scope (Ϗ scope X.env) s3.heap.objs.size s3 (upd H s.heap.objs.size (.lst [])) fp=B;generalize hF:notedBy (Ϧ X.prog X.w) X.A Ce (λx s'=>R (.ref s.heap.objs.size) Ce (.error x) s')=F;generalize qC:({s3 with heap:=h₁,toks:=s3.toks+([]:List (Str×ε)).length}:μ)=s4;have K4:Inv B [] (bf N' X.N σ scope) (upd H s.heap.objs.size (.lst [])) s4:=by
  subst qC;rw[<-hB];exact Ru S I3 gW rD hns fU
 have hpn:B.pn=[]:=by rw[<-hB];rfl
 have toX:∀{pins':List (δ×Obj)}{τ:St}{H':Hp}{s':μ},Inv (B.tri F []) pins' τ H' s'->Inv X ϵ σ H' s':=λ{pins' τ H' s'} J=>by
  have J2:Inv B [] τ H' s':=Inv.jE (X:=B) (ϵ:=[]) (F:=F) (pins':=pins') K4.ok (by rw[hpn];exact J);rw[<-hB]at J2;exact Rt I3 gW J2
 have hP:(B.tri F []).prog=X.prog:=by rw[<-hB];rfl
 have hw:(B.tri F []).w=X.w:=by rw[<-hB];rfl
 have hK:(B.tri F []).K=X.K:=by rw[<-hB];rfl
 have hA:(B.tri F []).A=X.A:=by rw[<-hB];rfl
 have pN:(B.tri F []).calm=true:=by rw[<-hB];exact hc
 have hen:(B.tri F []).env=Ce:=by rw[<-hB, <-pP];rfl
 have hloc:(B.tri F []).env.locals=s3.heap.objs.size:=by rw[hen,oO]
 have hex:(B.tri F []).ex=fp:=by rw[<-hB];rfl
 have hs0:(B.tri F []).s₀=s3:=by rw[<-hB];rfl
 have acG:s3.heap.objs.size∉b8 X.stack:=λz=>by
  rcases ϴ.mp (I3.stkSub _ z)with e|e
  .exact ahP _ (e▸I3.lt)
  .exact I3.nofs (ϭ _) e
 have J7:bc (B.tri F []) (λ_=>Kx σ):=by
  intro pins' τ H' s' e cls d xa q;obtain⟨J,tb,fl,Fl,hfl,ch⟩:=xa;have IX:=toX J;have chX:∀b∈e::tb.toList,(H' b=none/\Ch X ϵ b)/\b≠s3.heap.objs.size:=λb hb=>by
   obtain⟨c0,c1,c2,c3⟩:=ch b hb;rw[hloc]at c2;rw[hex,hs0]at c1;refine⟨⟨c0,?_⟩,c2⟩;obtain z|z:=c1
   .obtain⟨_,g1,_,g3,g4,g5⟩:=gW b z;exact⟨g3,g1,g4,g5⟩
   .exact I3.ch z
  have hfl':(fl==rawInt X.env.locals)=false:=by
   obtain z|⟨z,_⟩:=hfl
   .rw[z];simp[rawInt]
   .rw[z,hloc,beq_eq_false_iff_ne];intro z2;simp only[rawInt]at z2;have z3:((s3.heap.objs.size:Nat):Int)=((X.env.locals:Nat):Int):=by injection z2
    have z4:s3.heap.objs.size=X.env.locals:=Int.ofNat.inj z3;have z5:=I3.lt;rw[z4]at z5;exact ahP _ z5
  show F (.ref e) s';rw[<-hF];have hl:=IX.stack;rw[hst]at hl;have en:noteFrame (.ref e) Ce=noteFrame (.ref e) X.env:=by rw[<-pP];rfl
  show π _ _ (noteFrame (.ref e) Ce) _ _ _;rw[en];refine KZ (base:=X.base) (IX.ok.frames.trans (by rw[hst])) hl hfr Fl hfl' λh' t N hT F'=>?_
  have IN:Inv X ϵ σ H' {s' with heap:=h'}:=IX.noted (by rw[hst];exact N) λb hb=>(chX b hb).1
  obtain⟨m,hn,_⟩:=J.loc;rw[hloc]at hn;have hlt:s3.heap.objs.size<s'.heap.objs.size:=hn.lt;have hfree:H' s3.heap.objs.size=none:=by
   have:=J.free;rw[hloc]at this;exact this
  refine hRx _ Ce H' _ e t cls d hCf IN (by rw[oO];exact I3.fpOk (ϭ _) hfree) ⟨m,?_⟩ F' (λb hb=>?_) q
  .rw[oO];obtain⟨o,a1,a2,ho,hr⟩:=hn;exact⟨o,a1,a2,N.keep _ _ ho (by rw[<-hst];exact acG) (λz=>(chX _ z).2 rfl),hr⟩
  .rw[oO];obtain z|z:=ϴ.mp hb
   .subst z;exact chX _ aek
   .have z':b=t:=by simpa using z
    subst z';exact⟨⟨IX.hok.fresh hT,IX.ch (aiN hT)⟩,λz=>ahP _ (abX hlt (z▸hT))⟩
 have hT:=h s.heap.objs.size s3.heap.objs.size s3 F hD (by rw[<-hB]at J7;exact J7);rw[show dF X N' scope (Ϗ scope X.env) s3.heap.objs.size s3 (upd H s.heap.objs.size (.lst [])) fp F=B.tri F []from by rw[<-hB]]at hT;obtain⟨W,⟨m0,w0⟩,turn⟩:=hT;have I4:Inv (B.tri F []) [] (bf N' X.N σ scope) (upd H s.heap.objs.size (.lst [])) s4:=by
  have:=K4.tri (F:=F);rw[hpn]at this;exact this
 have tG:tn 0 s4.heap:=by
  subst qC;exact T.keep _ _ _ st3 λb _ o e=>fU b o e
 have lQ:∀b∈fp,∀H':Hp,H' b=none->aO (B.tri F []) [] H' b:=λb hb H' e=>by
  rw[<-hB];refine⟨e,abF (rD b hb),λz=>?_,.inl hb,λx c q=>(gW b hb).2.2.2.2.1 x c (S.cl I3 q),λp hp=>absurd (show p∈([]:List (δ×Obj))from hp) (by simp)⟩;rcases ϴ.mp (I3.stkSub b z)with e|e
  .exact(hf b hb).2.1 e
  .exact(hf b hb).2.2.1 e
 have loop:codeAny (Ϧ X.prog X.w) X.A (.compLoop (.ListComp elt [⟨tg,iter,ifs,0⟩] scope pos) 0 (.ref it) (.ref s.heap.objs.size) Ce) (R (.ref s.heap.objs.size) Ce) s4:=by
  refine aex (Er:=F) (λn s'=>∃i τ H',Inv (B.tri F []) [] τ H' s'/\tn i s'.heap/\(∀b∈fp,H' b=none)/\W i n τ H') (λx s z=>by rw[<-hF]at z;exact z) ?_ m0 ⟨0,_,_,I4,tG,λb hb=>(gW b hb).1,w0⟩
  rintro n s5 ⟨i,τ,H5,I5,st5,fr5,w5⟩
  have toF:∀{α:Type}{t:Sem α}{Q:α->μ->Prop}{s:μ},π (Ϧ (B.tri F []).prog (B.tri F []).w) (B.tri F []).A t Q (B.tri F []).xe s->π (Ϧ X.prog X.w) X.A t Q F s:=λh=>by
   rw[hP,hw,hA]at h;exact h
  rw[<-hen];obtain⟨stop,qn⟩|⟨go,N,hN,step⟩:=turn i n τ H5 w5
  .have q:=T.done (B.tri F []) hP hw hK pN i [] s5 τ H5 F I5 (λb hb=>lQ b hb _ (fr5 b hb)) st5 stop;rw[hA]at q;refine χ q λr s6 hZ=>?_
   obtain⟨hr,I6⟩:=hZ;subst hr;refine hR _ _ H5 s6 hD qn (toX I6) ?_ ?_
   .rw[hloc];refine I3.fpOk (ϭ _) ?_;have:=I6.free;rw[hloc]at this;exact this
   .obtain⟨m,hn,_⟩:=I6.loc;exact⟨m,hn⟩
  .have q:=T.item (B.tri F []) hP hw hK pN i [] s5 τ H5 F I5 (λb hb=>lQ b hb _ (fr5 b hb)) st5 go;rw[hA]at q;refine χ q λr s6 hZ=>?_
   obtain⟨u,hr,h6⟩:=hZ;subst hr;refine χ h6 λ_ s7 hZ=>?_
   obtain⟨x,H7,I7,r7,y7,jZ,Cq⟩:=hZ;have yL:=I7.pinned (λb hb=>lQ b hb _ (Cq b hb)) (T.obj _ _ jZ);have qP:∀{τ':St}{H8:Hp}{s8:μ},Inv (B.tri F []) ([]++dO fp s7.heap) τ' H8 s8->tn (i+1) s8.heap/\∀b∈fp,H8 b=none:=λ{τ' H8 s8} I8=>by
    refine⟨T.keep _ _ _ jZ λb hb o e=>(I8.pin (b,o) (acp _ (acp _ (mZ hb e)))).1,λb hb=>?_⟩;obtain⟨o,e,d⟩:=T.obj _ _ jZ b hb;exact(I8.pin (b,o) (acp _ (acp _ (mZ hb e)))).2.1
   refine toF (χ (step x H7 y7 _ s7 u yL r7) λ_ s8 hZ=>?_);obtain⟨τ8,H8,I8,q8⟩:=hZ;refine toF (χ (q8 _ s8 I8) λok s9 hZ=>?_);obtain⟨H9,I9,q9⟩:=hZ;cases ok with
   |false=>
    have lL:N τ8 H9:=by simpa using q9
    obtain⟨m',hm,w9⟩:=hN _ _ lL;obtain⟨k1,k2⟩:=qP I9;show ∃m,_;exact⟨m',hm,i+1,τ8,H9,I9.unpinned,k1,k2,w9⟩
   |true=>
    have lL:EV (B.tri F []) elt τ8 H9 λy H4=>∃xs,H4 s.heap.objs.size=some (.lst xs)/\xs.length<ϩ/\N τ8 (upd H4 s.heap.objs.size (.lst (xs++[y]))):=by simpa using q9
    show π _ _ _ _ _ _;refine toF (χ (lL _ s9 I9) λz fO hZ=>?_);obtain⟨y,iC,Gf,r10,xs,e10,l10,n10⟩:=hZ;refine toF (χ (jM _ fO τ8 iC (.ref s.heap.objs.size) [y] _ [z] (λv gJ=>v=.non/\gJ=upd iC s.heap.objs.size (.lst (xs++[y]))) Gf rfl (.cons r10 .nil) ⟨_,xs,y,rfl,rfl,e10,l10,rfl,rfl⟩) λ_ fV hZ=>?_);obtain⟨_,gJ,tM,_,_,Ae⟩:=hZ;subst Ae;obtain⟨m',hm,w11⟩:=hN _ _ n10;obtain⟨k1,k2⟩:=qP tM;exact⟨m',hm,i+1,τ8,_,tM.unpinned,k1,k2,w11⟩
 rw[<-pP]at loop;exact codeAny_compStart_list loop (T.self X.A 0 s4 _ _ tG loop)
theorem abz{Q:ε->μ->Prop}{use:Option (ε->Sem Unit)}(hx:bc X Kx){acc:ε}{C:Env}{H':Hp}{s':μ}{e t:δ}{cls:ε}{d:Option δ×Bool}(hCf:C.frame=some X.env.locals)(I:Inv X ϵ σ H' s')(fC:aO X ϵ H' C.locals)(hn:∃m,s'.heap.Ns C.locals m)(F:bO s'.heap e cls d (some t) (rawInt X.env.locals))(ch:∀b∈[e,t],(H' b=none/\Ch X ϵ b)/\b≠C.locals)(q:Kx σ cls d H'):yc (Ϧ X.prog X.w) X.A X.xe use Q acc C (.error (.ref e)) s':=by
 obtain⟨m,hn⟩:=hn;obtain⟨f0,f1,f2,f3,f4,f5⟩:=fC;have main:∃m,s'.heap.Ns C.locals m/\∀h',akZ C.locals s'.heap h'->π (Ϧ X.prog X.w) X.A (passOn "comprehension.variables-let-go" (.ref e) C:Sem ε) (λ_ _=>False) X.xe {s' with heap:=h'}:=by
  refine⟨m,hn,λh' hsb=>?_⟩;have I2:Inv X ϵ σ H' {s' with heap:=h'}:=I.turned (t':=s'.toks) (λb o hb e=>hsb.extBut b o hb e) f0 f1 f3 f4 f5;have F2:bO h' e cls d (some t) (rawInt X.env.locals):=by
   obtain⟨oe,vs,he,hc,hdx,hd,h1,hz,h2,hT⟩:=F;refine⟨oe,vs,hsb.extBut _ _ (ch e (by simp)).2 he,hc,hdx,hd,h1,hz,h2.stay (λv o ws hv q1 q2=>⟨o,ws,hsb.extBut _ _ (λz=>by
    obtain⟨_,_,_,ho,hdd,_⟩:=hn;rw[<-z,q1]at ho;cases ho;rw[q2]at hdd;cases hdd) q1,q2,rfl⟩),λT eT=>?_⟩
   cases eT;obtain⟨Ϲ,oT,ws,t1,t2,t3⟩:=hT t rfl;exact⟨Ϲ,oT,ws,hsb.extBut _ _ (ch t (by simp)).2 t1,t2,t3⟩
  refine Yp (s:={s' with heap:=h'}) hCf F2 λh2 N F3=>?_
  refine hx ϵ σ H' _ e cls d ⟨I2.noted (ch:=[t]) ⟨λb o q _ n=>N.keep b o q (by simp) n,N.slot,N.there⟩ λb hb=>?_,some t,_,F3,.inr ⟨rfl,rfl⟩,λb hb=>(ch b (by simpa using hb)).1⟩ q;have z:b=t:=by simpa using hb
  subst z;exact(ch b (by simp)).1
 cases use<;>exact main
theorem Yq{D:Ends}{y:Str}{py spos:Pos}{j:Nat}(hx0:bc X Kx)(hst:X.stack=X.env::X.outer)(hfr:X.env.frame=some X.env.locals)(hsw:akr (.ListComp elt [⟨tg,iter,ifs,0⟩] scope pos) (some (.Name y py)) spos.line X.env=pure true)(hc:X.calm=true)(S:bu X.env scope)(hs:∀x,foldedSetIterable iter X.env x=pure x)(hN:X.N.Nodup)(hi:nameAt X.N y=some j)(hx:X.env.scope.names.lookup y=some .local)(h:EI X tg iter σ H λJ H1=>∀(fp:List δ)(E C:δ)(s3:μ)(F:ε->μ->Prop),H1 E=none->bc (dF X N' scope (Ϗ scope X.env) C s3 (upd H1 E (.lst [])) fp F) (λ_=>Kx σ)->fL X (dF X N' scope (Ϗ scope X.env) C s3 (upd H1 E (.lst [])) fp F) tg elt ifs J E (bf N' X.N σ scope) H1 (λH'=>D.nx (σ.set j (some (.ref E))) H')):SX X (.Assign [.Name y py] (.ListComp elt [⟨tg,iter,ifs,0⟩] scope pos) spos) D σ H:=by
 intro ϵ s I;rw[exec_Assign_Name_used _ _ _ _ hsw];refine Ϫ (akH (Ϫ ?_));show π _ X.A (do let _<-comprehension (.ListComp elt [⟨tg,iter,ifs,0⟩] scope pos) scope X.env _ (newList []) false (eval iter X.env) (some (assign (.Name y py) X.env))) _ _ s;refine Ϫ (adu (ahr (use:=some (assign (.Name y py) X.env)) (Q:=λ_ s'=>SP X ϵ D .next s') rfl hs (zq (S.has I)) S.kind S.loc
  (χ (h ϵ s I) λv s1 h1=>χ h1 λitv s2 h2=>?_)) (λ_ s' hq=>ϲ (ϲ hq)) λ_ _ e=>e)
 obtain⟨it,fp,tn,J,H2,e,I2,T,st2,f2,q2⟩:=h2;subst e;refine aeK (Kx:=Kx) (R:=λacc C=>yc (Ϧ X.prog X.w) X.A X.xe (some (assign (.Name y py) X.env)) (λ_ s'=>SP X ϵ D .next s') acc C) (Q:=λE H'=>D.nx (σ.set j (some (.ref E))) H') hst hfr hc S I2 T st2 f2 (λE C s3 F hD xo=>q2 fp E C s3 F hD xo) (λE C H' s' hD qD IX fC hn=>?_)
  λD C H' s' e t cls d hCf IX fC hn F ch q=>abz hx0 hCf IX fC hn F ch q
 obtain⟨m,hn⟩:=hn;obtain⟨f0,f1,IV,f3,f4,f5⟩:=fC;show π _ _ (assign (.Name y py) X.env (.ref E)) _ _ _;refine wpAny_assign_Name (qp IX hN (pM hi) (.inl hx) (v:=.ref E) rfl (λs'' Fv hb=>?_) (.inr hx));obtain⟨a,sb,ha⟩:=hb;have BL:C.locals≠a:=by
  obtain ha|ha:=ha
  .rw[ha];exact f1
  .intro z;exact f4 y a ha z.symm
 refine⟨m,hn.sameBut sb BL,λh' hsb=>⟨σ.set j (some (.ref E)),H',Fv.turned (t':=s''.toks) (λb o hb e=>hsb.extBut b o hb e) f0 f1 f3 f4 f5,qD⟩⟩
end
section
variable{X:Cx}{a e:ν}{σ σ':St}{H:Hp}{Q:VK}{D:Ends}{pos spos py p p':Pos}{tg elt iter:ν}{scope:agJ}{Kx:St->XK}{y:Str}{j:Nat}
def Ms(X:Cx)(N':List Str)(scope:agJ)(tg elt:ν)(σ σ':St)(Kx:St->XK)(H1:Hp)(Q:VK)(n:Nat)(G:Nat->Hp->V->Hp->Prop):Prop:=
 ∃(Tp:St->Prop)(Pi:δ->Nat->V->Hp->Prop),Tp σ'/\
  (∀E i v H2 H3 ys,H2 E=some (.lst ys)->(∀b o,b≠E->H2 b=some o->H3 b=some o)->Pi E i v H2->Pi E i v H3)/\
  (∀(fp:List δ)(E C:δ)(s3:μ)(H0:Hp)(F:ε->μ->Prop)(i:Nat)(τ:St)(x:V)(H2 H3:Hp),bc (dF X N' scope (Ϗ scope X.env) C s3 H0 fp F) (λ_=>Kx σ)->H1 E=none->i<n->Tp τ->ζ H1 H2->(∃ys,H2 E=some (.lst ys)/\ys.length=i/\∀k v,ys[k]?=some v->Pi E k v H2)->G i H2 x H3->
   EG (dF X N' scope (Ϗ scope X.env) C s3 H0 fp F) tg x τ H3 λτ2 H4=>EV (dF X N' scope (Ϗ scope X.env) C s3 H0 fp F) elt τ2 H4 λv H5=>Tp τ2/\Pi E i v H5/\ζ H2 H5)/\
  ∀(E:δ)(H2:Hp)(xs:List V),H1 E=none->xs.length=n->(∀i v,xs[i]?=some v->Pi E i v H2)->H2 E=some (.lst xs)->ζ H1 H2->Q (.ref E) H2
theorem Tz{Y:Cx}{tg elt:ν}{J:It}{E:δ}{τ0:St}{Q:Hp->Prop}(n:Nat)(hn:n<=ϩ)(Tp:St->Prop)(hT:Tp τ0)(Pi:Nat->V->Hp->Prop)(hE:H E=none)(mono:∀i v H1 H2 ys,H1 E=some (.lst ys)->(∀b o,b≠E->H1 b=some o->H2 b=some o)->Pi i v H1->Pi i v H2)(go:∀i H1,ζ H H1->i<n->J.go i H1)(stop:∀H1,ζ H H1->J.stop n H1)(step:∀i τ x H1 H2,i<n->Tp τ->ζ H H1->(∃ys,H1 E=some (.lst ys)/\ys.length=i/\∀k v,ys[k]?=some v->Pi k v H1)->J.yld i H1 x H2->EG Y tg x τ H2 λτ2 H3=>EV Y elt τ2 H3 λv H4=>Tp τ2/\Pi i v H4/\ζ H1 H4)(fin:∀H1 xs,xs.length=n->(∀i v,xs[i]?=some v->Pi i v H1)->H1 E=some (.lst xs)->ζ H H1->Q H1):fL X Y tg elt [] J E τ0 H Q:=by
 refine⟨λi m τ H1=>m=n-i/\i<=n/\ζ H H1/\Tp τ/\∃xs,H1 E=some (.lst xs)/\xs.length=i/\∀k v,xs[k]?=some v->Pi k v H1,⟨n,by simp,afS _,ζ.upd hE,hT,[],υ,rfl,λk v e=>by simp at e⟩,?_⟩
 rintro i m τ H1 ⟨rfl,hi,s1,hτ,xs,eE,lx,px⟩
 by_cases hlt:i<n
 .refine .inr ⟨go i H1 s1 hlt,λτ' H'=>ζ H H'/\Tp τ'/\∃xs,H' E=some (.lst xs)/\xs.length=i+1/\∀k v,xs[k]?=some v->Pi k v H',λτ' H' ⟨a,b,c⟩=>⟨n-(i+1),by omega,rfl,hlt,a,b,c⟩,λx H2 y=>?_⟩;intro ϵ s u I r;refine χ (step i τ x H1 H2 hlt hτ s1 ⟨xs,eE,lx,px⟩ y ϵ s u I r) λ_ s' ⟨τ2,H3,I3,q3⟩=>⟨τ2,H3,I3,yE ?_⟩
  rw[if_pos rfl];refine ϡ q3 λv H4 ⟨t2,pv,s2⟩=>⟨xs,s2 _ _ eE,by omega,?_⟩
  have mm:∀k w',Pi k w' H4->Pi k w' (upd H4 E (.lst (xs++[v]))):=λk w' q=>mono k w' H4 _ xs (s2 _ _ eE) (λb o hb e=>by rw[θ hb];exact e) q
  refine⟨λb o e=>?_,t2,xs++[v],υ,by simp[lx],λk u e=>?_⟩
  .rw[θ (Ι e hE)];exact s2 _ _ (s1 _ _ e)
  .by_cases hk:k<xs.length
   .rw[ahS hk]at e;refine mono k u H1 _ xs eE (λb o hb e=>?_) (px k u e);rw[θ hb];exact s2 _ _ e
   .have hk2:k=i:=by
     have:=(aae.mp e).1;rw[ab7,ad5]at this;omega
    subst hk2;rw[<-lx,ajP]at e;cases e;exact mm _ _ pv
 .have e:i=n:=by omega
  subst e;exact .inl ⟨stop H1 s1,fin H1 xs lx px eE s1⟩
theorem agI{N':List Str}{J:It}{n:Nat}{G:Nat->Hp->V->Hp->Prop}(hn:n<=ϩ)(go:∀i H2,ζ H H2->i<n->J.go i H2)(stop:∀H2,ζ H H2->J.stop n H2)(yl:∀i H2 x H3,i<n->ζ H H2->J.yld i H2 x H3->G i H2 x H3)(h:Ms X N' scope tg elt σ σ' Kx H Q n G):∀(fp:List δ)(D C:δ)(s3:μ)(F:ε->μ->Prop),H D=none->bc (dF X N' scope (Ϗ scope X.env) C s3 (upd H D (.lst [])) fp F) (λ_=>Kx σ)->fL X (dF X N' scope (Ϗ scope X.env) C s3 (upd H D (.lst [])) fp F) tg elt [] J D σ' H (λH'=>Q (.ref D) H'):=by
 intro fp E C s3 F hE xo;obtain⟨Tp,Pi,t0,mono,step,fin⟩:=h;exact Tz n hn Tp t0 (Pi E) hE (λi v H1 H2 ys=>mono E i v H1 H2 ys) go stop (λi τ x H1 H2 hi ht hs hy y=>step fp E C s3 _ F i τ x H1 H2 xo hE hi ht hs hy (yl i H1 x H2 hi hs y)) λH1 xs l px eE s=>fin E H1 xs hE l px eE s
theorem ahU(N':List Str)(hσ:bf N' X.N σ scope=σ')(hx0:bc X Kx)(hst:X.stack=X.env::X.outer)(hfr:X.env.frame=some X.env.locals)(hsw:akr (.ListComp elt [⟨tg,e,[],0⟩] scope pos) (some (.Name y py)) spos.line X.env=pure true)(hc:X.calm=true)(S:bu X.env scope)(hs:∀x,foldedSetIterable e X.env x=pure x)(hN:X.N.Nodup)(hi:nameAt X.N y=some j)(hx:X.env.scope.names.lookup y=some .local)(h:EV X e σ H λv H1=>∃l xs,v=.ref l/\η X.K H1 l xs/\xs.length<=ϩ/\Ms X N' scope tg elt σ σ' Kx H1 (λv H'=>D.nx (σ.set j (some v)) H') xs.length λi H2 x H3=>xs[i]?=some x/\H2=H3):SX X (.Assign [.Name y py] (.ListComp elt [⟨tg,e,[],0⟩] scope pos) spos) D σ H:=by
 refine Yq (N':=N') hx0 hst hfr hsw hc S hs hN hi hx (qI (ϡ h λv H1 q=>?_));obtain⟨l,xs,rfl,hl,hz,hw⟩:=q;refine⟨l,rfl,⟨xs,hl⟩,?_⟩;rw[hσ];refine agI (J:=ig X.K l) (Q:=λv H'=>D.nx (σ.set j (some v)) H') hz (λi H2 s hi=>⟨xs,xs[i],ζ.seq s hl,ϳ hi⟩) (λH2 s=>⟨xs,ζ.seq s hl,ϭ _⟩) (λi H2 x H3 hi s y=>⟨y.2 xs (ζ.seq s hl),y.1.symm⟩) hw
end
def il(K:Ϩ)(C L:δ):Bool:=(W.clsIn K C).any λcd=>cd.hasDict&&cd.mro==.ref C:: .ref L::dw
theorem aad{K:Ϩ}{C L:δ}(h:il K C L=true):∃cd,W.clsIn K C=some cd/\cd.hasDict=true/\cd.mro=.ref C:: .ref L::dw:=by
 obtain⟨cd,h1,h2⟩:=W.any_some h;rw[aaH,beq_iff_eq]at h2;exact⟨cd,h1,h2.1,h2.2⟩
section
variable{prog:Ϯ}{w:Ϭ}{A:ϰ}{E:ε->μ->Prop}{s:μ}{K:Ϩ}{x C L:δ}{ox:Obj}{vs:Array ε}{name:Str}{v:ε}
theorem Zb{Q:Unit->μ->Prop}(X:K.In s.heap)(hx:s.heap.get? x=some ox)(hc:ox.cls=.ref C)(hf:ox.data=.fields vs)(hd:ox.dict=none)(hs:aez K (.ref C) "__setattr__"=some (some (.builtin "object.__setattr__")))(hm:il K C L=true)(ht:ani K C name=some none)(h:∀h' tk,h'.get? x=some {ox with dict:=some s.heap.objs.size}->h'.Ns1 s.heap.objs.size (λy=>if y=name then some v else none)->(∀b o,b≠x->s.heap.get? b=some o->h'.get? b=some o)->Q () {s with heap:=h',toks:=tk}):π (Ϧ prog w) A (setAttr (.ref x) name v) Q E s:=by
 obtain⟨cd,hcd,hdc,hmro⟩:=aad hm;have I:W.InstAt s.heap x ox C none:=⟨hx,hc,by unfold W.notCls;rw[hf],by rw[hd];trivial⟩;refine W.set_plain X I hs ?_;have SF:=F.store_object;have sub:W.Looks (Ϧ prog w) s.heap (isInstance (.ref x) (.type "object")) true:=I.type.andThen (W.looks_mroIn X (by unfold anc;rw[hcd,Option.bind_some,hmro];rfl));refine codeAny_call_builtin SF.slot.plain SF.entry (@W.check_slot (Ϧ prog w) _ _ {s with toks:=s.toks+1} "object.__setattr__" "object" "__setattr__" (.ref x) [.str name s.toks,v] [] _ SF.kind SF.split sub (SF.args (.ref x) (.str name s.toks) v) ?_);obtain⟨attr,ha,hr⟩:=Option.bind_eq_some_iff.mp ht;have hmo:W.Looks (Ϧ prog w) s.heap (mroOf (.ref C)) cd.mro:=(aod X hcd).andThen .now;have L3:W.Looks (Ϧ prog w) s.heap (Builtin.ObjectAttr.storeTaker? attr) none:=by
  cases attr with
  |none=>exact .now
  |some a=>
   obtain⟨b,hb,e⟩:=akk.mp hr;refine(W.looks_takesIn X hb).andThen ?_;cases b
   .exact .now
   .cases e
 rw[W.osa_eq,refuse_eq];refine Ϫ (Ϫ (W.Looks.here (s:={s with toks:=s.toks+1}) I.type (Ϫ (W.Looks.here (s:={s with toks:=s.toks+1}) hmo ?_))));rw[hmro,refuseLoop_ref,refuseLoop_ref,F.store_ValueError.passes];refine ϲ (Ϫ (W.Looks.here (s:={s with toks:=s.toks+1}) I.type (Ϫ (W.Looks.here (s:={s with toks:=s.toks+1}) (aoF X ha) (Ϫ (W.Looks.here (s:={s with toks:=s.toks+1}) L3 ?_))))));obtain⟨oc,od,oda,osl⟩:=ox;dsimp only at hc hf hd;subst hc hf hd;refine Ϫ (ϲ (Ϫ (Ϫ (wpAny_loadPart (s:={s with toks:=s.toks+1}) hx (Ϫ (W.Looks.here (s:={s with toks:=s.toks+1}) (aod X hcd) ?_))))));rw[hdc];rw[if_neg (by decide)];show π _ _ (if(!true|| !typeHasDict (Value.ref C))=true then pure none else(alloc {cls:=.type "dict",data:=.dict #[]}>>=λd=>update x (λo=>{o with dict:=some d})>>=λ_=>dictMade (Value.ref C) x d)) _ _ _;rw[if_neg (by simp[typeHasDict])];have hx₁:(s.heap.push {cls:=.type "dict",data:=.dict #[]}).get? x=some {cls:=.ref C,data:=.fields vs,slots:=osl}:=Heap.get?_push_of_some _ hx;have hxs:x≠s.heap.objs.size:=abF (aaY hx);refine Ϫ (wpAny_alloc (s:={s with toks:=s.toks+1}) ?_);refine Ϫ (wpAny_update (s:={s with heap:=s.heap.push {cls:=.type "dict",data:=.dict #[]},toks:=s.toks+1}) hx₁ ?_);refine ϲ ?_;have hgd:((s.heap.push {cls:=.type "dict",data:=.dict #[]}).update x λo=>{o with dict:=some s.heap.objs.size}).get? s.heap.objs.size=some {cls:=.type "dict",data:=.dict #[]}:=
  (amV _ _ _ _ hxs.symm).trans (aoi rfl rfl)
 have hnd:((s.heap.push {cls:=.type "dict",data:=.dict #[]}).update x λo=>{o with dict:=some s.heap.objs.size}).Ns s.heap.objs.size (λ_=>none):=
  ⟨_, #[],_,hgd,rfl,λe he=>absurd he (by simp),λ_=>rfl⟩
 show π _ _ (Builtin.ObjectAttr.storeInDict s.heap.objs.size (.str name s.toks) name v) _ _ _;unfold Builtin.ObjectAttr.storeInDict Builtin.ObjectAttr.newKeyGuard;refine Ϫ (ϲ (Ϫ (wpAny_nsSet1 (s:={s with heap:=(s.heap.push {cls:=.type "dict",data:=.dict #[]}).update x λo=>{o with dict:=some s.heap.objs.size},toks:=s.toks+1}) (Heap.Ns1.of_empty hnd) λh' hn' hs'=>?_)));obtain⟨oD,esD,epD,hoD,hdD,hcD⟩:=hn'.count (Within.cons name v Within.nil);refine Ϫ (wpAny_lookBehind hoD (by rw[hdD];exact pastItsLine_dict (aft hcD (by rw[List.length_cons,List.length_nil,ϱ];omega))) ?_);refine ϲ (h h' _ ?_ hn' λb ob hbx hb=>?_)
 .refine(hs'.2 x hxs).trans (aeJ _ hx₁ rfl)
 .exact(hs'.2 b (abF (aaY hb))).trans ((amV _ _ _ _ hbx).trans (Heap.get?_push_of_some _ hb))
end
abbrev my(K:Ϩ)(C f:δ):Bool:=zR K C (some (.ref f))
theorem Mf{K:Ϩ}{C f:δ}{h:ϫ}(kin:K.In h)(e:my K C f=true):∃bm N nm q bs hdct sn sub ab col dd k0 k1 k2 k3 k5 mN,h.get? C=some (excClassObj nm q C N bs bm hdct sn sub ab col dd k0 k1 k2 k3 k5 "ValueError.__new__")/\h.Ns N mN/\mN "__init__"=some (.ref f)/\OwnTail h dw bm:=Gy kin e
section
variable{prog:Ϯ}{w:Ϭ}{A:ϰ}{E:ε->μ->Prop}{h:ϫ}{g:Array GenState}{d:Drawn}{t:Nat}{os:OsState}
variable{nm q:Str}{C N x:δ}{bs bm:List ε}{hdct:Bool}{sn:List Str}{sub:List ε}{ab:Bool}{col:Option Bool}{dd:Option δ}{k0 k1 k2 k3 k5:Option ε}{ox:Obj}{vs:Array ε}{v:ε}
theorem ahX{t0:δ}{Q:ε->μ->Prop}(T:OwnTail h dw bm)(hC:h.get? C=some (excClassObj nm q C N bs bm hdct sn sub ab col dd k0 k1 k2 k3 k5 "ValueError.__new__"))(hx:h.get? x=some {cls:=.ref C,data:=.fields #[.ref t0,.none,.none,.none,.bool false,.none]})(hq:∀h' t1,h'.get? x=some {cls:=.ref C,data:=.fields #[.ref t1,.none,.none,.none,.bool false,.none]}->(∀b o,b≠x->h.get? b=some o->h'.get? b=some o)->Q .none ⟨h',g,d,t,os⟩):π (Ϧ prog w) A (call (.builtin "ValueError.__init__") [.ref x,v]) Q E ⟨h,g,d,t,os⟩:=by
 have F0:=F.excBase_ValueError;refine wpAny_call (codeAny_call_builtin F0.init.plain F0.initEntry (wpAny_check_init_subT F0 T hC hx rfl ?_))
 wp_walk
 refine hq _ h.objs.size ?_ λb o hb q=>?_
 .rw[aeJ _ (Heap.get?_push_of_some _ hx) rfl];rfl
 .rw[acu _ _ (Ne.symm hb)];exact Heap.get?_push_of_some _ q
theorem aht{mN:Str->Option ε}{rest:List ε}{fI:δ}{oI:Obj}{Q:Fin->μ->Prop}(T:OwnTail h dw bm)(hC:h.get? C=some (excClassObj nm q C N bs bm hdct sn sub ab col dd k0 k1 k2 k3 k5 "ValueError.__new__"))(hn:h.Ns N mN)(hi:mN "__init__"=some (.ref fI))(hfI:h.get? fI=some oI)(hfc:oI.cls=.type "function")(hq:∀h' e,an5 h h' e (.ref C) rest->π (Ϧ prog w) A (call (.ref fI) (.ref e::rest)) (λr s'=>r=.none/\Q (.done (.ret (.ref e))) s') E ⟨h',g,d,t,os⟩)(hrest:rest.length<=ϩ):π (Ϧ prog w) A (Builtin.«type.__call__» ⟨.ref C::rest,[]⟩) Q E ⟨h,g,d,t,os⟩:=by
 have F0:=F.excBase_ValueError
 repeat (first|with_reducible refine al4 hC ?_|with_reducible refine wpAny_madeBy_exc hC ?_|wp_step)
 refine codeAny_call_builtin_code (Code.quiet_builtin _ F0.quiet) (wpAny_check_new_subT F0 T hC ?_);refine codeAny_exc_new_subT F0 T hC ?_ hrest;show π _ _ _ _ _ _;generalize hh1:(h.push {cls:=.type "tuple",data:=.seq rest.toArray}).push {cls:=.ref C,data:=.fields #[.ref h.objs.size,.none,.none,.none,.bool false,.none]}=h1;have k1':∀b o,h.get? b=some o->h1.get? b=some o:=λb o e=>by rw[<-hh1];exact Heap.get?_push_of_some _ (Heap.get?_push_of_some _ e)
 have hC₁:=k1' _ _ hC;have hn₁:h1.Ns N mN:=let⟨o,es,ep,e,r⟩:=hn;⟨o,es,ep,k1' _ _ e,r⟩;have hget:h1.get? (h.objs.size+1)=some {cls:=.ref C,data:=.fields #[.ref h.objs.size,.none,.none,.none,.bool false,.none]}:=by rw[<-hh1];heap_get
 have hcC:(Value.ref C::bm).contains (.ref C)=true:=by simp
 have T₁:=T.keeps k1';unfold isInstance
 repeat (first|with_reducible refine al4 hget ?_|(with_reducible refine wpAny_isSubtype_exc hC₁ ?_;rw[hcC])|wp_step)
 show π _ _ (typeLookup (.ref C) _) _ _ _;refine wpAny_typeLookup_tail hC₁ hn₁ T₁ F0.mroIs F0.init.lookup ?_;rw[hi];refine afE (Ϫ ?_);unfold bindSpecial;refine Ϫ (wpAny_typeOf (T:="function") ⟨_,k1' _ _ hfI,hfc⟩ ?_);rw[if_pos (by decide)];refine ϲ (Ϫ (adu (hq h1 (h.objs.size+1) ⟨k1',aiN (amT _),h.objs.size,hget,aiN (ϭ _),?_⟩) (λr s' hr=>?_) λ_ _ x=>x))
 .rw[<-hh1];exact Heap.get?_push_of_some _ (aoi rfl rfl)
 .obtain⟨rfl,hQ⟩:=hr
  wp_walk
  exact hQ
theorem ajK{mN:Str->Option ε}{rest:List ε}{fI:δ}{oI:Obj}{Q:ε->μ->Prop}(T:OwnTail h dw bm)(hC:h.get? C=some (excClassObj nm q C N bs bm hdct sn sub ab col dd k0 k1 k2 k3 k5 "ValueError.__new__"))(hn:h.Ns N mN)(hi:mN "__init__"=some (.ref fI))(hfI:h.get? fI=some oI)(hfc:oI.cls=.type "function")(hq:∀h' e,an5 h h' e (.ref C) rest->π (Ϧ prog w) (A.under (.builtin "type.__call__" ⟨.ref C::rest,[]⟩)) (call (.ref fI) (.ref e::rest)) (λr s'=>r=.none/\Q (.ref e) s') E ⟨h',g,d,t,os⟩)(hrest:rest.length<=ϩ):π (Ϧ prog w) A (call (.ref C) rest) Q E ⟨h,g,d,t,os⟩:=by
 have f1:=tc_lookup;have f2:=tc_bind (.ref C);have hT:(⟨h,g,d,t,os⟩:μ).TypeIs (.ref C) "type":=⟨_,hC,rfl⟩;refine wpAny_call (codeAny_of_tree ?_);show π _ _ (callAny (.ref C) _) _ _ _
 repeat (any_goals (first|assumption|with_reducible refine al4 hC ?_|wp_step))
 refine⟨rfl,?_⟩;exact codeAny_call_builtin_at (Code.quiet_builtin _ (by decide+kernel)) entry_typeCall (wpAny_check_type_call_sub hC (aht T hC hn hi hfI hfc hq hrest))
end
section
variable{prog:Ϯ}{w:Ϭ}{A:ϰ}{E:ε->μ->Prop}{s:μ}{env:Env}
variable{nm q:Str}{C N:δ}{bs bm:List ε}{hdct:Bool}{sn:List Str}{sub:List ε}{ab:Bool}{col:Option Bool}{dd:Option δ}{k0 k1 k2 k3 k5:Option ε}
theorem ael{M:Model}{x:Sem ε}{Q:Flow->μ->Prop}(hbase:bm.contains (.type "BaseException")=true)(hh:A.handled=none)(h:π M A x (λv s₁=>∃e t D,v=.ref e/\s₁.heap.get? C=some (excClassObj nm q C N bs bm hdct sn sub ab col dd k0 k1 k2 k3 k5 "ValueError.__new__")/\
   s₁.heap.get? e=some {cls:=.ref C,dict:=D,data:=.fields #[.ref t,.none,.none,.none,.bool false,.none]}/\E (.ref e) s₁) E s):π M A (raiseStmt env (some x) none) Q E s:=by
 have hcB:(Value.ref C::bm).contains (.type "BaseException")=true:=by rw[List.contains_cons,hbase,Bool.or_true]
 unfold raiseStmt;refine Ϫ (adu h (λv s₁ h₁=>?_) λ_ _ x=>x);obtain⟨e,t,D,rfl,hC,he,hE⟩:=h₁;obtain⟨hp,g,d,tk,os⟩:=s₁
 repeat (first|with_reducible refine al4 he ?_|with_reducible refine al4 hC ?_|(with_reducible refine wpAny_isSubtype_exc hC ?_;rw[hcB])|wp_step)
 exact wpAny_raiseNew_none hh hE
end
def xo(e C:δ)(D:Option δ):HO:=.ext λh=>∃t,h.get? e=some {cls:=.ref C,dict:=D,data:=.fields #[.ref t,.none,.none,.none,.bool false,.none]}
def gP(H:Hp)(e:δ):Hp:=λb=>if b=e then none else H b
theorem gk{H:Hp}{e b:δ}(h:b≠e):gP H e b=H b:=by unfold gP;rw[if_neg h]
theorem J5{H:Hp}{e:δ}:gP H e e=none:=by unfold gP;rw[if_pos rfl]
theorem Bt{P:Ϯ}{w:Ϭ}{H:Hp}{h:ϫ}{e C t:δ}{D:Option δ}(q:h.get? e=some {cls:=.ref C,dict:=D,data:=.fields #[.ref t,.none,.none,.none,.bool false,.none]}):Φ P w H h e (xo e C D):=
 ⟨⟨t,q⟩,⟨_,q⟩,λh1 h2 ⟨t,q⟩ k=>⟨t,k _ q⟩⟩
section
variable{X:Cx}{ϵ:List (δ×Obj)}{σ:St}{H:Hp}{s:μ}{e:δ}{φ:ϫ->Prop}
theorem Inv.adopt(I:Inv X ϵ σ H s)(hn:H e=none)(c:Ch X ϵ e)(ok:Φ X.prog X.w (upd H e (.ext φ)) s.heap e (.ext φ)):Inv X ϵ σ (upd H e (.ext φ)) s:=by
 have ne:∀b u,H b=some u->b≠e:=λb u q=>Ι q hn
 have:=I.step (h':=s.heap) (H':=upd H e (.ext φ)) (g':=s.gens) (d':=s.drawn) (t':=s.toks) (ch:=[e]) (λb hb=>?_) (λb o _ _ _ q _=>q) (λb o _ _ _ q _=>⟨o.slots,q⟩) (λb o hc _ n=>?_) (λb o _ q=>⟨o,q⟩) (λb xs q=>?_) (λb o u q=>?_) (λb ps q=>?_) (λm q=>q) (λb u q=>?_) I.bare
 .exact this
 .have z:b=e:=by simpa using hb
  subst z;exact c
 .rw[θ (λz=>hc (by simp[z]))];exact n
 .rw[θ (ne _ _ q)];exact q
 .rw[θ (ne _ _ q)];exact q
 .exact⟨#[],by rw[θ (ne _ _ q),q];simp⟩
 .by_cases z:b=e
  .subst z;rw[υ]at q;cases q;exact ok
  .rw[θ z]at q;exact(I.hok b u q).stay (λ_ _ _ r=>r) (λc r=>by rw[θ (ne _ _ r)];exact r) (λc xs r=>by rw[θ (ne _ _ r)];exact r) λc ob v r=>by rw[θ (ne _ _ r)];exact r
theorem Inv.forget(I:Inv X ϵ σ H s)(hn:H e=some (.ext φ))(c:Ch X ϵ e):Inv X ϵ σ (gP H e) s:=by
 have:=I.step (h':=s.heap) (H':=gP H e) (g':=s.gens) (d':=s.drawn) (t':=s.toks) (ch:=[e]) (λb hb=>?_) (λb o _ _ _ q _=>q) (λb o _ _ _ q _=>⟨o.slots,q⟩) (λb o hc _ n=>?_) (λb o _ q=>⟨o,q⟩) (λb xs q=>?_) (λb o u q=>?_) (λb ps q=>?_) (λm q=>q) (λb u q=>?_) I.bare
 .exact this
 .have z:b=e:=by simpa using hb
  subst z;exact c
 .rw[gk (λz=>hc (by simp[z]))];exact n
 .rw[gk (λz=>by rw[z,hn]at q;cases q)];exact q
 .rw[gk (λz=>by rw[z,hn]at q;cases q)];exact q
 .exact⟨#[],by rw[gk (λz=>by rw[z,hn]at q;cases q),q];simp⟩
 .by_cases z:b=e
  .subst z;rw[J5]at q;cases q
  .rw[gk z]at q;exact(I.hok b u q).stay (λ_ _ _ r=>r) (λc r=>by rw[gk (λz=>by rw[z,hn]at r;cases r)];exact r) (λc xs r=>by rw[gk (λz=>by rw[z,hn]at r;cases r)];exact r) λc ob v r=>by rw[gk (λz=>by rw[z,hn]at r;cases r)];exact r
end
structure XBase(K:Ϩ)(mg:Str->Option ε)(x:Str):Prop where
 at_:mg x=some (.ref (ι mg x))
 reads:anv K (ι mg x) (.type "type")=true
 ini:anw K (.ref (ι mg x)) (.type "type") "__init__"=some (.val (.builtin "ValueError.__init__"))
 ga:ahA K (.ref (ι mg x)) "__getattribute__"=some (some (.builtin "type.__getattribute__"))
structure pA(K:Ϩ)(mg:Str->Option ε)(Lx x qual fld:Str)(st:ϧ):Prop where
 at_:mg x=some (.ref (ι mg x))
 ex:∃f fd,cA K "__init__" qual st f fd/\my K (ι mg x) f=true/\aoc K (.ref f)=true
 sa:aez K (.ref (ι mg x)) "__setattr__"=some (some (.builtin "object.__setattr__"))
 tk:ani K (ι mg x) fld=some none
 xc:il K (ι mg x) (ι mg Lx)=true
def Eu(C:δ)(fld:Str):Sp:=λvs H Q _=>∃e n,vs=[.ref e,.int n]/\n.natAbs<10^60/\H e=some (xo e C none)/\
 ∀D H',D≠e->H D=none->(∀b o,b≠e->H b=some o->H' b=some o)->H' e=some (xo e C (some D))->H' D=some (.xd [(fld,.int n)])->Q .non H'
section
variable{X:Cx}{σ:St}{H:Hp}{Q:VK}{D:Ends}{Lx x f fld:Str}{np apos pos pos' cpos:Pos}{a o value:ν}{es:List ν}{Kx:St->XK}
theorem yg{pl:Sem Bool}(B:XBase X.K X.mg Lx)(h:EA X (a::es) σ H λvs H1=>CL X (.builtin "ValueError.__init__") vs H1 Q)(hg:Gl X Lx:=by rfl)(hd:(Lx==("__debug__":Str))=false:=by decide)(hst:ϯ (a::es) X.env=(false,eval a X.env)::ϯ es X.env:=by rfl)(hpl:(backTo pos (ϯ es X.env)).any (·.1)=false:=by rfl)(ht:eval (.Call (.Attribute (.Name Lx np) "__init__" apos) (a::es) [] pos) X.env=(do
   let ov<-eval (.Name Lx np) X.env
   standAt apos.atName
   let(f,first)<-holding [ov] (getMethod ov "__init__" pl)
   callWith pos f first (backTo pos (ϯ (a::es) X.env)) (backToKw pos (keywordEach [] X.env))):=by rfl):EV X (.Call (.Attribute (.Name Lx np) "__init__" apos) (a::es) [] pos) σ H Q:=by
 intro ϵ s I;refine anl (pl:=pl) (lE I hg B.at_ ?_ hd) ht;refine W.method_cls I.kIn B.ga (W.cls_value I.kIn B.reads B.ini (by decide+kernel) ?_);have I1:=I.tok (s.toks+1);have h':=h pos ϵ _ I1;rw[hst]at h'⊢;refine Calls.callWith_builtin (by show(false||(backTo pos (ϯ es X.env)).any (·.1))=false;rw[hpl];rfl) (Calls.evalArgs_plain ?_);refine χ h' λus s2 hZ=>?_
 obtain⟨vs,H2,I2,r2,c,h1,q2⟩:=hZ;exact h1 ϵ s2 σ H2 vs us Q I2 r2 q2
theorem Gk{C ff:δ}{e:δ}{v:V}(hi:my X.K C ff=true)(he:H e=some (xo e C none))(q:Q .non H):CL X (.builtin "ValueError.__init__") [.ref e,v] H Q:=by
 refine dC (r:=λxs H Q=>∃e v,xs=[.ref e,v]/\H e=some (xo e C none)/\Q .non H) ?_ ⟨e,v,rfl,he,q⟩;intro ϵ s σ H xs us Q I r h;obtain⟨e,v,rfl,he,q⟩:=h;obtain⟨u1,u2,rfl,r1,r2⟩:=vals2 r;cases(show u1=Value.ref e from r1);obtain⟨bm,N,nm,qn,bs,hdct,sn,sub,ab,col,dd,k0,k1,k2,k3,k5,mN,hC,hN,hni,T⟩:=Mf I.kIn hi;obtain⟨⟨t,ht⟩,_,_⟩:=I.hok e _ he;obtain⟨hp,g,d,tk,os⟩:=s;refine ahX T hC ht λh' t1 h1 k=>?_
 have hw:=I.write (x:=e) (e:=e) (o:=xo e C none) (h':=h') (t':=tk) (by rw[he];trivial) (.inl rfl) (λb u n q=>k b u n q) ⟨_,h1⟩ (Bt h1);have hid:upd H e (xo e C none)=H:=by
  funext b;unfold upd;split
  .rename_i z;rw[z,he]
  .rfl
 rw[hid]at hw;exact⟨.non,H,hw,rfl,q⟩
theorem Aq{C L:δ}(hs:aez X.K (.ref C) "__setattr__"=some (some (.builtin "object.__setattr__")))(hm:il X.K C L=true)(ht:ani X.K C f=some none)(h:EV X value σ H λy H1=>EV X o σ H1 λx H2=>∃e,x=.ref e/\H2 e=some (xo e C none)/\∀E',H2 E'=none->E'≠e->D.nx σ (upd (upd H2 E' (.xd [(f,y)])) e (xo e C (some E'))))(hsw:akr value (some (.Attribute o f pos')) pos.line X.env=pure false:=by rfl):SX X (.Assign [.Attribute o f pos'] value pos) D σ H:=by
 intro ϵ s I;refine plainObj_wpAny_Assign_Attribute (χ (h ϵ s I) λu s1 ⟨y,H1,I1,ry,q⟩=>χ (q ϵ s1 I1) λov s2 hZ=>?_) hsw;obtain⟨x,H2,I2,rx,e,ex,he,q2⟩:=hZ;subst ex;obtain rfl:ov=Value.ref e:=rx;obtain⟨⟨t,Y7⟩,_,_⟩:=I2.hok e _ he;refine Zb I2.kIn Y7 rfl rfl rfl hs hm ht λh' tk g1 g2 g3=>?_
 have w6:H2 s2.heap.objs.size=none:=I2.hok.fresh (ϭ _);have gn:s2.heap.objs.size≠e:=λz=>by rw[z]at w6;rw[w6]at he;cases he
 have ne:∀b u,H2 b=some u->u≠xo e C none->b≠e:=λb u q n z=>by rw[z,he]at q;cases q;exact n rfl
 have nD:∀b u,H2 b=some u->b≠s2.heap.objs.size:=λb u q=>Ι q w6
 refine⟨σ,_,?_,q2 s2.heap.objs.size w6 gn⟩;refine I2.step (h':=h') (g':=s2.gens) (d':=s2.drawn) (t':=tk) (ch:=[]) (λb hb=>absurd hb (by simp)) (λb o _ _ _ q n=>g3 b o (λz=>by rw[z,he]at n;cases n) q) (λb o _ _ _ q n=>⟨o.slots,g3 b o (λz=>by rw[z,he]at n;cases n) q⟩) (λb o _ q n=>?_) (λb o _ q=>?_) (λb xs q=>?_) (λb o u q=>?_) (λb ps q=>?_) (λm hm'=>?_) (λb u q=>?_) I2.bare
 .rw[θ (λz=>by rw[z,he]at n;cases n),θ (abF (aaY q))];exact n
 .by_cases z:b=e
  .subst z;exact⟨_,g1⟩
  .exact⟨o,g3 b o z q⟩
 .rw[θ (ne _ _ q (λz=>nomatch z)),θ (nD _ _ q)];exact q
 .rw[θ (ne _ _ q (λz=>nomatch z)),θ (nD _ _ q)];exact q
 .exact⟨#[],by rw[θ (ne _ _ q (λz=>nomatch z)),θ (nD _ _ q),q];simp⟩
 .obtain⟨o,es,ep,ho,r⟩:=hm';exact⟨o,es,ep,g3 _ _ (λz=>by have:=I2.free;rw[z,he]at this;cases this) ho,r⟩
 .by_cases z:b=e
  .subst z;rw[υ]at q;cases q;exact Bt g1
  .rw[θ z]at q;by_cases z2:b=s2.heap.objs.size
   .subst z2;rw[υ]at q;cases q;refine⟨_,g2,λn=>?_⟩;by_cases hf:n=f
    .subst hf;simp only[if_true,List.lookup_cons,beq_self_eq_true];exact ry
    .rw[if_neg hf,List.lookup_cons,beq_eq_false_iff_ne.mpr hf];trivial
   .rw[θ z2]at q;refine(I2.hok b u q).stay (λc v hc r=>g3 c v ?_ r) (λc r=>?_) (λc xs r=>?_) λc ob v r=>?_
    .obtain y|y:=hc
     .rw[y];exact z
     .exact ne _ _ y (λz=>nomatch z)
    .rw[θ (ne _ _ r (λz=>nomatch z)),θ (nD _ _ r)];exact r
    .rw[θ (ne _ _ r (λz=>nomatch z)),θ (nD _ _ r)];exact r
    .rw[θ (ne _ _ r (λz=>nomatch z)),θ (nD _ _ r)];exact r
end
structure qd(P:Ϯ)(w:Ϭ)(K:Ϩ)(mg:Str->Option ε)(base:ϫ)(cc:Bool)(k:Nat)(x fld:Str):Prop where
 at_:mg x=some (.ref (ι mg x))
 ex:∃f fd ps oc od osl,cL P w K mg base (bQ P w) cc k f fd ps (Eu (ι mg x) fld)/\Binds K fd ps []/\my K (ι mg x) f=true/\K.lookup f=some ⟨oc,od,.func fd,osl⟩/\oc=.type "function"
section
variable{prog:Ϯ}{w:Ϭ}{A:ϰ}{E:ε->μ->Prop}{s:μ}{env:Env}
variable{nm q:Str}{C N:δ}{bs bm:List ε}{hdct:Bool}{sn:List Str}{sub:List ε}{ab:Bool}{col:Option Bool}{dd:Option δ}{k0 k1 k2 k3 k5:Option ε}
theorem adA{mN:Str->Option ε}{fI:δ}{oI:Obj}{x:Str}{np cpos pos:Pos}{args:List ν}{Q:Flow->μ->Prop}(hbase:bm.contains (.type "BaseException")=true)(hh:A.handled=none)(hplain:(backTo cpos (ϯ args env)).any (·.1)=false)(hi:mN "__init__"=some (.ref fI))(hfc:oI.cls=.type "function")(h:π (Ϧ prog w) A (eval (.Name x np) env) (λf s₁=>f=.ref C/\π (Ϧ prog w) A (evalArgs (.ref C) true (backTo cpos (ϯ args env)) [])
   (λa s₂=>a.kw=[]/\a.pos.length<=ϩ/\s₂.heap.get? C=some (excClassObj nm q C N bs bm hdct sn sub ab col dd k0 k1 k2 k3 k5 "ValueError.__new__")/\s₂.heap.Ns N mN/\OwnTail s₂.heap dw bm/\s₂.heap.get? fI=some oI/\
    ∀h' e,an5 s₂.heap h' e (.ref C) a.pos->π (Ϧ prog w) (A.under (.builtin "type.__call__" ⟨.ref C::a.pos,[]⟩)) (call (.ref fI) (.ref e::a.pos))
     (λr s'=>r=.none/\∃t D,s'.heap.get? C=some (excClassObj nm q C N bs bm hdct sn sub ab col dd k0 k1 k2 k3 k5 "ValueError.__new__")/\
      s'.heap.get? e=some {cls:=.ref C,dict:=D,data:=.fields #[.ref t,.none,.none,.none,.bool false,.none]}/\E (.ref e) s') E {s₂ with heap:=h'}) E s₁) E s):π (Ϧ prog w) A (exec (.Raise (some (.Call (.Name x np) args [] cpos)) none pos) env) Q E s:=by
 rw[arm_exec_Raise];refine Ϫ (akH (ael (C:=C) (nm:=nm) (q:=q) (N:=N) (bs:=bs) (bm:=bm) (hdct:=hdct) (sn:=sn) (sub:=sub) (ab:=ab) (col:=col) (dd:=dd) (k0:=k0) (k1:=k1) (k2:=k2) (k3:=k3) (k5:=k5) hbase hh ?_));refine Ϫ (adu (wpAny_Call_ofName (adu h (λf s₁ h₁=>?_) λ_ _ x=>x)) (λv s₃ h₃=>Ϫ (akH (ϲ h₃))) λ_ _ x=>x);obtain⟨rfl,h₁⟩:=h₁;unfold callWith;refine Ϫ (afE (adu h₁ (λa s₂ h₂=>Ϫ (akH ?_)) λ_ _ x=>x));obtain⟨apos,akw⟩:=a;obtain⟨hkw,hlen,hC,hn,T,hfI,h₂⟩:=h₂;obtain rfl:akw=[]:=hkw;obtain⟨hp,g,d,tk,os⟩:=s₂;simp only[hplain];refine Ϫ (wpAny_keeperOf_exc hC ?_);refine Ϫ (ajK T hC hn hi hfI hfc (λh' e hm=>?_) hlen);refine adu (h₂ h' e hm) (λr s' hr=>⟨hr.1,?_⟩) λ_ _ z=>z
 obtain⟨t,D,g1,g2,g3⟩:=hr.2;exact Ϫ (afE (wpAny_point (ϲ ⟨e,t,D,rfl,g1,g2,g3⟩)))
end
section
variable{X:Cx}{Kx:St->XK}{D:Ends}{σ:St}{H:Hp}{x fld:Str}{np cpos pos:Pos}{e:ν}{es:List ν}{cc aV:Bool}{k k':Nat}
theorem v8(O:qd X.prog X.w X.K X.mg X.base aV k x fld)(hr:ό cc k' X.A)(hcc:aV=true->cc=true)(hx:bc X Kx)(h:EA X (e::es) σ H λvs H1=>∃n,vs=[.int n]/\n.natAbs<10^60/\∀E' H',ζ H1 H'->H' E'=some (.xd [(fld,.int n)])->Kx σ (.ref (ι X.mg x)) (some E',true) H')(hk:k+1<=k':=by decide)(hc:X.calm=true:=by rfl)(hg:Gl X x:=by rfl)(hd:(x==("__debug__":Str))=false:=by decide)(he:ϯ (e::es) X.env=(false,eval e X.env)::ϯ es X.env:=by rfl)(hpl:(backTo cpos (ϯ es X.env)).any (·.1)=false:=by rfl):SX X (.Raise (some (.Call (.Name x np) (e::es) [] cpos)) none pos) D σ H:=by
 intro ϵ s I;obtain⟨f,fd,ps,oc,od,osl,Fn,hb,hi,hlk,hoc⟩:=O.ex;obtain⟨bm,N,nm,q,bs,hdct,sn,sub,ab,col,dd,k0,k1,k2,k3,k5,mN,hC,hN,hni,T⟩:=Mf I.ok.mod.kin hi;have hr':ό aV (k+1) X.A:=(hr.mono hk).pq hcc;refine adA (C:=ι X.mg x) (nm:=nm) (q:=q) (N:=N) (bs:=bs) (bm:=bm) (hdct:=hdct) (sn:=sn) (sub:=sub) (ab:=ab) (col:=col) (dd:=dd) (k0:=k0) (k1:=k1) (k2:=k2) (k3:=k3) (k5:=k5) (mN:=mN) (fI:=f) (oI:=⟨oc,od,.func fd,osl⟩)
  (T.hasType (by decide+kernel)) (I.ok.hd hc) ?_ hni hoc (lE I hg O.at_ ⟨rfl,?_⟩ hd)
 .rw[he];show(false||(backTo cpos (ϯ es X.env)).any (·.1))=false;rw[hpl];rfl
 .have h':=h cpos ϵ s I;rw[he]at h'⊢;refine Calls.evalArgs_plain (χ h' λus s2 hZ=>?_);obtain⟨vs,H1,I2,r,n,ev,hn,kq⟩:=hZ;subst ev;obtain⟨u,rfl,ru⟩:=vals1 r;refine⟨rfl,by show 1<=ϩ;rw[ϱ];decide,I2.bk _ _ hC,hN.keeps I2.bk,T.keeps I2.bk,I2.kIn _ _ hlk,λh3 a M=>?_⟩;obtain⟨t,m1,m2,m3⟩:=M.there;have hfree:H1 a=none:=I2.hok.free M.new;have hch:Ch X ϵ a:=I2.ch M.new;have I3:Inv X ϵ σ H1 {s2 with heap:=h3}:=I2.kept (t':=s2.toks) M.keeps;have I4:Inv X ϵ σ (upd H1 a (xo a (ι X.mg x) none)) {s2 with heap:=h3}:=I3.adopt hfree hch (Bt m1);have rv:Vals [V.ref a,.int n] [Value.ref a,u]:=.cons rfl (.cons ru .nil);have hsp:Eu (ι X.mg x) fld [V.ref a,.int n] (upd H1 a (xo a (ι X.mg x) none)) (λv H'=>v=.non/\∃E',H' a=some (xo a (ι X.mg x) (some E'))/\H' E'=some (.xd [(fld,.int n)])/\E'≠a/\∀b o,b≠a->H1 b=some o->H' b=some o) (λ_ _ _=>False):=
   ⟨a,n,rfl,hn,υ,λE' H' h1 h2 h3' h4 h5=>⟨rfl,E',h4,h5,h1,λb o hb q=>h3' b o hb (by rw[θ hb];exact q)⟩⟩
  have hl:([Value.ref a,u]:List ε).length=ps.length:=by rw[<-rv.length];exact Fn.len _ _ _ _ hsp
  have hb':=hb {s2 with heap:=h3} [Value.ref a,u] I4.kIn (by simpa using hl);rw[List.append_nil]at hb';refine wpAny_call (aiS (Fn.run (X.A.under (.builtin "type.__call__" ⟨.ref (ι X.mg x)::[u],[]⟩)) X.stack {s2 with heap:=h3} _ ⟨[Value.ref a,u],[]⟩ [Value.ref a,u] [V.ref a,.int n] _ (λ_ _ _=>False) (hr'.make (ι X.mg x) [u] [])
   (I4.env0.make (ι X.mg x) [u] []) hb' rv hsp) λr s' hq=>?_)
  cases r with
  |error e=>exact(bQ.never hq).elim
  |ok fl=>
   cases fl with
   |ret v=>
    obtain⟨v',H',I5,rr,ev,E',g1,g2,g3,g4⟩:=I4.after hq;subst ev;obtain⟨⟨t',ht'⟩,_,_⟩:=I5.hok a _ g1;have I6:=I5.forget g1 hch;refine⟨rr,t',some E',I5.bk _ _ hC,ht',?_⟩;refine hx ϵ σ _ s' a _ (some E',true) ⟨I6,none,.none,⟨_,_,ht',rfl,rfl,rfl,rfl,by simp,Ctx.yes rfl,λT z=>nomatch z⟩,.inl rfl,λb hb=>?_⟩ (kq E' _ (λb o q=>?_) ?_)
    .have z:b=a:=by simpa using hb
     subst z;exact⟨J5,hch⟩
    .have hba:b≠a:=Ι q hfree;rw[gk hba];exact g4 b o hba q
    .rw[gk g3];exact g2
   |next=>exact False.elim hq
   |brk=>exact False.elim hq
   |cont=>exact False.elim hq
end
structure agu(K:Ϩ)(C:δ):Prop where
 hd:al7 K C=true
 ga:aez K (.ref C) "__getattribute__"=some (some (.builtin "BaseException.__getattribute__"))
 gt:aez K (.ref C) "__getattr__"=some none
 cl:aez K (.ref C) "__class__"=some (some (.builtin "object.__class__"))
 cg:ahA K (.builtin "object.__class__") "__get__"=some (some (.builtin "getset_descriptor.__get__"))
 ct:anN K (.builtin "object.__class__")=some true
 mo:anc K C (.type "object")=some true
 mb:anc K C (.type "BaseException")=some true
section
variable{prog:Ϯ}{w:Ϭ}{A:ϰ}{E:ε->μ->Prop}{s:μ}{K:Ϩ}{x C:δ}{ox:Obj}{od:Option Obj}{name:Str}{v:ε}
end
section
variable{X:Cx}{σ:St}{H:Hp}{Q:VK}{e C:δ}{D:Option δ}{k:Bool}
end
section
variable{X:Cx}{ϵ:List (δ×Obj)}{σ:St}{H:Hp}{s:μ}{h':ϫ}
end
section
variable{X:Cx}{D:Ends}{σ:St}{H:Hp}{rest:List alO}{suite:List ϧ}{b₀:ϧ}{pos np:Pos}{x n:Str}{c:ε}{C:δ}{d:Option δ×Bool}{i:Nat}
end
structure Fe(K:Ϩ)(mg:Str->Option ε)(x:Str):Prop extends XBase K mg x where
 ty:anD K (.ref (ι mg x))=some (.type "type")
 mb:anc K (ι mg x) (.type "BaseException")=some true
structure XC(K:Ϩ)(mg:Str->Option ε)(Lx x:Str):Prop where
 at_:mg x=some (.ref (ι mg x))
 xc:il K (ι mg x) (ι mg Lx)=true
 ty:anD K (.ref (ι mg x))=some (.type "type")
 attr:agu K (ι mg x)
section
variable{K:Ϩ}{mg:Str->Option ε}{Lx x y:Str}
end
theorem CT{P:Ϯ}{w:Ϭ}{K:Ϩ}{mg:Str->Option ε}{base:ϫ}{cc:Bool}{k:Nat}{Lx x qual fld:Str}{st:ϧ}{ps N:List Str}(O:pA K mg Lx x qual fld st)(S:Α N ps (ρ st))(hb:∀(kV doc pm:ε)(an:Option δ)(Ϻ ct:ε)(us:List ε),us.length=ps.length->bindArgs (anZ "__init__" qual (iI st) (ϗ st) (ρ st) .none kV doc pm an Ϻ ct) ⟨us,[]⟩=pure (ps.zip us))(len:ps.length=2)(body:∀(f:δ)(Ϻ:ε)(A:ϰ)(outer:List Env)(s:μ)(H:Hp)(vs:List V)(Q:VK)(E:XK),my K (ι mg x) f=true->ό cc k (A.deeper (envOfC qual (ρ st) s.heap.objs.size f Ϻ))->Eu (ι mg x) fld vs H Q E->
   Κ (dW cc P w K mg base N qual (ρ st) f Ϻ A outer s H E) (ϗ st) {nx:=λ_ H'=>Q .non H',rt:=Q} (start N vs) H):qd P w K mg base cc (k+1) x fld:=by
 obtain⟨f,fd,F,h1,h2⟩:=O.ex;obtain⟨oc,od,kV,doc,pm,an,Ϻ,ct,osl,e,lk,hcd⟩:=id F.ex;refine⟨O.at_,f,fd,ps,oc,od,osl,xf F S (λvs H Q E h=>by obtain⟨a,n,rfl,_⟩:=h;exact len.symm) λϺ A outer s H vs Q E hr h=>body f Ϻ A outer s H vs Q E h1 hr h,F.binds hb,h1,lk,?_⟩;have h3:anD K (.ref f)=some (.type "function"):=beq_iff_eq.mp h2;have h4:Option.map (λx:Obj=>x.cls) (agW f K)=some (.type "function"):=h3;rw[lk]at h4;exact Option.some.inj h4
section
variable{K:Ϩ}{mg:Str->Option ε}{Lx x qual fld:Str}{C L f:δ}{st:ϧ}{fd:ahy}
theorem aeF(h:mg x=some (.ref C))(a1:anv K C (.type "type")=true)(a2:anw K (.ref C) (.type "type") "__init__"=some (.val (.builtin "ValueError.__init__")))(a3:ahA K (.ref C) "__getattribute__"=some (some (.builtin "type.__getattribute__")))(a4:anD K (.ref C)=some (.type "type"))(a5:anc K C (.type "BaseException")=some true):Fe K mg x:=by
 have e:=bY h;exact{at_:=by rw[e];exact h,reads:=by rw[e];exact a1,ini:=by rw[e];exact a2,ga:=by rw[e];exact a3,ty:=by rw[e];exact a4,mb:=by rw[e];exact a5}
theorem XH(h:mg x=some (.ref C))(hL:mg Lx=some (.ref L))(a1:il K C L=true)(a2:anD K (.ref C)=some (.type "type"))(a3:al7 K C=true)(a4:aez K (.ref C) "__getattribute__"=some (some (.builtin "BaseException.__getattribute__")))(a5:aez K (.ref C) "__getattr__"=some none)(a6:aez K (.ref C) "__class__"=some (some (.builtin "object.__class__")))(a7:ahA K (.builtin "object.__class__") "__get__"=some (some (.builtin "getset_descriptor.__get__")))(a8:anN K (.builtin "object.__class__")=some true)(a9:anc K C (.type "object")=some true)(a10:anc K C (.type "BaseException")=some true):XC K mg Lx x:=by
 have e:=bY h;have eL:=bY hL;exact⟨by rw[e];exact h,by rw[e,eL];exact a1,by rw[e];exact a2,by rw[e];exact⟨a3,a4,a5,a6,a7,a8,a9,a10⟩⟩
theorem Xf(h:mg x=some (.ref C))(hL:mg Lx=some (.ref L))(F:cA K "__init__" qual st f fd)(a1:my K C f=true)(a2:aoc K (.ref f)=true)(a3:aez K (.ref C) "__setattr__"=some (some (.builtin "object.__setattr__")))(a4:ani K C fld=some none)(a5:il K C L=true):pA K mg Lx x qual fld st:=by
 have e:=bY h;have eL:=bY hL;exact⟨by rw[e];exact h,⟨f,fd,F,by rw[e];exact a1,a2⟩,by rw[e];exact a3,by rw[e];exact a4,by rw[e,eL];exact a5⟩
end
section
variable{prog:Ϯ}{w:Ϭ}{A:ϰ}{E:ε->μ->Prop}{s:μ}
end
section
variable{prog:Ϯ}{w:Ϭ}{A:ϰ}{E:ε->μ->Prop}{s:μ}
end
section
variable{X:Cx}{σ:St}{H:Hp}{a b c:ν}{elts:List ν}{k:Nat}{tp p pos p':Pos}{R:It->Hp->Prop}{D:Ends}
end
theorem De:∀{us:List ε}{ys:List Str}{m:Nat}{u:ε},StrsAre us ys->us[m]?=some u->∃y t,ys[m]?=some y/\u=.str y t
 |_,_,_,_,.nil,e=>by simp at e
 |_,_,0,u,.cons y t h,e=>by
  simp at e;exact⟨y,t,rfl,e.symm⟩
 |_,_,m+1,u,.cons y t h,e=>by
  obtain⟨y',t',e1,e2⟩:=De h (by simpa using e);exact⟨y',t',by simpa using e1,e2⟩
section
variable{X:Cx}{H:Hp}{Q:VK}
theorem Wq{a:δ}{zs:List Str}{z:Str}{j:Nat}(h:η X.K H a (zs.map V.str))(hj:zs[j]?=some z)(hno:∀m y,m<j->zs[m]?=some y->¬y=z)(g:Q (.int j) H):MT X "list.index" (.ref a) [.str z] H Q:=by
 refine dZ (r:=λx xs H Q=>∃a zs z j,x=.ref a/\xs=[.str z]/\η X.K H a (zs.map V.str)/\zs[j]?=some z/\(∀m y,m<j->zs[m]?=some y->¬y=z)/\Q (.int (j:Nat)) H) ?_ ⟨a,zs,z,j,rfl,rfl,h,hj,hno,g⟩;intro ϵ s σ H x xs v us Q I rx rs h;obtain⟨a,zs,z,j,rfl,rfl,h,hj,hno,g⟩:=h;cases rx;obtain⟨u,rfl,ru⟩:=vals1 rs;obtain⟨t,rfl⟩:=ru;obtain⟨ϸ,r,⟨⟨cls,dd,data,sl⟩,n,e,hc,hd,hs⟩,hz⟩:=I.list h;simp only at hc hd hs;subst hc hd hs;have hS:=Ls r;have hlen:ϸ.length=zs.length:=by have:=r.length;rw[aaf]at this;exact this.symm
 have hjl:j<ϸ.toArray.size:=by
  rw[aaU,hlen];exact(aae.mp hj).1
 rw[aaf]at hz;have hsz:=ϱ;have hjz:j<zs.length:=(aae.mp hj).1;refine amW F.slot_list_index ⟨_,e,rfl⟩ F.entry_list_index (F.args_list_index_2 _ _) (SeqAt.list_indexAt a ϸ.toArray n _ sl (.str z t) (isStrOf z) j hjl (by omega) ?_ ?_) ⟨e,λy hy=>(eq_isStrOf z t hS y (by simpa using hy)).at _ _,?_⟩
 .obtain⟨y,t',e1,e2⟩:=De (m:=j) (u:=ϸ.toArray[j]) hS (by simp);rw[e2];rw[hj]at e1;cases e1;show(z==z)=true;exact beq_self_eq_true z
 .intro m hm hmj;obtain⟨y,t',e1,e2⟩:=De (m:=m) (u:=ϸ.toArray[m]) hS (by simp);rw[e2];show(y==z)=false;exact beq_eq_false_iff_ne.mpr (hno m y hmj e1)
 .exact⟨.int j,H,I.tok _,⟨_,rfl⟩,g⟩
def ltV:V->V->Bool
 |.int i,.int j=>decide (i<j)
 |.str x,.str y=>decide (x.cps.toList<y.cps.toList)
 |_,_=>false
end
structure aF(P:Ϯ)(w:Ϭ)(K:Ϩ)(mg:Str->Option ε)(base:ϫ)(cc:Bool)(k:Nat)(C:δ)(m:Str)(ps:List Str)(sp:Sp):Prop where
 cls:ϔ K C
 ex:∃f fd,Meth K C m f/\Binds K fd ps []/\cL P w K mg base (bQ P w) cc k f fd ps sp
structure fX(P:Ϯ)(w:Ϭ)(K:Ϩ)(mg:Str->Option ε)(base:ϫ)(cc:Bool)(k:Nat)(x:Str)(C:δ)(ps:List Str)(sp:Sp):Prop where
 at_:mg x=some (.ref C)
 ex:∃f fd,Mk K C f/\Binds K fd ps []/\cL P w K mg base (bQ P w) cc k f fd ps sp
structure nY(P:Ϯ)(w:Ϭ)(K:Ϩ)(mg:Str->Option ε)(base:ϫ)(cc:Bool)(k:Nat)(x m:Str)(ps:List Str)(sp:Sp):Prop where
 ex:∃C f fd,mg x=some (.ref C)/\anv K C (.type "type")=true/\anw K (.ref C) (.type "type") m=some (.val (.ref f))/\
  ahA K (.ref C) "__getattribute__"=some (some (.builtin "type.__getattribute__"))/\amG K (.ref f)=true/\Binds K fd ps []/\cL P w K mg base (bQ P w) cc k f fd ps sp
section
variable{X:Cx}{σ:St}{H:Hp}{Q:VK}{D:Ends}{x f m:Str}{p np apos pos pos' tpos:Pos}{a e o value:ν}{es:List ν}{Kx:St->XK}{cc:Bool}{k':Nat}
theorem aG(h:EV X e σ H λx H1=>∃a C dx fs v,x=.ref a/\H1 a=some (.ins C dx fs)/\ϔ X.K C/\ Λ X.K C f/\fs.lookup f=some v/\Q v H1)(hb:attributeBase e f X.env (eval e X.env)=eval e X.env:=by rfl):EV X (.Attribute e f pos) σ H Q:=
 ao (ahp Υ hb) h
theorem dN(h:EV X value σ H λy H1=>EV X o σ H1 λx H2=>∃a C dx fs,x=.ref a/\H2 a=some (.ins C dx fs)/\ϔ X.K C/\ Λ X.K C f/\fs.length<1000/\D.nx σ (upd H2 a (.ins C dx (ϝ f y fs))))(hs:akr value (some (.Attribute o f pos')) pos.line X.env=pure false:=by rfl):SX X (.Assign [.Attribute o f pos'] value pos) D σ H:=
 λϵ s I=>ahi Υ Υ hs ϵ s σ H D I h
theorem agP(h:EV X o σ H λx H1=>∃a C dx fs v,x=.ref a/\H1 a=some (.ins C dx fs)/\ϔ X.K C/\ Λ X.K C f/\fs.lookup f=some v/\
   EV X value σ H1 λy H2=>Kq v y H2 λz H3=>∃dx' fs',H3 a=some (.ins C dx' fs')/\fs'.length<1000/\D.nx σ (upd H3 a (.ins C dx' (ϝ f z fs')))):SX X (.AugAssign (.Attribute o f tpos) .Add value pos) D σ H:=
 λϵ s I=>adm Υ Υ ack ϵ s σ H D I h
theorem bZ{pl:Sem Bool}(hr:ό cc k' X.A)(hx:bc X Kx)(hst:ϯ (e::es) X.env=(false,eval e X.env)::ϯ es X.env:=by rfl)(hpl:(backTo pos (ϯ es X.env)).any (·.1)=false:=by rfl)(ht:eval (.Call (.Attribute o m apos) (e::es) [] pos) X.env=(do
   let ov<-eval o X.env
   standAt apos.atName
   let(f,first)<-holding [ov] (getMethod ov m pl)
   callWith pos f first (backTo pos (ϯ (e::es) X.env)) (backToKw pos (keywordEach [] X.env))):=by rfl)(h:EV X o σ H λx H1=>∃a C dx fs aV k ps sp,x=.ref a/\H1 a=some (.ins C dx fs)/\fs.lookup m=none/\aF X.prog X.w X.K X.mg X.base aV k C m ps sp/\k<=k'/\(aV=true->cc=true)/\EA X (e::es) σ H1 λvs H2=>sp (x::vs) H2 Q (Kx σ)):EV X (.Call (.Attribute o m apos) (e::es) [] pos) σ H Q:=by
 intro ϵ s I;refine anl (pl:=pl) (χ (h ϵ s I) λu s1 hZ=>?_) ht;obtain⟨x,H1,I1,rx,a,C,dx,fs,aV,k,ps,sp,ex,ea,hl,M,hk,hcc,q⟩:=hZ;subst ex;cases(show u=Value.ref a from rx);obtain⟨f,fd,hm,hb,F⟩:=M.ex;refine Qc I1 ea M.cls hm hl ?_;refine anQ (first:=[.ref a]) (h₀:=X.base) I.ok.mod.kin hm.kp (χ (q pos ϵ s1 I1) λus s2 ⟨vs,H2,I2,r,q2⟩=>⟨I2.kIn,?_⟩) hst hpl;exact qj (us:=.ref a::us) (vs:=.ref a::vs) F ((hr.mono hk).pq hcc) hb hx I2 (.cons rfl r) q2
theorem Bo{pl:Sem Bool}(hr:ό cc k' X.A)(hx:bc X Kx)(h:EV X o σ H λx H1=>∃a C dx fs aV k ps sp,x=.ref a/\H1 a=some (.ins C dx fs)/\fs.lookup m=none/\aF X.prog X.w X.K X.mg X.base aV k C m ps sp/\k<=k'/\(aV=true->cc=true)/\sp [x] H1 Q (Kx σ))(ht:eval (.Call (.Attribute o m apos) [] [] pos) X.env=(do
   let ov<-eval o X.env
   standAt apos.atName
   let(f,first)<-holding [ov] (getMethod ov m pl)
   callWith pos f first (backTo pos (ϯ [] X.env)) (backToKw pos (keywordEach [] X.env))):=by rfl):EV X (.Call (.Attribute o m apos) [] [] pos) σ H Q:=by
 intro ϵ s I;refine anl (pl:=pl) (χ (h ϵ s I) λu s1 hZ=>?_) ht;obtain⟨x,H1,I1,rx,a,C,dx,fs,aV,k,ps,sp,ex,ea,hl,M,hk,hcc,q⟩:=hZ;subst ex;cases(show u=Value.ref a from rx);obtain⟨f,fd,hm,hb,F⟩:=M.ex;refine Qc I1 ea M.cls hm hl ?_;exact W.callWith_K0 (first:=[.ref a]) I1.kIn hm.kp (qj (us:=[.ref a]) (vs:=[.ref a]) F ((hr.mono hk).pq hcc) hb hx I1 (.cons rfl .nil) q)
theorem u6{pl:Sem Bool}{aV:Bool}{k:Nat}{ps:List Str}{sp:Sp}(B:nY X.prog X.w X.K X.mg X.base aV k x m ps sp)(hr:ό cc k' X.A)(hcc:aV=true->cc=true)(hx:bc X Kx)(h:EA X (e::es) σ H λvs H1=>sp vs H1 Q (Kx σ))(hk:k<=k':=by decide)(hg:Gl X x:=by rfl)(hd:(x==("__debug__":Str))=false:=by decide)(hst:ϯ (e::es) X.env=(false,eval e X.env)::ϯ es X.env:=by rfl)(hpl:(backTo pos (ϯ es X.env)).any (·.1)=false:=by rfl)(ht:eval (.Call (.Attribute (.Name x np) m apos) (e::es) [] pos) X.env=(do
   let ov<-eval (.Name x np) X.env
   standAt apos.atName
   let(f,first)<-holding [ov] (getMethod ov m pl)
   callWith pos f first (backTo pos (ϯ (e::es) X.env)) (backToKw pos (keywordEach [] X.env))):=by rfl):EV X (.Call (.Attribute (.Name x np) m apos) (e::es) [] pos) σ H Q:=by
 obtain⟨C,f,fd,hm,hrd,hf,hga,hkp,hb,F⟩:=B.ex;intro ϵ s I;refine anl (pl:=pl) (lE I hg hm ?_ hd) ht;refine W.method_cls I.kIn hga (W.cls_value I.kIn hrd hf (by rfl) ?_);have I1:=I.tok (s.toks+1);refine anQ (first:=[]) (h₀:=X.base) I.ok.mod.kin hkp (χ (h pos ϵ _ I1) λus s2 ⟨vs,H2,I2,r,q2⟩=>⟨I2.kIn,?_⟩) hst hpl;exact qj F ((hr.mono hk).pq hcc) hb hx I2 r q2
theorem ajo{cc:Bool}{k:Nat}{C g:δ}{fd:ahy}{ps:List Str}{sp:Sp}{ϵ:List (δ×Obj)}{s:μ}{us:List ε}{vs:List V}(M:Mk X.K C g)(F:cL X.prog X.w X.K X.mg X.base (bQ X.prog X.w) cc k g fd ps sp)(hr:ό cc (k+1) X.A)(hb:Binds X.K fd ps [])(hx:bc X Kx)(I:Inv X ϵ σ H s)(r:Vals vs us)(h:∀y dx,H y=none->H dx=none->dx≠y->sp (.ref y::vs) (upd (upd H dx (.own y)) y (.ins C dx [])) (λv H2=>v=.non/\Q (.ref y) H2) (Kx σ)):π (Ϧ X.prog X.w) X.A (call (.ref C) us) (EP X ϵ σ Q) X.xe s:=by
 have hy:H (s.heap.objs.size+1)=none:=I.hok.fresh (amT _);have hdx:H s.heap.objs.size=none:=I.hok.fresh (ϭ _);have q:=h _ _ hy hdx (abF (aoo _));have I2:=Inv.made (C:=C) I;have rr:Vals (V.ref (s.heap.objs.size+1)::vs) (Value.ref (s.heap.objs.size+1)::us):=.cons rfl r;have hl:(Value.ref (s.heap.objs.size+1)::us).length=ps.length:=by rw[<-rr.length];exact F.len _ _ _ _ q
 have hb':=hb {s with heap:=(s.heap.push alb).push (am9 C s.heap.objs.size)} (Value.ref (s.heap.objs.size+1)::us) I2.kIn (by simpa using hl);rw[List.append_nil]at hb';refine wpAny_call (acf (f:=g) I.kIn M.makes M.init (beq_iff_eq.mp M.fn) (aiS (F.run _ X.stack _ _ ⟨Value.ref (s.heap.objs.size+1)::us,[]⟩ _ _ _ (Kx σ) (hr.make C us []) (I2.env0.make C us []) hb' rr q) λres s' hq=>?_))
 match res,hq with
 |.error z,hq=>
   obtain⟨b,cls,d,H',rfl,xa,w⟩:=I2.flown hq;exact hx ϵ σ H' s' b cls d xa w
 |.ok (.ret u),hq=>
   obtain⟨v,H',I3,rv,ev,q3⟩:=I2.after hq;subst ev;exact⟨rv,⟨V.ref (s.heap.objs.size+1),H',I3,rfl,q3⟩⟩
 |.ok .next,hq=>exact False.elim hq
 |.ok .brk,hq=>exact False.elim hq
 |.ok .cont,hq=>exact False.elim hq
theorem gC{aV:Bool}{k:Nat}{C:δ}{ps:List Str}{sp:Sp}(M:fX X.prog X.w X.K X.mg X.base aV k x C ps sp)(hr:ό cc k' X.A)(hk:k+1<=k')(hcc:aV=true->cc=true)(hx:bc X Kx)(h:EA X (e::es) σ H λvs H1=>∀y dx,H1 y=none->H1 dx=none->dx≠y->sp (.ref y::vs) (upd (upd H1 dx (.own y)) y (.ins C dx [])) (λv H2=>v=.non/\Q (.ref y) H2) (Kx σ))(hg:Gl X x:=by rfl)(hd:(x==("__debug__":Str))=false:=by decide)(hst:ϯ (e::es) X.env=(false,eval e X.env)::ϯ es X.env:=by rfl)(hpl:(backTo pos (ϯ es X.env)).any (·.1)=false:=by rfl):EV X (.Call (.Name x p) (e::es) [] pos) σ H Q:=by
 obtain⟨f,fd,hm,hb,F⟩:=M.ex;intro ϵ s I;refine akj (lE I hg M.at_ ?_ hd);refine anQ (h₀:=X.base) I.ok.mod.kin hm.kp (χ (h pos ϵ s I) λus s1 ⟨vs,H1,I1,r,q⟩=>⟨I1.kIn,?_⟩) hst hpl;exact ajo hm F ((hr.mono hk).pq hcc) hb hx I1 r q
end
structure OM(K:Ϩ)(C:δ)(m qual:Str)(st:ϧ):Prop where
 ex:∃f fd,cA K m qual st f fd/\Meth K C m f
structure OI(K:Ϩ)(C:δ)(qual:Str)(st:ϧ):Prop where
 ex:∃f fd,cA K "__init__" qual st f fd/\Mk K C f
structure OB(K:Ϩ)(C:δ)(m qual:Str)(st:ϧ):Prop where
 rd:anv K C (.type "type")=true
 ga:ahA K (.ref C) "__getattribute__"=some (some (.builtin "type.__getattribute__"))
 ex:∃f fd,cA K m qual st f fd/\anw K (.ref C) (.type "type") m=some (.val (.ref f))
def FD(P:Ϯ)(w:Ϭ)(K:Ϩ)(mg:Str->Option ε)(base:ϫ)(cc:Bool)(k:Nat)(m qual:Str)(st:ϧ)(ps:List Str)(sp:Sp):Prop:=
 ∀f fd,cA K m qual st f fd->Binds K fd ps []/\cL P w K mg base (bQ P w) cc k f fd ps sp
section
variable{P:Ϯ}{w:Ϭ}{K:Ϩ}{mg:Str->Option ε}{base:ϫ}{cc:Bool}{k:Nat}{x m qual:Str}{C:δ}{st:ϧ}{ps N:List Str}{sp:Sp}
theorem aK(S:Α N ps (ρ st))(body:∀(f:δ)(Ϻ:ε)(A:ϰ)(outer:List Env)(s:μ)(H:Hp)(vs:List V)(Q:VK)(E:XK),ό cc k (A.deeper (envOfC qual (ρ st) s.heap.objs.size f Ϻ))->sp vs H Q E->
   let X:=dW cc P w K mg base N qual (ρ st) f Ϻ A outer s H E;Κ X (ϗ st) {nx:=λ_ H'=>Q .non H',rt:=Q} (start N vs) H)(hb:∀(kV doc pm:ε)(an:Option δ)(Ϻ ct:ε)(us:List ε),us.length=ps.length->bindArgs (anZ m qual (iI st) (ϗ st) (ρ st) .none kV doc pm an Ϻ ct) ⟨us,[]⟩=pure (ps.zip us):=by walk_at"bb")(len:∀vs H Q E,sp vs H Q E->vs.length=ps.length:=by walk_at"ln"):FD P w K mg base cc (k+1) m qual st ps sp:=
 λf fd F=>⟨F.binds hb,xf F S len λϺ A outer s H vs Q E hr h=>body f Ϻ A outer s H vs Q E hr h⟩
theorem FD.meth(F:FD P w K mg base cc k m qual st ps sp)(c:ϔ K C)(O:OM K C m qual st):aF P w K mg base cc k C m ps sp:=by
 obtain⟨f,fd,h1,h2⟩:=O.ex;exact⟨c,f,fd,h2,F f fd h1⟩
theorem FD.make(F:FD P w K mg base cc k "__init__" qual st ps sp)(hm:mg x=some (.ref C))(O:OI K C qual st):fX P w K mg base cc k x C ps sp:=by
 obtain⟨f,fd,h1,h2⟩:=O.ex;exact⟨hm,f,fd,h2,F f fd h1⟩
theorem FD.asked(F:FD P w K mg base cc k m qual st ps sp)(hm:mg x=some (.ref C))(O:OB K C m qual st):nY P w K mg base cc k x m ps sp:=by
 obtain⟨f,fd,h1,h2⟩:=O.ex;obtain⟨h3,h4⟩:=F f fd h1;exact⟨C,f,fd,hm,O.rd,h2,O.ga,h1.kp,h3,h4⟩
theorem ahT{f:δ}{fd:ahy}(h:mg x=some (.ref C))(F:cA K m qual st f fd)(a:aez K (.ref C) m=some (some (.ref f)))(b:aoc K (.ref f)=true):OM K (ι mg x) m qual st:=by
 rw[bY h];exact⟨f,fd,F,a,b,F.kp⟩
theorem ab2{f:δ}{fd:ahy}(h:mg x=some (.ref C))(F:cA K "__init__" qual st f fd)(a:aez K (.ref C) "__init__"=some (some (.ref f)))(b:aoc K (.ref f)=true)(c:aoz K C=true)(d:amG K (.ref C)=true):OI K (ι mg x) qual st:=by
 rw[bY h];exact⟨f,fd,F,c,a,b,d⟩
theorem ZC{f:δ}{fd:ahy}(h:mg x=some (.ref C))(F:cA K m qual st f fd)(a:anw K (.ref C) (.type "type") m=some (.val (.ref f)))(b:anv K C (.type "type")=true)(c:ahA K (.ref C) "__getattribute__"=some (some (.builtin "type.__getattribute__"))):OB K (ι mg x) m qual st:=by
 rw[bY h];exact⟨b,c,f,fd,F,a⟩
theorem Pu(h:mg x=some (.ref C))(a:anh K C Str.empty=true)(b:al7 K C=true)(c:anC K C=true)(d:aez K (.ref C) "__setattr__"=some (some (.builtin "object.__setattr__"))):ϔ K (ι mg x):=by
 rw[bY h];exact⟨a,b,c,d⟩
end
theorem oM{X:Cx}{σ:St}{H:Hp}{D:Ends}{elts:List ν}{k:Nat}{tp pos:Pos}{value:ν}(h:EV X value σ H λv H1=>EG X (.Tuple elts k tp) v σ H1 λσ' H'=>D.nx σ' H')(hs:swapsWithSole [.Tuple elts k tp] value pos.line X.env=pure false:=by rfl)(hw:swappedStores [.Tuple elts k tp] value X.env=pure none:=by rfl):SX X (.Assign [.Tuple elts k tp] value pos) D σ H:=by
 intro ϵ s I;refine Assign_Tuple (χ (h ϵ s I) λu s1 hZ=>?_) hs hw;obtain⟨v,H1,I1,r1,q1⟩:=hZ;exact χ (q1 ϵ s1 u I1 r1) λ_ s2 ⟨σ',H',I2,q2⟩=>⟨σ',H',I2,q2⟩
structure OT(K:Ϩ)(C:δ):Prop where
 ty:∀(H:Hp)(a dx:δ)(fs:List (Str×V)),H a=some (.ins C dx fs)->b7 K H (.ref a) (.ref C)
theorem acY{K:Ϩ}{mg:Str->Option ε}{x:Str}{C:δ}(h:mg x=some (.ref C))(c:ϔ K (ι mg x))(a1:aez K (.ref C) "__class__"=some (some (.builtin "object.__class__")))(a2:ahA K (.builtin "object.__class__") "__get__"=some (some (.builtin "getset_descriptor.__get__")))(a3:anN K (.builtin "object.__class__")=some true)(a4:anc K C (.type "object")=some true):OT K (ι mg x):=by
 rw[bY h]at c⊢;exact⟨λH a dx fs e=>.ins e c a1 a2 a3 a4⟩
section
variable{X:Cx}{σ:St}{H:Hp}{Q:VK}{D:Ends}{pos tpos:Pos}{o i value:ν}
end
section
variable{prog:Ϯ}{w:Ϭ}{A:ϰ}{E:ε->μ->Prop}{s:μ}
end
section
variable{X:Cx}{H:Hp}{Q:VK}{D:Ends}{σ σ':St}{e a b c elt tg:ν}{scope:agJ}{pos spos py p p':Pos}{x y:Str}{j:Nat}
end
section
variable{X:Cx}{σ:St}{H:Hp}{Q:VK}{D:Ends}{pos pos' tpos apos cpos:Pos}{o i e f value:ν}{y v:V}{a:δ}{r:Option V}
theorem uh(h:∀p,H p=none->Q (.ref p) (upd H p (.dK []))):EV X (.Dict [] [] pos) σ H Q:=ao adq h
theorem ym(hu:X.A.units+1<cLine)(g:ϟ H a y r)(q:Q (.bl r.isSome) H):OP X (adh .In) y (.ref a) H Q:=by
 refine aX (r:=λx z H Q=>∃a o,z=.ref a/\ϟ H a x o/\Q (.bl o.isSome) H) ?_ ⟨a,r,rfl,g,q⟩;intro ϵ s σ H x z v u Q I rx rz h;obtain⟨a,o,rfl,g,q⟩:=h;cases(show u=Value.ref a from rz);exact ait hu I g rx λs' I'=>⟨.bl o.isSome,H,I',rfl,q⟩
theorem aeq(hu:X.A.units+1<cLine)(g:ϟ H a y r)(q:Q (.bl (!r.isSome)) H):OP X (adh .NotIn) y (.ref a) H Q:=by
 refine aX (r:=λx z H Q=>∃a o,z=.ref a/\ϟ H a x o/\Q (.bl (!o.isSome)) H) ?_ ⟨a,r,rfl,g,q⟩;intro ϵ s σ H x z v u Q I rx rz h;obtain⟨a,o,rfl,g,q⟩:=h;cases(show u=Value.ref a from rz);exact ac4 hu I g rx λs' I'=>⟨.bl (!o.isSome),H,I',rfl,q⟩
theorem jP(hu:X.A.units+1<cLine)(h:EV X value σ H λv H1=>EV X o σ H1 λx H2=>EV X i σ H2 λy H3=>∃a H4,x=.ref a/\dq H3 a y v H4/\D.nx σ H4)(hs:akr value (some (.Subscript o i pos')) pos.line X.env=pure false:=by rfl):SX X (.Assign [.Subscript o i pos'] value pos) D σ H:=
 m8 (ain hu Υ Υ Υ hs) h
theorem ZW(hu:X.A.units+1<cLine)(m:M1 X o "get" apos e cpos)(h:EV X o σ H λx H1=>∃a,x=.ref a/\lF H1 a/\EV X e σ H1 λy H2=>∃o,ϟ H2 a y o/\Q (o.getD .non) H2):EV X (.Call (.Attribute o "get" apos) [e] [] cpos) σ H Q:=
 ao (adv hu Υ Υ m) h
theorem zx(h:EV X o σ H λx H1=>∃a,x=.ref a/\lF H1 a/\EV X e σ H1 λy H2=>∃Ϸ k v,H2 a=some (.dK Ϸ)/\y=kV k/\Ϝ Ϸ k=some v/\Q v (upd H2 a (.dK (dU Ϸ k))))(m:M1 X o "pop" apos e cpos:=by constructor<;>rfl):EV X (.Call (.Attribute o "pop" apos) [e] [] cpos) σ H Q:=
 ao (Ud Υ Υ m) h
end
end L2
namespace My
open PySem
abbrev W7:Str:=Str.ofString "-0123456789abcdefghijklmnopqrstuvwxyz"
abbrev qK:Str:=Str.ofString "abcdefghijklmnopqrstuvwxyz0123456789-"
def SG:List Nat:=W7.cps.toList
def TS:List Nat:=qK.cps.toList
theorem yo:∀c∈SG,c∈TS:=by decide+kernel
def tb:List Nat->List Nat->Bool
 |[],[]=>false
 |[],_::_=>true
 |_::_,[]=>false
 |x::xs,y::ys=>if x=y then tb xs ys else decide (SG.idxOf x<SG.idxOf y)
end My
namespace L2
open PySem PySem.Spec PyProof.Rows
theorem Aa{α:Type}{xs:List α}{f:α->V}{i:Int}(d:α)(h0:0<=i)(h1:i<xs.length):Μ (xs.map f) i=some (f (xs.getD i.toNat d)):=by
 have e:i=((i.toNat:Nat):Int):=by omega
 have hl:i.toNat<xs.length:=by omega
 have h2:(xs.map f)[i.toNat]?=some (f (xs.getD i.toNat d)):=by
  rw[aa2,ϳ hl];simp[hl]
 have:=Ϛ h2;rw[<-e]at this;exact this
theorem GJ{α:Type}{xs:List α}{i:Int}(h0:0<=i)(h1:i<xs.length):∃v,Μ xs i=some v/\v∈xs:=by
 have hl:i.toNat<xs.length:=by omega
 have e:i=((i.toNat:Nat):Int):=by omega
 have:=Ϛ (ϳ hl);rw[<-e]at this;exact⟨_,this,ahu hl⟩
theorem NQ:∀l:List Nat,((l.map λc=>(⟨#[c]⟩:Str)).map (·.length)).sum=l.length
 |[]=>rfl
 |c::r=>by
  rw[List.map_cons,List.map_cons,List.sum_cons,NQ r,List.length_cons];show 1+r.length=_;omega
theorem Jk:∀l:List Nat,Str.join ("":Str) (l.map λc=>⟨#[c]⟩)=⟨l.toArray⟩
 |[]=>rfl
 |[c]=>rfl
 |c::d::r=>by
  have ih:=Jk (d::r);show(⟨#[c]⟩:Str)++Str.ofString ""++Str.join ("":Str) ((d::r).map λc=>⟨#[c]⟩)=_;rw[ih];have e0:("":Str)=⟨#[]⟩:=by decide+kernel
  rw[e0];show(⟨(#[c]++ #[])++(d::r).toArray⟩:Str)=⟨(c::d::r).toArray⟩;simp
theorem iu{x y:Str}(h:x.cps.toList=y.cps.toList):x=y:=by
 obtain⟨⟨a⟩⟩:=x;obtain⟨⟨b⟩⟩:=y;simp only at h;rw[h]
theorem cT(x y:Str):(x++y).cps.toList=x.cps.toList++y.cps.toList:=by
 show(x.cps++y.cps).toList=_;simp
theorem len_list(z:Str):z.length=z.cps.toList.length:=by simp[Str.length]
theorem len_app(x y:Str):(x++y).length=x.length+y.length:=by rw[len_list,cT,ab7,len_list,len_list]
theorem pW(z:Str)(lo hi:Option Int):(ώ z lo hi).length<=z.length:=by
 unfold ώ Str.length;simp;omega
theorem zT(z:Str)(lo hi:Option Int):(ώ z lo hi).cps.toList=(z.cps.toList.drop (HT.Ω z.length 0 lo)).take (HT.Ω z.length z.length hi-HT.Ω z.length 0 lo):=by
 unfold ώ;simp
theorem zO(z:Str)(k:Nat):(ώ z (some (k:Int)) none).cps.toList=z.cps.toList.drop k:=by
 rw[zT,HT.mL,HT.HJ];have hl:=len_list z;by_cases h:k<=z.length
 .rw[aiE h,agN (by rw[afw];omega)]
 .have h':z.length<=k:=by omega
  rw[amM h',anK (by omega),anK (by omega)];simp
theorem xP(z:Str)(k:Nat):(ώ z none (some (k:Int))).cps.toList=z.cps.toList.take k:=by
 rw[zT,HT.mL,HT.HJ,an0,aom];have hl:=len_list z;by_cases h:k<=z.length
 .rw[aiE h]
 .have h':z.length<=k:=by omega
  rw[amM h',agN (by omega),agN (by omega)]
theorem Gr(z:Str)(c:Nat):Txt.startswith z ⟨#[c]⟩=decide (z.cps.toList[0]?=some c):=by
 rw[aik,decide_eq_true_eq, <-StrLaws.subAt_one];unfold Txt.startswith
 rw[aaH,decide_eq_true_eq]
end L2
namespace Vl
open PySem L2 PyProof.Rows My NumText
def scalar:V->Bool
 |.non|.int _|.str _=>true
 |_=>false
def nR:V->Bool
 |.int _=>true
 |_=>false
def isNum:V->Bool
 |.int i=>decide (-1000000000000000000<=i/\i<=1000000000000000000)
 |_=>false
def c7(z g:Str):Bool:=z.cps.toList.all λc=>decide (c∈g.cps.toList)
def fK:V->Bool
 |.str z=>decide (z.length<=20)&&c7 z qK
 |_=>false
def isVal(kind:Str):V->Bool
 |.non=>true
 |v=>if kind="number" then isNum v else fK v
def before:V->V->Bool
 |_,.non=>false
 |.non,_=>true
 |.int i,.int j=>decide (i<j)
 |.str x,.str y=>decide (x.cps.toList<y.cps.toList)
 |_,_=>false
def short:V->Prop
 |.str z=>z.length<=4000
 |_=>True
def agS:Sp:=λvs H Q _=>∃v,vs=[v]/\scalar v=true/\Q (.bl (nR v)) H
def aa9:Sp:=λvs H Q _=>∃z g:Str,vs=[.str z,.str g]/\z.length<=4000/\∀H',ζ H H'->Q (.bl (c7 z g)) H'
def XM:Sp:=λvs H Q _=>∃v,vs=[v]/\scalar v=true/\Q (.bl (isNum v)) H
def Yl:Sp:=λvs H Q _=>∃v,vs=[v]/\scalar v=true/\short v/\∀H',ζ H H'->Q (.bl (fK v)) H'
def W6:Sp:=λvs H Q _=>∃(k:Str)(v:V),vs=[.str k,v]/\scalar v=true/\short v/\∀H',ζ H H'->Q (.bl (isVal k v)) H'
def ahG:Sp:=λvs H Q _=>∃x y:V,vs=[x,y]/\(x=.non\/y=.non\/(∃i j,x=.int i/\y=.int j)\/∃i j,x=.str i/\y=.str j)/\Q (.bl (before x y)) H
def wB(c:Nat):Bool:=decide (48<=c/\c<=57)
abbrev DN:Str:=Str.ofString "0123456789"
theorem ach:∀c:Nat,c∈DN.cps.toList↔(48<=c/\c<=57):=by
 intro c;have e:DN.cps.toList=[48,49,50,51,52,53,54,55,56,57]:=by decide+kernel
 rw[e];simp only[List.mem_cons,List.not_mem_nil,or_false];omega
theorem abT(z:Str):c7 z DN=z.cps.toList.all wB:=by
 unfold c7 wB
 congr 1
 funext c;rw[decide_eq_decide];exact ach c
def cO(l:List Nat):Bool:=decide (l=[48])||(decide (l≠[])&&(decide (l[0]? ≠some 48)&&l.all wB))
def oJ(l:List Nat):Bool:=if l[0]?=some 45 then decide (l.drop 1≠[48])&&cO (l.drop 1)else cO l
def jV(l:List Nat):Int:=if l[0]?=some 45 then -((digitsVal (l.drop 1):Nat):Int)else((digitsVal l:Nat):Int)
theorem Qu{l:List Nat}(h:cO l=true):AllDigits l/\l≠[]:=by
 unfold cO at h;rw[am1,aaH,aaH,decide_eq_true_eq,decide_eq_true_eq]at h;obtain h|⟨h1,_,h2⟩:=h
 .subst h;exact⟨λc hc=>by simp at hc;omega,by simp⟩
 .exact⟨λc hc=>of_decide_eq_true (adM.mp h2 c hc),h1⟩
def fH(l:List Nat):Option Int:=if oJ l=true/\l.length<=20/\ -1000000000000000000<=jV l/\jV l<=1000000000000000000 then some (jV l)else none
def iH(z:Str):Option Str:=if z.cps.toList[0]?=some 39/\fK (.str (ώ z (some 1) none))=true then some (ώ z (some 1) none)else none
def uZ:Option Int->Option V
 |some i=>some (.int i)
 |none=>none
def CZ:Option Str->Option V
 |some i=>some (.str i)
 |none=>none
def cZ(kind word:Str):Option V:=if word="?" then some .non else if kind="number" then uZ (fH word.cps.toList)else CZ (iH word)
def wordOf:V->Str
 |.non=>"?"
 |.str z=>Str.ofString "'"++z
 |.int i=>Str.ofString (toString i)
 |_=>""
def aj7:Sp:=λvs H Q _=>∃z,vs=[.str z]/\z.length<=4000/\∀H',ζ H H'->Q (.bl (cO z.cps.toList)) H'
def Cu(c:ε)(r:Option V)(H:Hp)(Q:VK)(E:XK):=∀H',ζ H H'->match r with
 |some v=>Q v H'
 |none=>E c (none,true) H'
def Up(c:ε):Sp:=λvs H Q E=>∃z,vs=[.str z]/\z.length<=4000/\Cu c (uZ (fH z.cps.toList)) H Q E
def aaA(c:ε):Sp:=λvs H Q E=>∃z,vs=[.str z]/\z.length<=4000/\Cu c (CZ (iH z)) H Q E
def adX(c:ε):Sp:=λvs H Q E=>∃k z,vs=[.str k,.str z]/\z.length<=4000/\Cu c (cZ k z) H Q E
def gQ(n:Nat)(z:Str):Prop:=z.length<=n/\∀c∈z.cps.toList,c<1114112
theorem gQ.lay{n:Nat}{z:Str}(h:gQ n z):(PyData.str z).canLay0=true:=by
 show PyData.strOk z=true;unfold PyData.strOk;rw[Array.all_eq_true_iff_forall_mem];intro c hc;exact decide_eq_true (h.2 c (by simpa using hc))
theorem gQ.sg{n:Nat}{z:Str}(hl:z.length<=n)(h:∀c∈z.cps.toList,c∈SG):gQ n z:=⟨hl,λc hc=>by
 have:∀c∈SG,c<1114112:=by decide+kernel
 exact this c (h c hc)⟩
def dV:V->amX
 |.bl b=>.bool b
 |.int i=>.int i
 |.str x=>.str x
 |_=>.none
def lH:V->Bool
 |.non|.int _|.str _|.bl _=>true
 |_=>false
theorem ajy{K:PySem.W.Frag}{H:Hp}{v:V}(h:lH v=true):RD K H v (dV v):=by
 cases v with
 |non=>exact .non
 |bl b=>exact .bl b
 |int i=>exact .int i
 |str x=>exact .str x
 |_=>cases h
theorem HW{K:PySem.W.Frag}{H:Hp}:∀{xs:List V},xs.all lH=true->cj K H xs (xs.map dV)
 |[],_=>.nil
 |x::xs,h=>by
  rw[List.all_cons,aaH]at h;exact .cons (ajy h.1) (HW h.2)
theorem rO{i:Int}(h:i.natAbs<10^60):i.natAbs.log2<1920:=by
 by_cases h0:i.natAbs=0
 .rw[h0];decide
 .rw[Nat.log2_lt h0];refine abX h ?_;decide+kernel
theorem rE(m:Nat):(Str.ofString (toString ((m:Nat):Int))).cps.toList=(aoR 10 m).map Char.toNat:=PySem.W.KIN.signs_num m
theorem wz(m:Nat):∀c∈(Str.ofString (toString ((m:Nat):Int))).cps.toList,48<=c/\c<=57:=by
 rw[rE];intro c hc;obtain⟨d,hd,rfl⟩:=acQ.mp hc;have:=Nat.isDigit_of_mem_toDigits (b:=10) (n:=m) (by decide) (by decide) hd;simp only[Char.isDigit,aaH,decide_eq_true_eq]at this;have h1:(48:UInt32).toNat<=d.val.toNat:=this.1;have h2:d.val.toNat<=(57:UInt32).toNat:=this.2;exact⟨h1,h2⟩
theorem sZ{m k:Nat}(hk:1<=k)(h:m<10^k):(Str.ofString (toString ((m:Nat):Int))).length<=k:=by
 rw[L2.len_list,rE,aaf];exact PyProof.Rows.digits10_le hk h
theorem wU(m:Nat)(h:0<m):Str.ofString (toString (-((m:Nat):Int)))=Str.ofString "-"++Str.ofString (toString ((m:Nat):Int)):=by
 obtain⟨k,rfl⟩:∃k,m=k+1:=⟨m-1,by omega⟩;have e:(-((k+1:Nat):Int))=Int.negSucc k:=rfl;rw[e];apply iu;rw[cT];rw[PyProof.Rows.signs_ofString,PyProof.Rows.signs_ofString,PyProof.Rows.signs_ofString];show(("-"++Nat.repr (k+1)).toList.map Char.toNat)="-".toList.map Char.toNat++(Nat.repr (k+1)).toList.map Char.toNat;rw[String.toList_append,am3]
end Vl
namespace Lw
open PySem L2 PyProof.Rows My NumText
def wV(ns:List Int)(k:Int):Int:=if 0<ns.length then ns.getD (k % (ns.length:Int)).toNat 0 else 0
def ϒ(ns:List Int)(k m:Int):Int:=(wV ns k % 1000003+31*k*k+1)*48271 % 999983*7919 % 524287 % m
theorem aQ(ns:List Int)(k:Int){m:Int}(h:0<m):0<=ϒ ns k m:=akJ _ (by omega)
theorem aU(ns:List Int)(k:Int){m:Int}(h:0<m):ϒ ns k m<m:=akE _ h
def ZV(K:PySem.W.Frag):Sp:=λvs H Q _=>∃(a:δ)(ns:List Int)(k m:Int),vs=[.ref a,.int k,.int m]/\η K H a (ns.map V.int)/\ns.length<=63/\0<=k/\k<=100000/\0<m/\Q (.int (ϒ ns k m)) H
end Lw
namespace Vl
open PySem L2 PyProof.Rows My NumText
inductive ω {α β:Type} (R:α->β->Prop):List α->List β->Prop
 |nil:ω R [] []
 |cons {a:α} {b:β} {l:List α} {m:List β}:R a b->ω R l m->ω R (a::l) (b::m)
section
variable{α β:Type}{R S:α->β->Prop}{l l':List α}{m m':List β}
theorem ω.len(h:ω R l m):l.length=m.length:=by
 induction h with
 |nil=>rfl
 |cons _ _ ih=>rw[List.length_cons,List.length_cons,ih]
theorem ω.imp(f:∀a b,R a b->S a b)(h:ω R l m):ω S l m:=by
 induction h with
 |nil=>exact .nil
 |cons r _ ih=>exact .cons (f _ _ r) ih
theorem ω.get(h:ω R l m){i:Nat}{a:α}(e:l[i]?=some a):∃b,m[i]?=some b/\R a b:=by
 induction h generalizing i with
 |nil=>cases e
 |cons r _ ih=>
  cases i with
  |zero=>cases e;exact⟨_,rfl,r⟩
  |succ i=>exact ih e
theorem ω.get'(h:ω R l m){i:Nat}{b:β}(e:m[i]?=some b):∃a,l[i]?=some a/\R a b:=by
 induction h generalizing i with
 |nil=>cases e
 |cons r _ ih=>
  cases i with
  |zero=>cases e;exact⟨_,rfl,r⟩
  |succ i=>exact ih e
theorem ω.app(h:ω R l m)(g:ω R l' m'):ω R (l++l') (m++m'):=by
 induction h with
 |nil=>exact g
 |cons r _ ih=>exact .cons r ih
theorem ω.drop(n:Nat)(h:ω R l m):ω R (l.drop n) (m.drop n):=by
 induction h generalizing n with
 |nil=>cases n<;>exact .nil
 |cons r t ih=>
  cases n with
  |zero=>exact .cons r t
  |succ n=>exact ih n
theorem ω.take(n:Nat)(h:ω R l m):ω R (l.take n) (m.take n):=by
 induction h generalizing n with
 |nil=>cases n<;>exact .nil
 |cons r _ ih=>
  cases n with
  |zero=>exact .nil
  |succ n=>exact .cons r (ih n)
end
abbrev ο:=Str×Str
def tu(H:Hp)(v:V)(c:ο):=∃t,v=.ref t/\H t=some (.tup [.str c.1,.str c.2])
theorem tu.same{H H':Hp}{v:V}{c:ο}(h:tu H v c)(s:ζ H H'):tu H' v c:=by
 obtain⟨t,e,q⟩:=h;exact⟨t,e,s _ _ q⟩
def ϋ(H:Hp)(a:δ)(cs:List ο):=∃vs:List V,H a=some (.lst vs)/\ω (tu H) vs cs
theorem ϋ.same{H H':Hp}{a:δ}{cs:List ο}(h:ϋ H a cs)(s:ζ H H'):ϋ H' a cs:=by
 obtain⟨vs,e,q⟩:=h;exact⟨vs,s _ _ e,q.imp λa b r=>r.same s⟩
abbrev fW:Str:=Str.ofString "abcdefghijklmnopqrstuvwxyz"
def isName(z:Str):Bool:=decide (1<=z.length/\z.length<=8)&&c7 z fW
def gO(k:Str):Bool:=decide (k="number"\/k="text")
def ϓ(cs:List ο):Bool:=decide (1<=cs.length/\cs.length<=6)&&(cs.all λc=>isName c.1&&gO c.2)&&decide ((cs.map Prod.fst).Nodup)
def VP:Sp:=λvs H Q _=>∃z,vs=[.str z]/\z.length<=4000/\∀H',ζ H H'->Q (.bl (isName z)) H'
def JM(cs:List ο):=∀c∈cs,c.1.length<=4000/\c.2.length<=4000
def afj(c:ε):Sp:=λvs H Q E=>∃a cs,vs=[.ref a]/\ϋ H a cs/\cs.length<=4000/\JM cs/\∀H',ζ H H'->if ϓ cs=true then Q .non H' else E c (none,true) H'
def eU:List ο->Str->Nat->V
 |[],_,_=>.non
 |c::r,z,i=>if c.1=z then .int i else eU r z (i+1)
def X5:Sp:=λvs H Q _=>∃a cs z,vs=[.ref a,.str z]/\ϋ H a cs/\∀H',ζ H H'->Q (eU cs z 0) H'
def MN:V->Bool
 |.int i=>decide (0<=i/\i<=1000000000)
 |_=>false
def ajL:Sp:=λvs H Q _=>∃v,vs=[v]/\scalar v=true/\Q (.bl (MN v)) H
def kO:List ο->List V->Bool
 |c::cs,v::vs=>isVal c.2 v&&kO cs vs
 |_,_=>true
def wy(cs:List ο)(v:V)(xs:List V):Bool:=MN v&&decide (xs.length=cs.length)&&kO cs xs
def ag0:Sp:=λvs H Q _=>∃a cs v b xs,vs=[.ref a,v,.ref b]/\ϋ H a cs/\cs.length<=4000/\scalar v=true/\H b=some (.lst xs)/\(∀x∈xs,scalar x=true/\short x)/\∀H',ζ H H'->Q (.bl (wy cs v xs)) H'
theorem Ny:∀{xs:List V},(∀x∈xs,lH x=true/\∀z,x=.str z->gQ 4000 z)->(PyData.list (xs.map dV)).canLay0=true
 |[],_=>rfl
 |x::xs,h=>by
  have ih:=Ny (xs:=xs) λd hd=>h d (by simp[hd])
  have h1:(dV x).canLay0=true:=by
   obtain⟨hs,hz⟩:=h x (by simp);cases x with
   |str z=>exact(hz z rfl).lay
   |_=>rfl
  show((dV x).canLay0&&PyData.canLayAll0 (xs.map dV))=true;rw[h1];exact ih
theorem Hc:∀xs:List V,PyData.depthAll (xs.map dV)<=1
 |[]=>by show(0:Nat)<=1;omega
 |x::xs=>by
  have ih:=Hc xs;have h1:(dV x).depth<=1:=by cases x<;>(show(_:Nat)<=1;exact Nat.le_of_ble_eq_true rfl)
  show max (dV x).depth (PyData.depthAll (xs.map dV))<=1;omega
end Vl
namespace Vl
open PySem L2 PyProof.Rows My NumText
theorem M4:∀(r:List Nat)(a:Nat),a*10^r.length<=r.foldl (λacc c=>acc*10+(c-48)) a
 |[],a=>by simp
 |c::r,a=>by
  have ih:=M4 r (a*10+(c-48));rw[List.foldl_cons,List.length_cons,Nat.pow_succ];refine aft ?_ ih;have h1:a*(10^r.length*10)=a*10*10^r.length:=by rw[aoQ (10^r.length) 10,Nat.mul_assoc]
  rw[h1];exact anY _ (alo _ _)
theorem Hn{l:List Nat}(h:cO l=true)(h1:l≠[48]):10^(l.length-1)<=digitsVal l:=by
 obtain⟨hd,Ϲ⟩:=Qu h;cases l with
 |nil=>exact absurd rfl Ϲ
 |cons c r=>
  have hc:=hd c aek;have hc2:c≠48:=by
   intro e;subst e;unfold cO at h;rw[decide_eq_false h1,anF]at h;simp at h
  have:=M4 r (0*10+(c-48));have h3:1*10^r.length<=(0*10+(c-48))*10^r.length:=anY _ (by omega);unfold digitsVal;rw[List.foldl_cons];show 10^r.length<=_;omega
theorem yw{l:List Nat}{m:Int}{k:Nat}(h:cO l=true)(hm:((digitsVal l:Nat):Int)<=m)(hk:m<((10^k:Nat):Int))(h1:1<=k):l.length<=k:=by
 by_cases e:l=[48]
 .subst e;exact h1
 .have h2:=Hn h e;have h3:10^(l.length-1)<10^k:=by omega
  have h4:=(Nat.pow_lt_pow_iff_right (a:=10) (by decide)).mp h3;omega
theorem Hq{l:List Nat}(h:cO l=true):digitsVal l=0↔l=[48]:=by
 constructor
 .intro e;refine Classical.byContradiction λn=>?_
  have h2:=Hn h n;have h3:0<10^(l.length-1):=Nat.pow_pos (by decide);omega
 .intro e;subst e;rfl
def gf(l:List Nat)(m:Int):Option Int:=if cO l=true/\((digitsVal l:Nat):Int)<=m then some ((digitsVal l:Nat):Int)else none
def sG:Option Int->V
 |none=>.non
 |some i=>.int i
def Zx:Sp:=λvs H Q _=>∃(z:Str)(m:Int)(k:Nat),vs=[.str z,.int m]/\z.length<=4000/\0<=m/\m.natAbs<10^60/\(Str.ofString (toString m)).length=k/\m<((10^k:Nat):Int)/\1<=k/\k<=600/\∀H',ζ H H'->Q (sG (gf z.cps.toList m)) H'
theorem NZ{l:List Nat}(h0:¬l[0]?=some 45):fH l=gf l 1000000000000000000:=by
 unfold fH gf oJ jV;rw[if_neg h0,if_neg h0];by_cases h:cO l=true/\((digitsVal l:Nat):Int)<=1000000000000000000
 .have :=yw (k:=19) h.1 h.2 (by decide) (by decide);rw[if_pos h,if_pos ⟨h.1,by omega,by omega,h.2⟩]
 .rw[if_neg h,if_neg λx=>h ⟨x.1,x.2.2.2⟩]
theorem aeB{l:List Nat}(h0:l[0]?=some 45):fH l=match gf (l.drop 1) 1000000000000000000 with
  |some i=>if i=0 then none else some (-i)
  |none=>none:=by
 unfold fH gf oJ jV;rw[if_pos h0,if_pos h0];have hl:l.length=(l.drop 1).length+1:=by
  cases l with
  |nil=>simp at h0
  |cons c r=>simp
 rw[hl];generalize l.drop 1=r;by_cases h:cO r=true/\((digitsVal r:Nat):Int)<=1000000000000000000
 .have h2:=yw (k:=19) h.1 h.2 (by decide) (by decide);have h3:=Hq h.1;rw[if_pos h];show _=if((digitsVal r:Nat):Int)=0 then none else some (-((digitsVal r:Nat):Int));by_cases e:r=[48]
  .have hz:((digitsVal r:Nat):Int)=0:=by have:=h3.mpr e;omega
   rw[if_pos hz];refine if_neg λx=>?_
   rw[aaH,decide_eq_true_eq]at x;exact x.1.1 e
  .have hz:¬((digitsVal r:Nat):Int)=0:=λz=>e (h3.mp (by omega))
   rw[if_neg hz];exact if_pos ⟨by rw[decide_eq_true e,h.1];rfl,by omega,by omega,by omega⟩
 .rw[if_neg h];refine if_neg λx=>?_
  rw[aaH]at x;exact h ⟨x.1.2,by omega⟩
end Vl
namespace Vl
open PySem L2 PyProof.Rows My NumText
theorem zE{n:Int}(h:n.natAbs<10^60):(Str.ofString (toString n)).length<=70:=by
 by_cases h0:0<=n
 .obtain⟨m,rfl⟩:=adz h0;have:=sZ (m:=m) (k:=60) (by decide) (by simpa using h);omega
 .have e:n= -((n.natAbs:Nat):Int):=by omega
  rw[e,wU n.natAbs (by omega),len_app];have:=sZ (m:=n.natAbs) (k:=60) (by decide) h;have l1:("-":Str).length=1:=by decide+kernel
  omega
end Vl
namespace Vl
open PySem L2 PyProof.Rows My NumText
abbrev Ord:=Str×Bool
def qJ(H:Hp)(v:V)(o:Ord):=∃t,v=.ref t/\H t=some (.tup [.str o.1,.bl o.2])
theorem qJ.same{H H':Hp}{v:V}{o:Ord}(h:qJ H v o)(s:ζ H H'):qJ H' v o:=by
 obtain⟨t,e,q⟩:=h;exact⟨t,e,s _ _ q⟩
def cP(H:Hp)(a:δ)(os:List Ord):=∃vs:List V,H a=some (.lst vs)/\ω (qJ H) vs os
theorem cP.same{H H':Hp}{a:δ}{os:List Ord}(h:cP H a os)(s:ζ H H'):cP H' a os:=by
 obtain⟨vs,e,q⟩:=h;exact⟨vs,s _ _ e,q.imp λa b r=>r.same s⟩
def iJ{α β:Type}(f:α->Option β):List α->Option (List β)
 |[]=>some []
 |x::r=>match f x,iJ f r with
  |some y,some ys=>some (y::ys)
  |_,_=>none
theorem Qs{α β:Type}{f:α->Option β}:∀{l:List α}{x:α},x∈l->f x=none->iJ f l=none
 |y::r,x,h,e=>by
  unfold iJ;obtain z|z:=ϴ.mp h
  .subst z;rw[e]
  .rw[Qs z e];cases f y<;>rfl
 |[],x,h,_=>by simp at h
theorem Nu{α β:Type}{f:α->Option β}:∀{l:List α}{m:List β},l.length=m.length->(∀(i:Nat) x y,l[i]?=some x->m[i]?=some y->f x=some y)->iJ f l=some m
 |[],[],_,_=>rfl
 |x::l,y::m,hl,h=>by
  have h1:=h 0 x y rfl rfl;have h2:=Nu (l:=l) (m:=m) (by simpa using hl) λi x y e1 e2=>h (i+1) x y (by simpa using e1) (by simpa using e2)
  unfold iJ;rw[h1,h2]
 |[],_::_,hl,_=>by simp at hl
 |_::_,[],hl,_=>by simp at hl
theorem Oo{α β:Type}{f:α->Option β}{R:V->β->Prop}:∀{ws:List α}{xs:List V},xs.length=ws.length->(∀(i:Nat) v,xs[i]?=some v->∃z,ws[i]?=some z/\∃b,f z=some b/\R v b)->∃bs,iJ f ws=some bs/\ω R xs bs
 |[],[],_,_=>⟨[],rfl,.nil⟩
 |w::ws,x::xs,hl,h=>by
  obtain⟨z,e1,b,e2,r⟩:=h 0 x rfl;have e1':w=z:=by simpa using e1
  subst e1';obtain⟨bs,e3,t⟩:=Oo (ws:=ws) (xs:=xs) (by simpa using hl) λi v e=>by simpa using h (i+1) v (by simpa using e)
  refine⟨b::bs,?_,.cons r t⟩;unfold iJ;rw[e2,e3]
 |[],_::_,hl,_=>by simp at hl
 |_::_,[],hl,_=>by simp at hl
def iM(cs:List ο)(z:Str):Option Ord:=
 if(z.cps.toList[0]?=some 43\/z.cps.toList[0]?=some 45)/\eU cs (ώ z (some 1) none) 0≠.non then some (ώ z (some 1) none,decide (z.cps.toList[0]?=some 43))else none
def lC(cs:List ο)(z:Str):Option (List Ord):=
 if z="" then some []else if 4<(ϥ 32 z).length then none else match iJ (iM cs) (ϥ 32 z)with
  |none=>none
  |some os=>if(os.map Prod.fst).Nodup then some os else none
def WW(c:ε):Sp:=λvs H Q E=>∃a cs z,vs=[.ref a,.str z]/\ϋ H a cs/\z.length<=4000/\
 (∀H',ζ H H'->iM cs z=none->E c (none,true) H')/\∀p o H',ζ H H'->iM cs z=some o->H' p=some (.tup [.str o.1,.bl o.2])->Q (.ref p) H'
def ae3(c:ε):Sp:=λvs H Q E=>∃a cs z,vs=[.ref a,.str z]/\ϋ H a cs/\z.length<=4000/\
 (∀H',ζ H H'->lC cs z=none->E c (none,true) H')/\∀p os H',ζ H H'->lC cs z=some os->H p=none->cP H' p os->Q (.ref p) H'
def aL(o:Ord):Str:=(if o.2=true then Str.ofString "+" else Str.ofString "-")++o.1
def dm(os:List Ord):Str:=Str.join " " (os.map aL)
def Ul:Sp:=λvs H Q _=>∃a os,vs=[.ref a]/\cP H a os/\os.length<=4000/\(∀o∈os,o.1.length<=1000)/\∀H',ζ H H'->Q (.str (dm os)) H'
theorem Hf(c:Nat)(z:Str):(ϥ c z).length<=z.length+1:=by
 have h1:=CN c z.cps.toList;unfold ϥ;rw[aaf];have h2:z.cps.toList.length=z.length:=rfl;omega
theorem ajR{c:Nat}{z y:Str}(h:y∈ϥ c z):y.length<=z.length:=by
 have key:∀(l:List Nat) p,p∈cutAt c l->p.length<=l.length:=by
  intro l;induction l with
  |nil=>intro p hp;have:p=[]:=by simpa [cutAt]using hp
        subst this;simp
  |cons x r ih=>
   intro p hp;unfold cutAt at hp;split at hp
   .obtain z|z:=ϴ.mp hp
    .subst z;simp
    .have :=ih p z;simp;omega
   .split at hp
    .have :p=[x]:=by simpa using hp
     subst this;simp
    .rename_i a t e;rw[e]at ih;obtain z|z:=ϴ.mp hp
     .subst z;have:=ih a (by simp);simp;omega
     .have :=ih p (by simp[z]);simp;omega
 unfold ϥ at h;obtain⟨l,hl,rfl⟩:=acQ.mp h;have:=key _ l hl;have h2:z.cps.toList.length=z.length:=rfl;show l.toArray.size<=_;simp;omega
end Vl
namespace Vl
open PySem L2 PyProof.Rows My NumText
def ϊ:List ο->Str->Nat
 |[],_=>0
 |c::r,z=>if c.1=z then 0 else ϊ r z+1
theorem zH:∀{cs:List ο}{z:Str},(∃c∈cs,c.1=z)->ϊ cs z<cs.length
 |[],_,h=>by obtain⟨c,hc,_⟩:=h;simp at hc
 |d::r,z,h=>by
  unfold ϊ;split
  .simp
  .rename_i hd;have:=zH (cs:=r) (z:=z) (by
    obtain⟨c,hc,e⟩:=h;obtain x|x:=ϴ.mp hc
    .subst x;exact absurd e hd
    .exact⟨c,x,e⟩)
   simp;omega
theorem zg:∀{cs:List ο}{z:Str}(i:Nat),(∃c∈cs,c.1=z)->eU cs z i=.int ((i+ϊ cs z:Nat):Int)
 |[],_,_,h=>by obtain⟨c,hc,_⟩:=h;simp at hc
 |d::r,z,i,h=>by
  unfold eU ϊ;split
  .rfl
  .rename_i hd;rw[zg (i+1) (by
    obtain⟨c,hc,e⟩:=h;obtain x|x:=ϴ.mp hc
    .subst x;exact absurd e hd
    .exact⟨c,x,e⟩)]
   congr 2
   omega
theorem Fj:∀{cs:List ο}{z:Str},(∃c∈cs,c.1=z)->∃c,cs[ϊ cs z]?=some c/\c.1=z
 |[],_,h=>by obtain⟨c,hc,_⟩:=h;simp at hc
 |d::r,z,h=>by
  unfold ϊ;split
  .rename_i e;exact⟨d,rfl,e⟩
  .rename_i hd;obtain⟨c,h1,h2⟩:=Fj (cs:=r) (z:=z) (by
    obtain⟨c,hc,e⟩:=h;obtain x|x:=ϴ.mp hc
    .subst x;exact absurd e hd
    .exact⟨c,x,e⟩)
   exact⟨c,by simpa using h1,h2⟩
def bK(cs:List ο)(xs:List V)(z:Str):V:=(xs[ϊ cs z]?).getD .non
def aJ(cs:List ο)(os:List Ord)(xs:List V):List V:=os.map λo=>bK cs xs o.1
theorem Wt(cs:List ο)(os:List Ord)(xs:List V):(aJ cs os xs).length=os.length:=aaf ..
def cJ(cs:List ο)(os:List Ord):=∀o∈os,∃c∈cs,c.1=o.1
def aD(x y:V):Prop:=x=.non\/y=.non\/(∃i j,x=.int i/\y=.int j)\/∃i j,x=.str i/\y=.str j
theorem Ew{x y:V}(hx:scalar x=true)(hy:scalar y=true):rZ x y=true:=by
 cases x<;>cases y<;>first|rfl|(exact absurd hx aaD)|(exact absurd hy aaD)
def Ϥ:List Ord->List V->List V->Int->Int->Bool
 |o::os,x::xs,y::ys,n,k=>if x=y then Ϥ os xs ys n k else decide (before x y=o.2)
 |_,_,_,n,k=>decide (n<k)
def vV(H:Hp)(p:δ)(xs:List V)(n:Int):=∃l,H p=some (.tup [.ref l,.int n])/\H l=some (.lst xs)
theorem Ay:∀{i:Nat}{os:List Ord}{xs ys:List V}{n k:Int},xs.length=os.length->ys.length=os.length->i<=os.length->(∀j x y,j<i->xs[j]?=some x->ys[j]?=some y->x=y)->Ϥ os xs ys n k=Ϥ (os.drop i) (xs.drop i) (ys.drop i) n k
 |0,_,_,_,_,_,_,_,_,_=>rfl
 |i+1,[],[],[],_,_,_,_,hi,_=>by simp at hi
 |i+1,o::os,x::xs,y::ys,n,k,h1,h2,hi,h=>by
  show(if x=y then Ϥ os xs ys n k else decide (before x y=o.2))=_;rw[if_pos (h 0 x y (by omega) rfl rfl)];exact Ay (by simpa using h1) (by simpa using h2) (by simpa using hi) λj x y hj e1 e2=>h (j+1) x y (by omega) (by simpa using e1) (by simpa using e2)
 |i+1,[],_::_,_,_,_,h1,_,_,_=>by simp at h1
 |i+1,[],[],_::_,_,_,_,h2,_,_=>by simp at h2
 |i+1,_::_,[],_,_,_,h1,_,_,_=>by simp at h1
 |i+1,_::_,_::_,[],_,_,_,h2,_,_=>by simp at h2
theorem v9{α:Type}{l:List α}{i:Nat}{x:α}(h:l[i]?=some x):l.drop i=x::l.drop (i+1):=by
 obtain⟨hi,e⟩:=aae.mp h;rw[<-e];exact List.drop_eq_getElem_cons hi
theorem agr{i:Nat}{os:List Ord}{xs ys:List V}{n k:Int}{o:Ord}{x y:V}(h1:xs.length=os.length)(h2:ys.length=os.length)(ho:os[i]?=some o)(hx:xs[i]?=some x)(hy:ys[i]?=some y)(h:∀j x y,j<i->xs[j]?=some x->ys[j]?=some y->x=y)(Ϲ:¬x=y):Ϥ os xs ys n k=decide (before x y=o.2):=by
 have hi:=(aae.mp ho).1;rw[Ay h1 h2 (by omega) h,v9 ho,v9 hx,v9 hy];show(if x=y then _ else _)=_;rw[if_neg Ϲ]
theorem Xg{os:List Ord}{xs ys:List V}{n k:Int}(h1:xs.length=os.length)(h2:ys.length=os.length)(h:∀j x y,j<os.length->xs[j]?=some x->ys[j]?=some y->x=y):Ϥ os xs ys n k=decide (n<k):=by
 rw[Ay h1 h2 (ϭ _) h,aor];rfl
end Vl
namespace Vl
open PySem L2 PyProof.Rows My NumText
theorem Qg(m:Nat):cO (Str.ofString (toString ((m:Nat):Int))).cps.toList=true/\digitsVal (Str.ofString (toString ((m:Nat):Int))).cps.toList=m:=by
 have hd:AllDigits (Str.ofString (toString ((m:Nat):Int))).cps.toList:=wz m;have hv:digitsVal (Str.ofString (toString ((m:Nat):Int))).cps.toList=m:=by rw[rE];exact PySem.W.KIN.val_back m
 refine⟨?_,hv⟩;have Ϲ:(Str.ofString (toString ((m:Nat):Int))).cps.toList≠[]:=by rw[rE];simp[Nat.toDigits_ne_nil]
 have hall:=toDigits_all _ hd;rw[hv]at hall;have e:=rE m;generalize(Str.ofString (toString ((m:Nat):Int))).cps.toList=l at *;have hl:l.length=(aoR 10 m).length:=by rw[e,aaf]
 unfold cO;rw[am1,aaH,aaH,decide_eq_true_eq,decide_eq_true_eq,decide_eq_true_eq];cases l with
 |nil=>exact absurd rfl Ϲ
 |cons c r=>
  by_cases h0:c=48
  .subst h0;left;rw[List.dropWhile_cons,if_pos (by decide)]at hall;cases q:r.dropWhile (· ==48)with
   |nil=>
    rw[q]at hall;rw[hall]at hl;have:r=[]:=by cases r with
     |nil=>rfl
     |cons _ _=>simp at hl
    rw[this]
   |cons d t=>
    rw[q]at hall;rw[hall,aaf, <-q]at hl;have:=(List.dropWhile_sublist (p:=λx:Nat=>x==48) (l:=r)).length_le;rw[List.length_cons]at hl;omega
  .right;refine⟨by simp,by simpa using h0,?_⟩;rw[adM];exact λx hx=>decide_eq_true (hd x hx)
theorem Zj{i:Int}(h1: -1000000000000000000<=i)(h2:i<=1000000000000000000):fH (Str.ofString (toString i)).cps.toList=some i:=by
 by_cases h0:0<=i
 .obtain⟨m,rfl⟩:=adz h0;obtain⟨a,b⟩:=Qg m;have hd:=wz m;have hn:¬(Str.ofString (toString ((m:Nat):Int))).cps.toList[0]?=some 45:=λe=>by
   have:=hd 45 (aaJ e);omega
  have e:=NZ hn;unfold gf at e;rw[a,b,if_pos ⟨rfl,by omega⟩]at e;exact e
 .obtain⟨m,hm,rfl⟩:∃m:Nat,0<m/\i= -((m:Nat):Int):=⟨i.natAbs,by omega,by omega⟩;obtain⟨a,b⟩:=Qg m;have hl:=sZ (m:=m) (k:=19) (by decide) (by omega);have e:(Str.ofString (toString (-((m:Nat):Int)))).cps.toList=45::(Str.ofString (toString ((m:Nat):Int))).cps.toList:=by
   rw[wU m hm,cT];have:("-":Str).cps.toList=[45]:=by decide+kernel
   rw[this];rfl
  have hz:=Hq a;rw[b]at hz;rw[L2.len_list]at hl;rw[e];generalize(Str.ofString (toString ((m:Nat):Int))).cps.toList=l at a b hz hl⊢;have Ϲ:l≠[48]:=λq=>by have:=hz.mpr q;omega
  have w1:oJ (45::l)=true:=by
   unfold oJ;rw[if_pos (show(45::l)[0]?=some 45 from rfl)];show(decide (l≠[48])&&cO l)=true;rw[a,decide_eq_true Ϲ];rfl
  have w2:jV (45::l)= -((m:Nat):Int):=by
   unfold jV;rw[if_pos (show(45::l)[0]?=some 45 from rfl)];show -((digitsVal l:Nat):Int)=_;rw[b]
  unfold fH;rw[w1,w2,if_pos ⟨rfl,by rw[List.length_cons];omega,h1,h2⟩]
theorem yq(i:Int):∀c∈(Str.ofString (toString i)).cps.toList,c=45\/(48<=c/\c<=57):=by
 intro c hc;by_cases h0:0<=i
 .obtain⟨m,rfl⟩:=adz h0;exact .inr (wz m c hc)
 .obtain⟨m,hm,rfl⟩:∃m:Nat,0<m/\i= -((m:Nat):Int):=⟨i.natAbs,by omega,by omega⟩;rw[wU m hm,cT]at hc;obtain h|h:=adT.mp hc
  .left;have:("-":Str).cps.toList=[45]:=by decide+kernel
   rw[this]at h;simpa using h
  .exact .inr (wz m c h)
theorem ahE{i:Int}{k:Nat}(hk:1<=k)(h:i.natAbs<10^k):(Str.ofString (toString i)).length<=k+1:=by
 by_cases h0:0<=i
 .obtain⟨m,rfl⟩:=adz h0;have:=sZ (m:=m) (k:=k) hk (by simpa using h);omega
 .obtain⟨m,hm,rfl⟩:∃m:Nat,0<m/\i= -((m:Nat):Int):=⟨i.natAbs,by omega,by omega⟩;have:=sZ (m:=m) (k:=k) hk (by simpa using h);have e:("-":Str).length=1:=by decide+kernel
  rw[wU m hm,len_app,e];omega
theorem Nb:("?":Str).cps.toList=[63]:=by decide+kernel
theorem vh:("'":Str).cps.toList=[39]:=by decide+kernel
theorem aed{i:Int}(h1: -1000000000000000000<=i)(h2:i<=1000000000000000000):cZ "number" (wordOf (.int i))=some (.int i):=by
 have hn:¬wordOf (.int i)="?":=λe=>by
  have h:63∈(Str.ofString (toString i)).cps.toList:=by
   have e':Str.ofString (toString i)=Str.ofString "?":=e;rw[e',Nb];simp
  have:=yq i 63 h;omega
 unfold cZ;rw[if_neg hn,if_pos rfl];show uZ (fH (Str.ofString (toString i)).cps.toList)=_;rw[Zj h1 h2];rfl
theorem Yi{z:Str}(hl:z.length<=20)(h:∀c∈z.cps.toList,c∈SG):fK (.str z)=true:=by
 show(decide (z.length<=20)&&c7 z qK)=true;rw[decide_eq_true hl,amn];unfold c7;rw[adM];exact λc hc=>decide_eq_true (yo c (h c hc))
theorem ajp(z:Str):ώ (Str.ofString "'"++z) (some 1) none=z:=by
 apply iu;have:=zO (Str.ofString "'"++z) 1;rw[show((1:Nat):Int)=1 from rfl]at this;rw[this,cT,vh];rfl
theorem agB:¬(("text":Str)="number"):=by decide+kernel
theorem acN{z:Str}(hl:z.length<=20)(h:∀c∈z.cps.toList,c∈SG):cZ "text" (wordOf (.str z))=some (.str z):=by
 have e:wordOf (.str z)=Str.ofString "'"++z:=rfl;have h0:(Str.ofString "'"++z).cps.toList[0]?=some 39:=by rw[cT,vh];rfl
 have hn:¬Str.ofString "'"++z="?":=λe=>by
  have e':Str.ofString "'"++z=Str.ofString "?":=e;rw[e',Nb]at h0;simp at h0
 rw[e];unfold cZ;rw[if_neg hn,if_neg agB];unfold iH;rw[ajp,if_pos ⟨h0,Yi hl h⟩];rfl
theorem Jy{ps:List Str}(h:ps≠[])(hf:∀p∈ps,32∉p.cps.toList):ϥ 32 (Str.join " " ps)=ps:=by
 unfold ϥ;have e:(Str.join " " ps).cps.toList=jz 32 (ps.map λp=>p.cps.toList):=wF 32 ps;rw[e,Ft (by simpa using h) λp hp=>?_,agn]
 .have :((λl:List Nat=>(⟨l.toArray⟩:Str))∘λp:Str=>p.cps.toList)=id:=by
   funext p;rfl
  rw[this,aoB]
 .obtain⟨q,hq,rfl⟩:=acQ.mp hp;exact hf q hq
theorem Rv(x:Nat):∀(k:Nat)(acc:Array Nat),((agR k #[x]).foldl (· ++ ·) acc).toList=acc.toList++agR k x
 |0,acc=>by simp
 |k+1,acc=>by
  rw[anj,List.foldl_cons,Rv x k,anj];simp
theorem agA(x:Nat)(n:Int)(h:0<=n):(mV (⟨#[x]⟩:Str) n).cps.toList=agR n.toNat x:=by
 show((agR n.toNat #[x]).foldl (· ++ ·) #[]).toList=_;rw[Rv];simp
end Vl
namespace L2
open PySem PySem.Spec PyProof.Rows PySem.W
section
variable{X:Cx}{σ:St}{H:Hp}{Q:VK}{a:δ}
def fM{α:Type}(xs:List α)(k:Nat)(y:α):List α:=xs.take k++y::xs.drop k
def YZ:V->List V->Hp->VK->Prop:=λx vs H Q=>∃l xs k y,x=.ref l/\vs=[.int (k:Nat),y]/\H l=some (.lst xs)/\k<=xs.length/\xs.length<ϩ/\Q .non (upd H l (.lst (fM xs k y)))
theorem abH:zZ X "list.insert" YZ:=by
 intro ϵ s σ H x vs v us Q I rx rv h;obtain⟨l,xs,k,y,rfl,rfl,hH,hk,hz,q⟩:=h;cases rx;obtain⟨u0,u,rfl,WN,ru⟩:=rv.two;obtain⟨t,rfl⟩:=WN;have hsz:=ϱ;obtain⟨z,ϸ,n,r,hl,e⟩:=I.lstM hH;obtain⟨i,hi⟩:∃i:Int,i=(k:Int):=⟨_,rfl⟩;rw[<-hi];have hf:Builtin.List.listFitsIndex i=true:=fitsIndex_both (by omega) (by omega);have hm:=PySem.AutoSeq1.list_insert_list_int_val_1 l ϸ.toArray n i t u (by rw[hf];decide) (by rw[aaU];omega);refine amW F.slot_list_insert ⟨_,e,rfl⟩ F.entry_list_insert (F.args_list_insert_3 (.ref l) (.int i t) u) hm ⟨e,?_⟩;refine⟨.non,_,I.lset (its':=fM ϸ k u) hH e ?_ ((r.take k).append (.cons ru (r.drop k))) ?_,rfl,q⟩
 .show(ϸ.toArray.extract 0 (if i<0 then(i+(ϸ.toArray.size:Int)).toNat else min i.toNat ϸ.toArray.size)).push u++ϸ.toArray.extract (if i<0 then(i+(ϸ.toArray.size:Int)).toNat else min i.toNat ϸ.toArray.size)=(fM ϸ k u).toArray;rw[if_neg (by omega),hi,anr,aaU,aiE (by omega)];unfold fM;apply aos.mp;simp;rw[agN (by rw[afw];omega)]
 .rw[ab7,List.length_cons,ae1,afw];omega
theorem X7{h:ϫ}{d b:δ}{vs:List ε}{out:Array ε}(Ϲ:b≠d){o:Obj}(e:h.get? b=some o):(sortedHeap h d vs out).get? b=some o:=by
 unfold sortedHeap;rw[acu _ _ (Ne.symm Ϲ)];exact Heap.get?_push_of_some _ (Heap.get?_push_of_some _ ((acu _ _ (Ne.symm Ϲ)).trans e))
theorem agT{h:ϫ}{d:δ}{us vs:List ε}{out:Array ε}{n:Nat}(e:h.get? d=some (seqObj "list" us.toArray n)):∃c,(sortedHeap h d vs out).get? d=some (seqObj "list" out c):=by
 unfold sortedHeap;have h1:=get?_update_seq e (λ_=>(#[]:Array ε));have h2:=Heap.get?_push_of_some (seqObj "tuple" vs.toArray 0) h1;have h3:=Heap.get?_push_of_some (seqObj "list" #[] 0) h2;exact⟨_,get?_update_seq h3 (λ_=>out)⟩
theorem ajl{vs:List ε}{ns:List Int}(h:IntsAre vs ns):Vals (ns.map V.int) vs:=by
 induction h with
 |nil=>exact .nil
 |cons n t _ ih=>exact .cons ⟨t,rfl⟩ ih
theorem aap{ks:List Int}:∀{vs:List ε},vs.length=ks.length->(∀(j:Nat) v,vs[j]?=some v->∃i t,ks[j]?=some i/\v=Value.int i t)->IntsAre vs ks:=by
 induction ks with
 |nil=>intro vs h _;have:vs=[]:=by simpa using h
       subst this;exact .nil
 |cons k ks ih=>
  intro vs h g;cases vs with
  |nil=>simp at h
  |cons v vs=>
   obtain⟨i,t,e,rfl⟩:=g 0 v rfl;have:k=i:=by simpa using e
   subst this;exact .cons k t (ih (by simpa using h) λj v e=>by simpa using g (j+1) v (by simpa using e))
theorem Z1{prog:Ϯ}{w:Ϭ}{A:ϰ}{E:ε->μ->Prop}{s:μ}{ty:String}{q d:δ}{n:Nat}{Pi:Nat->ε->Prop}{Ok:ϫ->Prop}{R:List ε->μ->Prop}(kd:KdlSrc prog w ty q d n Pi Ok)(h0:A.handled=none)(ho:Ok s.heap)(hz:n<=ϩ)(g:∀(h2:ϫ)(k:Nat)(xs:Array ε),s.heap.objs.size<h2.objs.size->(∀b o,s.heap.get? b=some o->h2.get? b=some o)->ItemsOf Pi xs n->R xs.toList {s with heap:=h2,toks:=k}):π (Ϧ prog w) A (collect (.ref q)) R E s:=by
 obtain⟨t1,t2⟩:=kd.there _ ho;let N:δ:=s.heap.objs.size;let Rz:Result->μ->Prop:=λr s2=>∃(h2:ϫ)(k:Nat)(xs:Array ε)(c:Nat),r=.ok (.ret (.ref N))/\s2={s with heap:=h2,toks:=k}/\(∀b o,s.heap.get? b=some o->h2.get? b=some o)/\h2.get? N=some {cls:=.type "list",dict:=none,data:=.seq xs c,slots:= #[]}/\ItemsOf Pi xs n
 have fin:∀s2:μ,Rz (.ok (.ret (.ref N))) s2->π (Ϧ prog w) A (do
   let o<-load N
   match o.data with
   |.seq xs _=>pure xs.toList
   |_=>unsupported "internal:collect") R E s2:=by
  rintro s2 ⟨h2,k,xs,c, -,rfl,hk,hN,hI⟩
  exact Ϫ (wpAny_load hN (ϲ (g h2 k xs (aaY hN) hk hI)))
 have hn:(s.heap.push {cls:=.type "list",data:=.seq ([]:List ε).toArray}).get? N=some {cls:=.type "list",data:=.seq #[]}:=abE _ rfl;have ho2:Ok (s.heap.push {cls:=.type "list",data:=.seq ([]:List ε).toArray}):=kd.keep _ _ ho λ_ _ _ e=>Heap.get?_push_of_some _ e
 have run:=kdl_extend (A:=A) (s:={s with heap:=s.heap.push {cls:=.type "list",data:=.seq ([]:List ε).toArray}}) (R:=Rz) kd h0 ho2 N (anM t1) (anM t2) (.ref N) 0 hn
  (λh2 k xs c hk hN hI=>⟨h2,k,xs,c,rfl,rfl,λb o e=>hk b o (abF (aaY e)) (Heap.get?_push_of_some _ e),hN,hI⟩) hz
 unfold collect;refine Ϫ (wpAny_runValue (amR entry_proto_collect' ?_));rw[Around.under_plainId F.plain_proto_collect];refine Ϫ (m:=newList []) (am5 (ϲ ⟨plainId_quiet F.plain_list_iadd _,amR entry_list_iadd' ?_⟩));rw[Around.under_plainId F.plain_list_iadd];refine adu (t:=Builtin.List.listExtendWith (.ref N) (.ref q) (.ref N)) run (λr s2 hr=>?_) λe s2 hr=>?_
 .cases r with
  |done f=>
   obtain⟨h2,k,xs,c,e,rest⟩:=id hr;cases e;exact fin s2 hr
  |again c=>
   refine⟨hr.1,aiS hr.2 λr2 s3 h3=>?_⟩;obtain⟨h2,k,xs,c2,e,rest⟩:=id h3;subst e;exact fin s3 h3
 .obtain⟨_,_,_,_,e2,_⟩:=hr;cases e2
theorem UL{Ϸ:List (Key×V)}{ks:List Int}(hc:X.calm=true)(e:H a=some (.dK Ϸ))(hk:Ϸ.map (·.1)=ks.map Sum.inl)(h64:ks.length<64)(g:∀(p:δ)(ks':List Int),H p=none->ks'.Perm ks->ks'.Pairwise (· <= ·)->Q (.ref p) (upd H p (.lst (ks'.map V.int)))):CL X (.builtin "sorted") [.ref a] H Q:=by
 refine dC (r:=λxs H Q=>∃(a:δ)(Ϸ:List (Key×V))(ks:List Int),xs=[.ref a]/\H a=some (.dK Ϸ)/\Ϸ.map (·.1)=ks.map Sum.inl/\ks.length<64/\∀(p:δ)(ks':List Int),H p=none->ks'.Perm ks->ks'.Pairwise (· <= ·)->Q (.ref p) (upd H p (.lst (ks'.map V.int)))) ?_ ⟨a,Ϸ,ks,rfl,e,hk,h64,g⟩;intro ϵ s σ H xs us Q I r h;obtain⟨a,Ϸ,ks,rfl,e,hk,h64,g⟩:=h;obtain⟨u,rfl,ru⟩:=vals1 r;cases ru;have hsz:=ϱ;obtain⟨z,lo,vs,kh,hd⟩:=tK I.hok e;obtain⟨ep,hm⟩:=hd.dictAt;have hkl:Ϸ.length=ks.length:=by have:=congrArg am6 hk;simpa using this
 have hvl:=kh.length;have hvk:vs.map (·.1)=ks.map Sum.inl:=by rw[<-kh.keys];exact hk
 refine Calls.call_function_entry kind_sorted plain_sorted entry_sorted (args_sorted1 _) ?_;unfold Builtin.«sorted»;refine Ϫ (m:=checkCount "sorted" 1 1 _) (ϲ ?_);refine Ϫ (Z1 (A:=X.A.in1) (kdl_dict lo) (I.ok.hd hc) hm (by omega) λh' tk acc hgr hkeep hacc=>?_);have hal:acc.toList.length=vs.length:=by rw[ak7];exact hacc.1
 have hI:IntsAre acc.toList ks:=by
  refine aap (by omega) λj v ev=>?_
  obtain⟨k,x,e1,e2⟩:=hacc.2 j v (by rw[<-anR];exact ev);have e3:(vs.map (·.1))[j]?=some k:=by rw[aa2,e1];rfl
  rw[hvk,aa2]at e3;cases e4:ks[j]? with
  |none=>rw[e4]at e3;cases e3
  |some i=>
   rw[e4]at e3;have e5:Sum.inl i=k:=by simpa using e3
   obtain⟨i',t,e6,rfl⟩|⟨y,t,e6,_⟩:=f9 (k:=k) (v:=v) e2
   .rw[e6]at e5;cases e5;exact⟨i,t,rfl,rfl⟩
   .rw[e6]at e5;cases e5
 refine Ϫ (wpAny_newList ?_ (by omega));have hoL:(h'.push (seqObj "list" acc.toList.toArray 0)).get? h'.objs.size=some (seqObj "list" acc.toList.toArray 0):=abE _ rfl;have hle:s.heap.objs.size<=h'.objs.size:=ana hgr;refine Ϫ (afE (wpAny_call_entry slot_list_sort ⟨_,hoL,rfl⟩ entry_list_sort (list_sort_tree hoL hI (by omega) λout ns' a1 a2 a3=>⟨_,rfl,?_⟩) (args_list_sort _)));refine ϲ ⟨_,rfl,?_⟩;obtain⟨c,hc'⟩:=agT (vs:=acc.toList) (out:=out) hoL;refine⟨.ref h'.objs.size,_,I.laid (t':=tk) (o:=.lst (ns'.map V.int)) (λb o eb=>X7 (abF (abX (aaY eb) hle)) (Heap.get?_push_of_some _ (hkeep _ _ eb))) hle ⟨by rw[aaf,a2.length_eq];omega,out.toList,c,ajl a1,by simpa using hc'⟩,rfl,g _ ns' (I.hok.fresh hle) a2 a3⟩
theorem cu{y v:V}(hu:X.A.units+1<cLine)(g:ϟ H a y (some v))(q:Q v H):IX X (.ref a) y H Q:=by
 refine xM (r:=λx y H Q=>∃a v,x=.ref a/\ϟ H a y (some v)/\Q v H) ?_ ⟨a,v,rfl,g,q⟩;intro value slice ϵ s σ H x y w u Q I rx ry h hs;obtain⟨a,v,rfl,g,q⟩:=h;obtain rfl:w=Value.ref a:=rx;have ty:=YD I g;have run:π (Ϧ X.prog X.w) X.A (subscripted slice false (Value.ref a) u) (λr s2=>π (Ϧ X.prog X.w) X.A (letTemporaryGo value (Value.ref a) r>>=λ_=>pure r) (EP X ϵ σ Q) X.xe s2) X.xe s:=by
  rw[hs];exact wpAny_operating (Tc hu I g ry λr s2 I2 rr=>Ϫ (wpAny_letTemporaryGo (ϲ ⟨v,H,I2,rr,q⟩)))
 unfold subscriptTail;refine Ϫ ?_;rw[getitemInPython_of_ne ty.not_modules];refine Ϫ (wpAny_specialOf ty F.slot_dict_getitem.lookup ?_)
 first
  |exact ϲ (Ϫ run)
  |exact Ϫ (ϲ (Ϫ run))
  |exact Ϫ run
end
end L2
namespace Vl
open PySem L2 PyProof.Rows My
section
variable{α β:Type}
def Ξ(m:List (Int×α))(i:Int):Option α:=(m.find? λp=>decide (p.1=i)).map (·.2)
def bB(m:List (Int×α))(i:Int)(x:α):List (Int×α):=if(m.any λp=>decide (p.1=i))=true then m.map (λp=>if p.1=i then(p.1,x)else p)else m++[(i,x)]
def di(m:List (Int×α))(i:Int):List (Int×α):=m.filter λp=>decide (p.1≠i)
abbrev PR(R:V->α->Prop)(kv:Key×V)(p:Int×α):Prop:=kv.1=Sum.inl p.1/\R kv.2 p.2
def DictAt(R:V->α->Prop)(H:Hp)(a:δ)(m:List (Int×α)):=∃Ϸ,H a=some (.dK Ϸ)/\ω (PR R) Ϸ m
theorem RN(i j:Int):decide ((Sum.inl i:Key)=Sum.inl j)=decide (i=j):=by
 by_cases h:i=j
 .subst h;simp
 .have :¬(Sum.inl i:Key)=Sum.inl j:=λe=>h (Sum.inl.inj e)
  rw[decide_eq_false this,decide_eq_false h]
theorem Y9{R:V->α->Prop}{Ϸ:List (Key×V)}{m:List (Int×α)}(h:ω (PR R) Ϸ m):Ϸ.map (·.1)=(m.map (·.1)).map Sum.inl:=by
 induction h with
 |nil=>rfl
 |cons h _ ih=>rw[List.map_cons,List.map_cons,List.map_cons,ih,h.1]
theorem iV{R:V->α->Prop}{Ϸ:List (Key×V)}{m:List (Int×α)}(h:ω (PR R) Ϸ m)(i:Int):(Ϝ Ϸ (Sum.inl i)=none/\ Ξ m i=none)\/∃v x,Ϝ Ϸ (Sum.inl i)=some v/\ Ξ m i=some x/\R v x:=by
 induction h with
 |nil=>exact .inl ⟨rfl,rfl⟩
 | @cons kv p l m h _ ih=>
   obtain⟨k,v⟩:=kv;obtain⟨j,x⟩:=p;obtain⟨hk,hr⟩:=h;have hk':k=Sum.inl j:=hk;subst hk';unfold Ϝ Ξ at ih⊢;rw[List.find?_cons,List.find?_cons];show((match decide ((Sum.inl j:Key)=Sum.inl i)with|true=>_|false=>_:Option (Key×V)).map _=_/\_)\/_;rw[RN];by_cases e:j=i
   .rw[decide_eq_true e];exact .inr ⟨v,x,rfl,rfl,hr⟩
   .rw[decide_eq_false e];exact ih
theorem ae2{R:V->α->Prop}{Ϸ:List (Key×V)}{m:List (Int×α)}(h:ω (PR R) Ϸ m)(i:Int):(Ϸ.any λkv=>decide (kv.1=Sum.inl i))=m.any λp=>decide (p.1=i):=by
 induction h with
 |nil=>rfl
 | @cons kv p l m h _ ih=>rw[List.any_cons,List.any_cons,ih,h.1,RN]
theorem pC{R:V->α->Prop}{Ϸ:List (Key×V)}{m:List (Int×α)}(h:ω (PR R) Ϸ m)(i:Int){v:V}{x:α}(r:R v x):ω (PR R) (putK Ϸ (Sum.inl i) v) (bB m i x):=by
 unfold putK bB;rw[ae2 h i];by_cases e:(m.any λp=>decide (p.1=i))=true
 .rw[if_pos e,if_pos e];clear e;induction h with
  |nil=>exact .nil
  | @cons kv p l m h _ ih=>
    refine .cons ?_ ih;obtain⟨hk,hr⟩:=h;show PR R (if kv.1=Sum.inl i then(kv.1,v)else kv) (if p.1=i then(p.1,x)else p);by_cases e:p.1=i
    .rw[if_pos e,if_pos (by rw[hk,e])];exact⟨hk,r⟩
    .rw[if_neg e,if_neg (by rw[hk];exact λz=>e (Sum.inl.inj z))];exact⟨hk,hr⟩
 .rw[if_neg e,if_neg e];exact ω.app h (.cons ⟨rfl,r⟩ .nil)
theorem xX{R:V->α->Prop}{Ϸ:List (Key×V)}{m:List (Int×α)}(h:ω (PR R) Ϸ m)(i:Int):ω (PR R) (dU Ϸ (Sum.inl i)) (di m i):=by
 unfold dU di;induction h with
 |nil=>exact .nil
 | @cons kv p l m h _ ih=>
   obtain⟨hk,hr⟩:=h;rw[List.filter_cons,List.filter_cons];by_cases e:p.1=i
   .rw[if_neg (by rw[hk,e];simp),if_neg (by rw[e];simp)];exact ih
   .rw[if_pos (by rw[hk];simp[e]),if_pos (by simp[e])];exact .cons ⟨hk,hr⟩ ih
theorem eO{R S:V->α->Prop}{Ϸ:List (Key×V)}{m:List (Int×α)}(h:ω (PR R) Ϸ m)(f:∀v x,R v x->S v x):ω (PR S) Ϸ m:=ω.imp (λ_ _ h=>⟨h.1,f _ _ h.2⟩) h
theorem Gg{m:List (Int×α)}{i j:Int}{x:α}:Ξ (bB m i x) j=if j=i then some x else Ξ m j:=by
 unfold Ξ bB;induction m with
 |nil=>
  rw[List.any_nil,if_neg (by decide),aoC,List.find?_cons];by_cases e:j=i
  .subst e;simp
  .have e':¬i=j:=λz=>e z.symm
   simp[e,e']
 |cons p r ih=>
  obtain⟨k,y⟩:=p;rw[List.any_cons];by_cases hk:k=i
  .subst hk;simp only[decide_true,aoO,if_true,List.map_cons,List.find?_cons];by_cases e:j=k
   .subst e;simp
   .have e':¬k=j:=λz=>e z.symm
    simp only[e,e',decide_false,if_false];clear ih
    congr 1
    induction r with
    |nil=>rfl
    |cons q r ih2=>
     obtain⟨k2,y2⟩:=q;rw[List.map_cons,List.find?_cons,List.find?_cons,ih2];by_cases h2:k2=k
     .subst h2;simp[e']
     .simp[h2]
  .simp only[hk,decide_false,anF];by_cases ha:(r.any λp=>decide (p.1=i))=true
   .rw[if_pos ha]at ih⊢;rw[List.map_cons,if_neg hk,List.find?_cons,List.find?_cons];by_cases e:k=j
    .subst e;simp[hk]
    .simp only[e,decide_false];exact ih
   .rw[if_neg ha]at ih⊢;rw[aot,List.find?_cons,List.find?_cons];by_cases e:k=j
    .subst e;simp[hk]
    .simp only[e,decide_false];exact ih
theorem CQ{m:List (Int×α)}{i j:Int}:Ξ (di m i) j=if j=i then none else Ξ m j:=by
 unfold Ξ di;induction m with
 |nil=>simp
 |cons p r ih=>
  obtain⟨k,y⟩:=p;rw[List.filter_cons];by_cases hk:k=i
  .subst hk;simp only[ne_eq,not_true,decide_false,am0,if_false,List.find?_cons];rw[ih];by_cases e:j=k
   .subst e;simp
   .have e':¬k=j:=λz=>e z.symm
    simp[e,e']
  .simp only[ne_eq,hk,not_false_eq_true,decide_true,if_true,List.find?_cons];by_cases e:k=j
   .subst e;simp[hk]
   .simp only[e,decide_false];exact ih
theorem ae4{m:List (Int×α)}{i:Int}{x:α}(h:(m.map (·.1)).Nodup):((bB m i x).map (·.1)).Nodup:=by
 unfold bB;by_cases ha:(m.any λp=>decide (p.1=i))=true
 .rw[if_pos ha];have:(m.map λp=>if p.1=i then(p.1,x)else p).map (·.1)=m.map (·.1):=by
   rw[agn];refine anm λp _=>?_
   show(if p.1=i then(p.1,x)else p).1=p.1;split <;>rfl
  rw[this];exact h
 .rw[if_neg ha,am3];refine am7.mpr ⟨h,by simp,λa h1 b h2 e=>ha ?_⟩;have h2':b=i:=by simpa using h2
  subst e;subst h2';obtain⟨p,hp,e⟩:=acQ.mp h1;exact ane.mpr ⟨p,hp,decide_eq_true e⟩
theorem ae8{m:List (Int×α)}{i:Int}(h:(m.map (·.1)).Nodup):((di m i).map (·.1)).Nodup:=h.sublist (List.Sublist.map _ an7)
theorem Wy{m:List (Int×α)}{i:Int}{x:α}(h:Ξ m i=some x):(i,x)∈m:=by
 unfold Ξ at h;cases e:m.find? λp=>decide (p.1=i)with
 |none=>rw[e]at h;cases h
 |some p=>
  rw[e]at h;have h1:=List.find?_some e;have h2:=List.mem_of_find?_eq_some e;obtain⟨k,y⟩:=p;have e1:k=i:=of_decide_eq_true h1;have e2:y=x:=by simpa using h
  subst e1;subst e2;exact h2
theorem Kg{m:List (Int×α)}{i:Int}:Ξ m i=none↔i∉m.map (·.1):=by
 unfold Ξ;rw[Option.map_eq_none_iff,List.find?_eq_none];constructor
 .intro h hm;obtain⟨p,hp,e⟩:=acQ.mp hm;exact h p hp (decide_eq_true e)
 .intro h p hp e;exact h (acQ.mpr ⟨p,hp,of_decide_eq_true e⟩)
def Out(S:List δ)(H H':Hp):=∀b o,b∉S->H b=some o->H' b=some o
theorem Out.refl(S:List δ)(H:Hp):Out S H H:=λ_ _ _ h=>h
theorem Out.trans{S:List δ}{H H1 H2:Hp}(a:Out S H H1)(b:Out S H1 H2):Out S H H2:=λc o hc h=>b c o hc (a c o hc h)
theorem Out.of{S:List δ}{H H':Hp}(h:ζ H H'):Out S H H':=λb o _ e=>h b o e
theorem Out.upd{S:List δ}{H:Hp}{a:δ}{o:HO}(h:a∈S):Out S H (upd H a o):=λb u hb e=>by
 rw[θ (λz=>hb (by rw[z];exact h))];exact e
theorem Out.mono{S T:List δ}{H H':Hp}(h:Out S H H')(s:∀x∈S,x∈T):Out T H H':=λb o hb e=>h b o (λz=>hb (s b z)) e
def TupAt(H:Hp)(v:V)(xs:List V):=∃t,v=.ref t/\H t=some (.tup xs)
def lV(H:Hp)(v:V):Option (List V)->Prop
 |none=>v=.non
 |some xs=>TupAt H v xs
structure u9 where
 at_:Int
 row:Int
 was:Option (List V)
 is:Option (List V)
def nF(H:Hp)(v:V)(d:u9):=∃t w u,v=.ref t/\H t=some (.tup [.int d.at_,.int d.row,w,u])/\lV H w d.was/\lV H u d.is
structure Bk where
 heads:List ο
 rows:List (Int×List V)
 touched:List (Int×Int)
 done:List u9
 known:Int
 now:Int
structure BA where
 b:δ
 dx:δ
 h:δ
 r:δ
 t:δ
 d:δ
def uC(v:V)(i:Int):Prop:=v=.int i
structure Τ(C:δ)(H:Hp)(A:BA)(B:Bk):Prop where
 ins:H A.b=some (.ins C A.dx [("heads",.ref A.h),("rows",.ref A.r),("touched",.ref A.t),("done",.ref A.d),("known",.int B.known),("now",.int B.now)])
 own:H A.dx=some (.own A.b)
 heads:ϋ H A.h B.heads
 rows:DictAt (TupAt H) H A.r B.rows
 touched:DictAt uC H A.t B.touched
 done:∃xs,H A.d=some (.lst xs)/\ω (nF H) xs B.done
 rt:A.r≠A.t
 hd:A.h≠A.d
def BA.fp(A:BA):List δ:=[A.b,A.r,A.t,A.d]
theorem TupAt.stay{H H':Hp}{v:V}{xs:List V}(h:TupAt H v xs)(s:∀b ys,H b=some (.tup ys)->H' b=some (.tup ys)):TupAt H' v xs:=by
 obtain⟨t,e,h⟩:=h;exact⟨t,e,s _ _ h⟩
theorem lV.stay{H H':Hp}{v:V}{o:Option (List V)}(h:lV H v o)(s:∀b ys,H b=some (.tup ys)->H' b=some (.tup ys)):lV H' v o:=by
 cases o with
 |none=>exact h
 |some xs=>exact TupAt.stay h s
theorem nF.stay{H H':Hp}{v:V}{d:u9}(h:nF H v d)(s:∀b ys,H b=some (.tup ys)->H' b=some (.tup ys)):nF H' v d:=by
 obtain⟨t,w,u,e,h1,h2,h3⟩:=h;exact⟨t,w,u,e,s _ _ h1,h2.stay s,h3.stay s⟩
theorem ϋ.stay{H H':Hp}{a:δ}{cs:List ο}(h:ϋ H a cs)(h1:∀xs,H a=some (.lst xs)->H' a=some (.lst xs))(s:∀b ys,H b=some (.tup ys)->H' b=some (.tup ys)):ϋ H' a cs:=by
 obtain⟨vs,e,h2⟩:=h;exact⟨vs,h1 _ e,ω.imp (λv c ⟨t,e,h⟩=>⟨t,e,s _ _ h⟩) h2⟩
theorem Τ.stay{C:δ}{H H':Hp}{A:BA}{B:Bk}(k:Τ C H A B)(s:∀b ys,H b=some (.tup ys)->H' b=some (.tup ys))(f:∀x o,x∈[A.b,A.dx,A.h,A.r,A.t,A.d]->H x=some o->H' x=some o):Τ C H' A B where
 ins:=f _ _ (by simp) k.ins
 own:=f _ _ (by simp) k.own
 heads:=k.heads.stay (λxs e=>f _ _ (by simp) e) s
 rows:=by
  obtain⟨Ϸ,e,h⟩:=k.rows;exact⟨Ϸ,f _ _ (by simp) e,eO h λv x h=>h.stay s⟩
 touched:=by
  obtain⟨Ϸ,e,h⟩:=k.touched;exact⟨Ϸ,f _ _ (by simp) e,h⟩
 done:=by
  obtain⟨xs,e,h⟩:=k.done;exact⟨xs,f _ _ (by simp) e,ω.imp (λv d h=>h.stay s) h⟩
 rt:=k.rt
 hd:=k.hd
theorem Τ.same{C:δ}{H H':Hp}{A:BA}{B:Bk}(k:Τ C H A B)(s:ζ H H'):Τ C H' A B:=k.stay (λ_ _ e=>s _ _ e) λ_ _ _ e=>s _ _ e
section
variable{C:δ}{H H':Hp}{A:BA}{B:Bk}
theorem Τ.vd(k:Τ C H A B){b:δ}(hb:b∈A.fp):(∃fs,H b=some (.ins C A.dx fs))\/(∃Ϸ,H b=some (.dK Ϸ))\/∃xs,H b=some (.lst xs):=by
 have hb':b=A.b\/b=A.r\/b=A.t\/b=A.d:=by simpa [BA.fp]using hb
 obtain rfl|rfl|rfl|rfl:=hb'
 .exact .inl ⟨_,k.ins⟩
 .obtain⟨Ϸ,e,_⟩:=k.rows;exact .inr (.inl ⟨_,e⟩)
 .obtain⟨Ϸ,e,_⟩:=k.touched;exact .inr (.inl ⟨_,e⟩)
 .obtain⟨xs,e,_⟩:=k.done;exact .inr (.inr ⟨_,e⟩)
theorem Τ.tup(k:Τ C H A B)(o:Out A.fp H H'):∀b ys,H b=some (.tup ys)->H' b=some (.tup ys):=λb ys e=>o b _ (λhb=>by
 obtain⟨fs,z⟩|⟨Ϸ,z⟩|⟨xs,z⟩:=k.vd hb<;>rw[e]at z<;>cases z) e
theorem Τ.ne(k:Τ C H A B):A.b≠A.dx/\A.b≠A.h/\A.b≠A.r/\A.b≠A.t/\A.b≠A.d/\A.r≠A.dx/\A.r≠A.h/\A.r≠A.d/\A.t≠A.dx/\A.t≠A.h/\A.t≠A.d/\A.d≠A.dx:=by
 have h1:=k.ins;have h2:=k.own;obtain⟨_,h3,_⟩:=k.heads;obtain⟨_,h4,_⟩:=k.rows;obtain⟨_,h5,_⟩:=k.touched;obtain⟨_,h6,_⟩:=k.done;refine⟨?_,?_,?_,?_,?_,?_,?_,?_,?_,?_,?_,?_⟩<;>intro e
 .rw[e,h2]at h1;cases h1
 .rw[e,h3]at h1;cases h1
 .rw[e,h4]at h1;cases h1
 .rw[e,h5]at h1;cases h1
 .rw[e,h6]at h1;cases h1
 .rw[e,h2]at h4;cases h4
 .rw[e,h3]at h4;cases h4
 .rw[e,h6]at h4;cases h4
 .rw[e,h2]at h5;cases h5
 .rw[e,h3]at h5;cases h5
 .rw[e,h6]at h5;cases h5
 .rw[e,h2]at h6;cases h6
theorem Τ.aaz(k:Τ C H A B)(kn nw:Int):Τ C (upd H A.b (.ins C A.dx [("heads",.ref A.h),("rows",.ref A.r),("touched",.ref A.t),("done",.ref A.d),("known",.int kn),("now",.int nw)])) A {B with known:=kn,now:=nw}:=by
 obtain⟨n1,n2,n3,n4,n5,_⟩:=k.ne;have st:∀b ys,H b=some (.tup ys)->(upd H A.b (.ins C A.dx [("heads",.ref A.h),("rows",.ref A.r),("touched",.ref A.t),("done",.ref A.d),("known",.int kn),("now",.int nw)])) b=some (.tup ys):=k.tup (Out.upd (by simp[BA.fp]));refine⟨υ,?_,k.heads.stay (λxs e=>?_) st,?_,?_,?_,k.rt,k.hd⟩
 .rw[θ (Ne.symm n1)];exact k.own
 .rw[θ (Ne.symm n2)];exact e
 .obtain⟨Ϸ,e,h⟩:=k.rows;exact⟨Ϸ,by rw[θ (Ne.symm n3)];exact e,eO h λv x h=>h.stay st⟩
 .obtain⟨Ϸ,e,h⟩:=k.touched;exact⟨Ϸ,by rw[θ (Ne.symm n4)];exact e,h⟩
 .obtain⟨xs,e,h⟩:=k.done;exact⟨xs,by rw[θ (Ne.symm n5)];exact e,ω.imp (λv d h=>h.stay st) h⟩
theorem Τ.ni{Ϸ:List (Key×V)}{m:List (Int×List V)}(k:Τ C H A B)(h:ω (PR (TupAt H)) Ϸ m):Τ C (upd H A.r (.dK Ϸ)) A {B with rows:=m}:=by
 obtain⟨n1,n2,n3,n4,n5,n6,n7,n8,_⟩:=k.ne;have st:∀b ys,H b=some (.tup ys)->(upd H A.r (.dK Ϸ)) b=some (.tup ys):=k.tup (Out.upd (by simp[BA.fp]));refine⟨?_,?_,k.heads.stay (λxs e=>?_) st,⟨Ϸ,υ,eO h λv x h=>h.stay st⟩,?_,?_,k.rt,k.hd⟩
 .rw[θ n3];exact k.ins
 .rw[θ (Ne.symm n6)];exact k.own
 .rw[θ (Ne.symm n7)];exact e
 .obtain⟨Ϸ,e,h⟩:=k.touched;exact⟨Ϸ,by rw[θ (Ne.symm k.rt)];exact e,h⟩
 .obtain⟨xs,e,h⟩:=k.done;exact⟨xs,by rw[θ (Ne.symm n8)];exact e,ω.imp (λv d h=>h.stay st) h⟩
theorem Τ.RL{Ϸ:List (Key×V)}{m:List (Int×Int)}(k:Τ C H A B)(h:ω (PR uC) Ϸ m):Τ C (upd H A.t (.dK Ϸ)) A {B with touched:=m}:=by
 obtain⟨n1,n2,n3,n4,n5,n6,n7,n8,n9,n10,rN,_⟩:=k.ne;have st:∀b ys,H b=some (.tup ys)->(upd H A.t (.dK Ϸ)) b=some (.tup ys):=k.tup (Out.upd (by simp[BA.fp]));refine⟨?_,?_,k.heads.stay (λxs e=>?_) st,?_,⟨Ϸ,υ,h⟩,?_,k.rt,k.hd⟩
 .rw[θ n4];exact k.ins
 .rw[θ (Ne.symm n9)];exact k.own
 .rw[θ (Ne.symm n10)];exact e
 .obtain⟨Ϸ,e,h⟩:=k.rows;exact⟨Ϸ,by rw[θ k.rt];exact e,eO h λv x h=>h.stay st⟩
 .obtain⟨xs,e,h⟩:=k.done;exact⟨xs,by rw[θ (Ne.symm rN)];exact e,ω.imp (λv d h=>h.stay st) h⟩
theorem Τ.Z3{xs:List V}{ds:List u9}(k:Τ C H A B)(h:ω (nF H) xs ds):Τ C (upd H A.d (.lst xs)) A {B with done:=ds}:=by
 obtain⟨n1,n2,n3,n4,n5,n6,n7,n8,n9,n10,rN,n12⟩:=k.ne;have st:∀b ys,H b=some (.tup ys)->(upd H A.d (.lst xs)) b=some (.tup ys):=k.tup (Out.upd (by simp[BA.fp]));refine⟨?_,?_,k.heads.stay (λxs e=>?_) st,?_,?_,⟨xs,υ,ω.imp (λv d h=>h.stay st) h⟩,k.rt,k.hd⟩
 .rw[θ n5];exact k.ins
 .rw[θ (Ne.symm n12)];exact k.own
 .rw[θ k.hd];exact e
 .obtain⟨Ϸ,e,h⟩:=k.rows;exact⟨Ϸ,by rw[θ n8];exact e,eO h λv x h=>h.stay st⟩
 .obtain⟨Ϸ,e,h⟩:=k.touched;exact⟨Ϸ,by rw[θ rN];exact e,h⟩
end
end
end Vl
namespace L2
open PySem PySem.Spec PyProof.Rows PySem.W
section
variable{prog:Ϯ}{w:Ϭ}{A:ϰ}{E:ε->μ->Prop}{s:μ}
variable{I:δ}{fp wr:List δ}{G:Array GenState->Array GenState->Prop}{n:Nat}{P:Nat->ε->Prop}{St:Nat->μ->Prop}
end
section
variable{X:Cx}{σ:St}{H:Hp}{Q:VK}{a:ν}{p pos p' pos':Pos}
end
section
variable{X:Cx}{σ:St}{H:Hp}{Q:VK}{D:Ends}{o e f:ν}{apos cpos pos:Pos}
end
section
variable{X:Cx}{ϵ:List (δ×Obj)}{σ:St}{H:Hp}{s:μ}{d:δ}
end
section
variable{X:Cx}{σ:St}{H:Hp}{a e:ν}{tg:ν}{pos:Pos}{R:It->Hp->Prop}{D:Ends}
end
section
variable{X:Cx}{H:Hp}{Q:VK}{e C:δ}{D:Option δ}{k:Bool}
end
section
variable{X:Cx}{σ σ':St}{H:Hp}{Q:VK}{a b tg elt:ν}{scope:agJ}{p p' pos:Pos}
end
section
variable{X:Cx}{H:Hp}{Q:VK}
end
section
variable{X:Cx}{H:Hp}{Q:VK}
theorem ad7{a b:Bool}(q:Q (.bl (!(a==b))) H):OP X (adh .IsNot) (.bl a) (.bl b) H Q:=by
 refine aX (r:=λx y H Q=>∃a b,x=.bl a/\y=.bl b/\Q (.bl (!(a==b))) H) ?_ ⟨a,b,rfl,rfl,q⟩;intro ϵ s σ H x y v u Q I rx ry h;obtain⟨a,b,rfl,rfl,q⟩:=h;cases rx;cases ry;cases a<;>cases b<;>exact ϲ ⟨.bl _,H,I,rfl,q⟩
variable{σ:St}{a b tg:ν}{p p' pos:Pos}{D:Ends}
end
section
variable{X:Cx}{σ:St}{H:Hp}{Q:VK}{pos:Pos}
theorem W3{k1 v1 k2 v2 k3 v3:ν}(h:∀p,H p=none->EV X k1 σ (upd H p (.dK [])) λx1 H1=>EV X v1 σ H1 λy1 H2=>EV X k2 σ H2 λx2 H3=>EV X v2 σ H3 λy2 H4=>EV X k3 σ H4 λx3 H5=>EV X v3 σ H5 λy3 H6=>H6 p=some (.dK [])/\∃a1 a2 a3:Key,x1=kV a1/\x2=kV a2/\x3=kV a3/\Q (.ref p) (upd H6 p (.dK (jA [] [(a1,y1),(a2,y2),(a3,y3)])))):EV X (.Dict [some k1,some k2,some k3] [v1,v2,v3] pos) σ H Q:=by
 refine ao (aiW (yZ Υ Υ (yZ Υ Υ (yZ Υ Υ ajs))) rfl rfl (by simp) (by simp)) ?_;intro p hp;refine ϡ (h p hp) λx1 H1 q=>ϡ q λy1 H2 q=>ϡ q λx2 H3 q=>ϡ q λy2 H4 q=>ϡ q λx3 H5 q=>ϡ q λy3 H6 q=>?_
 obtain⟨e,a1,a2,a3,e1,e2,e3,q9⟩:=q;subst e1 e2 e3;exact⟨e,[(a1,y1),(a2,y2),(a3,y3)],rfl,by simp,q9⟩
end
end L2
namespace L2
open PySem PySem.Spec PyProof.Rows
section
variable{prog:Ϯ}{w:Ϭ}{A:ϰ}{E:ε->μ->Prop}{s:μ}{env:Env}
end
section
variable{prog:Ϯ}{w:Ϭ}{A:ϰ}{E:ε->μ->Prop}{s:μ}{env:Env}
variable{nm q:Str}{C N:δ}{bs bm:List ε}{hdct:Bool}{sn:List Str}{sub:List ε}{ab:Bool}{col:Option Bool}{dd:Option δ}{k0 k1 k2 k3 k5:Option ε}
end
section
variable{X:Cx}{Kx:St->XK}{D:Ends}{σ:St}{H:Hp}{rest:List alO}{pos np ynp cpos rpos p0:Pos}{x y fld:Str}{cls c:ε}{d:Option δ×Bool}{a:ν}{as:List ν}{cc:Bool}{k k' j0:Nat}
end
end L2
namespace L2
open PySem PySem.Spec PyProof.Rows PySem.Builtin PySem.Builtin.Str
section
variable{X:Cx}{H:Hp}{Q:VK}{z:Str}
end
end L2
namespace L2
open PySem PySem.Spec PyProof.Rows
section
variable{X:Cx}{e c:ν}{σ σ':St}{H:Hp}{Q:VK}{D:Ends}{pos spos py:Pos}{tg elt:ν}{scope:agJ}{y:Str}{j:Nat}
end
section
variable{X:Cx}{e c:ν}{es:List ν}{σ σ':St}{H:Hp}{Q:VK}{D:Ends}{p pos spos py:Pos}{tg elt:ν}{scope:agJ}{y:Str}{j:Nat}
end
section
variable{X:Cx}{Kx:St->XK}{D:Ends}{σ:St}{H:Hp}{rest:List alO}{pos ynp cpos rpos p0 p1 p2 p3 tpos zp:Pos}{x1 x2 x3 y z:Str}{cls c1 c2 c3:ε}{d:Option δ×Bool}{kk j0 j1:Nat}{name:Option Str}{body:List ϧ}
end
section
variable{X:Cx}{a e:ν}{σ σ':St}{H:Hp}{Q:VK}{D:Ends}{pos spos py p p':Pos}{tg elt iter:ν}{scope:agJ}{Kx:St->XK}{y:Str}{j:Nat}
end
section
variable{X:Cx}{Kx:St->XK}{D:Ends}{σ:St}{H:Hp}{cls:ε}{d:Option δ×Bool}
end
section
variable{X:Cx}{H:Hp}{Q:VK}{z:Str}
end
end L2
namespace L2
open PySem PySem.Spec PyProof.Rows PySem.W
section
variable{X:Cx}{ϵ:List (δ×Obj)}{σ:St}{H:Hp}{s:μ}{d:δ}
end
def Eo(d:δ)(o:Obj)(Ϸ:List (Key×V))(ks:List Int):It:=⟨λi H=>i<ks.length/\H d=some (.frz o (.dK Ϸ)),λi H x H'=>H'=H/\∃k,ks[i]?=some k/\x=.int k,λi H=>i=ks.length/\H d=some (.frz o (.dK Ϸ))⟩
theorem ajd{P:Ϯ}{w:Ϭ}{K:Ϩ}{tg:ν}(it d:δ)(o:Obj)(Ϸ:List (Key×V))(ks:List Int)(vs:List (Key×ε))(ep:Nat)(hv:vs.map (·.1)=ks.map Sum.inl)(Ϲ:d≠it)(hat:∀h:ϫ,h.get? d=some o->h.DictAt (bx P w) d vs ep):Turn P w K tg (Eo d o Ϸ ks) [it] it (λi h=>h.IsKeyIter it d i vs.length ep)where
 mem:=by simp
 obj:=λi h st b hb=>by
  have e:b=it:=by simpa using hb
  subst e;obtain⟨o,e,c,dd⟩:=st;exact⟨o,e,λv z=>by rw[dd]at z;cases z⟩
 keep:=λi h h' st k=>st.at λo e=>k it (by simp) o e
 item:=by
  intro X hP hw hK hc i ϵ s σ H E I hf st hg;subst hP hw hK;have hi:i<ks.length:=hg.1;have hD:=hat s.heap (show Φ X.prog X.w H s.heap d (.frz o (.dK Ϸ))from I.hok d _ hg.2).1;have hvl:vs.length=ks.length:=by have:=congrArg am6 hv;simpa using this
  have hx:vs[i]?=some (vs[i]'(by omega)):=ϳ _;have hk:(vs[i]'(by omega)).1=Sum.inl ks[i]:=by
   have e1:(vs.map (·.1))[i]?=some (vs[i]'(by omega)).1:=by rw[aa2,hx];rfl
   rw[hv,aa2,ϳ hi]at e1;simpa using e1.symm
  generalize vs[i]'(by omega)=kx at hx hk;obtain⟨k,x⟩:=kx;obtain⟨f0,f1,f2,f3,f4,f5⟩:=hf it (by simp);refine wpAny_pyNext_dict_item st hD hx λkey h' hkey hit' hs'=>?_
  have I1:Inv X ϵ σ H {s with heap:=h'}:=I.turned (t':=s.toks) (λb o hb e=>(hs'.2 b hb).trans e) f0 f1 f3 f4 f5;have hk':k=Sum.inl ks[i]:=hk;obtain⟨i',t,e6,rfl⟩|⟨y,t,e6,_⟩:=f9 (k:=k) (v:=key) hkey
  .rw[hk']at e6;cases e6;obtain⟨o,e,c,dd⟩:=id hit';exact⟨_,rfl,qR (s:={s with heap:=h'}) e c dd (by decide) ⟨.int ks[i],H,I1,⟨t,rfl⟩,⟨rfl,ks[i],ϳ hi,rfl⟩,hit',λb hb=>(hf b hb).1⟩⟩
  .rw[hk']at e6;cases e6
 done:=by
  intro X hP hw hK hc i ϵ s σ H E I hf st hg;subst hP hw hK;have e:i=ks.length:=hg.1;have hD:=hat s.heap (show Φ X.prog X.w H s.heap d (.frz o (.dK Ϸ))from I.hok d _ hg.2).1;have hvl:vs.length=ks.length:=by have:=congrArg am6 hv;simpa using this
  obtain⟨f0,f1,f2,f3,f4,f5⟩:=hf it (by simp);have hn:vs[i]?=none:=List.getElem?_eq_none (by omega);exact wpAny_pyNext_dict_end (I.ok.hd hc) st hD hn λh' eb=>⟨rfl,I.turned (t':=s.toks) (λb o hb e=>eb b o hb e) f0 f1 f3 f4 f5⟩
 self:=λ_ _ _ _ _ st h=>wpAny_pyIter_keyiter st h
section
variable{X:Cx}{σ:St}{H:Hp}{a e:ν}{tg:ν}{pos:Pos}{R:It->Hp->Prop}{D:Ends}
theorem aga(h:EV X a σ H λv H1=>∃(d:δ)(o:Obj)(Ϸ:List (Key×V))(ks:List Int),v=.ref d/\H1 d=some (.frz o (.dK Ϸ))/\Ϸ.map (·.1)=ks.map Sum.inl/\R (Eo d o Ϸ ks) H1):EI X tg a σ H R:=by
 intro ϵ s I;refine χ (h ϵ s I) λv s1 hZ=>?_
 obtain⟨x,H1,I1,rx,d,o,Ϸ,ks,ex,hd,hk,q⟩:=hZ;subst ex;obtain rfl:v=Value.ref d:=rx;obtain⟨z,lo,vs,kh,hdo⟩:=jO I1.hok (.inr ⟨o,hd⟩);obtain⟨ep,hm⟩:=hdo.dictAt;have ho:=(show Φ X.prog X.w H1 s1.heap d (.frz o (.dK Ϸ))from I1.hok d _ hd).1;refine wpAny_pyIter_dict lo hm ?_;refine⟨s1.heap.objs.size,[s1.heap.objs.size],_,Eo d o Ϸ ks,H1,rfl,I1.kept (t':=s1.toks) (λb o e=>Heap.get?_push_of_some _ e),ajd s1.heap.objs.size d o Ϸ ks vs ep (by rw[<-kh.keys];exact hk) (abF hm.lt_size) (λh e=>hm.at' λo' e'=>by rw[ho]at e';cases e';exact e),⟨_,abE _ rfl,rfl,rfl⟩,λb hb=>?_,q⟩;have hb':b=s1.heap.objs.size:=by simpa using hb
 subst hb';exact I1.fpOk (ϭ _) (I1.hok.fresh (ϭ _))
theorem Yb{body:List ϧ}(hp:amZ (Ϧ X.prog X.w) X.A X.env X.xe)(hc:X.calm=true)(hs:∀x,foldedSetIterable e X.env x=pure x)(h:EV X e σ H λv H1=>∃(d:δ)(o:Obj)(Ϸ:List (Key×V))(ks:List Int),v=.ref d/\H1 d=some (.frz o (.dK Ϸ))/\Ϸ.map (·.1)=ks.map Sum.inl/\∃Pv:Nat->St->Hp->Prop,Pv 0 σ H1/\(∀i σ' H',Pv i σ' H'->H' d=some (.frz o (.dK Ϸ)))/\
   (∀i k σ' H',ks[i]?=some k->Pv i σ' H'->EG X tg (.int k) σ' H' λσ2 H2=>Κ X body {D with nx:=Pv (i+1),ct:=Pv (i+1),bk:=D.nx} σ2 H2)/\∀σ' H',Pv ks.length σ' H'->D.nx σ' H'):SX X (.For tg e body [] pos) D σ H:=by
 refine qQ hp hc hs (aga (ϡ h λv H1 q=>?_));obtain⟨d,o,Ϸ,ks,rfl,hd,hk,Pv,p0,hfz,hst,hdn⟩:=q;refine⟨d,o,Ϸ,ks,rfl,hd,hk,λi m σ H=>m=ks.length-i/\i<=ks.length/\Pv i σ H,⟨ks.length,by simp,afS _,p0⟩,?_⟩
 rintro i m σ' H' ⟨rfl,hi,p⟩
 by_cases hlt:i<ks.length
 .refine .inr ⟨⟨hlt,hfz i _ _ p⟩,Pv (i+1),λσ2 H2 p2=>⟨ks.length-(i+1),by omega,rfl,hlt,p2⟩,λx H2 y=>?_⟩;obtain⟨rfl,k,hk,rfl⟩:=y;exact hst i k σ' _ hk p
 .have e:i=ks.length:=by omega
  refine .inl ⟨⟨e,hfz i _ _ p⟩,?_⟩;subst e;exact hdn σ' H' p
end
def pw{α:Type}(lt:Nat->Nat->Bool)(n:Nat):KasT α->(α->Prop)->Prop
 |.ret a,Q=>Q a
 |.ask i j k,Q=>i<n/\j<n/\pw lt n (k (lt i j)) Q
theorem m7{α β:Type}{lt:Nat->Nat->Bool}{n:Nat}{f:α->KasT β}{Q:β->Prop}:∀(t:KasT α),pw lt n t (λa=>pw lt n (f a) Q)->pw lt n (t.bind f) Q
 |.ret a,h=>h
 |.ask i j k,h=>⟨h.1,h.2.1,m7 (k (lt i j)) h.2.2⟩
theorem fD{α:Type}{lt:Nat->Nat->Bool}{n:Nat}{Q Q':α->Prop}(hq:∀a,Q a->Q' a):∀(t:KasT α),pw lt n t Q->pw lt n t Q'
 |.ret a,h=>hq a h
 |.ask i j k,h=>⟨h.1,h.2.1,fD hq (k (lt i j)) h.2.2⟩
theorem Ql{α:Type}{lt:Nat->Nat->Bool}{n:Nat}{cmp:Nat->Nat->(Bool->μ->Prop)->μ->Prop}{I:μ->Prop}{G:α->μ->Prop}(hc:∀i j C s,i<n->j<n->I s->(∀s',I s'->C (lt i j) s')->cmp i j C s):∀(t:KasT α)(s:μ),I s->pw lt n t (λa=>∀s,I s->G a s)->t.kasWp cmp G s
 |.ret a,s,hs,h=>h s hs
 |.ask i j k,s,hs,h=>hc i j _ s h.1 h.2.1 hs λs' hs'=>Ql hc (k (lt i j)) s' hs' h.2.2
structure az(lt:Nat->Nat->Bool):Prop where
 ir:∀i,lt i i=false
 tr:∀i j k,lt i j=true->lt j k=true->lt i k=true
 nt:∀i j k,lt i k=true->lt i j=true\/lt j k=true
section
variable{lt:Nat->Nat->Bool}{n:Nat}(W:az lt)
theorem az.as(W:az lt){i j:Nat}(h:lt i j=true):lt j i=false:=by
 rw[ajh];intro h2;have:=W.tr i j i h h2;rw[W.ir]at this;cases this
def Rk(lt:Nat->Nat->Bool)(i j:Nat):Prop:=lt i j=true\/(lt j i=false/\i<j)
theorem az.nO(W:az lt){a b c:Nat}(h:lt a b=true)(h2:lt c b=false):lt a c=true:=by
 obtain h|h:=W.nt a c b h
 .exact h
 .rw[h2]at h;cases h
theorem az.Hs(W:az lt){a b c:Nat}(h:lt b c=true)(h2:lt b a=false):lt a c=true:=by
 obtain h|h:=W.nt b a c h
 .rw[h2]at h;cases h
 .exact h
theorem az.Vn(W:az lt){i j k:Nat}(h:Rk lt i j)(h2:Rk lt j k):Rk lt i k:=by
 obtain h|⟨h,h'⟩:=h
 .obtain h2|⟨h2,h2'⟩:=h2
  .exact .inl (W.tr _ _ _ h h2)
  .exact .inl (W.nO h h2)
 .obtain h2|⟨h2,h2'⟩:=h2
  .exact .inl (W.Hs h2 h)
  .refine .inr ⟨?_,by omega⟩;rw[ajh];intro h3;obtain h4|h4:=W.nt k j i h3
   .rw[h2]at h4;cases h4
   .rw[h]at h4;cases h4
abbrev gt(p:Array Nat)(k:Nat):Nat:=p.getD k 0
theorem um{p:Array Nat}{k v:Nat}(h:p[k]?=some v):gt p k=v:=by
 obtain⟨hk,e⟩:=akn.mp h;show p.getD k 0=v;simp[aoK,hk,e]
theorem pZ{p:Array Nat}{k:Nat}(h:k<p.size):p[k]?=some (gt p k):=by
 show p[k]?=some (p.getD k 0);simp[aoK,h]
theorem d9{p:Array Nat}{i j k:Nat}(hj:j<=p.size)(hk:k<p.size:=by omega):gt (kas_rev p i j) k=if i<=k/\k<j then gt p (i+j-1-k)else gt p k:=by
 apply um;unfold kas_rev;rw[getElem?_mirror_all hj];by_cases h:i<=k/\k<j
 .rw[if_pos h,if_pos h];exact pZ (by omega)
 .rw[if_neg h,if_neg h];exact pZ hk
theorem ajZ{p:Array Nat}{i j:Nat}:(kas_rev p i j).size=p.size:=mirror_size _ _ _ _
theorem Yz{p:Array Nat}{k d j:Nat}(hk:k<p.size)(hd:d<=k)(hj:j<p.size):gt (bubble p k d) j=if j=k-d then gt p k else if k-d<j/\j<=k then gt p (j-1)else gt p j:=by
 apply um;rw[getElem?_bubble hk d hd];by_cases h1:j=k-d
 .rw[if_pos h1,if_pos h1];exact pZ hk
 .rw[if_neg h1,if_neg h1];by_cases h2:k-d<j/\j<=k
  .rw[if_pos h2,if_pos h2];exact pZ (by omega)
  .rw[if_neg h2,if_neg h2];exact pZ hj
structure Pl(n:Nat)(p:Array Nat)(m:Nat):Prop where
 size:p.size=n
 low:∀i,i<m->gt p i<m
 tail:∀k,m<=k->k<n->gt p k=k
 pm:p.toList.Perm (ady n)
theorem Pl.all{p:Array Nat}{m:Nat}(h:Pl n p m)(hm:m<=n){i:Nat}(hi:i<n):gt p i<n:=by
 by_cases h1:i<m
 .have :=h.low i h1;omega
 .rw[h.tail i (by omega) hi];exact hi
theorem Pl.up{p:Array Nat}{m:Nat}(h:Pl n p m)(hm:m<n):Pl n p (m+1):=by
 refine⟨h.size,λi hi=>?_,λk h1 h2=>h.tail k (by omega) h2,h.pm⟩;by_cases h1:i<m
 .have :=h.low i h1;omega
 .have e:i=m:=by omega
  subst e;rw[h.tail i (ϭ _) hm];omega
theorem Pl.rev{p:Array Nat}{m i j:Nat}(h:Pl n p m)(hm:m<=n)(hj:j<=m):Pl n (kas_rev p i j) m:=by
 have hs:=h.size;refine⟨by rw[ajZ];exact hs,λk hk=>?_,λk h1 h2=>?_,(ano.mp (mirror_perm p i j ((j-i) / 2))).trans h.pm⟩
 .rw[d9 (by omega)];split
  .exact h.low _ (by omega)
  .exact h.low _ hk
 .rw[d9 (by omega),if_neg (by omega)];exact h.tail k h1 h2
def dB(lt:Nat->Nat->Bool)(p:Array Nat)(m:Nat):=∀i j,i<j->j<m->Rk lt (gt p i) (gt p j)
def gY(lt:Nat->Nat->Bool)(p:Array Nat)(m:Nat):=∀i j,i<j->j<m->Rk lt (gt p j) (gt p i)
theorem gY.rev{p:Array Nat}{m:Nat}(h:gY lt p m)(hm:m<=p.size):dB lt (kas_rev p 0 m) m:=by
 intro i j hij hj;rw[d9 hm,d9 hm,if_pos (by omega),if_pos (by omega)];exact h _ _ (by omega) (by omega)
theorem Bl(W:az lt){p:Array Nat}:∀(f m:Nat),1<=m->m+f<=n->Pl n p m->dB lt p m->pw lt n (kas_asc p f m) λm'=>m<=m'/\m'<=m+f/\Pl n p m'/\dB lt p m'/\(m'<m+f->lt (gt p m') (gt p (m'-1))=true)
 |0,m,h1,hm,hp,ha=>⟨ϭ _,ϭ _,hp,ha,λh=>absurd h (by omega)⟩
 |f+1,m,h1,hm,hp,ha=>by
  refine⟨hp.all (by omega) (by omega),hp.all (by omega) (by omega),?_⟩;cases e:lt (gt p m) (gt p (m-1))with
  |true=>
   show pw lt n (if true=true then _ else _) _;rw[if_pos rfl];exact⟨ϭ _,by omega,hp,ha,λ_=>e⟩
  |false=>
   show pw lt n (if false=true then _ else _) _;rw[if_neg (by decide)];have hn:Rk lt (gt p (m-1)) (gt p m):=.inr ⟨e,by rw[hp.tail m (ϭ _) (by omega)];exact hp.low _ (by omega)⟩;refine fD (λm' h=>⟨by omega,by omega,h.2.2.1,h.2.2.2.1,λh2=>h.2.2.2.2 (by omega)⟩) _ (Bl W f (m+1) (by omega) (by omega) (hp.up (by omega)) λi j hij hj=>?_);by_cases ql:j<m
   .exact ha i j hij ql
   .have e2:j=m:=by omega
    subst e2;by_cases Tg:i=j-1
    .rw[Tg];exact hn
    .exact W.Vn (ha i (j-1) (by omega) (by omega)) hn
structure Dn(lt:Nat->Nat->Bool)(p:Array Nat)(m q:Nat):Prop where
 few:q+1<=m
 ahead:∀i j,i<j->j<m-(q+1)->Rk lt (gt p j) (gt p i)
 drop:∀i j,i<m-(q+1)->m-(q+1)<=j->j<m->lt (gt p j) (gt p i)=true
 aD:∀i j,m-(q+1)<=i->i<j->j<m->lt (gt p i) (gt p j)=false/\lt (gt p j) (gt p i)=false/\gt p i<gt p j
theorem Dn.done{p:Array Nat}{m q:Nat}(h:Dn lt p m q)(hm:m<=p.size):gY lt (if q>0 then kas_rev p (m-(q+1)) m else p) m:=by
 have h1:=h.few;by_cases hq:q>0
 .rw[if_pos hq];intro i j hij hj;rw[d9 hm,d9 hm];by_cases hi:m-(q+1)<=i
  .rw[if_pos (by omega),if_pos (by omega)];have:=h.aD (m-(q+1)+m-1-j) (m-(q+1)+m-1-i) (by omega) (by omega) (by omega);exact .inr ⟨this.2.1,this.2.2⟩
  .rw[if_neg (show ¬(m-(q+1)<=i/\i<m)by omega)];by_cases hj2:m-(q+1)<=j
   .rw[if_pos (by omega)];exact .inl (h.drop _ _ (by omega) (by omega) (by omega))
   .rw[if_neg (by omega)];exact h.ahead i j hij (by omega)
 .rw[if_neg hq];intro i j hij hj;by_cases hj2:m-(q+1)<=j
  .exact .inl (h.drop _ _ (by omega) hj2 hj)
  .exact h.ahead i j hij (by omega)
theorem gY.next(W:az lt){p:Array Nat}{m:Nat}(h:gY lt p m)(h1:1<=m)(hl:∀i,i<m->lt (gt p m) (gt p i)=true):Dn lt p (m+1) 0:=by
 refine⟨by omega,λi j hij hj=>h i j hij (by omega),λi j hi hj hj2=>?_,λi j a b c=>absurd b (by omega)⟩;have e:j=m:=by omega
 subst e;exact hl i (by omega)
theorem gY.low(W:az lt){p:Array Nat}{m x:Nat}(h:gY lt p m)(h1:1<=m)(hl:lt x (gt p (m-1))=true):∀i,i<m->lt x (gt p i)=true:=by
 intro i hi;by_cases e:i=m-1
 .rw[e];exact hl
 .rcases h i (m-1) (by omega) (by omega)with h2|⟨h2,_⟩
  .exact W.tr _ _ _ hl h2
  .exact W.nO hl h2
theorem vf(W:az lt):∀(f:Nat)(p:Array Nat)(m q:Nat),m+f<=n->Pl n p m->Dn lt p m q->pw lt n (kas_desc f p m q) λr=>m<=r.2.1/\r.2.1<=m+f/\Pl n r.1 r.2.1/\Dn lt r.1 r.2.1 r.2.2
 |0,p,m,q,hm,hp,hd=>⟨ϭ _,ϭ _,hp,hd⟩
 |f+1,p,m,q,hm,hp,hd=>by
  have hfew:=hd.few;have hsz:=hp.size;refine⟨hp.all (by omega) (by omega),hp.all (by omega) (by omega),?_⟩;cases e:lt (gt p m) (gt p (m-1))with
  |true=>
   show pw lt n (if true=true then _ else _) _;rw[if_pos rfl];have hD:=hd.done (by omega);by_cases hq:q>0
   .rw[if_pos hq]at hD⊢;have hpr:=hp.rev (i:=m-(q+1)) (j:=m) (by omega) (ϭ _);have em:gt (kas_rev p (m-(q+1)) m) m=gt p m:=by rw[d9 (by omega),if_neg (by omega)]
    have el:gt (kas_rev p (m-(q+1)) m) (m-1)=gt p (m-(q+1)):=by
     rw[d9 (by omega),if_pos (by omega)]
     congr 1
     omega
    have hx:lt (gt p m) (gt p (m-(q+1)))=true:=W.nO e (hd.aD (m-(q+1)) (m-1) (ϭ _) (by omega) (by omega)).1;refine fD (λr h=>⟨by omega,by omega,h.2.2⟩) _ (vf W f _ (m+1) 0 (by omega) (hpr.up (by omega)) (hD.next W (by omega) λi hi=>?_));rw[em];exact hD.low W (by omega) (by rw[el];exact hx) i hi
   .rw[if_neg hq]at hD⊢;refine fD (λr h=>⟨by omega,by omega,h.2.2⟩) _ (vf W f _ (m+1) 0 (by omega) (hp.up (by omega)) (hD.next W (by omega) (hD.low W (by omega) e)))
  |false=>
   show pw lt n (if false=true then _ else _) _;rw[if_neg (by decide)];refine⟨hp.all (by omega) (by omega),hp.all (by omega) (by omega),?_⟩;cases e2:lt (gt p (m-1)) (gt p m)with
   |true=>
    show pw lt n (if true=true then _ else _) _;rw[if_pos rfl];exact⟨ϭ m,show m<=m+(f+1)by omega,hp,hd⟩
   |false=>
    show pw lt n (if false=true then _ else _) _;rw[if_neg (by decide)];have V8:=hp.tail m (ϭ _) (by omega);refine fD (λr h=>⟨by omega,by omega,h.2.2⟩) _ (vf W f p (m+1) (q+1) (by omega) (hp.up (by omega)) ⟨by omega,λi j hij hj=>hd.ahead i j hij (by omega),λi j hi hj hj2=>?_,λi j hi hij hj=>?_⟩)
    .by_cases ql:j<m
     .exact hd.drop i j (by omega) (by omega) ql
     .have ej:j=m:=by omega
      subst ej;exact W.Hs (hd.drop i (j-1) (by omega) (by omega) (by omega)) e2
    .by_cases ql:j<m
     .exact hd.aD i j (by omega) hij ql
     .have ej:j=m:=by omega
      subst ej;have hlow:gt p i<gt p j:=by rw[V8];exact hp.low i (by omega)
      by_cases hi2:i=j-1
      .rw[hi2];rw[hi2]at hlow;exact⟨e2,e,hlow⟩
      .have h3:=hd.aD i (j-1) (by omega) (by omega) (by omega);refine⟨?_,?_,hlow⟩
       .rw[ajh];intro h4;obtain h5|h5:=W.nt _ (gt p (j-1)) _ h4
        .rw[h3.1]at h5;cases h5
        .rw[e2]at h5;cases h5
       .rw[ajh];intro h4;obtain h5|h5:=W.nt _ (gt p (j-1)) _ h4
        .rw[e]at h5;cases h5
        .rw[h3.2.1]at h5;cases h5
theorem Je(W:az lt){p:Array Nat}{m:Nat}(hp:Pl n p m)(hd:gY lt p m)(h1:1<=m:=by omega)(hm:m<=n:=by omega):pw lt n (kas_tail3 m n p) λr=>1<=r.1/\r.1<=n/\Pl n r.2 r.1/\dB lt r.2 r.1:=by
 have hsz:=hp.size;refine m7 _ (fD (λm' h=>⟨by show 1<=m';omega,by show m'<=n;omega,h.2.2.1,h.2.2.2.1⟩) _ (Bl W (n-m) m h1 (by omega) (hp.rev hm (ϭ _)) (hd.rev (by omega))))
theorem Js(W:az lt){p:Array Nat}{m:Nat}(h1:1<=m)(hm:m<n)(hp:Pl n p m)(hd:gY lt p m)(hl:lt (gt p m) (gt p (m-1))=true):pw lt n (kas_descPart m n p) λr=>1<=r.1/\r.1<=n/\Pl n r.2 r.1/\dB lt r.2 r.1:=by
 refine m7 _ (fD (λr h=>?_) _ (vf W (n-(m+1)) p (m+1) 0 (by omega) (hp.up hm) (hd.next W h1 (hd.low W h1 hl))));obtain⟨a1,a2,a3,a4⟩:=h;have hsz:=a3.size;have hD:=a4.done (by omega);show pw lt n (if r.2.2>0 then _ else _) _;by_cases hq:r.2.2>0
 .rw[if_pos hq]at hD⊢;exact Je W (a3.rev (by omega) (ϭ _)) hD
 .rw[if_neg hq]at hD⊢;exact Je W a3 hD
theorem aa1:Pl n (aee (ady n)) 1:=by
 have hg:∀k,k<n->gt (aee (ady n)) k=k:=λk hk=>um (by simp[hk])
 refine⟨by simp,λi hi=>?_,λk _ h2=>hg k h2,by simp⟩;by_cases h:i<n
 .rw[hg i h];exact hi
 .show(aee (ady n)).getD i 0<1;simp[aoK,h]
theorem aat(W:az lt)(h1:1<=n):pw lt n (kas_count n (aee (ady n))) λr=>1<=r.1/\r.1<=n/\Pl n r.2 r.1/\dB lt r.2 r.1:=by
 refine m7 _ (fD (λm h=>?_) _ (Bl W (n-1) 1 (ϭ _) (by omega) aa1 λi j a b=>absurd a (by omega)));obtain⟨a1,a2,a3,a4,a5⟩:=h;have hsz:=a3.size;show pw lt n (if(m==n)=true then _ else _) _;by_cases hmn:m=n
 .rw[if_pos (by rw[beq_iff_eq];exact hmn)];exact⟨by show 1<=m;omega,by show m<=n;omega,a3,a4⟩
 .rw[if_neg (by rw[beq_iff_eq];exact hmn)];have hlt:=a5 (by omega);by_cases hm1:m>1
  .rw[if_pos hm1];refine⟨a3.all (by omega) (by omega),a3.all (by omega) (by omega),?_⟩;cases e:lt (gt (aee (ady n)) 0) (gt (aee (ady n)) (m-1))with
   |true=>
    show pw lt n (if true=true then _ else _) _;rw[if_pos rfl];exact⟨by show 1<=m;omega,by show m<=n;omega,a3,a4⟩
   |false=>
    show pw lt n (if false=true then _ else _) _;rw[if_neg (by decide)];generalize aee (ady n)=p at a3 a4 hlt e hsz⊢;have le0:∀i,i<m->lt (gt p i) (gt p 0)=false:=λi hi=>by
     by_cases h0:i=0
     .rw[h0];exact W.ir _
     .rcases a4 0 i (by omega) hi with h|h
      .exact W.as h
      .exact h.1
    have Wa:∀j,j<m->lt (gt p (m-1)) (gt p j)=false:=λj hj=>by
     by_cases h0:j=m-1
     .rw[h0];exact W.ir _
     .rcases a4 j (m-1) (by omega) (by omega)with h|h
      .exact W.as h
      .exact h.1
    have aD:∀i j,i<m->j<m->lt (gt p i) (gt p j)=false:=λi j hi hj=>by
     rw[ajh];intro h;obtain h2|h2:=W.nt _ (gt p 0) _ h
     .rw[le0 i hi]at h2;cases h2
     .obtain h3|h3:=W.nt _ (gt p (m-1)) _ h2
      .rw[e]at h3;cases h3
      .rw[Wa j hj]at h3;cases h3
    have hD:gY lt (kas_rev p 0 m) m:=λi j hij hj=>by
     rw[d9 (by omega),d9 (by omega),if_pos (by omega),if_pos (by omega)];refine .inr ⟨aD _ _ (by omega) (by omega),?_⟩;rcases a4 (0+m-1-j) (0+m-1-i) (by omega) (by omega)with h|h
     .rw[aD _ _ (by omega) (by omega)]at h;cases h
     .exact h.2
    refine Js W a1 (by omega) (a3.rev (by omega) (ϭ _)) hD ?_;rw[d9 (by omega),d9 (by omega),if_neg (by omega),if_pos (by omega)];exact W.nO hlt (aD _ _ (by omega) (by omega))
  .rw[if_neg hm1];have em:m=1:=by omega
   subst em;exact Js W a1 (by omega) a3 (λi j a b=>absurd a (by omega)) hlt
theorem zj(W:az lt){p:Array Nat}{k:Nat}(hk:k<n)(hp:Pl n p k)(ha:dB lt p k):∀(f l r:Nat),r-l<=f->l<=r->r<=k->(∀i,i<l->lt (gt p k) (gt p i)=false)->(∀i,r<=i->i<k->lt (gt p k) (gt p i)=true)->
  pw lt n (kas_place p k f l r) λl'=>l'<=k/\(∀i,i<l'->lt (gt p k) (gt p i)=false)/\∀i,l'<=i->i<k->lt (gt p k) (gt p i)=true
 |0,l,r,hf,hlr,hr,h1,h2=>⟨by omega,h1,λi a b=>h2 i (by omega) b⟩
 |f+1,l,r,hf,hlr,hr,h1,h2=>by
  show pw lt n (if l≥r then _ else _) _;by_cases h:l≥r
  .rw[if_pos h];exact⟨by omega,h1,λi a b=>h2 i (by omega) b⟩
  .rw[if_neg h];have hmid:(l+r) / 2<r/\l<=(l+r) / 2:=by omega
   refine⟨hp.all (by omega) hk,hp.all (by omega) (by omega),?_⟩;cases e:lt (gt p k) (gt p ((l+r) / 2))with
   |true=>
    show pw lt n (if true=true then _ else _) _;rw[if_pos rfl];refine zj W hk hp ha f l ((l+r) / 2) (by omega) (by omega) (by omega) h1 λi a b=>?_
    by_cases hi:i=(l+r) / 2
    .rw[hi];exact e
    .rcases ha ((l+r) / 2) i (by omega) b with h3|h3
     .exact W.tr _ _ _ e h3
     .exact W.nO e h3.1
   |false=>
    show pw lt n (if false=true then _ else _) _;rw[if_neg (by decide)];refine zj W hk hp ha f ((l+r) / 2+1) r (by omega) (by omega) hr (λi a=>?_) h2;by_cases hi:i=(l+r) / 2
    .rw[hi];exact e
    .rw[ajh];intro h4;rcases ha i ((l+r) / 2) (by omega) (by omega)with h3|h3
     .have :=W.tr _ _ _ h4 h3;rw[e]at this;cases this
     .have :=W.nO h4 h3.1;rw[e]at this;cases this
theorem Oz(W:az lt):∀(f:Nat)(p:Array Nat)(k:Nat),k+f=n->Pl n p k->dB lt p k->pw lt n (kas_bin f p k) λp'=>Pl n p' n/\dB lt p' n
 |0,p,k,hk,hp,ha=>by
  have e:k=n:=by omega
  subst e;exact⟨hp,ha⟩
 |f+1,p,k,hk,hp,ha=>by
  have hsz:=hp.size;refine m7 _ (fD (λl h=>?_) _ (zj W (by omega) hp ha k 0 k (by omega) (by omega) (ϭ _) (λi hi=>absurd hi (by omega)) λi a b=>absurd a (by omega)));obtain⟨hl,h1,h2⟩:=h;have hb:∀j,j<n->gt (bubble p k (k-l)) j=if j=l then gt p k else if l<j/\j<=k then gt p (j-1)else gt p j:=λj hj=>by
   rw[Yz (by omega) (by omega) (by omega),show k-(k-l)=l by omega]
  have Lb:=hp.tail k (ϭ _) (by omega);refine Oz W f _ (k+1) (by omega) ⟨by rw[bubble_size];exact hsz,λi hi=>?_,λi a b=>?_,(ano.mp (bubble_perm p k (k-l))).trans hp.pm⟩ λi j hij hj=>?_
  .rw[hb i (by omega)];split
   .rw[Lb];omega
   .split
    .have :=hp.low (i-1) (by omega);omega
    .have :=hp.low i (by omega);omega
  .rw[hb i b,if_neg (by omega),if_neg (by omega)];exact hp.tail i (by omega) b
  .rw[hb i (by omega),hb j (by omega)];by_cases hil:i<l
   .rw[if_neg (by omega),if_neg (by omega)];by_cases hjl:j=l
    .rw[if_pos hjl];exact .inr ⟨h1 i hil,by rw[Lb];exact hp.low i (by omega)⟩
    .rw[if_neg hjl];split
     .exact ha i (j-1) (by omega) (by omega)
     .exact ha i j hij (by omega)
   .by_cases S9:i=l
    .rw[if_pos S9,if_neg (by omega),if_pos (by omega)];exact .inl (h2 (j-1) (by omega) (by omega))
    .rw[if_neg S9,if_pos (by omega),if_neg (by omega),if_pos (by omega)];exact ha (i-1) (j-1) (by omega) (by omega)
theorem aj6(W:az lt)(h1:1<=n):pw lt n (kas_sort n) λp=>Pl n p n/\dB lt p n:=by
 refine m7 _ (fD (λr h=>?_) _ (aat W h1));obtain⟨a1,a2,a3,a4⟩:=h;show pw lt n (if r.1<n then _ else _) _;by_cases h:r.1<n
 .rw[if_pos h,show max r.1 1=r.1 by omega];exact Oz W (n-r.1) r.2 r.1 (by omega) a3 a4
 .rw[if_neg h];have e:r.1=n:=by omega
  rw[e]at a3 a4;exact⟨a3,a4⟩
end
abbrev Cx.ύ(X:Cx):Cx:={X with A:=X.A.in1.in1}
section
variable{X:Cx}{ϵ:List (δ×Obj)}{σ:St}{H:Hp}{s:μ}
theorem Cx.Ok.ύ(ok:X.Ok):X.ύ.Ok:=
 ⟨ok.mod,ok.kind,ok.glob,ok.blt,ok.above,ok.inj,ok.has,ok.cab,ok.hd,ok.frames,ok.stk,ok.exf,ok.bs,ok.bsz,ok.noex,ok.exfs,ok.funs,ok.frf⟩
theorem Inv.ύ(I:Inv X ϵ σ H s):Inv X.ύ ϵ σ H s:=⟨I.ok.ύ,I.os,I.bare,I.base,I.loc,I.cell,I.free,I.freeC,I.pin,I.hok,I.len⟩
theorem Inv.un2(ok:X.Ok)(I:Inv X.ύ ϵ σ H s):Inv X ϵ σ H s:=⟨ok,I.os,I.bare,I.base,I.loc,I.cell,I.free,I.freeC,I.pin,I.hok,I.len⟩
theorem Inv.ae5{e:δ}{o:HO}(I:Inv X ϵ σ H s)(hn:H e=none)(c:Ch X ϵ e)(ok:Φ X.prog X.w (upd H e o) s.heap e o):Inv X ϵ σ (upd H e o) s:=by
 have ne:∀b u,H b=some u->b≠e:=λb u q=>Ι q hn
 have:=I.step (h':=s.heap) (H':=upd H e o) (g':=s.gens) (d':=s.drawn) (t':=s.toks) (ch:=[e]) (λb hb=>?_) (λb o _ _ _ q _=>q) (λb o _ _ _ q _=>⟨o.slots,q⟩) (λb o hc _ n=>?_) (λb o _ q=>⟨o,q⟩) (λb xs q=>?_) (λb o u q=>?_) (λb ps q=>?_) (λm hm=>hm) (λb u q=>?_) I.bare
 .exact this
 .have z:b=e:=by simpa using hb
  subst z;exact c
 .rw[θ (λz=>hc (by simp[z]))];exact n
 .rw[θ (ne _ _ q)];exact q
 .rw[θ (ne _ _ q)];exact q
 .exact⟨#[],by rw[θ (ne _ _ q),q];simp⟩
 .by_cases z:b=e
  .subst z;rw[υ]at q;cases q;exact ok
  .rw[θ z]at q;exact(I.hok b u q).stay (λ_ _ _ r=>r) (λc r=>by rw[θ (ne _ _ r)];exact r) (λc xs r=>by rw[θ (ne _ _ r)];exact r) λc ob v r=>by rw[θ (ne _ _ r)];exact r
theorem aO.ch{b:δ}(f:aO X ϵ H b):Ch X ϵ b:=⟨f.2.2.2.1,f.2.1,f.2.2.2.2.1,f.2.2.2.2.2⟩
def Ϡ(X:Cx)(ϵ:List (δ×Obj))(H:Hp)(s:μ)(b:δ)(vs:List ε)(e:Nat):Prop:=s.heap.get? b=some (seqObj "list" vs.toArray e)/\aO X ϵ H b
theorem Qe{c:String}{xs:Array ε}{e:Nat}:∀v,(seqObj c xs e).data≠.cell v:=λv h=>by cases h
theorem Ϡ.set{b c:δ}{vs us ws:List ε}{e ec:Nat}{g:Array ε->Array ε}(I:Inv X ϵ σ H s)(h:Ϡ X ϵ H s b vs e)(hc:Ϡ X ϵ H s c ws ec)(Ϲ:c≠b)(eg:g vs.toArray=us.toArray):∃e',Inv X ϵ σ H {s with heap:=s.heap.update b (Obj.mapSeq g)}/\Ϡ X ϵ H {s with heap:=s.heap.update b (Obj.mapSeq g)} b us e'/\Ϡ X ϵ H {s with heap:=s.heap.update b (Obj.mapSeq g)} c ws ec:=by
 obtain⟨h1,f0,f1,f2,f3,f4,f5⟩:=h;have hs:=Heap.SameBut.update s.heap b (Obj.mapSeq g);have hu:=get?_update_seq h1 g;rw[eg]at hu;refine⟨_,I.turned (t':=s.toks) (it:=b) (λx o hx q=>(hs.2 x hx).trans q) f0 f1 f3 f4 f5,⟨hu,f0,f1,f2,f3,f4,f5⟩,⟨(hs.2 c Ϲ).trans hc.1,hc.2⟩⟩
theorem Ϡ.pin{kS D:δ}{vs ws:List ε}{e ec:Nat}(I:Inv X ϵ σ H s)(h:Ϡ X ϵ H s kS vs e)(hc:Ϡ X ϵ H s D ws ec):Inv X (ϵ++dO [kS,D] s.heap) σ H s:=
 I.pinned (λb hb=>by
  obtain z|z:=ϴ.mp hb
  .rw[z];exact h.2
  .have z:b=D:=by simpa using z
   rw[z];exact hc.2) λb hb=>by
  obtain z|z:=ϴ.mp hb
  .rw[z];exact⟨_,h.1,Qe⟩
  .have z:b=D:=by simpa using z
   rw[z];exact⟨_,hc.1,Qe⟩
theorem Ϡ.Q5{kS D:δ}{vs ws:List ε}{e ec:Nat}{H':Hp}{s':μ}(h:Ϡ X ϵ H s kS vs e)(hc:Ϡ X ϵ H s D ws ec)(I:Inv X (ϵ++dO [kS,D] s.heap) σ H' s'):Inv X ϵ σ H' s'/\Ϡ X ϵ H' s' kS vs e/\Ϡ X ϵ H' s' D ws ec:=by
 have one:∀(b:δ)(us:List ε)(eb:Nat),b∈[kS,D]->Ϡ X ϵ H s b us eb->Ϡ X ϵ H' s' b us eb:=λb us eb hb o=>by
  have hp:(b,seqObj "list" us.toArray eb)∈X.pn++(ϵ++dO [kS,D] s.heap):=by
   refine acp _ (acp _ ?_);unfold dO;exact akD.mpr ⟨b,hb,by rw[o.1];rfl⟩
  obtain⟨p1,p2,p3,p4,p5⟩:=I.pin _ hp;exact⟨p1,p2,o.2.2.1,o.2.2.2.1,o.2.2.2.2.1,o.2.2.2.2.2.1,o.2.2.2.2.2.2⟩
 exact⟨I.unpinned,one kS vs e (by simp) h,one D ws ec (by simp) hc⟩
structure ur(X:Cx)(σ:St)(f:ε)(vs:List ε)(H₁:Hp)(Kp:Nat->ε->Hp->Prop):Prop where
 mono:∀i k H H',ζ H H'->Kp i k H->Kp i k H'
 call:∀i v ϵ s H,vs[i]?=some v->ζ H₁ H->Inv X.ύ ϵ σ H s->π (Ϧ X.prog X.w) X.A.in1.in1 (call f [v]) (λk s'=>∃H',Inv X.ύ ϵ σ H' s'/\ζ H H'/\Kp i k H') (λ_ _=>False) s
def zN(X:Cx)(σ:St)(H:Hp)(ks:List ε)(lt:Nat->Nat->Bool)(κ:SortKind):Prop:=
 ∀i j ki kj ϵ s,ks[i]?=some ki->ks[j]?=some kj->Inv X.ύ ϵ σ H s->π (Ϧ X.prog X.w) X.A.in1.in1 (keyLt' κ ki kj) (λr s'=>r=lt i j/\Inv X.ύ ϵ σ H s') (λ_ _=>False) s
structure lR(X:Cx)(σ:St)(n:Nat)(Kp:Nat->ε->Hp->Prop)(lt:Nat->Nat->Bool):Prop where
 kind:∀ϵ s H ks,Inv X.ύ ϵ σ H s->ks.length=n->2<=n->(∀(i:Nat) k,ks[i]?=some k->Kp i k H)->
  π (Ϧ X.prog X.w) X.A.in1.in1 (keyKind' (aee ks)) (λκ s'=>Inv X.ύ ϵ σ H s'/\zN X σ H ks lt κ) (λ_ _=>False) s
def ie(b:Bool)(lt:Nat->Nat->Bool)(i j:Nat):Bool:=if b=true then lt j i else lt i j
def dh(n:Nat)(lt:Nat->Nat->Bool)(q:List Nat):Prop:=q.Perm (ady n)/\q.Pairwise (Rk lt)
theorem RT{p:Array Nat}{i v:Nat}(h:p.toList[i]?=some v):gt p i=v:=um (by rw[<-anR];exact h)
theorem afn{n:Nat}{lt:Nat->Nat->Bool}{p:Array Nat}(h:Pl n p n)(a:dB lt p n):dh n lt p.toList:=by
 refine⟨h.pm,?_⟩;have hl:p.toList.length=n:=by rw[ak7];exact h.size
 rw[akF];intro i j hi hj hij;have h1:=RT (ϳ hi);have h2:=RT (ϳ hj);rw[<-h1, <-h2];exact a i j hij (by omega)
theorem Wn{n:Nat}{lt:Nat->Nat->Bool}{q:List Nat}(h:dh n (λi j=>lt (n-1-i) (n-1-j)) q):dh n (ie true lt) (q.map (n-1- ·)).reverse:=by
 obtain⟨hp,ho⟩:=h;have hlt:∀x∈q,x<n:=λx hx=>aiV.mp (hp.subset hx)
 refine⟨?_,?_⟩
 .refine(aoj _).trans ((hp.map _).trans ?_);have e:(ady n).map (n-1- ·)=(ady n).reverse:=by
   apply aou
   .simp
   .intro i h1 h2;simp at h1;simp
  rw[e];exact aoj _
 .rw[anS,amv];refine ho.imp_of_mem λ{x y} hx hy r=>?_;have h1:=hlt x hx;have h2:=hlt y hy;obtain r|⟨r,r'⟩:=r
  .exact .inl r
  .exact .inr ⟨r,by omega⟩
end
section
variable{X:Cx}{ϵ:List (δ×Obj)}{σ:St}{H H₁:Hp}{s:μ}{vs:List ε}{f:ε}{b:Bool}{Kp:Nat->ε->Hp->Prop}{lt:Nat->Nat->Bool}{kS D:δ}{e1:Nat}
def U0(X:Cx)(ϵ:List (δ×Obj))(σ:St)(H₁:Hp)(Kp:Nat->ε->Hp->Prop)(kS D:δ)(e1:Nat)(ks:List ε)(s:μ):Prop:=
 ∃H' e,Inv X.ύ ϵ σ H' s/\ζ H₁ H'/\Ϡ X.ύ ϵ H' s kS ks e/\Ϡ X.ύ ϵ H' s D [] e1/\∀(i:Nat) k,ks[i]?=some k->Kp i k H'
theorem Ht{body:ε->PUnit->Sem (ForInStep PUnit)}{A:ϰ}{E:ε->μ->Prop}{R:List ε->μ->Prop}(hb:∀i v ks s,vs[i]?=some v->ks.length=i->R ks s->π (Ϧ X.prog X.w) A (body v ⟨⟩) (λr s'=>r=.yield ⟨⟩/\∃k,R (ks++[k]) s') E s):∀(r ks:List ε)(s:μ),vs.drop ks.length=r->R ks s->π (Ϧ X.prog X.w) A (forIn r PUnit.unit body) (λ_ s'=>∃ks,ks.length=vs.length/\R ks s') E s\/vs.length<ks.length
 |[],ks,s,hr,h=>by
  by_cases hl:vs.length<ks.length
  .exact .inr hl
  .left;rw[List.forIn_nil];have:=List.drop_eq_nil_iff.mp hr;exact ϲ ⟨ks,by omega,h⟩
 |v::r,ks,s,hr,h=>by
  left;have hv:vs[ks.length]?=some v:=by
   have:=congrArg (λl=>l[0]?) hr;simp only[List.getElem?_drop,aoS]at this;simpa using this
  have hlt:=(aae.mp hv).1;rw[List.forIn_cons];refine Ϫ (adu (hb ks.length v ks s hv rfl h) (λq s' hq=>?_) λ_ _ x=>x);obtain⟨rfl,k,h2⟩:=hq;show π (Ϧ X.prog X.w) A (forIn r PUnit.unit body) _ E s';have hr2:vs.drop (ks++[k]).length=r:=by
   rw[ab7,ad5, <-aoG,hr];rfl
  obtain h3|h3:=Ht hb r (ks++[k]) s' hr2 h2
  .exact h3
  .rw[ab7,ad5]at h3;omega
theorem KC{P:PySem.Fin->μ->Prop}{E:ε->μ->Prop}{st:SortSt}{ks out:List ε}{e:Nat}(Ϲ:D≠kS)(I:Inv X.ύ ϵ σ H s)(hk:Ϡ X.ύ ϵ H s kS ks e)(hD:Ϡ X.ύ ϵ H s D [] e1)(hout:(arrOf st).map (·.2)=aee out)(hz:out.length<64)(hkz:ks.length<64)(hf:failedOf st=none)(h:∀s' e',Inv X.ύ ϵ σ H s'->Ϡ X.ύ ϵ H s' D (katRev b out) e'->P (.done (.ret .none)) s'):π (Ϧ X.prog X.w) X.A.in1.in1 (ksk_tail D b e1 (.ref kS) st) P E s:=by
 obtain⟨ek,I1,hk1,hD1⟩:=Ϡ.set (us:=[]) (g:=λ_=> #[]) I hk hD Ϲ rfl;obtain⟨ed,I2,hD2,hk2⟩:=Ϡ.set (us:=katRev b out) (g:=λ_=>aee (katRev b out)) I1 hD1 hk1 (Ne.symm Ϲ) rfl;have hsz:(aee (katRev b out)).size=out.length:=by rw[aaU,kat_len]
 unfold ksk_tail
 try dsimp only
 rw[hout,kat_outs];refine Ϫ (listUpdate_at hk.1 rfl ?_ (by rw[aaU,ϱ];omega) (afS _));refine Ϫ (wpAny_letGo ?_);refine Ϫ (seqEpoch_at hD1.1 rfl ?_);refine Ϫ (listUpdate_at hD1.1 rfl ?_ (afS _) (aft (anb hsz) (by rw[ϱ];omega)));rw[hf];simp only[bne_self_eq_false,am0,if_false];exact ϲ (h _ ed I2 hD2)
def gb(vs:List ε)(q:List Nat):List ε:=q.map λi=>vs.getD i Value.none
theorem agC{P:PySem.Fin->μ->Prop}{E:ε->μ->Prop}{ks:List ε}{e:Nat}(W:az lt)(C:lR X σ vs.length Kp lt)(Ϲ:D≠kS)(h64:vs.length<64)(hl:ks.length=vs.length)(I:Inv X.ύ ϵ σ H s)(hk:Ϡ X.ύ ϵ H s kS ks e)(hD:Ϡ X.ύ ϵ H s D [] e1)(hK:∀(i:Nat) k,ks[i]?=some k->Kp i k H)(h:∀s' e' q,Inv X.ύ ϵ σ H s'->dh vs.length (ie b lt) q->Ϡ X.ύ ϵ H s' D (gb vs q) e'->P (.done (.ret .none)) s'):π (Ϧ X.prog X.w) X.A.in1.in1 (ksk_end D b vs.toArray e1 (.ref kS) (aee ks)) P E s:=by
 have step:∀t:Sem PySem.Fin,π (Ϧ X.prog X.w) X.A.in1.in1 t P E s->π (Ϧ X.prog X.w) X.A.in1.in1 (if b=true then(do let _<-rule "list.sort.reverse";t)else t) P E s:=by
  intro t ht;split
  .exact Ϫ (wpAny_rule ht)
  .exact ht
 have hlr:(katRev b ks).length=(katRev b vs).length:=by rw[kat_len,kat_len,hl]
 unfold ksk_end
 try dsimp only
 refine step _ ?_;by_cases hn2:vs.length<2
 .have hn2':vs.toArray.size<2:=by rw[aaU];omega
  rw[if_pos hn2',if_pos hn2'];refine Ϫ (ϲ ?_);refine Ϫ (ϲ ?_)
  try dsimp only
  have hr1:∀{α:Type}(l:List α),l.length<2->katRev b l=l:=λl hl=>by
   unfold katRev
   match l,hl with
   |[],_=>simp
   |[x],_=>simp
  rw[kat_pairs b hl,hr1 ks (by omega),hr1 vs hn2];have har:(arrOf (SortSt.mk' general' ((aee ks).zip vs.toArray) #[] 7 none)).map (·.2)=aee vs:=by
   show((aee ks).zip vs.toArray).map (·.2)=aee vs;apply aos.mp;rw[Array.toList_map,ksk_zip];show(ks.zip vs).map Prod.snd=vs;rw[List.map_snd_zip (by omega)]
  refine KC Ϲ I hk hD har h64 (by omega) rfl λs' e' I' hD'=>?_
  rw[hr1 vs hn2]at hD';refine h s' e' (ady vs.length) I' ⟨List.Perm.refl _,?_⟩ ?_
  .match vs.length,hn2 with
   |0,_=>exact List.Pairwise.nil
   |1,_=>exact List.pairwise_singleton _ _
  .have e2:gb vs (ady vs.length)=vs:=by
    unfold gb;apply aou
    .simp
    .intro i h1 h2;simp[h2]
   rw[e2];exact hD'
 .have hn2':¬vs.toArray.size<2:=by rw[aaU];omega
  rw[if_neg hn2',if_neg hn2'];refine Ϫ (adu (C.kind _ s H ks (hk.pin I hD) hl (by omega) hK) (λκ s0 hk0=>?_) λ_ _ x=>x.elim);obtain⟨I0,hcmp⟩:=hk0;rw[kat_pairs b hl];have hget:∀i,i<vs.length->(katRev b ks).getD i Value.none=ks.getD (if b=true then vs.length-1-i else i) Value.none:=λi hi=>by
   cases b with
   |false=>rfl
   |true=>
    show ks.reverse.getD i Value.none=ks.getD (vs.length-1-i) Value.none;rw[abm,abm,anT (by omega),hl]
  have W':az (λi j=>lt (if b=true then vs.length-1-i else i) (if b=true then vs.length-1-j else j)):=⟨λi=>W.ir _,λi j k=>W.tr _ _ _,λi j k=>W.nt _ _ _⟩;have hrun:(kas_sort (katRev b vs).length).kasWp (kas_ask X.prog X.w X.A.in1.in1 κ (katRev b ks)) (λp s''=>Inv X.ύ (ϵ++dO [kS,D] s.heap) σ H s''/\Pl vs.length p vs.length/\dB (λi j=>lt (if b=true then vs.length-1-i else i) (if b=true then vs.length-1-j else j)) p vs.length) s0:=by
   rw[kat_len];refine Ql (lt:=λi j=>lt (if b=true then vs.length-1-i else i) (if b=true then vs.length-1-j else j)) (n:=vs.length) (I:=λs''=>Inv X.ύ (ϵ++dO [kS,D] s.heap) σ H s'') (λi j C' s1 hi hj I1 hC=>?_) _ s0 I0 (fD (λp hp s1 I1=>⟨I1,hp.1,hp.2⟩) _ (aj6 W' (by omega)));unfold kas_ask;rw[hget i hi,hget j hj];have hi':(if b=true then vs.length-1-i else i)<ks.length:=by split <;>omega
   have hj':(if b=true then vs.length-1-j else j)<ks.length:=by split <;>omega
   have gi:ks[if b=true then vs.length-1-i else i]?=some (ks.getD (if b=true then vs.length-1-i else i) Value.none):=by
    rw[abm,ϳ hi'];rfl
   have gj:ks[if b=true then vs.length-1-j else j]?=some (ks.getD (if b=true then vs.length-1-j else j) Value.none):=by
    rw[abm,ϳ hj'];rfl
   refine adu (hcmp _ _ _ _ _ s1 gi gj I1) (λr s2 hr=>?_) λ_ _ x=>x
   obtain⟨rfl,I2⟩:=hr;exact hC s2 I2
  refine Ϫ (adu (kat_run (Q:=λst' s'=>∃p:Array Nat,p.size=(katRev b vs).length/\arrOf st'=p.map (kas_item ((aee (katRev b ks)).zip (aee (katRev b vs))))/\failedOf st'=none/\
    Inv X.ύ (ϵ++dO [kS,D] s.heap) σ H s'/\Pl vs.length p vs.length/\dB (λi j=>lt (if b=true then vs.length-1-i else i) (if b=true then vs.length-1-j else j)) p vs.length)
   hlr (by rw[kat_len];omega) (by rw[kat_len];exact h64) (λp' st' s' a1 a2 a3 a4=>⟨p',a1,a2,a3,a4⟩) hrun) ?_ λ_ _ x=>x)
  rintro⟨⟨⟩,st'⟩ s' ⟨p,hp,har,hf,I2,hPl,afD⟩
  try dsimp only
  obtain⟨I3,hk3,qx⟩:=Ϡ.Q5 hk hD I2;refine KC Ϲ I3 hk3 qx (kat_snds hlr har) (by rw[aaf,ak7,hp,kat_len];exact h64) (by omega) hf λs4 e4 I4 tU=>?_
  have hso:=afn hPl afD;have hlt:∀x∈p.toList,x<vs.length:=λx hx=>aiV.mp (hso.1.subset hx)
  cases b with
  |false=>
   refine h s4 e4 p.toList I4 hso ?_;exact tU
  |true=>
   refine h s4 e4 _ I4 (Wn hso) ?_;have e2:katRev true (p.toList.map λi=>(katRev true vs).getD i Value.none)=gb vs (p.toList.map (vs.length-1- ·)).reverse:=by
    show(p.toList.map λi=>vs.reverse.getD i Value.none).reverse=_;unfold gb;rw[aov,agn]
    congr 1
    refine anm λi hi=>?_
    show vs.reverse.getD i Value.none=vs.getD (vs.length-1-i) Value.none;rw[abm,abm,anT (hlt i hi)]
   rw[e2]at tU;exact tU
theorem adC{P:PySem.Fin->μ->Prop}{E:ε->μ->Prop}(W:az lt)(F:ur X σ f vs H₁ Kp)(C:lR X σ vs.length Kp lt)(Ϲ:D≠kS)(h64:vs.length<64)(I:Inv X.ύ ϵ σ H s)(sm:ζ H₁ H)(hk:Ϡ X.ύ ϵ H s kS [] 0)(hD:Ϡ X.ύ ϵ H s D [] e1)(h:∀s' H' e' q,Inv X.ύ ϵ σ H' s'->ζ H₁ H'->dh vs.length (ie b lt) q->Ϡ X.ύ ϵ H' s' D (gb vs q) e'->P (.done (.ret .none)) s'):π (Ϧ X.prog X.w) X.A.in1.in1 (ksk_rest D f b vs.toArray e1 (.ref kS)) P E s:=by
 unfold ksk_rest;refine Ϫ (wpAny_rule ?_)
 first
  |rw[List.forIn_toArray]
  |(rw[<-aog];simp only[List.toList_toArray])
  |rw[<-aog]
 refine Ϫ (adu ((Ht (X:=X) (vs:=vs) (R:=U0 X ϵ σ H₁ Kp kS D e1) (λi v ks s' hv hi hR=>?_) vs [] s (by simp) ⟨H,0,I,sm,hk,hD,λi k e=>by simp at e⟩).resolve_right (by simp)) (λ_ s' hd=>?_) λ_ _ x=>x)
 .obtain⟨H',e,I',sm',hk',hD',hK⟩:=hR;have hil:=(aae.mp hv).1;refine Ϫ (wpAny_attempt (adu (F.call i v _ s' H' hv sm' (hk'.pin I' hD')) (λk s2 hq=>?_) λ_ _ hF=>hF.elim));obtain⟨H2,I2,Η,hKp⟩:=hq;obtain⟨I3,hk3,qx⟩:=Ϡ.Q5 hk' hD' I2;have ea:(aee ks).push k=aee (ks++[k]):=by simp
  obtain⟨e',I4,ZK,tU⟩:=Ϡ.set (us:=ks++[k]) (g:=(·.push k)) I3 hk3 qx Ϲ ea
  try dsimp only
  refine Ϫ (listUpdate_at hk3.1 rfl ?_ (by rw[aaU,ϱ];omega) (aft (anb (Array.size_push ..)) (by rw[aaU,ϱ];omega)));refine ϲ ⟨rfl,k,H2,e',I4,sm'.trans Η,ZK,tU,λj kj hj=>?_⟩;by_cases hjl:j<ks.length
  .rw[ahS hjl]at hj;exact F.mono _ _ _ _ Η (hK j kj hj)
  .have hj2:=(aae.mp hj).1;rw[ab7,ad5]at hj2;have ej:j=ks.length:=by omega
   subst ej;rw[ajP]at hj;cases hj;rw[hi];exact hKp
 .obtain⟨ks,hl,H',e,I',sm',hk',hD',hK⟩:=hd
  try dsimp only
  refine Ϫ (listItems_at hk'.1 rfl ?_);exact agC W C Ϲ h64 hl I' hk' hD' hK λs2 e2 q I2 hs hD2=>h s2 H' e2 q I2 sm' hs hD2
end
section
variable{X:Cx}{ϵ:List (δ×Obj)}{σ:St}{H:Hp}{s:μ}{vs:List ε}{f:ε}{b:Bool}{Kp:Nat->ε->Hp->Prop}{lt:Nat->Nat->Bool}{l:δ}
theorem ac5{kw:List (Str×ε)}{Q:ε->μ->Prop}{E:ε->μ->Prop}(W:az lt)(F:ur X σ f vs H Kp)(C:lR X σ vs.length Kp lt)(h64:vs.length<64)(I:Inv X ϵ σ H s)(hl:s.heap.IsList l vs.toArray)(ha1:argsOk "sorted" ⟨[.ref l],kw⟩)(ha2:∀x,argsOk "list.sort" ⟨[.ref x],kw⟩)(ht:∀x,Builtin.«list.sort» ⟨[.ref x],kw⟩=ksk_tree x f b)(h:∀D s' H' e' q,Inv X ϵ σ H' s'->ζ H H'->dh vs.length (ie b lt) q->Ϡ X.ύ ϵ H' s' D (gb vs q) e'->Q (.ref D) s'):π (Ϧ X.prog X.w) X.A (call (.builtin "sorted") [.ref l] kw) Q E s:=by
 refine call_function_entry_kw kind_sorted plain_sorted entry_sorted ha1 ?_;unfold Builtin.«sorted»;refine Ϫ (m:=checkCount "sorted" 1 1 _) (ϲ ?_);refine Ϫ (collect_list hl ?_ (by rw[ϱ];omega));refine Ϫ (wpAny_newList ?_ (by rw[ϱ];omega));have hsz:((s.heap.push (seqObj "list" #[] 0)).update s.heap.objs.size (Obj.mapSeq (· ++vs.toArray))).objs.size=s.heap.objs.size+1:=by
  rw[aow,size_push']
 have hoL:(((s.heap.push (seqObj "list" #[] 0)).update s.heap.objs.size (Obj.mapSeq (· ++vs.toArray))).push (seqObj "list" vs.toArray 0)).get? (s.heap.objs.size+1)=some (seqObj "list" vs.toArray 0):=by
  rw[<-hsz];exact abE _ rfl
 have keep:∀b o,s.heap.get? b=some o->(((s.heap.push (seqObj "list" #[] 0)).update s.heap.objs.size (Obj.mapSeq (· ++vs.toArray))).push (seqObj "list" vs.toArray 0)).get? b=some o:=λb o q=>by
  have hlt:b<s.heap.objs.size:=aaY q;rw[aok _ _ _ (by rw[hsz];exact abF (amg hlt)),amV _ _ _ _ (abF hlt),aok _ _ _ (abF hlt)];exact q
 show π _ _ _ _ _ {s with heap:=((s.heap.push (seqObj "list" #[] 0)).update s.heap.objs.size (Obj.mapSeq (· ++vs.toArray))).push (seqObj "list" vs.toArray 0)};rw[hsz];have hsz2:(((s.heap.push (seqObj "list" #[] 0)).update s.heap.objs.size (Obj.mapSeq (· ++vs.toArray))).push (seqObj "list" vs.toArray 0)).objs.size=s.heap.objs.size+2:=by rw[size_push',hsz]
 generalize((s.heap.push (seqObj "list" #[] 0)).update s.heap.objs.size (Obj.mapSeq (· ++vs.toArray))).push (seqObj "list" vs.toArray 0)=h2 at hoL keep hsz2⊢;refine Ϫ (afE (wpAny_call_entry_kw slot_list_sort ⟨_,hoL,rfl⟩ entry_list_sort ?body (ha2 _)))
 case body=>
  show π (Ϧ X.prog X.w) X.A.in1.in1 (Builtin.«list.sort» ⟨[.ref (s.heap.objs.size+1)],kw⟩) _ _ _;rw[ht];have hal:s.heap.objs.size<=s.heap.objs.size+1:=amT _;generalize s.heap.objs.size+1=a at hoL hal⊢;obtain⟨e1,ho1⟩:∃e1,(h2.update a (Obj.mapSeq λ_=>(#[]:Array ε))).get? a=some (seqObj "list" #[] e1):=⟨_,get?_update_seq hoL λ_=> #[]⟩;have hkS:((h2.update a (Obj.mapSeq λ_=>(#[]:Array ε))).push (seqObj "tuple" vs.toArray 0)).objs.size=s.heap.objs.size+3:=by rw[size_push',aow,hsz2]
  have mC:∀b o,s.heap.get? b=some o->(((h2.update a (Obj.mapSeq λ_=>(#[]:Array ε))).push (seqObj "tuple" vs.toArray 0)).push (seqObj "list" #[] 0)).get? b=some o:=λb o q=>by
   have hlt:b<s.heap.objs.size:=aaY q;refine Heap.get?_push_of_some _ (Heap.get?_push_of_some _ ?_);rw[amV _ _ _ _ (abF (abX hlt hal))];exact keep b o q
  have hka:((h2.update a (Obj.mapSeq λ_=>(#[]:Array ε))).push (seqObj "tuple" vs.toArray 0)).objs.size≠a:=by
   have:=aaY hoL;rw[hkS];rw[hsz2]at this;exact anM (amg this)
  unfold ksk_tree;refine Ϫ (listItems_at hoL rfl ?_);refine Ϫ (listUpdate_at hoL rfl ?_ (by rw[aaU,ϱ];omega) (afS _));refine Ϫ (seqEpoch_at ho1 rfl ?_);refine Ϫ (wpAny_newTuple ?_ (by show vs.length<=_;rw[ϱ];omega));refine Ϫ (wpAny_newList ?_ (afS _));refine afE ?_;have I5:Inv X.ύ ϵ σ H {s with heap:=((h2.update a (Obj.mapSeq λ_=>(#[]:Array ε))).push (seqObj "tuple" vs.toArray 0)).push (seqObj "list" #[] 0)}:=I.ύ.kept (t':=s.toks) mC;have hk0:s.heap.objs.size<=((h2.update a (Obj.mapSeq λ_=>(#[]:Array ε))).push (seqObj "tuple" vs.toArray 0)).objs.size:=by rw[hkS];exact alo _ _
  refine adC (X:=X) (ϵ:=ϵ) (σ:=σ) (H:=H) (H₁:=H) (kS:=((h2.update a (Obj.mapSeq λ_=>(#[]:Array ε))).push (seqObj "tuple" vs.toArray 0)).objs.size) (D:=a) (e1:=e1) W F C (Ne.symm hka) h64 I5 (ζ.refl _) ⟨abE _ rfl,I.ύ.fpOk hk0 (I.hok.fresh hk0)⟩ ⟨Heap.get?_push_of_some _ (Heap.get?_push_of_some _ ho1),I.ύ.fpOk hal (I.hok.fresh hal)⟩ λs' H' e' q I' sm hq hD=>⟨_,rfl,?_⟩
  exact ϲ ⟨_,rfl,h a s' H' e' q (Inv.un2 I.ok I') sm hq hD⟩
def cI(xs:List V)(q:List Nat):List V:=q.map λi=>xs.getD i .non
theorem MJ{xs:List V}{vs:List ε}(r:Vals xs vs):∀{q:List Nat},(∀i∈q,i<xs.length)->Vals (cI xs q) (gb vs q)
 |[],_=>.nil
 |i::q,h=>by
  have hil:=h i (by simp);have hi:xs[i]?=some (xs[i]'hil):=ϳ hil;obtain⟨u,e,ru⟩:=r.get hi;show Vals (xs.getD i .non::cI xs q) (vs.getD i Value.none::gb vs q);rw[abm,abm,hi,e];exact .cons ru (MJ r λj hj=>h j (by simp[hj]))
theorem lN{n:Nat}{lt:Nat->Nat->Bool}{q:List Nat}(h:dh n lt q){i:Nat}(hi:i∈q):i<n:=aiV.mp (h.1.mem_iff.mp hi)
theorem abt{n:Nat}{lt:Nat->Nat->Bool}{q:List Nat}(h:dh n lt q):q.length=n:=by rw[h.1.length_eq,af7]
theorem M9{kw:List (Str×ε)}{Q:VK}{E:ε->μ->Prop}{xs:List V}(W:az lt)(hs:η X.K H l xs)(h64:xs.length<64)(FC:∀vs,Vals xs vs->ur X σ f vs H Kp/\lR X σ xs.length Kp lt)(I:Inv X ϵ σ H s)(ha1:argsOk "sorted" ⟨[.ref l],kw⟩)(ha2:∀x,argsOk "list.sort" ⟨[.ref x],kw⟩)(ht:∀x,Builtin.«list.sort» ⟨[.ref x],kw⟩=ksk_tree x f b)(h:∀p H' q,ζ H H'->H' p=none->dh xs.length (ie b lt) q->Q (.ref p) (upd H' p (.lst (cI xs q)))):π (Ϧ X.prog X.w) X.A (call (.builtin "sorted") [.ref l] kw) (EP X ϵ σ Q) E s:=by
 obtain⟨vs,r,pl,hz⟩:=I.list hs;have hlen:=r.length;obtain⟨hF,hC⟩:=FC vs r;rw[hlen]at hC;obtain⟨o,n,e,c,d,ss⟩:=pl;refine ac5 (b:=b) W hF hC (by omega) I ⟨o,e,c,n,ss⟩ ha1 ha2 ht λD s' H' e' q I' sm hq hD=>?_
 rw[<-hlen]at hq;have hql:=abt hq;refine⟨.ref D,_,I'.ae5 (e:=D) (o:=.lst (cI xs q)) hD.2.1 hD.2.ch ⟨?_,gb vs q,e',MJ r λi hi=>lN hq hi,hD.1⟩,rfl,h D H' q sm hD.2.1 hq⟩;show(q.map _).length<=_;rw[aaf];omega
end
def p8(A:ϰ)(s:μ)(fin:Bool):List ε->List ε->Bool->Prop
 |x::xs,y::ys,r=>∃e,SeqAt.EqAt A s x y e/\(e=true->p8 A s fin xs ys r)/\(e=false->∀(prog:Ϯ)(w:Ϭ)(E:ε->μ->Prop)(Q:ε->μ->Prop),Q (.bool r) s->π (Ϧ prog w) A (richCompare .Lt x y) Q E s)
 |_,_,r=>r=fin
open PySem.AutoSeq1 (wpAny_loadPart') in
theorem Pj(l b:δ)(items items2:Array ε)(n n2:Nat)(dd dd2:Option δ)(sl sl2:Array (Option ε))(r:Bool):Meets (Builtin.«tuple.__lt__» ⟨[.ref l,.ref b],[]⟩)
   (λA R s=>s.heap.get? l=some {cls:=.type "tuple",dict:=dd,data:=.seq items n,slots:=sl}/\s.heap.get? b=some {cls:=.type "tuple",dict:=dd2,data:=.seq items2 n2,slots:=sl2}/\
    p8 A.in1 s (decide (items.size<items2.size)) items.toList items2.toList r/\R (.ok (.ret (.bool r))) s):=
 .of_wp λprog w A R s h=>by
  obtain⟨hp,g,d,tk,os⟩:=s;obtain⟨h1,h2,hL,hR⟩:=h;have hsub:=AutoSeq1.sub_tuple_tuple
  wp_walk using wpAny_loadPart' h1,wpAny_loadPart' h2,wpAny_forIn_list _ (λleft acc s'=>acc.1=none/\s'=⟨hp,g,d,tk,os⟩/\∃p q,left=List.zip p q/\p8 A.in1 ⟨hp,g,d,tk,os⟩ (decide (items.size<items2.size)) p q r) _
  case turn=>
   rintro⟨x,y⟩ left acc s' ⟨ha,rfl,p,q,hz,hL⟩
   match p,q,hL with
   |[],_,_=>cases hz
   |_::_,[],_=>cases hz
   |x'::p,y'::q,hL=>
    rw[List.zip_cons_cons]at hz;injection hz with hxy hrest
    injection hxy with ex ey
    subst ex ey;obtain⟨e,he,ht,hf⟩:=hL;refine Ϫ (he prog w _ _ ?_);cases e with
    |true=>
     wp_walk
     exact⟨rfl,rfl,p,q,hrest,ht rfl⟩
    |false=>
     have hlt:=hf rfl prog w
     wp_walk using hlt
     exact⟨_,rfl,by simpa using hR⟩
  case fin=>
   rintro⟨b1,b2⟩ s' ⟨ha,rfl,p,q,hz,hL⟩
   simp only at ha;subst ha;have fin:r=decide (items.size<items2.size):=by
    match p,q,hL with
    |[],[],hL=>exact hL
    |[],_::_,hL=>exact hL
    |_::_,[],hL=>exact hL
    |x'::p,y'::q,hL=>rw[List.zip_cons_cons]at hz;cases hz
   subst fin
   wp_walk
   exact⟨_,rfl,by simpa [Builtin.Tuple.tupleCompareSizes]using hR⟩
  case h=>
   exact⟨rfl,rfl,items.toList,items2.toList,rfl,hL⟩
def aB:List V->List V->Bool
 |[],[]=>false
 |[],_::_=>true
 |_::_,[]=>false
 |x::_,y::_=>ltV x y
def gG(x y:V):Prop:=(∃m n,x=.int m/\y=.int n)\/∃m n,x=.str m/\y=.str n
def lU(r:List V):Prop:=r=[]\/∃x,r=[x]
theorem Bq(x:V):ltV x x=false:=by
 cases x with
 |int i=>exact decide_eq_false (by omega)
 |str z=>exact decide_eq_false (aoH _)
 |_=>rfl
section
variable{prog:Ϯ}{w:Ϭ}{A:ϰ}{E:ε->μ->Prop}{s:μ}{x y:V}{u v:ε}
theorem Lq(h:gG x y)(ru:RelV x u)(rv:RelV y v):∃e,SeqAt.EqAt A s u v e/\(e=true↔x=y):=by
 obtain⟨m,n,rfl,rfl⟩|⟨m,n,rfl,rfl⟩:=h
 .obtain⟨t,rfl⟩:=ru;obtain⟨t2,rfl⟩:=rv;exact⟨_,SeqAt.EqAt.int_int m t n t2,by simp⟩
 .obtain⟨t,rfl⟩:=ru;obtain⟨t2,rfl⟩:=rv;exact⟨_,SeqAt.EqAt.str_str m t n t2,by simp⟩
theorem aaj{Q:ε->μ->Prop}(h:gG x y)(ru:RelV x u)(rv:RelV y v)(q:Q (.bool (ltV x y)) s):π (Ϧ prog w) A (richCompare .Lt u v) Q E s:=by
 obtain⟨m,n,rfl,rfl⟩|⟨m,n,rfl,rfl⟩:=h
 .obtain⟨t,rfl⟩:=ru;obtain⟨t2,rfl⟩:=rv;exact lt_int q
 .obtain⟨t,rfl⟩:=ru;obtain⟨t2,rfl⟩:=rv;exact lt_str q
theorem acw{Q:Bool->μ->Prop}(h:gG x y)(ru:RelV x u)(rv:RelV y v)(q:Q (ltV x y) s):π (Ϧ prog w) A (oneLt' true u v) Q E s:=by
 obtain⟨m,n,rfl,rfl⟩|⟨m,n,rfl,rfl⟩:=h
 .obtain⟨t,rfl⟩:=ru;obtain⟨t2,rfl⟩:=rv;exact oneLt_int q
 .obtain⟨t,rfl⟩:=ru;obtain⟨t2,rfl⟩:=rv;exact oneLt_str q
theorem ac0{rx ry:List V}{us ws:List ε}(hx:lU rx)(hy:lU ry)(hk:∀x y,rx=[x]->ry=[y]->gG x y)(ru:Vals rx us)(rv:Vals ry ws):p8 A s (decide (us.length<ws.length)) us ws (aB rx ry):=by
 obtain rfl|⟨x,rfl⟩:=hx
 .cases Vals.zero ru;obtain rfl|⟨y,rfl⟩:=hy
  .cases Vals.zero rv;rfl
  .obtain⟨v,rfl,_⟩:=Vals.one rv;rfl
 .obtain⟨u,rfl,r1⟩:=Vals.one ru;obtain rfl|⟨y,rfl⟩:=hy
  .cases Vals.zero rv;rfl
  .obtain⟨v,rfl,r2⟩:=Vals.one rv;have lk:=hk x y rfl rfl;obtain⟨e,he,hi⟩:=Lq (A:=A) (s:=s) lk r1 r2;refine⟨e,he,λh=>?_,λh prog w E Q q=>aaj lk r1 r2 q⟩;have:x=y:=hi.mp h;subst this;show ltV x x=decide (1<1);rw[Bq];rfl
end
section
variable{X:Cx}{ϵ:List (δ×Obj)}{σ:St}{H:Hp}{s:μ}{a b:δ}{rx ry:List V}
theorem FJ(I:Inv X ϵ σ H s)(h:H a=some (.tup rx)):∃(ϸ:List ε)(n:Nat)(dd:Option δ)(sl:Array (Option ε)),Vals rx ϸ/\s.heap.get? a=some {cls:=.type "tuple",dict:=dd,data:=.seq ϸ.toArray n,slots:=sl}:=by
 obtain⟨_,ϸ,r,⟨cls,dd,data,sl⟩,e,c,n,d⟩:=(I.hok a _ h:Φ X.prog X.w H s.heap a (.tup rx));simp only at c d;subst c d;exact⟨ϸ,n,dd,sl,r,e⟩
theorem ZP{A:ϰ}{E:ε->μ->Prop}{κ:SortKind}{Q:Bool->μ->Prop}(hu:A.units<cLine)(I:Inv X ϵ σ H s)(ha:H a=some (.tup rx))(hb:H b=some (.tup ry))(hx:lU rx)(hy:lU ry)(hk:∀x y,rx=[x]->ry=[y]->gG x y)(hκ:κ=general'\/κ=oneType'\/(κ=tuples' true/\rx≠[]/\ry≠[]))(q:Q (aB rx ry) s):π (Ϧ X.prog X.w) A (keyLt' κ (.ref a) (.ref b)) Q E s:=by
 obtain⟨us,n,dd,sl,ru,ea⟩:=FJ I ha;obtain⟨ws,n2,dd2,sl2,rv,eb⟩:=FJ I hb;have hl:p8 A.in1 s (decide (us.toArray.size<ws.toArray.size)) us.toArray.toList ws.toArray.toList (aB rx ry):=by
  simpa using ac0 hx hy hk ru rv
 obtain rfl|rfl|⟨rfl,h1,h2⟩:=hκ
 .show π _ _ (oneLt' false (.ref a) (.ref b)) _ _ _;refine kat_one _ _ ?_;exact richCompare_meets_room (op:=.Lt) ⟨_,ea,rfl⟩ ⟨_,eb,rfl⟩ F.slot_tuple_lt F.entry_tuple_lt (F.args_tuple_lt_2 _ _) (Pj a b us.toArray ws.toArray n n2 dd dd2 sl sl2 (aB rx ry)) ⟨ea,eb,hl,(λz=>nomatch z),q⟩ hu
 .show π _ _ (oneLt' true (.ref a) (.ref b)) _ _ _;rw[oneLt'_eq];simp only[if_true];refine Ϫ (wpAny_cRoomFor hu ?_);refine Ϫ (wpAny_callSpecialIfBound?_slot (T:="tuple") ⟨_,ea,rfl⟩ F.slot_tuple_lt ?_);refine amW F.slot_tuple_lt ⟨_,ea,rfl⟩ F.entry_tuple_lt (F.args_tuple_lt_2 _ _) (Pj a b us.toArray ws.toArray n n2 dd dd2 sl sl2 (aB rx ry)) ⟨ea,eb,hl,?_⟩;exact afP q
 .obtain rfl|⟨x,rfl⟩:=hx
  .exact absurd rfl h1
  obtain rfl|⟨y,rfl⟩:=hy
  .exact absurd rfl h2
  obtain⟨u,rfl,r1⟩:=Vals.one ru;obtain⟨v,rfl,r2⟩:=Vals.one rv;have lk:=hk x y rfl rfl;refine kat_lt ea rfl eb rfl ?_;obtain⟨e,he,hi⟩:=Lq (A:=A) (s:=s) lk r1 r2;refine kat_cons (he X.prog X.w _ _ ?_);refine kat_go (λh=>?_) λh=>?_
  .have :x=y:=hi.mp h;subst this;refine kat_yes (kat_nil ?_);have q':Q (ltV x x) s:=q;rw[Bq]at q';exact q'
  .exact kat_no (acw lk r1 r2 q)
end
section
variable{M:Model}{A:ϰ}{E:ε->μ->Prop}{s:μ}
def sJ(h:ϫ):List ε->List (Option ε)->Prop
 |[],[]=>True
 |v::vs,f::fs=>(∃a o xs n,v=.ref a/\h.get? a=some o/\o.cls=.type "tuple"/\o.data=.seq xs n/\xs[0]?=f)/\sJ h vs fs
 |_,_=>False
theorem Oa:∀(vs:List ε)(fs:List (Option ε)){Q:List (Option ε)->μ->Prop},sJ s.heap vs fs->Q fs s->π M A (vs.mapM firstOfTuple') Q E s
 |[],[],_,_,h=>by rw[List.mapM_nil];exact ϲ h
 |[],_::_,_,t,_=>t.elim
 |_::_,[],_,t,_=>t.elim
 |v::vs,f::fs,Q,t,h=>by
  obtain⟨⟨a,o,xs,n,rfl,ho,hc,hd,hf⟩,t⟩:=t;rw[List.mapM_cons];refine Ϫ ?_;rw[kas_first_eq];refine Ϫ (Looks.here (show Looks M s.heap (typeOf (.ref a)) o.cls from(Looks.ld ho).andThen .now) ?_);rw[hc,if_neg (by first|decide|simp)];refine Ϫ (listItems_at ho hd (ϲ ?_));rw[hf];exact Ϫ (Oa vs fs (Q:=λbs s'=>π M A (pure (f::bs)) Q E s') t (ϲ h))
theorem Mj:∀{vs:List ε}{fs:List (Option ε)},sJ s.heap vs fs->∀v∈vs,Looks M s.heap (typeOf v) (.type "tuple")
 |v::vs,f::fs,t,u,hu=>by
  obtain⟨⟨a,o,xs,n,rfl,ho,hc,hd,hf⟩,t⟩:=t;obtain rfl|hu:=ϴ.mp hu
  .rw[<-hc];exact(Looks.ld ho).andThen .now
  .exact Mj t u hu
theorem kind_any{vs:List ε}{fs:List (Option ε)}{T:ε}{Q:SortKind->μ->Prop}(t:sJ s.heap vs fs)(Ϲ:0<vs.length)(hT:∀v,some v∈fs->Looks M s.heap (typeOf v) T)(hT2:(T==T)=true)(Zy:(T !=Value.type "tuple")=true)(h1:(∀f∈fs,f.isSome=true)->Q (tuples' true) s)(h2:Q general' s)(h3:Q oneType' s):π M A (keyKind' vs.toArray) Q E s:=by
 rw[kat_kind_eq,anx,map_eq_pure_bind];refine Ϫ (Ϫ (Oa vs _ t (ϲ ?_)));by_cases hall:(fs.toArray.all λx=>x.isSome)=true
 .rw[if_pos hall];have hall':∀f∈fs,f.isSome=true:=by simpa using hall
  refine Ϫ (wpAny_rule ?_);have hfl:fs.length=vs.length:=by
   clear hT h1 hall hall' Ϲ;induction vs generalizing fs with
   |nil=>cases fs with
    |nil=>rfl
    |cons _ _=>exact t.elim
   |cons v vs ih=>cases fs with
    |nil=>exact t.elim
    |cons f fs=>simp[ih t.2]
  have hfm:fs.toArray.filterMap id=(fs.filterMap id).toArray:=by simp
  have Oh:fs.filterMap id≠[]:=by
   intro z
   match fs,hfl with
   |[],e=>simp at e;omega
   |f::fs,_=>
    obtain⟨v,rfl⟩:=amY.mp (hall' f (by simp));simp at z
  rw[hfm,oneTypeOnly'_eq,anx,map_eq_pure_bind];have hT':∀v∈fs.filterMap id,Looks M s.heap (typeOf v) T:=λv hv=>by
   obtain⟨o,ho,e⟩:=akD.mp hv;have e':o=some v:=e;exact hT v (e'▸ho)
  generalize fs.filterMap id=gs at Oh hT';refine Ϫ (Ϫ (Ϫ (kas_mapM (r:=T) _ (λv hv Q' hq=>(hT' v hv).here hq) (ϲ ?_))));obtain⟨g,gr,rfl⟩:∃g gr,gs=g::gr:=by
   match gs,Oh with
   |[],z=>exact absurd rfl z
   |g::gr,_=>exact⟨g,gr,rfl⟩
  have hall2:((aoM (λ_=>T) (g::gr)).toArray.all λx=>x==T)=true:=by
   simp only[aox,aon,adM];intro _ _;exact hT2
  have h0:(aoM (λ_=>T) (g::gr)).toArray[0]?=some T:=by simp
  rw[h0];simp only[hall2,if_true];refine ϲ (ϲ ?_);have e:(some T).any (λx=>x !=Value.type "tuple")=true:=Zy;rw[e];exact h1 hall'
 .rw[if_neg hall];split
  .exact ϲ h2
  .rw[oneTypeOnly'_eq,anx,map_eq_pure_bind];refine Ϫ (Ϫ (Ϫ (kas_mapM (r:=Value.type "tuple") _ (λv hv Q' hq=>(Mj t v hv).here hq) (ϲ ?_))));obtain⟨g,gr,rfl⟩:∃g gr,vs=g::gr:=by
    match vs,Ϲ with
    |g::gr,_=>exact⟨g,gr,rfl⟩
   have hall2:((aoM (λ_=>Value.type "tuple") (g::gr)).toArray.all λx=>x==Value.type "tuple")=true:=by
    simp only[aox,aon,adM];intro _ _;show(Value.type "tuple"==Value.type "tuple")=true;decide
   have h0:(aoM (λ_=>Value.type "tuple") (g::gr)).toArray[0]?=some (Value.type "tuple"):=by simp
   rw[h0];simp only[hall2,if_true];exact ϲ (ϲ h3)
end
structure tV(X:Cx)(σ:St)(f:ε)(xs:List V)(H₁:Hp)(KV:Nat->V->Hp->Prop):Prop where
 mono:∀i v H H',ζ H H'->KV i v H->KV i v H'
 call:∀i x u ϵ s H,xs[i]?=some x->RelV x u->ζ H₁ H->Inv X.ύ ϵ σ H s->π (Ϧ X.prog X.w) X.A.in1.in1 (call f [u]) (EP X.ύ ϵ σ λk H'=>ζ H H'/\KV i k H') (λ_ _=>False) s
def tX(KV:Nat->V->Hp->Prop)(i:Nat)(k:ε)(H:Hp):=∃v,RelV v k/\KV i v H
theorem tV.fn{X:Cx}{σ:St}{f:ε}{xs:List V}{vs:List ε}{H₁:Hp}{KV:Nat->V->Hp->Prop}(h:tV X σ f xs H₁ KV)(r:Vals xs vs):ur X σ f vs H₁ (tX KV)where
 mono:=λi k H H' sm ⟨v,rv,q⟩=>⟨v,rv,h.mono i v H H' sm q⟩
 call:=λi u ϵ s H hu sm I=>by
  have hl:=r.length;have hi:=(aae.mp hu).1;have hx:xs[i]?=some (xs[i]'(by omega)):=ϳ _;obtain⟨u',e,ru⟩:=r.get hx;rw[hu]at e;cases e;exact adu (h.call i _ u ϵ s H hx ru sm I) (λk s' ⟨v,H',I',rv,q1,q2⟩=>⟨H',I',q1,v,rv,q2⟩) λ_ _ z=>z
def SQ(f:Nat->Int)(i:Nat)(v:V)(_:Hp):Prop:=v=.int (f i)
section
variable{X:Cx}{σ:St}{n:Nat}
theorem Hh:∀{ks:List ε}{f:Nat->Int},(∀(i:Nat) k,ks[i]?=some k->∃t,k=.int (f i) t)->IntsAre ks ((ady ks.length).map f)
 |[],_,_=>.nil
 |k::ks,f,h=>by
  obtain⟨t,rfl⟩:=h 0 k rfl;have:=Hh (ks:=ks) (f:=λi=>f (i+1)) λi k e=>h (i+1) k (by simpa using e)
  rw[List.length_cons,anL,List.map_cons,agn];exact .cons _ t this
theorem ags{f:Nat->Int}:lR X σ n (tX (SQ f)) (λi j=>decide (f i<f j))where
 kind:=λϵ s H ks I hl h2 hK=>by
  have hK':∀(i:Nat) k,ks[i]?=some k->∃t,k=.int (f i) t:=λi k e=>by
   obtain⟨v,rv,rfl⟩:=hK i k e;obtain⟨t,rfl⟩:=rv;exact⟨t,rfl⟩
  rw[ksk_kind (keys:=ks.toArray) (kz:=(ady ks.length).map f) (by simpa using Hh hK') (by rw[aaU];omega)];refine ϲ ⟨I,λi j ki kj ϵ s hi hj I'=>?_⟩;obtain⟨t,rfl⟩:=hK' i ki hi;obtain⟨t2,rfl⟩:=hK' j kj hj;rw[keyLt'_oneType];exact oneLt_int ⟨rfl,I'⟩
theorem aa3{f:Nat->Int}:az λi j=>decide (f i<f j):=⟨λi=>decide_eq_false (by omega),λi j k h1 h2=>decide_eq_true (by have:=of_decide_eq_true h1;have:=of_decide_eq_true h2;omega),λi j k h=>by
 have:=of_decide_eq_true h;by_cases h2:f i<f j
 .exact .inl (decide_eq_true h2)
 .exact .inr (decide_eq_true (by omega))⟩
def Gw(rk:Nat->List V)(i:Nat)(v:V)(H:Hp):=∃a,v=.ref a/\H a=some (.tup (rk i))
def oW(rk:Nat->List V):Prop:=(∀i,lU (rk i))/\((∀i x,rk i=[x]->∃m,x=.int m)\/∀i x,rk i=[x]->∃m,x=.str m)
theorem oW.lk{rk:Nat->List V}(h:oW rk){i j:Nat}{x y:V}(hx:rk i=[x])(hy:rk j=[y]):gG x y:=by
 obtain h|h:=h.2
 .obtain⟨m,rfl⟩:=h i x hx;obtain⟨n,rfl⟩:=h j y hy;exact .inl ⟨m,n,rfl,rfl⟩
 .obtain⟨m,rfl⟩:=h i x hx;obtain⟨n,rfl⟩:=h j y hy;exact .inr ⟨m,n,rfl,rfl⟩
theorem J4{ϵ:List (δ×Obj)}{s:μ}{H:Hp}(I:Inv X ϵ σ H s):∀{ks:List ε}{rk:Nat->List V},(∀i,lU (rk i))->(∀(i:Nat) k,ks[i]?=some k->∃a,k=.ref a/\H a=some (.tup (rk i)))->
  ∃fs,sJ s.heap ks fs/\(∀f∈fs,(∃i,(f=none/\rk i=[])\/∃x v,f=some v/\rk i=[x]/\RelV x v))/\∀i,i<ks.length->rk i=[]->none∈fs
 |[],rk,_,_=>⟨[],trivial,λf hf=>by simp at hf,λi hi=>by simp at hi⟩
 |k::ks,rk,hR,h=>by
  obtain⟨a,rfl,ha⟩:=h 0 k rfl;obtain⟨fs,h1,h2,h3⟩:=J4 I (ks:=ks) (rk:=λi=>rk (i+1)) (λi=>hR (i+1)) λi k e=>h (i+1) k (by simpa using e)
  obtain⟨us,n,dd,sl,ru,ea⟩:=FJ I ha;have hr:=hR 0;generalize hrk:rk 0=r0 at hr ru;obtain rfl|⟨x,rfl⟩:=hr
  .cases Vals.zero ru;refine⟨none::fs,⟨⟨a,_,_,n,rfl,ea,rfl,rfl,rfl⟩,h1⟩,λf hf=>?_,λi hi z=>?_⟩;obtain rfl|hf:=ϴ.mp hf
   .exact⟨0,.inl ⟨rfl,hrk⟩⟩
   .obtain⟨i,q⟩:=h2 f hf;exact⟨i+1,q⟩
   .cases i with
    |zero=>simp
    |succ i=>exact acV _ (h3 i (by simpa using hi) z)
  .obtain⟨u,rfl,r1⟩:=Vals.one ru;refine⟨some u::fs,⟨⟨a,_,_,n,rfl,ea,rfl,rfl,rfl⟩,h1⟩,λf hf=>?_,λi hi z=>?_⟩;obtain rfl|hf:=ϴ.mp hf
   .exact⟨0,.inr ⟨x,u,rfl,hrk,r1⟩⟩
   .obtain⟨i,q⟩:=h2 f hf;exact⟨i+1,q⟩
   .cases i with
    |zero=>rw[hrk]at z;cases z
    |succ i=>exact acV _ (h3 i (by simpa using hi) z)
theorem Pb{rk:Nat->List V}(hu:X.A.in1.in1.units<cLine)(hR:oW rk):lR X σ n (tX (Gw rk)) (λi j=>aB (rk i) (rk j))where
 kind:=λϵ s H ks I hl h2 hK=>by
  have hK':∀(i:Nat) k,ks[i]?=some k->∃a,k=.ref a/\H a=some (.tup (rk i)):=λi k e=>by
   obtain⟨v,rv,a,rfl,ha⟩:=hK i k e;cases rv;exact⟨a,rfl,ha⟩
  obtain⟨fs,t,hf,hn⟩:=J4 I hR.1 hK';have any:∀κ,(κ=general'\/κ=oneType'\/(κ=tuples' true/\∀i,i<n->rk i≠[]))->zN X σ H ks (λi j=>aB (rk i) (rk j)) κ:=λκ hκ i j ki kj ϵ s hi hj I'=>by
   obtain⟨a,rfl,ha⟩:=hK' i ki hi;obtain⟨b,rfl,hb⟩:=hK' j kj hj;have ϻ:=(aae.mp hi).1;have hjn:=(aae.mp hj).1;refine ZP (X:=X.ύ) hu I' ha hb (hR.1 i) (hR.1 j) (λx y e1 e2=>hR.lk e1 e2) ?_ ⟨rfl,I'⟩;obtain h|h|⟨h,h3⟩:=hκ
   .exact .inl h
   .exact .inr (.inl h)
   .exact .inr (.inr ⟨h,h3 i (by omega),h3 j (by omega)⟩)
  have fin:∀(T:ε),(T==T)=true->(T !=Value.type "tuple")=true->(∀v,some v∈fs->Looks (Ϧ X.prog X.w) s.heap (typeOf v) T)->π (Ϧ X.prog X.w) X.A.in1.in1 (keyKind' (aee ks)) (λκ s'=>Inv X.ύ ϵ σ H s'/\zN X σ H ks (λi j=>aB (rk i) (rk j)) κ) (λ_ _=>False) s:=λT t2 t3 hT=>
   kind_any t (by omega) hT t2 t3 (λhall=>⟨I,any _ (.inr (.inr ⟨rfl,λi hi z=>absurd (hall _ (hn i (by omega) z)) (by decide)⟩))⟩) ⟨I,any _ (.inl rfl)⟩ ⟨I,any _ (.inr (.inl rfl))⟩
  obtain hk|hk:=hR.2
  .refine fin (.type "int") (by decide) (by decide) λv hv=>?_
   obtain⟨i,⟨e,_⟩|⟨x,v',e,e2,rv⟩⟩:=hf _ hv
   .cases e
   .cases e;obtain⟨m,rfl⟩:=hk i x e2;obtain⟨t,rfl⟩:=rv;exact .now
  .refine fin (.type "str") (by decide) (by decide) λv hv=>?_
   obtain⟨i,⟨e,_⟩|⟨x,v',e,e2,rv⟩⟩:=hf _ hv
   .cases e
   .cases e;obtain⟨m,rfl⟩:=hk i x e2;obtain⟨t,rfl⟩:=rv;exact .now
theorem aaS{x y z:V}(h1:gG x y)(h2:gG y z)(a:ltV x y=true)(b:ltV y z=true):ltV x z=true:=by
 obtain⟨m,n,rfl,rfl⟩|⟨m,n,rfl,rfl⟩:=h1
 .obtain⟨m2,k,e,rfl⟩|⟨_,_,e,_⟩:=h2
  .cases e;exact decide_eq_true (by have:=of_decide_eq_true a;have:=of_decide_eq_true b;omega)
  .cases e
 .obtain⟨_,_,e,_⟩|⟨m2,k,e,rfl⟩:=h2
  .cases e
  .cases e;exact decide_eq_true (aoN (of_decide_eq_true a) (of_decide_eq_true b))
theorem Yc{x y z:V}(h1:gG x y)(h2:gG y z)(a:ltV x z=true):ltV x y=true\/ltV y z=true:=by
 obtain⟨m,n,rfl,rfl⟩|⟨m,n,rfl,rfl⟩:=h1
 .obtain⟨m2,k,e,rfl⟩|⟨_,_,e,_⟩:=h2
  .cases e;have:=of_decide_eq_true a;by_cases h:m<n
   .exact .inl (decide_eq_true h)
   .exact .inr (decide_eq_true (by omega))
  .cases e
 .obtain⟨_,_,e,_⟩|⟨m2,k,e,rfl⟩:=h2
  .cases e
  .cases e;by_cases h:m.cps.toList<n.cps.toList
   .exact .inl (decide_eq_true h)
   .refine .inr (decide_eq_true ?_);have hle:n.cps.toList<=m.cps.toList:=aoD.mp h;exact List.lt_of_le_of_lt hle (of_decide_eq_true a)
theorem Pq{rk:Nat->List V}(hR:oW rk):az λi j=>aB (rk i) (rk j)where
 ir:=λi=>by
  show aB (rk i) (rk i)=false;obtain e|⟨x,e⟩:=hR.1 i
  .rw[e];rfl
  .rw[e];exact Bq x
 tr:=λi j k h1 h2=>by
  have h1:aB (rk i) (rk j)=true:=h1;have h2:aB (rk j) (rk k)=true:=h2;show aB (rk i) (rk k)=true;obtain ei|⟨x,ei⟩:=hR.1 i<;>obtain ej|⟨y,ej⟩:=hR.1 j<;>obtain ek|⟨z,ek⟩:=hR.1 k<;>rw[ei]at h1⊢ <;>rw[ej]at h1 h2<;>rw[ek]at h2⊢ <;>first|(cases h1;done)|(cases h2;done)|rfl|exact aaS (hR.lk ei ej) (hR.lk ej ek) h1 h2
 nt:=λi j k h=>by
  have h:aB (rk i) (rk k)=true:=h;show aB (rk i) (rk j)=true\/aB (rk j) (rk k)=true;obtain ei|⟨x,ei⟩:=hR.1 i<;>obtain ej|⟨y,ej⟩:=hR.1 j<;>obtain ek|⟨z,ek⟩:=hR.1 k<;>rw[ei,ek]at h<;>rw[ei,ej,ek]<;>first|(cases h;done)|exact .inl rfl|exact .inr rfl|exact Yc (hR.lk ei ej) (hR.lk ej ek) h
end
section
variable{X:Cx}{σ:St}{H:Hp}{Q:VK}{e ke re:ν}{p pos kp rp:Pos}
def uf(X:Cx)(σ:St)(b:Bool)(v fv:V)(H:Hp)(Q:VK):=∃(l f:δ)(xs:List V)(KV:Nat->V->Hp->Prop)(lt:Nat->Nat->Bool),v=.ref l/\fv=.ref f/\η X.K H l xs/\xs.length<64/\az lt/\tV X σ (.ref f) xs H KV/\lR X σ xs.length (tX KV) lt/\
 ∀p H' q,ζ H H'->H' p=none->dh xs.length (ie b lt) q->Q (.ref p) (upd H' p (.lst (cI xs q)))
theorem Nr(hm:X.mg "sorted"=none)(h:EV X e σ H λv H1=>EV X ke σ H1 λfv H2=>uf X σ false v fv H2 Q)(hg:Gl X "sorted":=by rfl)(he:ϯ [e] X.env=[(false,eval e X.env)]:=by rfl):EV X (.Call (.Name "sorted" p) [e] [⟨some "key",ke,kp⟩] pos) σ H Q:=by
 intro ϵ s I;refine akj (iU I hg hm PyProof.Rows.boot_sorted ?_ (by decide) (by decide));have hA:EA X [e] σ H (λvs H1=>∃v,vs=[v]/\EV X ke σ H1 λfv H2=>uf X σ false v fv H2 Q):=eQ he (ϡ h λv H1 q=>eY ⟨v,rfl,q⟩);refine callWith_kw (χ (hA pos ϵ s I) λus s1 hZ=>?_) (by rw[he];rfl) (by rw[he];rfl);obtain⟨vs,H1,I1,r1,v,ev,q1⟩:=hZ;subst ev;obtain⟨u,rfl,ru⟩:=Vals.one r1;refine kws_cons (χ (q1 ϵ s1 I1) λu2 s2 ⟨fv,H2,I2,r2,q2⟩=>kws_nil ?_);obtain⟨l,f,xs,KV,lt,rfl,rfl,hs,h64,W,hK,hC,g⟩:=q2;cases ru;cases r2;exact M9 (kw:=[(Str.ofString "key",.ref f)]) W hs h64 (λvs r=>⟨hK.fn r,hC⟩) I2 (ksk_s1 _ _) (λx=>ksk_l1 _ _) (λx=>ksk_t1 f x) g
theorem ah4{b:Bool}(hg:Gl X "sorted")(hm:X.mg "sorted"=none)(he:ϯ [e] X.env=[(false,eval e X.env)])(h:EV X e σ H λv H1=>EV X ke σ H1 λfv H2=>EV X re σ H2 λrv H3=>rv=.bl b/\uf X σ b v fv H3 Q):EV X (.Call (.Name "sorted" p) [e] [⟨some "key",ke,kp⟩,⟨some "reverse",re,rp⟩] pos) σ H Q:=by
 intro ϵ s I;refine akj (iU I hg hm PyProof.Rows.boot_sorted ?_ (by decide) (by decide));have hA:EA X [e] σ H (λvs H1=>∃v,vs=[v]/\EV X ke σ H1 λfv H2=>EV X re σ H2 λrv H3=>rv=.bl b/\uf X σ b v fv H3 Q):=eQ he (ϡ h λv H1 q=>eY ⟨v,rfl,q⟩);refine callWith_kw (χ (hA pos ϵ s I) λus s1 hZ=>?_) (by rw[he];rfl) (by rw[he];rfl);obtain⟨vs,H1,I1,r1,v,ev,q1⟩:=hZ;subst ev;obtain⟨u,rfl,ru⟩:=Vals.one r1;refine kws_cons (χ (q1 ϵ s1 I1) λu2 s2 ⟨fv,H2,I2,r2,q2⟩=>kws_cons (χ (q2 ϵ s2 I2) λu3 s3 ⟨rv,H3,I3,r3,UJ,q3⟩=>kws_nil ?_));obtain⟨l,f,xs,KV,lt,rfl,rfl,hs,h64,W,hK,hC,g⟩:=q3;subst UJ;cases ru;cases r2;cases r3;exact M9 (kw:=[(Str.ofString "key",.ref f),(Str.ofString "reverse",.bool b)]) W hs h64 (λvs r=>⟨hK.fn r,hC⟩) I3 (ksk_s2 _ _ _) (λx=>ksk_l2 _ _ _) (λx=>ksk_t2 f x b) g
abbrev Cx.qT(X:Cx):Cx:={X.ύ with xe:=λ_ _=>False}
theorem Inv.qT{ϵ:List (δ×Obj)}{s:μ}(I:Inv X.ύ ϵ σ H s):Inv X.qT ϵ σ H s:=
 ⟨⟨I.ok.mod,I.ok.kind,I.ok.glob,I.ok.blt,I.ok.above,I.ok.inj,I.ok.has,I.ok.cab,I.ok.hd,I.ok.frames,I.ok.stk,I.ok.exf,I.ok.bs,I.ok.bsz,I.ok.noex,I.ok.exfs,I.ok.funs,I.ok.frf⟩,I.os,I.bare,I.base,I.loc,I.cell,I.free,I.freeC,I.pin,I.hok,I.len⟩
theorem Inv.unX{ϵ:List (δ×Obj)}{s:μ}(I:Inv X.qT ϵ σ H s):Inv X.ύ ϵ σ H s:=
 ⟨⟨I.ok.mod,I.ok.kind,I.ok.glob,I.ok.blt,I.ok.above,I.ok.inj,I.ok.has,I.ok.cab,I.ok.hd,I.ok.frames,I.ok.stk,I.ok.exf,I.ok.bs,I.ok.bsz,I.ok.noex,I.ok.exfs,I.ok.funs,I.ok.frf⟩,I.os,I.bare,I.base,I.loc,I.cell,I.free,I.freeC,I.pin,I.hok,I.len⟩
theorem V0{cc:Bool}{k:Nat}{x:Str}{ps:List Str}{sp:Sp}{xs:List V}{KV:Nat->V->Hp->Prop}(F:Def X.prog X.w X.K X.mg X.base cc k x ps sp)(hr:ό cc (k+2) X.A)(af0:∀i v H H',ζ H H'->KV i v H->KV i v H')(h:∀(i:Nat) x H',xs[i]?=some x->ζ H H'->sp [x] H' (λv H2=>ζ H' H2/\KV i v H2) (λ_ _ _=>False)):∃f:δ,X.mg x=some (.ref f)/\tV X σ (.ref f) xs H KV:=by
 obtain⟨f,fd,h1,h2,h3,h4⟩:=F.ex;refine⟨f,h1,af0,λi x u ϵ s H' hx ru sm I=>?_⟩;have:=qj (X:=X.qT) (us:=[u]) (vs:=[x]) (Kx:=λ_ _ _ _=>False) h4 hr.in1.in1 h3 (JD rfl) I.qT (.cons ru .nil) (h i x H' hx sm);exact adu this (λw s' ⟨v,H2,I2,rv,q⟩=>⟨v,H2,I2.unX,rv,q⟩) λ_ _ z=>z
theorem aeh{x:Str}{f:δ}(h:X.mg x=some (.ref f))(hg:Gl X x)(hd:(x==("__debug__":Str))=false)(q:Q (.ref f) H):EV X (.Name x p) σ H Q:=ao (R0 (v:=.ref f) hg h rfl hd) q
end
theorem Tf{p p':Pos}(h1:p.line=p'.line)(h2:p.col=p'.col)(l:List ε):codeAmong p l=codeAmong p' l:=by
 fun_induction codeAmong p l with
 |case1 a t b u c rest h=>unfold codeAmong;rw[<-h1, <-h2,if_pos h]
 |case2 a t b u c rest h ih=>rw[ih];conv=>rhs;unfold codeAmong
                             rw[<-h1, <-h2,if_neg h]
 |case3 l h=>unfold codeAmong;split <;>first|rfl|(exfalso;exact h _ _ _ _ _ _ rfl)
theorem ahz{p a:Pos}{c cv:ε}(l:List ε)(h:TriplesOk l)(hc:codeAmong p (l++[rawInt a.line,rawInt a.col,c])=some cv):codeAmong p l=some cv\/(cv=c/\a.line=p.line/\a.col=p.col):=by
 fun_induction TriplesOk l with
 |case1=>
  simp only[aoC,rawInt,codeAmong]at hc;split at hc
  .rename_i hh;cases hc;simp only[aaH,beq_iff_eq]at hh;exact .inr ⟨rfl,by omega,by omega⟩
  .cases hc
 |case2 x t y u z rest ih=>
  simp only[aot,codeAmong]at hc⊢;split at hc
  .rename_i hh;rw[if_pos hh];exact .inl hc
  .rename_i hh;rw[if_neg hh];exact ih h hc
 |case3 l h1 h2=>exact h.elim
def BM(mg:Str->Option ε)(base:ϫ):=∃bm ob,mg "__builtins__"=some (.ref bm)/\bm≠builtinsNs/\base.get? bm=some ob/\ob.cls=.type "module"/\ob.dict=some builtinsNs/\ob.data=.plain
abbrev uT:HO:=.ext λ_=>True
theorem Bc{P:Ϯ}{w:Ϭ}{H:Hp}{h:ϫ}{a:δ}{o:Obj}(e:h.get? a=some o):Φ P w H h a (.frz o uT):=⟨e,trivial,⟨o,e⟩,λ_ _ _ _=>trivial⟩
section
variable{X:Cx}{σ:St}{H:Hp}{D:Ends}
theorem ah7{name qual:Str}{params:Arguments}{body:List ϧ}{scope:agJ}{pos:Pos}{clos:List (Str×δ)}{c P:δ}{ps:Array ε}{t:Tok}{j:Nat}(hN:X.N.Nodup)(hj:X.N[j]?=some name)(hx:X.env.scope.names.lookup name=some .local)(hcode:X.env.code=.ref c)(C:CodeHd X.base c P)(B:BM X.mg X.base)(hcl:closureFor scope X.env=pure clos)(hP:H P=some (.tbl ps))(hps:codeAmong pos ps.toList=some (.str qual t))(hq:qualnameIn X.env name name=qual)(hd0:params.defaults=[])(hk0:params.kw_defaults=[])(ha:annTrees params none X.env=[])(h:∀(f c':δ)(oc:Obj)(doc pm ctv:ε)(vs:Array ε)(t':Tok)(H':Hp),ζ H H'->H f=none->H' f=some (.frz (fnMade name qual params body scope clos doc pm c' ctv) uT)->(∃u,H' c'=some (.frz oc u))->oc.data=.fields vs->vs[1]?=some (.str qual t')->D.nx (σ.set j (some (.ref f))) H'):SX X (.FunctionDef name params body [] none [] scope none name pos) D σ H:=by
 intro ϵ s I;refine nestDef_K hd0 hk0 ha ?_;rw[hq];obtain⟨qs,eP,tr,z⟩:=(I.hok P _ hP:Φ X.prog X.w H s.heap P (.tbl ps));have hg:s.heap.Ns mainGlobals X.mg:=I.mod.glob.keeps I.bk;obtain⟨bm,ob,b1,b2,b3,b4,b5,b6⟩:=B;have qY:=I.bk _ _ b3;have hgP:mainGlobals≠P:=λq=>by
  obtain⟨o,es,ep,e,hd,_⟩:=hg;rw[q,eP]at e;cases e;cases hd
 have hbP:bm≠P:=λq=>by rw[q,eP]at qY;cases qY;cases b4
 have hbG:bm≠mainGlobals:=λq=>by
  obtain⟨o,es,ep,e,hd,_⟩:=hg;rw[q,e]at qY;cases qY;rw[hd]at b6;cases b6
 have hb:s.heap.BuiltinsAt X.mg P:=⟨bm,ob,b1,b2,hbG,hbP,qY,b4,b5,b6⟩;have CC:=C.keeps I.bk;cases hf:codeAmong pos qs.toList with
 |some cv=>
  obtain⟨c',oc,u,q,t2,vs,t',rfl,e2,e3,e4,e5⟩:=z pos cv hf;rw[hps]at e2;cases e2;refine makeFunction_hit hcl I.ok.glob hg hcode CC eP tr hf hb λctv doc h' tk hk hsz=>?_
  have I1:=I.laid (a:=h'.objs.size) (o:=.frz (fnMade name qual params body scope clos doc ((X.mg "__name__").getD .none) c' ctv) uT) (t':=tk) (h':=h'.push (fnMade name qual params body scope clos doc ((X.mg "__name__").getD .none) c' ctv)) (λb o e=>Heap.get?_push_of_some _ (hk b o e)) hsz (Bc (abE _ rfl));have hfr:=I.hok.fresh hsz;have sm:ζ H (upd H h'.objs.size (.frz (fnMade name qual params body scope clos doc ((X.mg "__name__").getD .none) c' ctv) uT)):=ζ.upd hfr;refine qp (v:=.ref h'.objs.size) I1 hN hj (.inl hx) rfl (λs' I' _=>?_) (.inr hx);exact⟨_,_,I',h _ c' oc doc _ ctv vs t' _ sm hfr υ ⟨u,sm _ _ e3⟩ e4 e5⟩
 |none=>
  refine makeFunction_K hcl I.ok.glob hg hcode CC eP tr hf hgP hb λc' ctv doc h' tk hx' hge hlt hrec htb=>?_
  obtain⟨c₂,oc,vs,t',e2,hoc,hd,hv⟩:=hrec;cases e2;have hcf:H c'=none:=I.hok.fresh hge;have hff:H h'.objs.size=none:=I.hok.fresh (ana (ae6 hge hlt));have Ϲ:c'≠h'.objs.size:=abF hlt;have hPlt:=I.hok.lt hP;have old:∀b u,H b=some u->(upd (upd H c' (.frz oc uT)) h'.objs.size (.frz (fnMade name qual params body scope clos doc ((X.mg "__name__").getD .none) c' ctv) uT)) b=some u:=λb u e=>by
   rw[θ (Ι e hff),θ (Ι e hcf)];exact e
  have nP:∀b,H b=none->b≠P:=λb e z=>by rw[z,hP]at e;cases e
  have lt':∀b o,s.heap.get? b=some o->b≠c'/\b≠h'.objs.size:=λb o e=>by
   have:=aaY e;exact⟨abF (abX this hge),abF (abX this (ana (ae6 hge hlt)))⟩
  have kp:∀b o,b≠P->s.heap.get? b=some o->(h'.push (fnMade name qual params body scope clos doc ((X.mg "__name__").getD .none) c' ctv)).get? b=some o:=λb o hb e=>Heap.get?_push_of_some _ (hx' b o hb e)
  have I1:Inv X ϵ σ (upd (upd H c' (.frz oc uT)) h'.objs.size (.frz (fnMade name qual params body scope clos doc ((X.mg "__name__").getD .none) c' ctv) uT)) {s with heap:=h'.push (fnMade name qual params body scope clos doc ((X.mg "__name__").getD .none) c' ctv),toks:=tk}:=by
   refine I.un (t':=tk) ⟨λb o e n _ _=>kp b o (nP b n) e,λb o e n _ _=>⟨o.slots,kp b o (nP b n) e⟩,λb o e n _=>?_,λb o e _=>?_,λb xs q=>old _ _ q,λb o u q=>old _ _ q,λb ps' q=>⟨#[],by rw[old _ _ q];simp⟩⟩ λb u e=>?_
   .rw[θ (lt' b o e).2,θ (lt' b o e).1];exact n
   .by_cases hb:b=P
    .exact⟨_,by rw[hb];exact Heap.get?_push_of_some _ htb⟩
    .exact⟨_,kp b o hb e⟩
   .by_cases h1:b=h'.objs.size
    .subst h1;rw[υ]at e;cases e;exact Bc (abE _ rfl)
    .rw[θ h1]at e;by_cases h2:b=c'
     .subst h2;rw[υ]at e;cases e;exact Bc (Heap.get?_push_of_some _ hoc)
     .rw[θ h2]at e;by_cases h3:b=P
      .subst h3;rw[hP]at e;cases e;refine⟨_,Heap.get?_push_of_some _ htb,?_,λp cv hc=>?_⟩
       .rw[ank];exact TriplesOk_snoc _ _ _ _ tr
       .rw[ank]at hc;obtain h4|⟨rfl,h5,h6⟩:=ahz _ tr hc
        .obtain⟨c2,oc2,u2,q2,t2,vs2,t3,g1,g2,g3,g4⟩:=z p cv h4;exact⟨c2,oc2,u2,q2,t2,vs2,t3,g1,g2,old _ _ g3,g4⟩
        .refine⟨c',oc,uT,qual,t,vs,t',rfl,?_,?_,hd,hv⟩
         .rw[<-Tf h5 h6];exact hps
         .rw[θ Ϲ,υ]
      .refine(I.hok b u e).stay (λa v ha q=>kp a v ?_ q) (λa q=>old _ _ q) (λa xs q=>old _ _ q) λa ob v q=>old _ _ q
       obtain rfl|ha:=ha
       .exact h3
       .intro z2;rw[z2,hP]at ha;cases ha
  have sm:ζ H (upd (upd H c' (.frz oc uT)) h'.objs.size (.frz (fnMade name qual params body scope clos doc ((X.mg "__name__").getD .none) c' ctv) uT)):=old;refine qp (v:=.ref h'.objs.size) I1 hN hj (.inl hx) rfl (λs' I' _=>?_) (.inr hx);exact⟨_,_,I',h _ c' oc doc _ ctv vs t' _ sm hff υ ⟨uT,by rw[θ Ϲ,υ]⟩ hd hv⟩
abbrev uG(X:Cx)(qual:Str)(scope:agJ)(f:δ)(cd:ε)(cl:List (Str×δ))(N:List Str)(s:μ)(H:Hp):Cx where
 prog:=X.prog
 w:=X.w
 K:=X.K
 mg:=X.mg
 base:=X.base
 A:=X.A.deeper (envX qual scope s.heap.objs.size f cd cl)
 N:=N
 s₀:=s
 H₀:=H
 env:=envX qual scope s.heap.objs.size f cd cl
 outer:=X.stack
 stack:=envX qual scope s.heap.objs.size f cd cl::X.stack
 ex:=[]
 fn:=λ_=>false
 calm:=X.calm
 pn:=[]
 xe:=λ_ _=>False
theorem Uy{ϵ:List (δ×Obj)}{s:μ}{f c' c:δ}{name qual x y:Str}{params:Arguments}{body:List ϧ}{scope:agJ}{doc pm ctv u:ε}{u0 u1:HO}{oc:Obj}{vs:Array ε}{t':Tok}{v z:V}{j:Nat}{Q:VK}{E:ε->μ->Prop}(I:Inv X ϵ σ H s)(hf:H f=some (.frz (fnMade name qual params body scope [(y,c)] doc pm c' ctv) u0))(hc':H c'=some (.frz oc u1))(hoc:oc.data=.fields vs)(hq:vs[1]?=some (.str qual t'))(hroom:X.A.depth<recursionLimit)(hb:∀doc pm c' ctv (u:ε),bindArgs (fnX name qual params body scope [(y,c)] .none .none doc pm none (.ref c') ctv) ⟨[u],[]⟩=pure [(x,u)])(hk:scope.kind=.function)(hco:scope.isCoroutine=false)(hgen:scope.isGenerator=false)(jH:scope.names.lookup x=some .local)(hyf:scope.names.lookup y=some .free)(hnc:∀a∈scope.names,a.2≠.cell)(hfr:∀a,scope.names.lookup a=some .free->a=y)(hj:X.N[j]?=some y)(hσ:σ[j]?=some (some z))(hyc:X.env.scope.names.lookup y=some .cell)(hcc:X.env.cells.lookup y=some c)(rv:RelV v u)(h:Κ (uG X qual scope f (.ref c') [(y,c)] [x,y] s H) body {nx:=λ_ H'=>Q .non H',rt:=Q} [some v,some z] H):π (Ϧ X.prog X.w) X.A (call (.ref f) [u]) (EP X ϵ σ Q) E s:=by
 have e0:=I.env0;obtain⟨ef,_⟩:=(I.hok f _ hf:Φ X.prog X.w H s.heap f (.frz _ u0));obtain⟨ec,_⟩:=(I.hok c' _ hc':Φ X.prog X.w H s.heap c' (.frz oc u1));have hcd:s.heap.CodeRec (.ref c') qual:=⟨c',oc,vs,t',rfl,ec,hoc,hq⟩;have hxy:x≠y:=λe=>by rw[e,hyf]at jH;cases jH
 obtain⟨m,hm,hl⟩:=id I.loc;obtain⟨uz,rz,lk⟩:=hl j y z hj hσ (.inr (.inl hyc));obtain⟨K6⟩:Nonempty (s.heap.IsCell c (some uz)):=by
  obtain⟨k,_⟩|⟨_,c2,e,q⟩:=lk
  .rw[show X.env.kindOf y=X.env.scope.names.lookup y from rfl,hyc]at k;cases k
  .rw[hcc]at e;cases e;exact⟨q⟩
 refine wpAny_call (aiS (codeAny_call_def (R:=λr s'=>match r with|.ok (.ret u)=>CE X.stack X.prog X.w H s Q u s'|.ok _=>False|.error _=>False) (fd:=fnX name qual params body scope [(y,c)] .none .none doc pm none (.ref c') ctv) (body:=body) (binds:=[(x,u)]) hroom ef rfl I.nolimit hcd rfl (.of_eq (hb doc pm c' ctv u)) hnc (λa ha=>by cases adY.mp ha;exact jH) (λh₁ hns hk₁=>?_) hco hgen hk) λr s' hq=>?_)
 .have I1:Inv (uG X qual scope f (.ref c') [(y,c)] [x,y] s H) [] [some v,some z] H {s with heap:=h₁,toks:=s.toks+[(x,u)].length}:=by
   have noA:∀b:δ,b∉(uG X qual scope f (.ref c') [(y,c)] [x,y] s H).ex:=λb z=>absurd (show b∈([]:List δ)from z) (by simp)
   refine⟨⟨e0.mod,hk,rfl,rfl,ϭ _,λa b d h1 h2=>?_,λa ha=>?_,λa d h1=>(by cases h1),I.ok.hd,Around.frames_deeper e0.frames,.inr ⟨rfl,rfl⟩,λb z=>absurd z (noA b),e0.bs,e0.bsz,λb _ _=>noA b,λb z=>absurd z (noA b),e0.funs,e0.frf⟩,
    rfl,e0.bare,Un.kept hk₁,⟨_,hns,λi a b h1 h2 h3=>?_⟩,λa d h1=>?_,e0.hok.fresh (ϭ _),λa d h1=>?_,λp hp=>absurd (show p∈([]:List (δ×Obj))from hp) (by simp),e0.hok.kept hk₁,rfl⟩
   .have h1:([(y,c)]:List (Str×δ)).lookup a=some d:=h1;have h2:([(y,c)]:List (Str×δ)).lookup b=some d:=h2;have e1:=PySem.mem_of_lookup h1;have e2:=PySem.mem_of_lookup h2;rw[adY]at e1 e2;cases e1;cases e2;rfl
   .have ha:scope.names.lookup a=some .cell\/scope.names.lookup a=some .free:=ha;obtain ha|ha:=ha
    .exact absurd rfl (hnc _ (PySem.mem_of_lookup ha))
    .cases hfr a ha;exact⟨c,by show([(y,c)]:List (Str×δ)).lookup y=some c;simp[agW]⟩
   .match i,h1,h2 with
    |0,h1,h2=>
     cases h1;cases h2;exact⟨u,rv,.inl ⟨jH,by simp[agW]⟩⟩
    |1,h1,h2=>
     cases h1;cases h2;exact⟨uz,rz,.inr ⟨.inr hyf,c,by show([(y,c)]:List (Str×δ)).lookup y=some c;simp[agW],K6.keeps hk₁⟩⟩
    |i+2,h1,h2=>simp at h1
   .have e1:=PySem.mem_of_lookup (show([(y,c)]:List (Str×δ)).lookup a=some d from h1);rw[adY]at e1;cases e1;exact⟨_,K6.keeps hk₁⟩
   .have e1:=PySem.mem_of_lookup (show([(y,c)]:List (Str×δ)).lookup a=some d from h1);rw[adY]at e1;cases e1;exact I.freeC y c hcc
  refine adu (h [] _ I1) (λfl s' hs=>?_) λ_ _ z=>z.elim
  have fin:∀{σ':St}{H':Hp}{v:V}{u:ε},Inv (uG X qual scope f (.ref c') [(y,c)] [x,y] s H) [] σ' H' s'->RelV v u->Q v H'->CE X.stack X.prog X.w H s Q u s':=
   λ{σ' H' v u} J rv q=>⟨v,H',J.os,J.bare,J.base,J.hok,rv,q⟩
  cases fl with
  |ret u=>
   obtain⟨v,σ',H',J,rv,q⟩:=hs;exact fin J rv q
  |next=>
   obtain⟨σ',H',J,q⟩:=hs;exact fin (v:=V.non) (u:=Value.none) J rfl q
  |brk=>
   obtain⟨_,_,_,q⟩:=hs;exact False.elim q
  |cont=>
   obtain⟨_,_,_,q⟩:=hs;exact False.elim q
 .cases r with
  |error e=>exact hq.elim
  |ok fl=>
   cases fl with
   |ret u=>exact I.after hq
   |next=>exact False.elim hq
   |brk=>exact False.elim hq
   |cont=>exact False.elim hq
end
def fY(K:Ϩ)(x:Str):δ:=((tabIn K x).getD (0,0)).1
def aP(K:Ϩ)(x:Str):δ:=((tabIn K x).getD (0,0)).2
def Eg(p:Pos)(q:Str):Array ε:= #[rawInt p.line,rawInt p.col,.str q 0]
theorem ahV(p:Pos)(q:Str):codeAmong p (Eg p q).toList=some (.str q 0):=by simp[Eg,codeAmong,rawInt]
def Ab(K:Ϩ)(x:Str):Bool:=match tabIn K x with
 |some cp=>(K.lookup cp.2).isNone
 |none=>false
theorem afM{K:Ϩ}{x:Str}(h:Ab K x=true):tabIn K x=some (fY K x,aP K x)/\K.lookup (aP K x)=none:=by
 unfold Ab at h;unfold fY aP;cases e:tabIn K x with
 |none=>rw[e]at h;cases h
 |some cp=>
  rw[e]at h;exact⟨rfl,by simpa using h⟩
structure gR(K:Ϩ)(mg:Str->Option ε)(base:ϫ)(x:Str):Prop where
 tab:tabIn K x=some (fY K x,aP K x)
 code:CodeHd base (fY K x) (aP K x)
 bm:BM mg base
 kin:K.In base
 glob:base.Ns mainGlobals mg
theorem abV{P:Ϯ}{w:Ϭ}{K:Ϩ}{mg mb:Str->Option ε}{CX:dD}{k:Nat}{fa a:δ}{fd:ahy}{x xn:Str}{sp:Sp}{s₁:μ}{vs:List ε}{ns:List Int}{ps:Array ε}(KX:K.In s₁.heap)(hns:s₁.heap.Ns mainGlobals mg)(hb:s₁.heap.Ns builtinsNs mb)(hbb:∀x:Str,x≠"__name__"->mb x=bootBuiltins x)(hlim:s₁.heap.NoLimit)(hg:s₁.gens= #[])(ha:s₁.heap.get? a=some {cls:=.type "list",data:=.seq vs.toArray})(hi:IntsAre vs ns)(hl:ns.length<=ϩ)(hr:ό cc k callerA)(hT:tabIn K xn=some (fY K xn,aP K xn))(hC:CodeHd s₁.heap (fY K xn) (aP K xn))(hP:s₁.heap.get? (aP K xn)=some (tabObj #[]))(Ak:K.lookup (aP K xn)=none)(hB:BM mg s₁.heap)(F:∀base:ϫ,K.In base->base.Ns mainGlobals mg->gR K mg base xn->cL P w K mg base CX cc k fa fd [x] sp)(hbind:∀(s:μ)(u:ε),BindsTo s fd ⟨[u],[]⟩ [(x,u)])(hsp:∀H:Hp,η K H a (ns.map V.int)->H (aP K xn)=some (.tbl ps)->sp [.ref a] H (λv _=>v=.bl true) λ_ _ _=>False)(hCX:∀H e s',CX [] H s₁ (λ_ _ _=>False) e s'->False):codeAny (Ϧ P w) callerA (.call (.ref fa) ⟨[.ref a],[]⟩) (λr s'=>r=.ok (.ret (.bool true))/\OldK s₁.heap s'.heap/\s'.os=s₁.os/\AllBare s'.gens) s₁:=by
 have rv:=Ks hi;have lenV:=hi.length;generalize hpp:aP K xn=pt at hC hP Ak hsp;have hpa:pt≠a:=λz=>by rw[z,ha]at hP;cases hP
 have core:∀H:Hp,η K H a (ns.map V.int)->H pt=some (.tbl ps)->Ϟ P w H s₁.heap->(∀b,H b=none\/b=a\/b=pt)->(∀b,H b=none\/K.lookup b=none)->(∀u,H a=some u->∃o v,u=.frz o v)->
   codeAny (Ϧ P w) callerA (.call (.ref fa) ⟨[.ref a],[]⟩) (λr s'=>r=.ok (.ret (.bool true))/\OldK s₁.heap s'.heap/\s'.os=s₁.os/\AllBare s'.gens) s₁:=by
  intro H hS hH hok hA hK hfz;have base_of:∀{b:δ}{o:Obj},s₁.heap.get? b=some o->H b=none->(gm s₁.heap H).get? b=some o:=λe n=>acZ e n
  have free:∀{b:δ}{o:Obj},s₁.heap.get? b=some o->o.cls≠.type "list"->o.cls≠.none->H b=none:=λ{b o} e n1 n2=>by
   obtain z|z|z:=hA b
   .exact z
   .rw[z,ha]at e;cases e;exact absurd rfl n1
   .rw[z,hP]at e;cases e;exact absurd rfl n2
  have noA:∀{b:δ}{o:Obj}{es:Array DictEntry}{ep:Nat},s₁.heap.get? b=some o->o.data=.dict es ep->H b=none:=λ{b o es ep} e d=>by
   obtain z|z|z:=hA b
   .exact z
   .rw[z,ha]at e;cases e;have d':Data.seq vs.toArray _=Data.dict es ep:=d;cases d'
   .rw[z,hP]at e;cases e;have d':Data.fields #[]=Data.dict es ep:=d;cases d'
  have nsK:∀{b:δ}{m:Str->Option ε},s₁.heap.Ns b m->(gm s₁.heap H).Ns b m:=λ{b m} ⟨o,es,ep,e,d,r⟩=>⟨o,es,ep,base_of e (noA e d),d,r⟩;have hKb:K.In (gm s₁.heap H):=λb o e=>base_of (KX b o e) (by
   obtain z|z:=hK b
   .exact z
   .rw[z]at e;cases e)
  have hM:Mod K mg (gm s₁.heap H):=⟨hKb,nsK hns,⟨mb,nsK hb,hbb⟩,let⟨mc,h1,h2⟩:=hlim;⟨mc,nsK h1,h2⟩⟩;have hN:gR K mg (gm s₁.heap H) xn:=by
   refine⟨hT,?_,?_,hKb,nsK hns⟩
   .rw[hpp];obtain⟨o,vs,file,tf,flags,tg,inF,text,tt,e1,r1,r⟩:=hC;exact⟨o,vs,file,tf,flags,tg,inF,text,tt,base_of e1 (free e1 (by rw[r1];decide) (by rw[r1];decide)),r1,r⟩
   .obtain⟨bm,ob,b1,b2,b3,b4,r⟩:=hB;exact⟨bm,ob,b1,b2,base_of b3 (free b3 (by rw[b4];decide) (by rw[b4];decide)),b4,r⟩
  have e0:lD P w K mg (gm s₁.heap H) callerA [] s₁ H:=⟨rfl,hM,λb o e=>aie e,anb (abb _ _),trivial,λb hb=>absurd (show b∈([]:List δ)from hb) (by simp),hok,.of_eq hg⟩;refine aiS ((F _ hKb (nsK hns) hN).run callerA [] s₁ H ⟨[.ref a],[]⟩ [.ref a] [.ref a] _ _ hr e0 (hbind s₁ (.ref a)) (.cons rfl .nil) (hsp H hS hH)) λr s' h=>?_
  cases r with
  |error e=>exact(hCX H e s' h).elim
  |ok fl=>
   cases fl with
   |next=>exact False.elim h
   |brk=>exact False.elim h
   |cont=>exact False.elim h
   |ret u=>
    obtain⟨v,H',os,bare,un,hok',r',q⟩:=h;have q':v=.bl true:=q;subst q';obtain rfl:u=Value.bool true:=r';obtain⟨more,hm⟩:=un.tbls pt ps hH;obtain⟨qs,eq,_⟩:=(hok' pt _ hm:Φ P w H' s'.heap pt (.tbl (ps++more)));have all:∀b o,s₁.heap.get? b=some o->asItWas s₁.heap s'.heap b o:=λb o e=>by
     obtain z|z|z:=hA b
     .exact .inl (un.keep b o e z (by intro z;exact absurd (show b∈([]:List δ)from z) (by simp)) (by simp))
     .cases e3:H b with
      |none=>exact .inl (un.keep b o e e3 (by intro z;exact absurd (show b∈([]:List δ)from z) (by simp)) (by simp))
      |some u=>
       obtain⟨ob,v,rfl⟩:=hfz u (by rw[<-z];exact e3);have z2:=un.frzs b ob _ e3;obtain⟨e1,_⟩:=(hok b _ e3:Φ P w H s₁.heap b (.frz ob v));obtain⟨e2,_⟩:=(hok' b _ z2:Φ P w H' s'.heap b (.frz ob v));rw[e]at e1;cases e1;exact .inl e2
     .subst z;rw[hP]at e;cases e;obtain⟨o,vs,file,tf,flags,tg,inF,text,tt,e1,r1,r2,r3,_⟩:=hC;refine .inr (.inl ⟨⟨_,o,vs,e1,r1,r2,r3⟩,rfl, #[],qs,rfl,?_⟩);rw[eq];simp
    refine⟨rfl,⟨all,λb o e=>?_⟩,os,bare⟩;exact un.there b o e (by simp)
 cases hk:K.lookup a with
 |some o=>
  have e:=KX a o hk;rw[ha]at e;cases e;refine core (λb=>if b=pt then some (.tbl ps)else none) (.inr ⟨_,vs.toArray,_,hk,rfl,rfl,rfl,by rw[aaU,lenV];exact hl,by simpa using rv⟩) (if_pos rfl) (λb u z=>?_) (λb=>?_) (λb=>?_) λu z=>?_
  .by_cases hb:b=pt
   .have z':=(if_pos hb).symm.trans z;cases z';subst hb;exact⟨#[],hP,trivial,λp cv h=>by simp[codeAmong]at h⟩
   .have z':=(if_neg hb).symm.trans z;cases z'
  .by_cases hb:b=pt
   .exact .inr (.inr hb)
   .exact .inl (if_neg hb)
  .by_cases hb:b=pt
   .exact .inr (by rw[hb];exact Ak)
   .exact .inl (if_neg hb)
  .have z':=(if_neg (Ne.symm hpa)).symm.trans z;cases z'
 |none=>
  refine core (λb=>if b=pt then some (.tbl ps)else if b=a then some (.frz {cls:=.type "list",data:=.seq vs.toArray} (.lst (ns.map V.int)))else none) (.inl (.inr ⟨{cls:=.type "list",data:=.seq vs.toArray},(if_neg (Ne.symm hpa)).trans (if_pos rfl)⟩)) (if_pos rfl) (λb u z=>?_) (λb=>?_) (λb=>?_) λu z=>?_
  .by_cases hb:b=pt
   .have z':=(if_pos hb).symm.trans z;cases z';subst hb;exact⟨#[],hP,trivial,λp cv h=>by simp[codeAmong]at h⟩
   .have z':=(if_neg hb).symm.trans z;by_cases hb2:b=a
    .have z2:=(if_pos hb2).symm.trans z';cases z2;subst hb2;exact⟨ha,by rw[aaf];exact hl,vs,_,rv,ha⟩
    .have z2:=(if_neg hb2).symm.trans z';cases z2
  .by_cases hb:b=pt
   .exact .inr (.inr hb)
   .by_cases hb2:b=a
    .exact .inr (.inl hb2)
    .exact .inl (by rw[if_neg hb,if_neg hb2])
  .by_cases hb:b=pt
   .exact .inr (by rw[hb];exact Ak)
   .by_cases hb2:b=a
    .exact .inr (by rw[hb2];exact hk)
    .exact .inl (by rw[if_neg hb,if_neg hb2])
  .have z':=(if_neg (Ne.symm hpa)).symm.trans z;have z2:=(if_pos rfl).symm.trans z';cases z2;exact⟨_,_,rfl⟩
theorem adi{l:W.OpenLaw}{n k:Nat}{q:Ϯ}{loose:List Str}{XP:(Str->Option ε)->ϫ->Prop}{YP:Ϭ->ϫ->Prop}{d:DefRec}{K:Params->Ϩ}{CX:Ϭ->dD}{sp:Ϭ->Sp}{x xn:Str}{ps:Array ε}(hn:l.most=some n)(hn2:n<=ϩ)(hdf:d.params.defaults=[])(hr:ό cc k callerA)(hY:∀(w:Ϭ)(h:ϫ),YP w h->(K w.params).In h)(hrec:((recsOf q).find? (λe=>e.name==xn)).isSome=true)(htab:∀w:Ϭ,Ab (K w.params) xn=true)(F:∀(w:Ϭ)(mg:Str->Option ε)(fa:δ)(h:ϫ),(K w.params).In h->h.Ns mainGlobals mg->mg d.name=some (.ref fa)->
   ∃fd:ahy,(∀(s:μ)(u:ε),BindsTo s fd ⟨[u],[]⟩ [(x,u)])/\
    ∀base:ϫ,(K w.params).In base->base.Ns mainGlobals mg->gR (K w.params) mg base xn->cL l.prog w (K w.params) mg base (CX w) cc k fa fd [x] (sp w))(hsp:∀(w:Ϭ)(H:Hp)(a:δ)(ns:List Int),ns.length<=n->η (K w.params) H a (ns.map V.int)->H (aP (K w.params) xn)=some (.tbl ps)->sp w [.ref a] H (λv _=>v=.bl true) λ_ _ _=>False)(hCX:∀(w:Ϭ)(H:Hp)(s:μ)(e:ε)(s':μ),CX w [] H s (λ_ _ _=>False) e s'->False):W.WalkO q loose XP YP l.row.toRowW d [] (λf vs=>PySem.call f vs):=by
 refine Att.af8 hn hdf λw s₀ s₁ mg mb fa o pm cd doc a vs ns G Y ho hd hcd hmg hobj hints hlen hg=>?_
 have KX:=hY w _ Y;obtain⟨fd,hb,hF⟩:=F w mg fa _ KX G.T.g hmg;obtain⟨t1,t2⟩:=afM (htab w);obtain⟨d',hd'⟩:=amY.mp hrec;obtain⟨hC,hP⟩:=tab_of G.T KX hd' t1;exact abV KX G.T.g G.T.b G.T.builtins G.T.nolimit hg hobj hints (aft hlen hn2) hr t1 hC hP t2 G.T.bmain hF hb (λH hS hH=>hsp w H a ns hlen hS hH) λH e s'=>hCX w H s₁ e s'
def Ss(K:Ϩ)(x:Str)(ps:Array ε):Sp:=λvs H Q _=>∃(a:δ)(ns:List Int),vs=[.ref a]/\η K H a (ns.map V.int)/\ns.length<=63/\H (aP K x)=some (.tbl ps)/\∀H',Q (.bl true) H'
theorem aa0{P:Ϯ}{w:Ϭ}{K:Ϩ}{mg:Str->Option ε}{base:ϫ}{x:Str}{st:ϧ}{ps N:List Str}{k:Nat}{sp:Sp}(F:∃f fd,cA K x x st f fd/\mg x=some (.ref f))(hT:gR K mg base x)(S:Α N ps (ρ st))(hb:∀(kV doc pm:ε)(an:Option δ)(Ϻ ct:ε)(us:List ε),us.length=ps.length->bindArgs (anZ x x (iI st) (ϗ st) (ρ st) .none kV doc pm an Ϻ ct) ⟨us,[]⟩=pure (ps.zip us))(len:∀vs H Q E,sp vs H Q E->vs.length=ps.length)(body:∀(f:δ)(A:ϰ)(outer:List Env)(s:μ)(H:Hp)(vs:List V)(Q:VK)(E:XK),ό cc k (A.deeper (envOfC x (ρ st) s.heap.objs.size f (.ref (fY K x))))->sp vs H Q E->
   Κ (dW cc P w K mg base N x (ρ st) f (.ref (fY K x)) A outer s H E) (ϗ st) {nx:=λ_ H'=>Q .non H',rt:=Q} (start N vs) H):Def P w K mg base cc (k+1) x ps sp:=by
 obtain⟨f,fd,F,hm⟩:=F;refine⟨f,fd,hm,F.kp,F.binds hb,?_⟩;obtain⟨oc,od,kV,doc,pm,an,Ϻ,ct,osl,rfl,lk,hcd⟩:=id F.ex;have e:=hT.tab;unfold tabIn at e;split at e
 .rename_i f' hf;have hm':=aki hT.kin hT.glob hf;rw[hm]at hm';cases hm';simp only[lk]at e;cases Ϻ with
  |ref c=>
   have ec:c=fY K x:=by
    dsimp only at e;split at e
    .split at e
     .have :=Option.some.inj e;exact congrArg Prod.fst this
     .cases e
    .cases e
   subst ec;exact HQ lk hcd S len λA outer s H vs Q E hr h=>⟨_,oR,body f A outer s H vs Q E hr h⟩
  |_=>cases e
 .cases e
theorem Vp{X:Cx}{H:Hp}{Q:VK}{z z':Str}(q:Q (.bl (decide (z'.cps.toList<z.cps.toList))) H):OP X (adh .Gt) (.str z) (.str z') H Q:=by
 refine aX (r:=λx y H Q=>∃i j,x=.str i/\y=.str j/\Q (.bl (decide (j.cps.toList<i.cps.toList))) H) ?_ ⟨z,z',rfl,rfl,q⟩;intro ϵ s σ H x y v u Q I rx ry h;obtain⟨i,j,rfl,rfl,q⟩:=h;obtain⟨t,rfl⟩:=rx;obtain⟨t',rfl⟩:=ry;exact P.gt_str (ϛ I q rfl)
theorem Φ.afs{P:Ϯ}{w:Ϭ}{H H':Hp}{h:ϫ}{a:δ}{o:HO}(x:Φ P w H h a o)(ho:∀b,H b=some (.own a)->H' b=some (.own a))(ht:∀b xs,H b=some (.tup xs)->H' b=some (.tup xs))(hz:∀b ob u vs,H b=some (.frz ob u)->ob.data=.fields vs->H' b=some (.frz ob u)):Φ P w H' h a o:=by
 induction o with
 |lst xs=>obtain⟨z,ϸ,n,r,e⟩:=x;exact⟨z,ϸ,n,r,e⟩
 |tup xs=>obtain⟨z,ϸ,r,ob,e,c⟩:=x;exact⟨z,ϸ,r,ob,e,c⟩
 |dK Ϸ=>obtain⟨z,y,vs,r,ob,es,ep,e,c⟩:=x;exact⟨z,y,vs,r,ob,es,ep,e,c⟩
 |dT Ϸ=>
  obtain⟨z,y,xs,r,ob,es,ep,e,c⟩:=x;exact⟨z,y,xs,Paired.mapP r λp q z=>⟨z.1,ht _ _ z.2.1,z.2.2⟩,ob,es,ep,e,c⟩
 |set S n=>obtain⟨ob,es,ep,t,e,c⟩:=x;exact⟨ob,es,ep,t,e,c⟩
 |ins C dx fs=>
  obtain⟨d,z,ne,e,mA,⟨od,es,ep,e2,c⟩,r⟩:=x;exact⟨ho _ d,z,ne,e,mA,⟨od,es,ep,e2,c⟩,r⟩
 |own y=>obtain⟨ob,e⟩:=x;exact⟨ob,e⟩
 |xd fs=>obtain⟨mA,⟨od,es,ep,e,c⟩,r⟩:=x;exact⟨mA,⟨od,es,ep,e,c⟩,r⟩
 |rng lo hi=>obtain⟨t,u,v,e⟩:=x;exact⟨t,u,v,e⟩
 |frz ob u ih=>obtain⟨e,q⟩:=x;exact⟨e,ih q⟩
 |tbl ps=>
  obtain⟨qs,e,tr,z⟩:=x;refine⟨qs,e,tr,λp cv hc=>?_⟩;obtain⟨c,oc,u,q,t,vs,t',e1,e2,e3,e4,e5⟩:=z p cv hc;exact⟨c,oc,u,q,t,vs,t',e1,e2,hz _ _ _ _ e3 e4,e4,e5⟩
 |met f y=>
  have e:h.get? a=some (anB (.ref f) (.ref y)):=x;show h.get? a=some (anB (.ref f) (.ref y));exact e
 |ext φ=>obtain⟨p,⟨o,e⟩,st⟩:=x;exact⟨p,⟨o,e⟩,st⟩
section
variable{X:Cx}{ϵ:List (δ×Obj)}{σ:St}{H:Hp}{s:μ}{d:δ}
theorem Inv.Vr{Ϸ:List (Key×V)}(I:Inv X ϵ σ H s)(hn:H d=some (.dK Ϸ)):∃o,Inv X ϵ σ (upd H d (.frz o (.dK Ϸ))) s:=by
 obtain⟨z,lo,vs,kh,hdo⟩:=tK I.hok hn;obtain⟨o,es,ep,ho,_⟩:=id hdo;refine⟨o,?_⟩;have ne:∀b u,H b=some u->(∀ks,u≠.dK ks)->b≠d:=λb u e h z=>by rw[z,hn]at e;cases e;exact h _ rfl
 have st:∀b u,Φ X.prog X.w H s.heap b u->Φ X.prog X.w (upd H d (.frz o (.dK Ϸ))) s.heap b u:=λb u q=>q.stay (λ_ _ _ r=>r) (λc r=>by rw[θ (ne _ _ r nofun)];exact r) (λc xs r=>by rw[θ (ne _ _ r nofun)];exact r) λc ob v r=>by rw[θ (ne _ _ r nofun)];exact r
 have:=I.un (t':=s.toks) (h':=s.heap) (H':=upd H d (.frz o (.dK Ϸ))) ⟨λb o e _ _ _=>e,λb o e _ _ _=>⟨o.slots,e⟩,λb o _ n _=>by rw[θ (λz=>by rw[z,hn]at n;cases n)];exact n,λb o e _=>⟨o,e⟩,λb xs q=>by rw[θ (ne _ _ q nofun)];exact q,λb o u q=>by rw[θ (ne _ _ q nofun)];exact q,λb ps q=>⟨#[],by rw[θ (ne _ _ q nofun),q];simp⟩⟩ λb u q=>?_
 .exact this
 .by_cases z:b=d
  .subst z;rw[υ]at q;cases q;exact⟨ho,st _ _ (I.hok _ _ hn)⟩
  .rw[θ z]at q;exact st b u (I.hok b u q)
theorem Inv.Th{Ϸ:List (Key×V)}{o:Obj}(I:Inv X ϵ σ H s)(hn:H d=some (.frz o (.dK Ϸ)))(h0:∀o u,¬X.H₀ d=some (.frz o u)):Inv X ϵ σ (upd H d (.dK Ϸ)) s:=by
 have ne:∀b u,H b=some u->(∀o v,u≠.frz o v)->b≠d:=λb u e h z=>by rw[z,hn]at e;cases e;exact h _ _ rfl
 have nn:∀b,H b=none->b≠d:=λb e z=>by rw[z,hn]at e;cases e
 refine⟨I.ok,I.os,I.bare,⟨I.base.keep,I.base.slot,λb o e n hx=>?_,I.base.there,λb xs e=>?_,λb o u e=>?_,λb ps e=>?_⟩,I.loc,I.cell,?_,λx c e=>?_,λp hp=>?_,λb u e=>?_,I.len⟩
 .have :=I.base.free b o e n hx;rw[θ (nn b this)];exact this
 .have :=I.base.tups b xs e;rw[θ (ne _ _ this (λ_ _ z=>by cases z))];exact this
 .rw[θ (λz=>h0 o u (by rw[<-z];exact e))];exact I.base.frzs b o u e
 .obtain⟨more,q⟩:=I.base.tbls b ps e;exact⟨more,by rw[θ (ne _ _ q (λ_ _ z=>by cases z))];exact q⟩
 .rw[θ (nn _ I.free)];exact I.free
 .rw[θ (nn _ (I.freeC x c e))];exact I.freeC x c e
 .obtain⟨p1,p2,p3⟩:=I.pin p hp;exact⟨p1,by rw[θ (nn _ p2)];exact p2,p3⟩
 .by_cases z:b=d
  .subst z;rw[υ]at e;cases e;obtain⟨_,q⟩:=(I.hok b _ hn:Φ X.prog X.w H s.heap b (.frz o (.dK Ϸ)));obtain⟨z,y,vs,r,ob,es,ep,e,c⟩:=q;exact⟨z,y,vs,r,ob,es,ep,e,c⟩
  .rw[θ z]at e;have k1:∀c,H c=some (.own b)->(upd H d (.dK Ϸ)) c=some (.own b):=λc q=>by rw[θ (ne _ _ q (λ_ _ z=>by cases z))];exact q
   have k2:∀c xs,H c=some (.tup xs)->(upd H d (.dK Ϸ)) c=some (.tup xs):=λc xs q=>by rw[θ (ne _ _ q (λ_ _ z=>by cases z))];exact q
   have k3:∀c ob v vs,H c=some (.frz ob v)->ob.data=.fields vs->(upd H d (.dK Ϸ)) c=some (.frz ob v):=λc ob v vs q hf=>by
    have z2:c≠d:=λz2=>by
     rw[z2,hn]at q;obtain⟨ho,_,_,_,_,ob2,es,ep,eb,_,hd,_⟩:=(I.hok d _ hn:Φ X.prog X.w H s.heap d (.frz o (.dK Ϸ)));rw[ho]at eb;have e1:ob2=o:=(Option.some.inj eb).symm;have e2:ob=o:=by injection q with q;injection q with q1 q2;exact q1.symm
     rw[e1, <-e2,hf]at hd;cases hd
    rw[θ z2];exact q
   exact Φ.afs (H':=upd H d (.dK Ϸ)) (I.hok b u e) k1 k2 k3
theorem ai1{body:List ϧ}{D:Ends}{Ϸ:List (Key×V)}(hn:H d=some (.dK Ϸ))(h:∀o,Κ X body D σ (upd H d (.frz o (.dK Ϸ)))):Κ X body D σ H:=λϵ s I=>by
 obtain⟨o,I2⟩:=I.Vr hn;exact h o ϵ s I2
theorem VF{body:List ϧ}{D:Ends}{Ϸ:List (Key×V)}{o:Obj}(hn:H d=some (.frz o (.dK Ϸ)))(h0:∀o u,¬X.H₀ d=some (.frz o u))(h:Κ X body D σ (upd H d (.dK Ϸ))):Κ X body D σ H:=λϵ s I=>h ϵ s (I.Th hn h0)
end
def iz(keep:Nat->Bool)(n:Nat):List Nat:=(ady n).filter keep
theorem T8(keep:Nat->Bool)(n:Nat):iz keep (n+1)=iz keep n++(if keep n=true then[n]else[]):=by
 unfold iz;rw[aoE,anp];by_cases h:keep n=true
 .simp[h]
 .have h':keep n=false:=by simpa using h
  simp[h']
theorem adg(keep:Nat->Bool)(n:Nat):(iz keep n).length<=n:=by
 have:=aiz keep (ady n);rw[af7]at this;exact this
section
variable{X:Cx}{e c:ν}{σ σ':St}{H:Hp}{Q:VK}{D:Ends}{pos:Pos}{tg elt:ν}{scope:agJ}
def Pa(X:Cx)(N':List Str)(scope:agJ)(tg elt c:ν)(σ':St)(H1:Hp)(Q:VK)(xs:List V):Prop:=
 ∃(Tp:St->Prop)(keep:Nat->Bool)(Pi:δ->Nat->V->Hp->Prop),Tp σ'/\
  (∀E i v H2 H3 ys,H2 E=some (.lst ys)->(∀b o,b≠E->H2 b=some o->H3 b=some o)->Pi E i v H2->Pi E i v H3)/\
  (∀(fp:List δ)(E C:δ)(s3:μ)(H0:Hp)(i:Nat)(τ:St)(x:V)(H2:Hp),H1 E=none->xs[i]?=some x->Tp τ->ζ H1 H2->(∃ys,H2 E=some (.lst ys))->
   EG (aR X N' scope (Ϗ scope X.env) C s3 H0 fp) tg x τ H2 λτ2 H3=>ET (aR X N' scope (Ϗ scope X.env) C s3 H0 fp) c τ2 H3 λk H4=>k=keep i/\Tp τ2/\ζ H2 H4/\(k=true->EV (aR X N' scope (Ϗ scope X.env) C s3 H0 fp) elt τ2 H4 λv H5=>Pi E i v H5/\ζ H4 H5))/\
  ∀(E:δ)(H2:Hp)(us:List V),H1 E=none->H2 E=some (.lst us)->Vl.ω (λu i=>Pi E i u H2) us (iz keep xs.length)->ζ H1 H2->Q (.ref E) H2
theorem Yh{N':List Str}{l:δ}{xs:List V}(hn:xs.length<=ϩ)(hl:η X.K H l xs)(h:Pa X N' scope tg elt c σ' H Q xs):∀(fp:List δ)(E C:δ)(s3:μ),H E=none->fL X (aR X N' scope (Ϗ scope X.env) C s3 (upd H E (.lst [])) fp) tg elt [c] (ig X.K l) E σ' H (λH'=>Q (.ref E) H'):=by
 intro fp E C s3 hE;obtain⟨Tp,keep,Pi,t0,mono,step,fin⟩:=h;refine⟨λi m τ H1=>m=xs.length-i/\i<=xs.length/\ζ H H1/\Tp τ/\∃us,H1 E=some (.lst us)/\Vl.ω (λu i=>Pi E i u H1) us (iz keep i),⟨xs.length,by simp,afS _,ζ.upd hE,t0,[],υ,.nil⟩,?_⟩
 rintro i m τ H1 ⟨rfl,hi,s1,hτ,us,eE,hA⟩
 by_cases hlt:i<xs.length
 .refine .inr ⟨⟨xs,xs[i],ζ.seq s1 hl,ϳ hlt⟩,λτ' H'=>ζ H H'/\Tp τ'/\∃us,H' E=some (.lst us)/\Vl.ω (λu i=>Pi E i u H') us (iz keep (i+1)),λτ' H' ⟨a,b,d⟩=>⟨xs.length-(i+1),by omega,rfl,hlt,a,b,d⟩,λx H2 yl=>?_⟩;have hx:xs[i]?=some x:=yl.2 xs (ζ.seq s1 hl);have hH:H2=H1:=yl.1;subst hH;intro ϵ s u I r;refine χ (step fp E C s3 _ i τ x _ hE hx hτ s1 ⟨us,eE⟩ ϵ s u I r) λ_ s' ⟨τ2,H3,I3,q3⟩=>⟨τ2,H3,I3,Xe ?_⟩
  refine λϵ s I=>χ (q3 ϵ s I) λk s' ⟨H4,I4,hk,t2,s2,q⟩=>⟨H4,I4,?_⟩
  subst hk;have eK:=T8 keep i;have hkl:=adg keep i;have yj:=hA.len;by_cases hkp:keep i=true
  .rw[if_pos hkp];rw[if_pos hkp]at eK;refine ϡ (q hkp) λv H5 ⟨pv,s5⟩=>⟨us,s5 _ _ (s2 _ _ eE),by omega,?_⟩
   have up:∀b o,b≠E->H5 b=some o->(upd H5 E (.lst (us++[v]))) b=some o:=λb o hb e=>by rw[θ hb];exact e
   refine⟨λb o e=>?_,t2,us++[v],υ,?_⟩
   .rw[θ (Ι e hE)];exact s5 _ _ (s2 _ _ (s1 _ _ e))
   .rw[eK];refine Vl.ω.app (hA.imp λu j p=>?_) (.cons (mono E i v H5 _ us (s5 _ _ (s2 _ _ eE)) up pv) .nil);exact mono E j u H5 _ us (s5 _ _ (s2 _ _ eE)) up (mono E j u H2 _ us eE (λb o _ e=>s5 _ _ (s2 _ _ e)) p)
  .rw[if_neg hkp];rw[if_neg hkp,List.append_nil]at eK;refine⟨s1.trans s2,t2,us,s2 _ _ eE,?_⟩;rw[eK];exact hA.imp λu j p=>mono E j u H2 _ us eE (λb o _ e=>s2 _ _ e) p
 .have e:i=xs.length:=by omega
  subst e;exact .inl ⟨⟨xs,ζ.seq s1 hl,ϭ _⟩,fin E H1 us hE eE hA s1⟩
theorem acd(N':List Str)(hσ:bf N' X.N σ scope=σ')(hc:X.calm=true)(S:bu X.env scope)(hs:∀x,foldedSetIterable e X.env x=pure x)(h:EV X e σ H λv H1=>∃l xs,v=.ref l/\η X.K H1 l xs/\xs.length<=ϩ/\Pa X N' scope tg elt c σ' H1 Q xs):EV X (.ListComp elt [⟨tg,e,[c],0⟩] scope pos) σ H Q:=by
 refine pB (N':=N') hc S hs (qI (ϡ h λv H1 q=>?_));obtain⟨l,xs,rfl,hl,hz,hw⟩:=q;refine⟨l,rfl,⟨xs,hl⟩,?_⟩;rw[hσ];exact Yh hz hl hw
end
section
variable{X:Cx}{D:Ends}{σ:St}{H:Hp}{rest:List alO}{suite:List ϧ}{b₀:ϧ}{pos np:Pos}{x n:Str}{c:ε}{C:δ}{d:Option δ×Bool}{i:Nat}
end
end L2
namespace L2
open PySem PySem.Spec PyProof.Rows
section
variable{X:Cx}{a b e:ν}{σ σ':St}{H:Hp}{Q:VK}{D:Ends}{pos spos py p p':Pos}{tg elt iter:ν}{scope:agJ}{Kx:St->XK}{y:Str}{j:Nat}
end
abbrev DX(K:Ϩ)(mg:Str->Option ε)(x:Str)(st:ϧ):Prop:=∃f fd,cA K x x st f fd/\mg x=some (.ref f)
section
variable{K:Ϩ}{h:ϫ}{mg:Str->Option ε}(X:K.In h)(G:h.Ns mainGlobals mg){x y m qual fld:Str}{st:ϧ}{f C D:δ}{od an:Option δ}{sl:Array (Option ε)}{oc kV dc pm cd ct:ε}{t:Tok}
abbrev bC(K:Ϩ)(x:Str)(C:δ):Prop:=aoJ K mainGlobals x=some (some (.ref C))
abbrev nW(K:Ϩ)(m qual:Str)(st:ϧ)(f:δ)(od an:Option δ)(sl:Array (Option ε))(oc kV dc pm cd ct:ε):Prop:=K.lookup f=some ⟨oc,od,.func (anZ m qual (iI st) (ϗ st) (ρ st) .none kV dc pm an cd ct),sl⟩
include X G
theorem adB(a:bC K x f)(l:nW K x x st f od an sl oc kV dc pm cd ct)(c:anE K cd x=true)(k:amG K (.ref f)=true):DX K mg x st:=⟨_,_,rA (st:=st) l c k,aki X G a⟩
theorem Vq{z:Str}(g:aoJ K mainGlobals x=some (some (.str z t))):Gc mg x (.str z):=⟨_,aki X G g,_,rfl⟩
theorem Wg{z:Int}(g:aoJ K mainGlobals x=some (some (.int z t))):Gc mg x (.int z):=⟨_,aki X G g,_,rfl⟩
theorem T3(z:aoJ K mainGlobals x=some none):mg x=none:=W.mg_none_of X G z
theorem Yj(q:bC K x C):mg x=some (.ref (ι mg x)):=by have e:=aki X G q;rw[bY e];exact e
theorem aec(q:bC K x C)(y:aoT K C dw "ValueError.__new__"=true):pF K mg x:=aeP (aki X G q) y
theorem aja{b:Bool}(q:bC K x C)(r:bC K y D)(v:W.exmOne K (.ref C) (.ref D)=some b):W.exmOne K (.ref (ι mg x)) (.ref (ι mg y))=some b:=by
 rw[bY (aki X G q),bY (aki X G r)];exact v
theorem agw(q:bC K x C)(a1:anv K C (.type "type")=true)(a2:anw K (.ref C) (.type "type") "__init__"=some (.val (.builtin "ValueError.__init__")))(a3:ahA K (.ref C) "__getattribute__"=some (some (.builtin "type.__getattribute__")))(a4:anD K (.ref C)=some (.type "type"))(a5:anc K C (.type "BaseException")=some true):Fe K mg x:=aeF (aki X G q) a1 a2 a3 a4 a5
theorem adK(q:bC K x C)(r:bC K y D)(a1:il K C D=true)(a2:anD K (.ref C)=some (.type "type"))(a3:al7 K C=true)(a4:aez K (.ref C) "__getattribute__"=some (some (.builtin "BaseException.__getattribute__")))(a5:aez K (.ref C) "__getattr__"=some none)(a6:aez K (.ref C) "__class__"=some (some (.builtin "object.__class__")))(a7:ahA K (.builtin "object.__class__") "__get__"=some (some (.builtin "getset_descriptor.__get__")))(a8:anN K (.builtin "object.__class__")=some true)(a9:anc K C (.type "object")=some true)(a10:anc K C (.type "BaseException")=some true):XC K mg y x:=XH (aki X G q) (aki X G r) a1 a2 a3 a4 a5 a6 a7 a8 a9 a10
theorem V5(q:bC K x C)(r:bC K y D)(a:aez K (.ref C) "__init__"=some (some (.ref f)))(l:nW K "__init__" qual st f od an sl oc kV dc pm cd ct)(c:anE K cd qual=true)(k:amG K (.ref f)=true)(a1:my K C f=true)(a2:aoc K (.ref f)=true)(a3:aez K (.ref C) "__setattr__"=some (some (.builtin "object.__setattr__")))(a4:ani K C fld=some none)(a5:il K C D=true):pA K mg y x qual fld st:=Xf (aki X G q) (aki X G r) (rA (st:=st) l c k) a1 a2 a3 a4 a5
theorem aic(q:bC K x C)(a:aez K (.ref C) fld=some none):aez K (.ref (ι mg x)) fld=some none:=by rw[bY (aki X G q)];exact a
theorem T6(q:bC K x C)(a:aez K (.ref C) fld=some none):Λ K (ι mg x) fld:=by rw[bY (aki X G q)];exact a
theorem t_k(q:bC K x C)(a:anh K C Str.empty=true)(b:al7 K C=true)(c:anC K C=true)(d:aez K (.ref C) "__setattr__"=some (some (.builtin "object.__setattr__"))):ϔ K (ι mg x):=Pu (aki X G q) a b c d
theorem ahl(q:bC K x C)(a:aez K (.ref C) "__init__"=some (some (.ref f)))(l:nW K "__init__" qual st f od an sl oc kV dc pm cd ct)(c:anE K cd qual=true)(k:amG K (.ref f)=true)(b:aoc K (.ref f)=true)(d:aoz K C=true)(e:amG K (.ref C)=true):OI K (ι mg x) qual st:=ab2 (aki X G q) (rA (st:=st) l c k) a b d e
theorem agt(q:bC K x C)(a:aez K (.ref C) m=some (some (.ref f)))(l:nW K m qual st f od an sl oc kV dc pm cd ct)(c:anE K cd qual=true)(k:amG K (.ref f)=true)(b:aoc K (.ref f)=true):OM K (ι mg x) m qual st:=ahT (aki X G q) (rA (st:=st) l c k) a b
theorem aj0(q:bC K x C)(a:anw K (.ref C) (.type "type") m=some (.val (.ref f)))(l:nW K m qual st f od an sl oc kV dc pm cd ct)(c:anE K cd qual=true)(k:amG K (.ref f)=true)(b:anv K C (.type "type")=true)(d:ahA K (.ref C) "__getattribute__"=some (some (.builtin "type.__getattribute__"))):OB K (ι mg x) m qual st:=ZC (aki X G q) (rA (st:=st) l c k) a b d
theorem aif(q:bC K x C)(r:bC K y D)(a:anh K C Str.empty=true)(b:al7 K C=true)(c:anC K C=true)(d:aez K (.ref C) "__setattr__"=some (some (.builtin "object.__setattr__")))(a1:aez K (.ref C) "__class__"=some (some (.builtin "object.__class__")))(a2:ahA K (.builtin "object.__class__") "__get__"=some (some (.builtin "getset_descriptor.__get__")))(a3:anN K (.builtin "object.__class__")=some true)(a4:anc K C (.type "object")=some true)(u:aoe K (.ref C) (.ref D)=some true):OT K (ι mg x)/\aoe K (.ref (ι mg x)) (.ref (ι mg y))=some true:=by
 refine⟨acY (aki X G q) (Pu (aki X G q) a b c d) a1 a2 a3 a4,?_⟩;rw[bY (aki X G q),bY (aki X G r)];exact u
omit X G
inductive iQ (mg:Str->Option ε):List δ->List δ->Prop
 |nil:iQ mg [] []
 |cons {x:Str} {C:δ} {l m:List δ} (h:mg x=some (.ref C)) (t:iQ mg l m):iQ mg (ι mg x::l) (C::m)
theorem iQ.eq{l m:List δ}(h:iQ mg l m):l=m:=by
 induction h with
 |nil=>rfl
 |cons h _ ih=>rw[bY h,ih]
include X G
theorem iD{l m:List δ}(q:bC K x C)(t:iQ mg l m):iQ mg (ι mg x::l) (C::m):=.cons (aki X G q) t
omit X G
theorem aau{l m:List δ}(t:iQ mg l m)(d:m.Nodup):l.Nodup:=by rw[t.eq];exact d
end
section
variable{X:Cx}{H:Hp}{Q:VK}{z y:Str}
end
end L2
namespace L2
open PySem PySem.Spec PyProof.Rows PySem.W
def nR(k:Int):ε->Bool
 |.int i _=>i==k
 |_=>false
section
variable{X:Cx}{H:Hp}{Q:VK}
end
end L2
namespace L2
open PySem PySem.Spec PyProof.Rows
section
variable{prog:Ϯ}{w:Ϭ}{A:ϰ}{E:ε->μ->Prop}{s:μ}
end
section
variable{prog:Ϯ}{w:Ϭ}{A:ϰ}{E:ε->μ->Prop}{s:μ}{ns:List Int}{us:Array ε}
end
end L2
namespace L2
open PySem PySem.Spec PyProof.Rows PySem.W
section
variable{prog:Ϯ}{w:Ϭ}{A:ϰ}{E:ε->μ->Prop}{s:μ}{S I:δ}{es:Array (Int×ε)}{ep:Nat}{t:akK}
end
section
variable{prog:Ϯ}{w:Ϭ}{A:ϰ}{E:ε->μ->Prop}{s:μ}{S I:δ}{es:Array (Int×ε)}{ep:Nat}{t:akK}
end
section
variable{X:Cx}{H:Hp}{Q:VK}{ns U:List Int}
end
end L2
namespace L2
open PySem PySem.Spec PyProof.Rows PySem.SeqAt AutoSeq1
section
variable{X:Cx}{H:Hp}{Q:VK}{σ σ':St}{D:Ends}{pos spos py:Pos}{tg elt e c:ν}{scope:agJ}{y:Str}{j:Nat}
end
end L2
set_option compiler.extract_closed false
seal L2.EV L2.ET L2.EW L2.EA L2.SX L2.Κ L2.EG L2.kW L2.EI L2.OP L2.UN L2.CL L2.IX L2.SL L2.MT L2.EJ L2.jL L2.EH
local macro_rules | `(tactic| walk_at "nm") => `(tactic| refine L2.aac (by rfl) ?_)
local macro_rules | `(tactic| walk_at "gc") => `(tactic| refine L2.ac9 (by assumption) (by rfl) ?_ (by decide))
local macro_rules | `(tactic| walk_at "ty") => `(tactic| refine L2.adV (by rfl) (by rfl) (by assumption) ?_)
local macro_rules | `(tactic| walk_at "cb") => `(tactic| refine L2.adZ (by rfl) (by rfl) (by assumption) (by rfl) (by rfl) ?_)
local macro_rules | `(tactic| walk_at "ct") => `(tactic| refine L2.aiC (by rfl) (by rfl) (by assumption) (by rfl) (by rfl) ?_)
local macro_rules | `(tactic| walk_at "xo") => `(tactic| first | exact L2.Χ | assumption | exact L2.JD rfl)
local macro_rules | `(tactic| walk_at "po") => `(tactic| first | exact L2.aaR | assumption | exact PySem.PassesOwn.never)
local macro_rules | `(tactic| walk_at "cl") => `(tactic| first
 |refine L2.YL (by assumption) (by assumption) (by first|decide|omega) (by decide) (by rfl) (by walk_at"xo") (by decide) (by rfl) (by rfl) ?_
 |refine L2.alA (by assumption) (by assumption) (by first|decide|omega) (by decide) (by rfl) (by walk_at"xo") (by decide) ?_)
local macro_rules | `(tactic| walk_at "bm") => `(tactic| first
 |refine L2.du PySem.F.plainAttrs_str PySem.F.slot_str_join PySem.F.type_str_join (h:=?_)
 |refine L2.du PySem.F.plainAttrs_str PySem.F.slot_str_index PySem.F.type_str_index (h:=?_)
 |refine L2.du PySem.F.plainAttrs_str PySem.F.slot_str_startswith PySem.F.type_str_startswith (h:=?_))
local macro_rules | `(tactic| walk_at "e") => `(tactic| first
 |((with_reducible show L2.EV _ _ _ _ _);first
  |((with_reducible show L2.EV _ (PySem.Expr.Name _ _) _ _ _);first|(walk_at"nm")|(walk_at"gc")|(walk_at"ty"))
  |(with_reducible first|refine L2.W5 ?_|refine L2.Ha ?_|refine L2.Vb ?_)
  |((with_reducible show L2.EV _ (PySem.Expr.Call _ _ _ _) _ _ _);first
   |((with_reducible show L2.EV _ (PySem.Expr.Call (PySem.Expr.Name _ _) _ _ _) _ _ _);first|(walk_at"cb")|(walk_at"ct")|(walk_at"cl"))
   |(walk_at"bm"))
  |((with_reducible show L2.EV _ (PySem.Expr.Compare _ [_] [_] _) _ _ _);refine L2.acb (by first|exact L2.Qw _ (by decide) (by decide)|rfl) ?_)
  |((with_reducible show L2.EV _ (PySem.Expr.Compare _ [_,_] [_,_] _) _ _ _);refine L2.Xc (by with_unfolding_all rfl) ?_)
  |(with_reducible first|refine L2.Yg ?_|refine L2.aaK ?_|refine L2.adG ?_)
  |((with_reducible show L2.EV _ (PySem.Expr.Subscript _ _ _) _ _ _);refine L2.Wc (λ_ _=>by rfl) ?_)
  |(with_reducible first|refine L2.N8 ?_|refine L2.ai7 ?_|refine L2.ai4 ?_|refine L2.ahF ?_|refine L2.aaX ?_|refine L2.Yw ?_|refine L2.Ky ?_|refine L2.WK ?_|refine L2.ahW ?_))
 |((with_reducible show L2.EA _ _ _ _ _);first
  |(with_reducible refine L2.eY ?_)
  |(refine L2.eQ (by rfl) ?_))
 |((with_reducible show L2.ET _ _ _ _ _);first
  |((with_reducible show L2.ET _ (PySem.Expr.Compare _ [_] [_] _) _ _ _);refine L2.Uk (by first|exact L2.Qw _ (by decide) (by decide)|rfl) ?_)
  |((with_reducible show L2.ET _ (PySem.Expr.Compare _ [_,_] [_,_] _) _ _ _);refine L2.VB (by with_unfolding_all rfl) ?_)
  |(with_reducible refine L2.V6 ?_)
  |((with_reducible show L2.ET _ (PySem.Expr.BoolOp _ _ _) _ _ _);refine L2.agF ?_)
  |((with_reducible first|show L2.ET _ (PySem.Expr.Name _ _) _ _ _|show L2.ET _ (PySem.Expr.Call _ _ _ _) _ _ _|show L2.ET _ (PySem.Expr.Subscript _ _ _) _ _ _|show L2.ET _ (PySem.Expr.Constant _ _ _) _ _ _);refine L2.Mh (λ_=>by rfl) ?_))
 |((with_reducible show L2.EW _ _ _ _ _);with_reducible first|refine L2.ZM ?_|refine L2.abZ ?_|refine L2.aa5 ?_|refine L2.Zm ?_)
 |((with_reducible show L2.EO _ _ _ _ _);with_reducible first|refine L2.aju ?_|refine L2.ab8 ?_)
 |((with_reducible show L2.jL _ _ _ _ _ _);first
  |((with_reducible show L2.jL _ (PySem.Expr.Constant _ _ _::_) _ _ _ _);refine L2.M5 (L2.Ha ⟨_,200,rfl,by decide+kernel,by omega,?_⟩))
  |((with_reducible show L2.jL _ (PySem.Expr.FormattedValue _ _ _ _::_) _ _ _ _);refine L2.M5 ?_)
  |(refine L2.ab3 (by omega) ?_)))
local macro_rules | `(tactic| walk_at "o") => `(tactic| with_reducible first
 |refine L2.aiZ ?_|refine L2.ab0 ?_|refine L2.ahM ?_|refine L2.ZQ ?_|refine L2.aio ?_|refine L2.aay ?_
 |refine L2.aeE ?_|refine L2.agU ?_|refine L2.ajx ?_|refine L2.ajD ?_|refine L2.ami ?_|refine L2.Td ?_
 |refine L2.aii ?_|refine L2.aa7 ?_|refine L2.al8 ?_|refine L2.al2 ?_)
local macro_rules | `(tactic| walk_at "o2") => `(tactic| first
 |((with_reducible show L2.OP _ (PySem.compareOp PySem.CmpOp.Eq) _ _ _ _);refine L2.Fi (by rfl) ?_)
 |((with_reducible show L2.OP _ (PySem.compareOp PySem.CmpOp.NotEq) _ _ _ _);refine L2.Jg (by rfl) ?_)
 |((with_reducible show L2.OP _ (PySem.binaryOp PySem.Operator.Mod) (L2.V.int _) (L2.V.int _) _ _);refine L2.aer (by first|decide|omega) ?_)
 |((with_reducible show L2.OP _ (PySem.binaryOp PySem.Operator.Mult) (L2.V.int _) (L2.V.int _) _ _);refine L2.agE (by first|exact Or.inr ⟨by decide,by decide⟩|exact Or.inl ⟨by decide,by decide⟩|exact Or.inl ⟨by omega,by omega⟩|exact Or.inr ⟨by omega,by omega⟩) ?_)
 |((with_reducible show L2.OP _ (PySem.binaryOp PySem.Operator.Pow) (L2.V.int _) (L2.V.int _) _ _);refine L2.Bs ⟨by decide,by decide,by decide⟩ ?_)
 |((with_reducible show L2.CL _ (PySem.Value.builtin "len") [L2.V.ref _] _ _);refine L2.qt (Or.inl (by assumption)) ?_)
 |((with_reducible show L2.CL _ (PySem.Value.builtin "len") [L2.V.str _] _ _);refine L2.aiP (by omega) ?_)
 |((with_reducible show L2.CL _ (PySem.Value.builtin "ord") [L2.V.str _] _ _);refine L2.akf ?_)
 |((with_reducible show L2.CL _ (PySem.Value.builtin "isinstance") _ _ _);first|refine L2.Mx (k:=false) ?_|refine L2.Mx (k:=true) ?_))
local macro_rules | `(tactic| walk_at "t") => `(tactic| first
 |(with_reducible refine L2.ag8 ?_)
 |(with_reducible refine L2.agX ?_)
 |(with_reducible refine L2.aeA ?_)
 |(with_reducible refine L2.ahe ?_)
 |(with_reducible first|refine L2.abC ?_|refine L2.acU ?_|refine L2.amt ?_|refine L2.acT ?_|refine L2.alz ?_|refine L2.aaM ?_|refine L2.Xv ?_|refine L2.ago ?_|refine L2.amk ?_|refine L2.amE ?_)
 |((with_reducible show ∃k,L2.V.bl _=L2.V.bl k/\_);refine⟨_,rfl,?_⟩)
 |((with_reducible show ∃k,L2.vI _ (L2.V.bl _) _ k/\_);refine⟨_,rfl,?_⟩)
 |((with_reducible show ∃i,L2.V.int _=L2.V.int i/\_);refine⟨_,rfl,?_⟩)
 |((with_reducible show L2.oh _ _ (L2.V.str _) _/\_);refine⟨by rfl,?_⟩))
local macro_rules | `(tactic| walk_at "s") => `(tactic| first
 |(with_reducible refine L2.Γ ?_)
 |(with_reducible refine L2.ς ?_)
 |(with_reducible refine L2.ξ ?_)
 |(with_reducible refine L2.Ζ ?_)
 |(with_reducible refine L2.akO ?_)
 |(with_reducible refine L2.ama ?_)
 |(with_reducible refine L2.Ψ ?_)
 |((with_reducible show L2.SX _ (PySem.Stmt.Assign [PySem.Expr.Name _ _] _ _) _ _ _);refine L2.Yo (by assumption) (by rfl) (by first|exact Or.inl rfl|exact Or.inr rfl) (by rfl) (by first|exact Or.inl rfl|exact Or.inr rfl) ?_)
 |((with_reducible show L2.SX _ (PySem.Stmt.Expr _ _) _ _ _);refine L2.au ?_))
local macro_rules | `(tactic| walk_at "go") => `(tactic| repeat' (first | (walk_at "e") | (walk_at "o") | (walk_at "o2") | (walk_at "t") | (walk_at "s")))
local macro_rules | `(tactic| walk_at "ex") => `(tactic| repeat' (first | (walk_at "e") | (walk_at "o") | (walk_at "o2") | (walk_at "t")))
namespace L2
theorem jx{α:Type}{us:List α}(h:us.length=1):∃a,us=[a]:=match us,h with|[a],_=>⟨a,rfl⟩
theorem jK{α:Type}{us:List α}(h:us.length=2):∃a b,us=[a,b]:=match us,h with|[a,b],_=>⟨a,b,rfl⟩
theorem Ou{α:Type}{us:List α}(h:us.length=3):∃a b c,us=[a,b,c]:=match us,h with|[a,b,c],_=>⟨a,b,c,rfl⟩
theorem ac3{α:Type}{us:List α}(h:us.length=4):∃a b c d,us=[a,b,c,d]:=match us,h with|[a,b,c,d],_=>⟨a,b,c,d,rfl⟩
theorem aiG{α:Type}{us:List α}(h:us.length=5):∃a b c d e,us=[a,b,c,d,e]:=match us,h with|[a,b,c,d,e],_=>⟨a,b,c,d,e,rfl⟩
end L2
local macro_rules | `(tactic| walk_at "b1") => `(tactic| (intro _ _ _ _ _ _ us hl; obtain ⟨_, e⟩ := L2.jx hl; subst e; rfl))
local macro_rules | `(tactic| walk_at "b2") => `(tactic| (intro _ _ _ _ _ _ us hl; obtain ⟨_, _, e⟩ := L2.jK hl; subst e; rfl))
local macro_rules | `(tactic| walk_at "b3") => `(tactic| (intro _ _ _ _ _ _ us hl; obtain ⟨_, _, _, e⟩ := L2.Ou hl; subst e; rfl))
local macro_rules | `(tactic| walk_at "b4") => `(tactic| (intro _ _ _ _ _ _ us hl; obtain ⟨_, _, _, _, e⟩ := L2.ac3 hl; subst e; rfl))
local macro_rules | `(tactic| walk_at "b5") => `(tactic| (intro _ _ _ _ _ _ us hl; obtain ⟨_, _, _, _, _, e⟩ := L2.aiG hl; subst e; rfl))
local macro_rules | `(tactic| walk_at "bb") => `(tactic| first | walk_at "b1" | walk_at "b2" | walk_at "b3" | walk_at "b4" | walk_at "b5")
local macro_rules | `(tactic| walk_at "ln") => `(tactic| (intro _ _ _ _ h; repeat (first | (obtain ⟨e, _⟩ := h; exact congrArg List.length e) | (obtain ⟨_, h⟩ := h))))
local macro_rules | `(tactic| walk_at "A") => `(tactic| (refine L2.ξ ?_; walk_at "s"; walk_at "ex"))
namespace K65
open PySem L2 PyProof.Rows
def top(i:Nat):ϧ:=PySem.Challenge.pw_turnleaf_k65_leaves_by_places.main.body.getD i (.Pass ⟨0,0,0,0⟩)
abbrev OJ:ϧ:=top 22
abbrev Fx:ϧ:=top 23
abbrev K3:ϧ:=top 24
abbrev Ip:ϧ:=top 25
abbrev HB:ϧ:=top 26
abbrev K5:ϧ:=top 27
abbrev Qa:ϧ:=top 28
abbrev Ah:ϧ:=top 29
abbrev zK:ϧ:=top 30
abbrev FN:ϧ:=top 31
abbrev G5:ϧ:=top 32
abbrev Q9:ϧ:=top 37
abbrev zB:ϧ:=top 38
abbrev Mr:ϧ:=top 39
abbrev JG:ϧ:=top 40
abbrev Cm:ϧ:=top 41
abbrev Jb:ϧ:=top 46
abbrev u5:ϧ:=top 47
abbrev Gp:ϧ:=top 49
abbrev RG:ϧ:=top 50
abbrev t6:ϧ:=top 51
abbrev xW:ϧ:=top 52
abbrev wL:ϧ:=top 53
abbrev Ot:ϧ:=top 56
abbrev uF:ϧ:=top 82
abbrev Rr:ϧ:=top 83
abbrev Sw:ϧ:=top 84
abbrev QJ:ϧ:=top 85
abbrev JR:ϧ:=top 86
abbrev QD:ϧ:=top 87
abbrev J8:ϧ:=top 88
abbrev GX:ϧ:=top 89
abbrev Q7:ϧ:=top 90
abbrev xU:ϧ:=top 92
abbrev By:ϧ:=top 94
abbrev Mi:ϧ:=top 97
abbrev uR:ϧ:=top 98
abbrev nU:ϧ:=top 99
abbrev zJ:ϧ:=top 100
abbrev yO:ϧ:=top 101
abbrev Ph:ϧ:=top 102
abbrev zb:ϧ:=top 103
abbrev zQ:ϧ:=top 104
abbrev Hk:ϧ:=top 105
abbrev qH:ϧ:=top 106
abbrev tQ:ϧ:=top 107
abbrev vP:ϧ:=top 108
abbrev Mu:ϧ:=top 109
abbrev Kd:ϧ:=top 110
abbrev pK:ϧ:=top 111
abbrev Gd:ϧ:=top 112
abbrev Mv:ϧ:=top 113
abbrev fj:ϧ:=top 114
abbrev Gs:ϧ:=inClass (top 8) 0
abbrev O9:ϧ:=inClass (top 10) 0
abbrev Nm:ϧ:=inClass (top 9) 0
abbrev xJ:ϧ:=inClass (top 58) 0
abbrev yR:ϧ:=inClass (top 58) 1
abbrev yF:ϧ:=inClass (top 60) 0
abbrev yK:ϧ:=inClass (top 60) 1
abbrev ph:ϧ:=inClass (top 61) 0
abbrev pD:ϧ:=inClass (top 61) 1
abbrev Ar:ϧ:=inClass (top 61) 2
abbrev Gb:ϧ:=inClass (top 63) 0
abbrev Dw:ϧ:=inClass (top 64) 0
abbrev Fb:ϧ:=inClass (top 65) 0
abbrev CP:ϧ:=inClass (top 66) 0
abbrev yP:ϧ:=inClass (top 66) 1
abbrev vm:ϧ:=inClass (top 67) 0
abbrev yQ:ϧ:=inClass (top 68) 0
abbrev Eb:ϧ:=inClass (top 69) 0
abbrev Es:ϧ:=inClass (top 95) 0
abbrev yH:ϧ:=inClass (top 95) 1
abbrev Cg:ϧ:=inClass (top 95) 2
abbrev yp:ϧ:=inClass (top 95) 3
abbrev uH:ϧ:=inClass (top 95) 4
abbrev zu:ϧ:=inClass (top 95) 5
abbrev zV:ϧ:=inClass (top 95) 6
abbrev Dz:ϧ:=inClass (top 95) 7
abbrev yU:ϧ:=inClass (top 95) 8
abbrev ye:ϧ:=inClass (top 95) 12
structure Txt(K:Ϩ)(mg:Str->Option ε):Prop where
 sE:DX K mg "is_whole" OJ
 sY:DX K mg "made_of" Fx
 Fy:DX K mg "is_number_value" K3
 xq:DX K mg "is_text_value" Ip
 Bv:DX K mg "is_value" HB
 xu:DX K mg "value_before" K5
 Az:DX K mg "are_figures" Qa
 Ej:DX K mg "read_figures" Ah
 EY:DX K mg "read_number_word" zK
 Fd:DX K mg "read_text_word" FN
 DR:DX K mg "read_value" G5
 yS:DX K mg "is_name" Q9
 Bd:DX K mg "ask_columns" zB
 sX:DX K mg "place_of" Mr
 zy:DX K mg "is_row_number" JG
 za:DX K mg "is_row" Cm
 Dv:DX K mg "read_order_word" Jb
 yM:DX K mg "read_order" u5
 z9:DX K mg "number_of" Gp
 FW:DX K mg "rank_of" RG
 Ei:DX K mg "sorted_by" t6
 BP:DX K mg "let_through" xW
 Ef:DX K mg "line_of" wL
 xY:DX K mg "ask_size" Ot
 pG:DX K mg "word_at" uF
 lO:DX K mg "text_between" Rr
 vX:DX K mg "read_column" Sw
 Ea:DX K mg "read_word" QJ
 DK:DX K mg "read_none" JR
 DQ:DX K mg "read_of_value" QD
 Ax:DX K mg "read_of_sieves" J8
 O5:DX K mg "read_part" GX
 afG:DX K mg "read_sieve" Q7
 xN:DX K mg "leaf_by_place" xU
 CV:DX K mg "told_rows" By
 fu:DX K mg "_law_draw" Mi
 Bb:DX K mg "_law_names" uR
 Di:DX K mg "_law_columns" nU
 uN:DX K mg "_law_value" zJ
 wD:DX K mg "_law_values" yO
 Ad:DX K mg "_law_order" Ph
 zL:DX K mg "_law_order_text" zb
 Cz:DX K mg "_law_sieve" zQ
 Dh:DX K mg "_law_word" Hk
 vq:DX K mg "_law_sieve_text" qH
 wK:DX K mg "_law_lets" tQ
 FQ:DX K mg "_law_key" vP
 Ao:DX K mg "_law_is_ahead" Mu
 Bj:DX K mg "_law_line" Kd
 xr:DX K mg "_law_deed" pK
 Ek:DX K mg "_law_begun" Gd
 CJ:DX K mg "_law_some_size" Mv
 afK:DX K mg "law" fj
 Et:Gc mg "NUMBER" (.str "number")
 KQ:Gc mg "TEXT" (.str "text")
 aeU:Gc mg "FIGURES" (.str "0123456789")
 ae7:Gc mg "LETTERS" (.str "abcdefghijklmnopqrstuvwxyz")
 Vx:Gc mg "TEXT_SIGNS" (.str "abcdefghijklmnopqrstuvwxyz0123456789-")
 JS:Gc mg "LARGEST" (.int 1000000000000000000)
 Xd:Gc mg "LONGEST" (.int 20)
 Zf:Gc mg "NONE_WORD" (.str "?")
 aiI:Gc mg "TEXT_AHEAD" (.str "'")
 agv:Gc mg "BELOW_AHEAD" (.str "-")
 afA:Gc mg "MOST_COLUMNS" (.int 6)
 Tq:Gc mg "LONGEST_NAME" (.int 8)
 Zv:Gc mg "LARGEST_ROW" (.int 1000000000)
 ae0:Gc mg "MOST_IN_ORDER" (.int 4)
 aiB:Gc mg "UP_AHEAD" (.str "+")
 ah3:Gc mg "DOWN_AHEAD" (.str "-")
 Z9:Gc mg "LARGEST_SIZE" (.int 100)
 U7:Gc mg "MOST_WORDS" (.int 60)
 yf:Gc mg "MOST_WITHIN" (.int 20)
 Rp:Gc mg "ALL" (.str "all")
 G6:Gc mg "NONE" (.str "none")
 En:Gc mg "IS" (.str "is")
 Fg:Gc mg "UNDER" (.str "under")
 zA:Gc mg "OVER" (.str "over")
 Fo:Gc mg "HOLDS" (.str "holds")
 xx:Gc mg "NOT" (.str "not")
 uK:Gc mg "BOTH" (.str "both")
 aen:Gc mg "EITHER" (.str "either")
 K9:mg "all"=none
 aiR:mg "bool"=none
 adF:mg "enumerate"=none
 ux:mg "int"=none
 xj:mg "isinstance"=none
 bR:mg "len"=none
 jb:mg "list"=none
 BZ:mg "min"=none
 mX:mg "range"=none
 Xz:mg "reversed"=none
 O7:mg "set"=none
 Aj:mg "sorted"=none
 Df:mg "str"=none
 yD:mg "tuple"=none
 Vk:mg "zip"=none
 wZ:mg "Sieve"=some (.ref (ι mg "Sieve"))
 YG:mg "AllSieve"=some (.ref (ι mg "AllSieve"))
 ad2:mg "NoneSieve"=some (.ref (ι mg "NoneSieve"))
 Xb:mg "IsSieve"=some (.ref (ι mg "IsSieve"))
 Ze:mg "UnderSieve"=some (.ref (ι mg "UnderSieve"))
 adQ:mg "OverSieve"=some (.ref (ι mg "OverSieve"))
 adS:mg "HoldsSieve"=some (.ref (ι mg "HoldsSieve"))
 afu:mg "NotSieve"=some (.ref (ι mg "NotSieve"))
 adL:mg "BothSieve"=some (.ref (ι mg "BothSieve"))
 X3:mg "EitherSieve"=some (.ref (ι mg "EitherSieve"))
 ahd:mg "Book"=some (.ref (ι mg "Book"))
 Ih:pF K mg "NoValue"
 su:pF K mg "NoColumns"
 wY:pF K mg "NoOrder"
 yW:Fe K mg "LeafError"
 uU:pA K mg "LeafError" "NoSieve" "NoSieve.__init__" "at" Gs
 vK:pA K mg "LeafError" "Absent" "Absent.__init__" "row" O9
 wM:pA K mg "LeafError" "Twice" "Twice.__init__" "row" Nm
 Ox:ϔ K (ι mg "AllSieve")
 Z5:OI K (ι mg "AllSieve") "Sieve.__init__" xJ
 adn:OM K (ι mg "AllSieve") "lets" "Sieve.lets" yR
 ajm:Λ K (ι mg "AllSieve") "text"
 Cy:ϔ K (ι mg "NoneSieve")
 abQ:OI K (ι mg "NoneSieve") "NoneSieve.__init__" yF
 Vz:OM K (ι mg "NoneSieve") "lets" "NoneSieve.lets" yK
 acL:Λ K (ι mg "NoneSieve") "text"
 G3:Λ K (ι mg "NoneSieve") "place"
 vD:ϔ K (ι mg "IsSieve")
 aab:OI K (ι mg "IsSieve") "ValueSieve.__init__" ph
 aeD:OM K (ι mg "IsSieve") "fits" "ValueSieve.fits" Ar
 Wd:OM K (ι mg "IsSieve") "lets" "ValueSieve.lets" pD
 YH:Λ K (ι mg "IsSieve") "text"
 JT:Λ K (ι mg "IsSieve") "place"
 QH:Λ K (ι mg "IsSieve") "value"
 v5:ϔ K (ι mg "UnderSieve")
 ahx:OI K (ι mg "UnderSieve") "ValueSieve.__init__" ph
 Xr:OM K (ι mg "UnderSieve") "fits" "UnderSieve.fits" Gb
 WL:OM K (ι mg "UnderSieve") "lets" "ValueSieve.lets" pD
 abS:Λ K (ι mg "UnderSieve") "text"
 RZ:Λ K (ι mg "UnderSieve") "place"
 Hr:Λ K (ι mg "UnderSieve") "value"
 vL:ϔ K (ι mg "OverSieve")
 af5:OI K (ι mg "OverSieve") "ValueSieve.__init__" ph
 aa6:OM K (ι mg "OverSieve") "fits" "OverSieve.fits" Dw
 W8:OM K (ι mg "OverSieve") "lets" "ValueSieve.lets" pD
 ace:Λ K (ι mg "OverSieve") "text"
 Np:Λ K (ι mg "OverSieve") "place"
 S6:Λ K (ι mg "OverSieve") "value"
 wQ:ϔ K (ι mg "HoldsSieve")
 acI:OI K (ι mg "HoldsSieve") "ValueSieve.__init__" ph
 afa:OM K (ι mg "HoldsSieve") "fits" "HoldsSieve.fits" Fb
 ado:OM K (ι mg "HoldsSieve") "lets" "ValueSieve.lets" pD
 ad8:Λ K (ι mg "HoldsSieve") "text"
 Mm:Λ K (ι mg "HoldsSieve") "place"
 Kr:Λ K (ι mg "HoldsSieve") "value"
 Fz:ϔ K (ι mg "NotSieve")
 abx:OI K (ι mg "NotSieve") "NotSieve.__init__" CP
 aj4:OM K (ι mg "NotSieve") "lets" "NotSieve.lets" yP
 acz:Λ K (ι mg "NotSieve") "text"
 MF:Λ K (ι mg "NotSieve") "one"
 uV:ϔ K (ι mg "BothSieve")
 ab1:OI K (ι mg "BothSieve") "PairSieve.__init__" vm
 ajQ:OM K (ι mg "BothSieve") "lets" "BothSieve.lets" yQ
 aha:Λ K (ι mg "BothSieve") "text"
 G9:Λ K (ι mg "BothSieve") "one"
 Nq:Λ K (ι mg "BothSieve") "other"
 wX:ϔ K (ι mg "EitherSieve")
 agl:OI K (ι mg "EitherSieve") "PairSieve.__init__" vm
 Vv:OM K (ι mg "EitherSieve") "lets" "EitherSieve.lets" Eb
 Xa:Λ K (ι mg "EitherSieve") "text"
 Ni:Λ K (ι mg "EitherSieve") "one"
 Lf:Λ K (ι mg "EitherSieve") "other"
 aW:ϔ K (ι mg "Book")
 Zi:OI K (ι mg "Book") "Book.__init__" Es
 Gv:OM K (ι mg "Book") "ask_row" "Book.ask_row" Cg
 Ow:OM K (ι mg "Book") "ask_there" "Book.ask_there" yp
 Vs:OM K (ι mg "Book") "change" "Book.change" zV
 abn:OM K (ι mg "Book") "columns" "Book.columns" yH
 Gj:OM K (ι mg "Book") "do" "Book.do" uH
 TQ:OM K (ι mg "Book") "moment" "Book.moment" yU
 agh:OM K (ι mg "Book") "now_rows" "Book.now_rows" ye
 Km:OM K (ι mg "Book") "put" "Book.put" zu
 acK:OM K (ι mg "Book") "take" "Book.take" Dz
 Cv:Λ K (ι mg "Book") "heads"
 rP:Λ K (ι mg "Book") "rows"
 Nz:Λ K (ι mg "Book") "touched"
 Jv:Λ K (ι mg "Book") "done"
 agD:Λ K (ι mg "Book") "known"
 Eh:Λ K (ι mg "Book") "now"
 xG:OB K (ι mg "Sieve") "__init__" "Sieve.__init__" xJ
abbrev adR:List Str:=["self","text"]
theorem TV:Α adR ["self","text"] (ρ xJ):=by walk_at"sc"
abbrev abR:List Str:=["self","values"]
theorem Ug:Α abR ["self","values"] (ρ yR):=by walk_at"sc"
abbrev XX:List Str:=["self","text","place"]
theorem ZF:Α XX ["self","text","place"] (ρ yF):=by walk_at"sc"
abbrev aey:List Str:=["self","values"]
theorem Uh:Α aey ["self","values"] (ρ yK):=by walk_at"sc"
abbrev aaP:List Str:=["self","text","place","value"]
theorem aaB:Α aaP ["self","text","place","value"] (ρ ph):=by walk_at"sc"
abbrev ai8:List Str:=["self","values","value"]
theorem Sx:Α ai8 ["self","values"] (ρ pD):=by walk_at"sc"
abbrev YJ:List Str:=["self","value"]
theorem adU:Α YJ ["self","value"] (ρ Ar):=by walk_at"sc"
abbrev ac7:List Str:=["self","value"]
theorem afz:Α ac7 ["self","value"] (ρ Gb):=by walk_at"sc"
abbrev afd:List Str:=["self","value"]
theorem ajV:Α afd ["self","value"] (ρ Dw):=by walk_at"sc"
abbrev Tv:List Str:=["self","value"]
theorem aav:Α Tv ["self","value"] (ρ Fb):=by walk_at"sc"
abbrev aeX:List Str:=["self","text","one"]
theorem afi:Α aeX ["self","text","one"] (ρ CP):=by walk_at"sc"
abbrev abu:List Str:=["self","values"]
theorem abI:Α abu ["self","values"] (ρ yP):=by walk_at"sc"
abbrev aeo:List Str:=["self","text","one","other"]
theorem Wx:Α aeo ["self","text","one","other"] (ρ vm):=by walk_at"sc"
abbrev Wb:List Str:=["self","values"]
theorem ahQ:Α Wb ["self","values"] (ρ yQ):=by walk_at"sc"
abbrev afb:List Str:=["self","values"]
theorem aan:Α afb ["self","values"] (ρ Eb):=by walk_at"sc"
abbrev ahs:List Str:=["self","columns"]
theorem ad4:Α ahs ["self","columns"] (ρ Es):=by walk_at"sc"
abbrev Ve:List Str:=["self"]
theorem adw:Α Ve ["self"] (ρ yH):=by walk_at"sc"
abbrev XJ:List Str:=["self","row","values"]
theorem Xi:Α XJ ["self","row","values"] (ρ Cg):=by walk_at"sc"
abbrev afL:List Str:=["self","row"]
theorem aaW:Α afL ["self","row"] (ρ yp):=by walk_at"sc"
abbrev V1:List Str:=["self","row","values","was"]
theorem Mq:Α V1 ["self","row","values"] (ρ uH):=by walk_at"sc"
abbrev aeM:List Str:=["self","row","values"]
theorem Wz:Α aeM ["self","row","values"] (ρ zu):=by walk_at"sc"
abbrev ajS:List Str:=["self","row","values"]
theorem aea:Α ajS ["self","row","values"] (ρ zV):=by walk_at"sc"
abbrev ahZ:List Str:=["self","row"]
theorem aji:Α ahZ ["self","row"] (ρ Dz):=by walk_at"sc"
abbrev Zu:List Str:=["self"]
theorem agc:Α Zu ["self"] (ρ yU):=by walk_at"sc"
abbrev aai:List Str:=["self"]
theorem U8:Α aai ["self"] (ρ ye):=by walk_at"sc"
abbrev ag9:List Str:=["self","at"]
theorem Yt:Α ag9 ["self","at"] (ρ Gs):=by walk_at"sc"
abbrev acP:List Str:=["self","row"]
theorem aiD:Α acP ["self","row"] (ρ O9):=by walk_at"sc"
abbrev Yd:List Str:=["self","row"]
theorem ai2:Α Yd ["self","row"] (ρ Nm):=by walk_at"sc"
abbrev ajJ:List Str:=["value"]
theorem Vf:Α ajJ ["value"] (ρ OJ):=by walk_at"sc"
abbrev afB:List Str:=["text","signs"]
theorem abD:Α afB ["text","signs"] (ρ Fx):=by walk_at"sc"
abbrev abW:List Str:=["value"]
theorem aeC:Α abW ["value"] (ρ K3):=by walk_at"sc"
abbrev agM:List Str:=["value"]
theorem acW:Α agM ["value"] (ρ Ip):=by walk_at"sc"
abbrev WY:List Str:=["kind","value"]
theorem afU:Α WY ["kind","value"] (ρ HB):=by walk_at"sc"
abbrev agd:List Str:=["one","other"]
theorem Tw:Α agd ["one","other"] (ρ K5):=by walk_at"sc"
abbrev W4:List Str:=["word"]
theorem aaF:Α W4 ["word"] (ρ Qa):=by walk_at"sc"
abbrev X4:List Str:=["word","most","number"]
theorem Od:Α X4 ["word","most"] (ρ Ah):=by walk_at"sc"
abbrev Ym:List Str:=["word","below","number"]
theorem R6:Α Ym ["word"] (ρ zK):=by walk_at"sc"
abbrev Yu:List Str:=["word"]
theorem HR:Α Yu ["word"] (ρ FN):=by walk_at"sc"
abbrev ada:List Str:=["kind","word"]
theorem Y4:Α ada ["kind","word"] (ρ G5):=by walk_at"sc"
abbrev ajT:List Str:=["name"]
theorem ajN:Α ajT ["name"] (ρ Q9):=by walk_at"sc"
abbrev Uo:List Str:=["columns","name","kind","names"]
theorem JH:Α Uo ["columns"] (ρ zB):=by walk_at"sc"
abbrev afO:List Str:=["columns","name","place","column"]
theorem MP:Α afO ["columns","name"] (ρ Mr):=by walk_at"sc"
abbrev af2:List Str:=["row"]
theorem ajF:Α af2 ["row"] (ρ JG):=by walk_at"sc"
abbrev ah0:List Str:=["columns","row","values"]
theorem NP:Α ah0 ["columns","row","values"] (ρ Cm):=by walk_at"sc"
abbrev acM:List Str:=["columns","word","sign","name"]
theorem Hz:Α acM ["columns","word"] (ρ Jb):=by walk_at"sc"
abbrev Xx:List Str:=["columns","text","words","order","names"]
theorem Ke:Α Xx ["columns","text"] (ρ u5):=by walk_at"sc"
abbrev afV:List Str:=["told"]
theorem ZJ:Α afV ["told"] (ρ Gp):=by walk_at"sc"
abbrev agi:List Str:=["value"]
theorem Y6:Α agi ["value"] (ρ RG):=by walk_at"sc"
def gM:Array ε:=Eg ⟨145,4,146,38⟩ "sorted_by.<locals>.rank"
abbrev O1:List Str:=["rows","place","up","rank"]
theorem RP:Α O1 ["rows","place","up"] (ρ t6):=by walk_at"sc"
abbrev af9:List Str:=["sieve","rows"]
theorem aiQ:Α af9 ["sieve","rows"] (ρ xW):=by walk_at"sc"
abbrev JK:List Str:=["columns","order","rows","line","name","up"]
theorem OD:Α JK ["columns","order","rows"] (ρ wL):=by walk_at"sc"
abbrev ajn:List Str:=["size"]
theorem ZR:Α ajn ["size"] (ρ Ot):=by walk_at"sc"
abbrev agO:List Str:=["words","place"]
theorem ZZ:Α agO ["words","place"] (ρ uF):=by walk_at"sc"
abbrev acs:List Str:=["words","start","behind"]
theorem aiF:Α acs ["words","start","behind"] (ρ Rr):=by walk_at"sc"
abbrev abG:List Str:=["columns","words","place","column"]
theorem Rf:Α abG ["columns","words","place"] (ρ Sw):=by walk_at"sc"
abbrev acJ:List Str:=["kind","words","place","word","value"]
theorem Ly:Α acJ ["kind","words","place"] (ρ QJ):=by walk_at"sc"
abbrev aew:List Str:=["columns","words","start","column"]
theorem HN:Α aew ["columns","words","start"] (ρ JR):=by walk_at"sc"
abbrev TY:List Str:=["columns","words","start","word","column","kind","value","text"]
theorem Ig:Α TY ["columns","words","start"] (ρ QD):=by walk_at"sc"
abbrev aiH:List Str:=["columns","words","start","within","word","one","behind","other","text"]
theorem mY:Α aiH ["columns","words","start","within"] (ρ J8):=by walk_at"sc"
abbrev Wu:List Str:=["columns","words","start","within","word"]
theorem vY:Α Wu ["columns","words","start","within"] (ρ GX):=by walk_at"sc"
abbrev afx:List Str:=["columns","text","words","sieve","behind"]
theorem Ir:Α afx ["columns","text"] (ρ Q7):=by walk_at"sc"
abbrev VL:List Str:=["book","order","sieve","size","number","columns","ordered","through","line","ahead","rows"]
theorem K7:Α VL ["book","order","sieve","size","number"] (ρ xU):=by walk_at"sc"
abbrev ae9:List Str:=["rows"]
theorem T4:Α ae9 ["rows"] (ρ By):=by walk_at"sc"
abbrev Uc:List Str:=["_law_script","_law_k","_law_many","_law_cell","_law_seed"]
theorem QS:Α Uc ["_law_script","_law_k","_law_many"] (ρ Mi):=by walk_at"sc"
abbrev abd:List Str:=["_law_script","_law_many","_law_letters","_law_word_here","_law_size","_law_at","_law_first","_law_some","_law_k","_law_name","_law_sign"]
theorem RJ:Α abd ["_law_script","_law_many"] (ρ uR):=by walk_at"sc"
abbrev afm:List Str:=["_law_script","_law_many","_law_names_here","_law_some"]
theorem Ii:Α afm ["_law_script"] (ρ nU):=by walk_at"sc"
abbrev abr:List Str:=["_law_script","_law_k","_law_kind","_law_way","_law_cell","_law_sign"]
theorem Hj:Α abr ["_law_script","_law_k","_law_kind"] (ρ zJ):=by walk_at"sc"
abbrev W0:List Str:=["_law_script","_law_k","_law_columns_here"]
theorem aiL:Α W0 ["_law_script","_law_k","_law_columns_here"] (ρ yO):=by walk_at"sc"
abbrev afH:List Str:=["_law_script","_law_k","_law_columns_here","_law_first","_law_order_here","_law_n","_law_name"]
theorem Iu:Α afH ["_law_script","_law_k","_law_columns_here"] (ρ Ph):=by walk_at"sc"
abbrev aeY:List Str:=["_law_order_here"]
theorem ajW:Α aeY ["_law_order_here"] (ρ zb):=by walk_at"sc"
abbrev aih:List Str:=["_law_script","_law_k","_law_columns_here","_law_way","_law_at","_law_value_here"]
theorem QB:Α aih ["_law_script","_law_k","_law_columns_here"] (ρ zQ):=by walk_at"sc"
abbrev Zn:List Str:=["_law_value_here"]
theorem acv:Α Zn ["_law_value_here"] (ρ Hk):=by walk_at"sc"
abbrev Nk:List Str:=["_law_sieve_here","_law_columns_here","_law_words"]
theorem BJ:Α Nk ["_law_sieve_here","_law_columns_here"] (ρ qH):=by walk_at"sc"
abbrev Qp:List Str:=["_law_sieve_here","_law_values_here","_law_value_here"]
theorem Ey:Α Qp ["_law_sieve_here","_law_values_here"] (ρ tQ):=by walk_at"sc"
abbrev agq:List Str:=["_law_columns_here","_law_order_here","_law_one","_law_names_here"]
theorem Qo:Α agq ["_law_columns_here","_law_order_here","_law_one"] (ρ vP):=by walk_at"sc"
abbrev afl:List Str:=["_law_order_here","_law_one","_law_other","_law_k","_law_mine","_law_theirs","_law_less"]
theorem RW:Α afl ["_law_order_here","_law_one","_law_other"] (ρ Mu):=by walk_at"sc"
abbrev ah1:List Str:=["_law_columns_here","_law_order_here","_law_sieve_here","_law_rows","_law_line_here","_law_row","_law_key_here","_law_at","_law_other"]
theorem Nh:Α ah1 ["_law_columns_here","_law_order_here","_law_sieve_here","_law_rows"] (ρ Kd):=by walk_at"sc"
abbrev ajz:List Str:=["_law_script","_law_k","_law_columns_here","_law_book","_law_state","_law_row","_law_way","_law_values_here"]
theorem Jd:Α ajz ["_law_script","_law_k","_law_columns_here","_law_book","_law_state"] (ρ pK):=by walk_at"sc"
abbrev V7:List Str:=["_law_script","_law_columns_here","_law_book","_law_many","_law_state","_law_k","_law_row","_law_values_here"]
theorem RV:Α V7 ["_law_script","_law_columns_here","_law_book","_law_many"] (ρ Gd):=by walk_at"sc"
abbrev ajG:List Str:=["_law_script","_law_k","_law_way"]
theorem Rw:Α ajG ["_law_script","_law_k"] (ρ Mv):=by walk_at"sc"
abbrev uy:List Str:=["_law_script","_law_columns_here","_law_book","_law_state","_law_order_here","_law_sieve_here","_law_texts","_law_size","_law_cell","_law_held","_law_number","_law_line_here","_law_first","_law_rows","_law_due","_law_found","_law_one"]
theorem wR:Α uy ["_law_script"] (ρ fj):=by walk_at"sc"
section
variable{P:Ϯ}{w:Ϭ}{K:Ϩ}{mg:Str->Option ε}{base:ϫ}{cc:Bool}{k:Nat}{sp:Sp}
theorem JP(T:Txt K mg){cc:Bool}:qd P w K mg base cc 1 "NoSieve" "at":=by
 refine CT T.uU Yt (by walk_at"b2") rfl (λf Ϻ A outer s H vs Q E hi hr h=>?_);obtain⟨e,n,rfl,hn,he,q⟩:=h;have hsz:=ϱ;refine ξ (au ?_);refine yg (pl:=_) T.yW.toXBase ?_;walk_at"go";refine DW ?_;walk_at"e";refine⟨n,rfl,Vl.rO hn,_,70,rfl,Vl.zE hn,by omega,?_⟩;walk_at"go";intro zz;refine eY (Gk hi he ?_);refine ς (Aq T.uU.sa T.uU.xc T.uU.tk ?_);walk_at"e";walk_at"e";refine⟨e,rfl,he,λD hD gn=>q D _ gn hD (λb o hb r=>?_) υ ?_⟩
 .rw[θ hb,θ (Ι r hD)];exact r
 .rw[θ gn,υ]
theorem afp(T:Txt K mg){cc:Bool}:qd P w K mg base cc 1 "Absent" "row":=by
 refine CT T.vK aiD (by walk_at"b2") rfl (λf Ϻ A outer s H vs Q E hi hr h=>?_);obtain⟨e,n,rfl,hn,he,q⟩:=h;have hsz:=ϱ;refine ξ (au ?_);refine yg (pl:=_) T.yW.toXBase ?_;walk_at"go";refine DW ?_;walk_at"e";refine⟨n,rfl,Vl.rO hn,_,70,rfl,Vl.zE hn,by omega,?_⟩;walk_at"go";intro zz;refine eY (Gk hi he ?_);refine ς (Aq T.vK.sa T.vK.xc T.vK.tk ?_);walk_at"e";walk_at"e";refine⟨e,rfl,he,λD hD gn=>q D _ gn hD (λb o hb r=>?_) υ ?_⟩
 .rw[θ hb,θ (Ι r hD)];exact r
 .rw[θ gn,υ]
theorem aiy(T:Txt K mg){cc:Bool}:qd P w K mg base cc 1 "Twice" "row":=by
 refine CT T.wM ai2 (by walk_at"b2") rfl (λf Ϻ A outer s H vs Q E hi hr h=>?_);obtain⟨e,n,rfl,hn,he,q⟩:=h;have hsz:=ϱ;refine ξ (au ?_);refine yg (pl:=_) T.yW.toXBase ?_;walk_at"go";refine DW ?_;walk_at"e";refine⟨n,rfl,Vl.rO hn,_,70,rfl,Vl.zE hn,by omega,?_⟩;walk_at"go";intro zz;refine eY (Gk hi he ?_);refine ς (Aq T.wM.sa T.wM.xc T.wM.tk ?_);walk_at"e";walk_at"e";refine⟨e,rfl,he,λD hD gn=>q D _ gn hD (λb o hb r=>?_) υ ?_⟩
 .rw[θ hb,θ (Ι r hD)];exact r
 .rw[θ gn,υ]
end
end K65
namespace K65
open PySem L2 PyProof.Rows My Vl Lw
section
variable{P:Ϯ}{w:Ϭ}{K:Ϩ}{mg:Str->Option ε}{base:ϫ}
theorem fu(T:Txt K mg):Def P w K mg base true 1 "_law_draw" ["_law_script","_law_k","_law_many"] (ZV K):=by
 refine Ν T.fu QS (λ_ _ _ _ _ H vs Q E hr h=>?_);intro X;obtain⟨a,ns,k,m,rfl,hS,hl,hk0,hk1,hm,q⟩:=h;have n1:=T.bR;have nd:=QS.nd;have bA:(ns.map V.int).length=ns.length:=aaf ..;refine ξ ?_;walk_at"go";rw[bA];have fin:∀c:Int,c=wV ns k->Q (.int ((c % 1000003+31*k*k+1)*48271 % 999983*7919 % 524287 % m)) H:=λc e=>by rw[e];exact q
 refine Ε (λh=>?_) (λh=>?_)
 .walk_at "go";rw[bA];walk_at"go";refine ϐ hS (Aa 0 (akJ _ (by omega)) (akE _ (by omega))) ?_;walk_at"go";exact fin _ (by unfold wV;rw[if_pos (by omega)])
 .walk_at "go";exact fin _ (by unfold wV;rw[if_neg (by omega)])
theorem QL:fW.cps.toList=List.range' 97 26:=by decide+kernel
theorem ai9(c:Nat):c∈fW.cps.toList↔97<=c/\c<=122:=by
 rw[QL,List.mem_range'_1];omega
theorem Ol{k:Nat}(h:k<26):fW.cps.toList[k]?=some (97+k):=by
 rw[QL,List.getElem?_range' h];simp
theorem Te{z:Str}(h1:1<=z.length)(h8:z.length<=8)(h:∀c∈z.cps.toList,97<=c/\c<=122):isName z=true:=by
 unfold isName c7;rw[aaH,decide_eq_true_eq,adM];exact⟨⟨h1,h8⟩,λc hc=>decide_eq_true ((ai9 c).mpr (h c hc))⟩
def bw(W:Str)(at_ size first:Nat)(b:Bool)(j:Nat):Str:=
 if b=true then ώ W none (some (at_:Int))++⟨#[97+(first+7*j) % 26]⟩++ώ W (some ((at_+1:Nat):Int)) (some (size:Int))else ώ W none (some ((j+1:Nat):Int))
theorem xg{W:Str}{at_ size first j:Nat}(hW:W.length=8)(ha:at_<size)(hs:size<=8):(bw W at_ size first true j).cps.toList=W.cps.toList.take at_++(97+(first+7*j) % 26)::(W.cps.toList.drop (at_+1)).take (size-(at_+1)):=by
 unfold bw;rw[if_pos rfl,cT,cT,xP,zT,HT.mL,HT.mL,hW,aiE (by omega),aiE (by omega),anz];rfl
theorem wN{W:Str}{at_ size first j:Nat}:(bw W at_ size first false j).cps.toList=W.cps.toList.take (j+1):=by
 unfold bw;rw[if_neg (by decide),xP]
theorem adb{W:Str}{at_ size first j:Nat}{b:Bool}(hW:W.length=8)(ha:at_<size)(hs:size<=8)(hj:j<6):1<=(bw W at_ size first b j).length/\(bw W at_ size first b j).length<=8:=by
 have hl:=len_list W;rw[L2.len_list (bw W at_ size first b j)];cases b with
 |true=>
  rw[xg hW ha hs,ab7,List.length_cons,ae1,ae1,afw];omega
 |false=>
  rw[wN,ae1];omega
theorem ahk{W:Str}{at_ size first j:Nat}{b:Bool}(hW:W.length=8)(ha:at_<size)(hs:size<=8)(hw:∀c∈W.cps.toList,97<=c/\c<=122):∀c∈(bw W at_ size first b j).cps.toList,97<=c/\c<=122:=by
 intro c hc;cases b with
 |true=>
  rw[xg hW ha hs]at hc;obtain h|h:=adT.mp hc
  .exact hw c (ahj h)
  .obtain h|h:=ϴ.mp h
   .have :=anA (first+7*j) (show 0<26 by decide);omega
   .exact hw c (ag4 (ahj h))
 |false=>
  rw[wN]at hc;exact hw c (ahj hc)
theorem U5{W:Str}{at_ size first i j:Nat}{b:Bool}(hW:W.length=8)(ha:at_<size)(hs:size<=8)(hi:i<6)(hj:j<6)(e:bw W at_ size first b i=bw W at_ size first b j):i=j:=by
 have hl:=len_list W;have e':=congrArg (λz:Str=>z.cps.toList) e;cases b with
 |true=>
  rw[xg hW ha hs,xg hW ha hs]at e';have h1:=(List.append_inj e' rfl).2;injection h1 with h2 _
  omega
 |false=>
  rw[wN,wN]at e';have:=congrArg am6 e';rw[ae1,ae1]at this;omega
def aiM(K:Ϩ):Sp:=λvs H Q _=>∃(a:δ)(ns:List Int)(m:Nat),vs=[.ref a,.int m]/\η K H a (ns.map V.int)/\ns.length<=63/\m<=6/\∀(p:δ)(zs:List Str) H',ζ H H'->H p=none->H' p=some (.lst (zs.map V.str))->zs.length=m->zs.Nodup->(∀z∈zs,isName z=true)->Q (.ref p) H'
theorem Bb(T:Txt K mg):Def P w K mg base true 2 "_law_names" ["_law_script","_law_many"] (aiM K):=by
 refine Ν T.Bb RJ (λ_ _ _ _ s H vs Q E hr h=>?_);intro X;obtain⟨a,ns,m,rfl,hS,hl,hm,q⟩:=h;have nd:=RJ.nd;have n1:=T.mX;have hsz:=ϱ;have D1:= @fu P w K mg base T;have akz:fW.length=26:=by decide+kernel
 refine ξ ?_;walk_at"go";refine O6 ["_law_k","_law_letters","_law_script"] (σ':=[none,some (.str fW),some (.ref a)]) (cC (ρ uR)) n1 ?_;walk_at"e";refine⟨8,rfl,by omega,by omega,λi v=>v=.str ⟨#[97+(ϒ ns (100+(i:Int)) 26).toNat]⟩,λfp E' C s3 H0 i H2 hi sm=>?_,λE' H1 xs hE hl2 hx e2 Δ =>?_⟩
 .walk_at "go";refine⟨a,ns,100+i,26,rfl,sm.seq hS,hl,by omega,by omega,by decide,?_⟩;have h1:=aQ ns (100+i) (m:=26) (by decide);have h2:=aU ns (100+i) (m:=26) (by decide);refine rB (by omega) (n:=97+(ϒ ns (100+(i:Int)) 26).toNat) ?_ ⟨rfl,ζ.refl _⟩;have e:ϒ ns (100+(i:Int)) 26=(((ϒ ns (100+(i:Int)) 26).toNat:Nat):Int):=by omega
  have h3:=Ϛ (Ol (k:=(ϒ ns (100+(i:Int)) 26).toNat) (by omega));rw[<-e]at h3;exact h3
 .have ex:=jT (ys:=ady 8) (λi:Nat=>V.str ⟨#[97+(ϒ ns (100+(i:Int)) 26).toNat]⟩) (by rw[hl2,af7];rfl) (λi v e=>⟨i,?_,hx i v e⟩)
  .have qG:xs=(((ady 8).map λi:Nat=>97+(ϒ ns (100+(i:Int)) 26).toNat).map λc=>(⟨#[c]⟩:Str)).map V.str:=by
    rw[ex,agn,agn];rfl
   subst qG;walk_at"go";refine qw (η.of e2) ?_ ?_
   .have e0:("":Str).length=0:=by decide+kernel
    rw[NQ,aaf,aaf,af7,e0];omega
   rw[Jk];have hwl:(⟨((ady 8).map λi:Nat=>97+(ϒ ns (100+(i:Int)) 26).toNat).toArray⟩:Str).length=8:=by rw[L2.len_list];simp
   have O8:∀c∈(⟨((ady 8).map λi:Nat=>97+(ϒ ns (100+(i:Int)) 26).toNat).toArray⟩:Str).cps.toList,97<=c/\c<=122:=λc hc=>by
    have hc':c∈(ady 8).map λi:Nat=>97+(ϒ ns (100+(i:Int)) 26).toNat:=by simpa using hc
    obtain⟨i,_,rfl⟩:=acQ.mp hc';have h1:=aQ ns (100+i) (m:=26) (by decide);have h2:=aU ns (100+i) (m:=26) (by decide);omega
   generalize(⟨((ady 8).map λi:Nat=>97+(ϒ ns (100+(i:Int)) 26).toNat).toArray⟩:Str)=W at hwl O8⊢;refine ξ ?_;walk_at"go";refine⟨a,ns,112,8,rfl,Δ.seq hS,hl,by decide,by decide,by decide,?_⟩;have s0:=aQ ns 112 (m:=8) (by decide);have s1:=aU ns 112 (m:=8) (by decide);obtain⟨sz,es⟩:∃sz:Nat,1+ϒ ns 112 8=(sz:Int):=⟨(1+ϒ ns 112 8).toNat,by omega⟩;walk_at"go";rw[es];refine⟨a,ns,113,_,rfl,Δ.seq hS,hl,by decide,by decide,by omega,?_⟩;have a0:=aQ ns 113 (m:=(sz:Int)) (by omega);have a1:=aU ns 113 (m:=(sz:Int)) (by omega);obtain⟨at_,ea⟩:=adz a0;rw[ea]at a1⊢;walk_at"go";refine⟨a,ns,114,26,rfl,Δ.seq hS,hl,by decide,by decide,by decide,?_⟩;have f0:=aQ ns 114 (m:=26) (by decide);have f1:=aU ns 114 (m:=26) (by decide);obtain⟨fi,ef⟩:=adz f0;rw[ef]at f1⊢;walk_at"go";refine⟨by show 0<=ϩ;omega,λp hp=>?_⟩;have pn:H p=none:=Δ.free hp;have aj:ζ H (upd H1 p (.lst [])):=Δ.trans (ζ.upd hp);have ep:(upd H1 p (.lst [])) p=some (.lst []):=υ;generalize upd H1 p (.lst [])=H2 at aj ep⊢;have zf:at_<sz:=by omega
   have Ed:sz<=8:=by omega
   refine ξ ?_;refine pO (by walk_at"po") (by rfl) (by rfl) n1 (by rfl) ?_;walk_at"go";refine⟨by omega,by omega,λi σ H'=>(∃o8 o9 bL,σ=[some (.ref a),some (.int m),some (.str fW),some (.str W),some (.int sz),some (.int at_),some (.int fi),some (.ref p),o8,o9,bL])/\ζ H H'/\H' p=some (.lst (((ady i).map (bw W at_ sz fi (decide (ϒ ns 110 2=1)))).map V.str)),
    ⟨⟨none,none,none,rfl⟩,aj,ep⟩,λi σ H' hi hP=>?_,λσ H' hP=>?_⟩
   .obtain⟨⟨o8,o9,bL,rfl⟩,sm,ep'⟩:=hP
    have hi6:i<6:=by have:i<m:=by simpa using hi
                     omega
    refine Ο nd (by rfl) (.inl rfl) (.inl rfl) ?_
    have tail:∀(z:Str)(bL:Option V),z=bw W at_ sz fi (decide (ϒ ns 110 2=1)) i->∀(bk:L2.St->Hp->Prop),Κ X ((abk (mK (ϗ uR) 6)).drop 2)
      {nx:=λσ H'=>(∃o8 o9 bL,σ=[some (.ref a),some (.int m),some (.str fW),some (.str W),some (.int sz),some (.int at_),some (.int fi),some (.ref p),o8,o9,bL])/\ζ H H'/\H' p=some (.lst (((ady (i+1)).map (bw W at_ sz fi (decide (ϒ ns 110 2=1)))).map V.str)),rt:=Q,bk:=bk,
       ct:=λσ H'=>(∃o8 o9 bL,σ=[some (.ref a),some (.int m),some (.str fW),some (.str W),some (.int sz),some (.int at_),some (.int fi),some (.ref p),o8,o9,bL])/\ζ H H'/\H' p=some (.lst (((ady (i+1)).map (bw W at_ sz fi (decide (ϒ ns 110 2=1)))).map V.str))}
      [some (.ref a),some (.int m),some (.str fW),some (.str W),some (.int sz),some (.int at_),some (.int fi),some (.ref p),some (.int i),some (.str z),bL] H':=by
     intro z bL hz bk;refine ς (au (du F.plainAttrs_list F.slot_list_append F.type_list_append (h:=?_)));walk_at"go";refine⟨.inl ⟨rfl,_,η.of ep'⟩,?_⟩;walk_at"go";refine dZ jM ⟨p,_,_,rfl,rfl,ep',by rw[aaf,aaf,af7];omega,?_⟩;refine⟨⟨_,_,_,rfl⟩,λb o e=>?_,?_⟩
     .rw[θ (Ι e pn)];exact sm _ _ e
     .rw[υ,aoE,am3,am3,hz];rfl
    refine ξ ?_;walk_at"go";refine ju ?_;walk_at"go";refine⟨a,ns,110,2,rfl,sm.seq hS,hl,by decide,by decide,by decide,?_⟩;walk_at"go";refine Ε (λh=>?_) (λh=>?_)
    .have h':ϒ ns 110 2=1:=by injection h
     have l1:=pW W none (some (at_:Int));have l2:=pW W (some ((at_:Int)+1)) (some (sz:Int));have ls:(⟨#[97+(fi+7*i) % 26]⟩:Str).length=1:=rfl;have l3:=len_app (ώ W none (some (at_:Int))) ⟨#[97+(fi+7*i) % 26]⟩;refine ξ ?_;walk_at"go";rw[show((fi:Int)+7*(i:Int)) % 26=(((fi+7*i) % 26:Nat):Int)by omega];refine rB (by omega) (Ϛ (Ol (anA _ (by decide)))) ?_;refine ς ?_;walk_at"s";walk_at"go";refine ju ?_;walk_at"go";refine j9 (by omega) ?_;walk_at"go";refine ju ?_;refine j9 (by omega) ?_;refine tail _ _ ?_ _;unfold bw;rw[decide_eq_true h',if_pos rfl];rfl
    .have h':¬ϒ ns 110 2=1:=λe=>h (by rw[e])
     refine Γ (tail _ _ ?_ _);unfold bw;rw[decide_eq_false h',if_neg (by decide)];rfl
   .obtain⟨⟨o8,o9,bL,rfl⟩,sm,ep'⟩:=hP;rw[anr]at ep';generalize decide (ϒ ns 110 2=1)=b at ep';have hnd:((ady m).map (bw W at_ sz fi b)).Nodup:=by
     unfold aoU;rw[amv];refine List.Pairwise.imp_of_mem (λ{x y} hx hy hxy e=>?_) (anf (n:=m));have hx':=aiV.mp hx;have hy':=aiV.mp hy;exact hxy (U5 hwl zf Ed (by omega) (by omega) e)
    have hnm:∀z∈(ady m).map (bw W at_ sz fi b),isName z=true:=λz hz=>by
     obtain⟨j,hj,rfl⟩:=acQ.mp hz;have hj':=aiV.mp hj;have:=adb (first:=fi) (b:=b) hwl zf Ed (show j<6 by omega);exact Te this.1 this.2 (ahk hwl zf Ed O8)
    have iW:((ady m).map (bw W at_ sz fi b)).length=m:=by rw[aaf,af7]
    generalize(ady m).map (bw W at_ sz fi b)=zs at ep' hnd hnm iW;refine ξ ?_;walk_at"go";refine⟨a,ns,111,2,rfl,sm.seq hS,hl,by decide,by decide,by decide,?_⟩;walk_at"go";refine Ε (λh=>?_) (λh=>?_)
    .refine ς (au (Vh F.plainAttrs_list F.slot_list_reverse F.type_list_reverse (by rfl) (by rfl) ?_));walk_at"go";refine⟨.inl ⟨rfl,_,η.of ep'⟩,?_⟩;refine dZ ajE ⟨p,_,rfl,rfl,ep',?_⟩;walk_at"go";rw[<-aov];exact q p zs.reverse _ (λb o e=>by rw[θ (Ι e pn)];exact sm _ _ e) pn υ (by rw[an6];exact iW) (anS.mpr (hnd.imp λh=>Ne.symm h)) (λz hz=>hnm z (aoq.mp hz))
    .walk_at "go";exact q p zs H' sm pn ep' iW hnd hnm
  .have :i<xs.length:=(aae.mp e).1;rw[an8 (by simp at hl2;omega)]
def nine:List Str:=[Str.ofString "all",Str.ofString "none",Str.ofString "is",Str.ofString "not",Str.ofString "over",Str.ofString "under",Str.ofString "holds",Str.ofString "both",Str.ofString "either"]
theorem aeb:∀z∈nine,isName z=true:=by decide+kernel
theorem af4:nine.Nodup:=by decide+kernel
theorem t8{i:Nat}(h:i<9):nine[i]?=some (nine.getD i ""):=by
 have h9:i<nine.length:=h;rw[abm,ϳ h9];rfl
theorem ahY{i j:Nat}(hi:i<9)(hj:j<9)(e:nine.getD i ""=nine.getD j ""):i=j:=by
 have e1:=t8 hi;have e2:=t8 hj;rw[e]at e1;have h9:i<nine.length:=hi;have g9:j<nine.length:=hj;have a1:nine[i]=nine.getD j "":=by
  have:=ϳ h9;rw[this]at e1;exact Option.some.inj e1
 have a2:nine[j]=nine.getD j "":=by
  have:=ϳ g9;rw[this]at e2;exact Option.some.inj e2
 exact(amF af4).mp (a1.trans a2.symm)
theorem ab9{cs:List ο}(h1:1<=cs.length)(h6:cs.length<=6)(hn:(cs.map Prod.fst).Nodup)(h:∀c∈cs,isName c.1=true/\(c.2="number"\/c.2="text")):ϓ cs=true:=by
 unfold ϓ gO;rw[aaH,aaH,decide_eq_true_eq,decide_eq_true_eq,adM];exact⟨⟨⟨h1,h6⟩,λc hc=>by rw[(h c hc).1,decide_eq_true (h c hc).2];rfl⟩,hn⟩
def afQ(K:Ϩ):Sp:=λvs H Q _=>∃(a:δ)(ns:List Int),vs=[.ref a]/\η K H a (ns.map V.int)/\ns.length<=63/\∀p cs H',ζ H H'->H p=none->ϋ H' p cs->ϓ cs=true->Q (.ref p) H'
theorem Di(T:Txt K mg):Def P w K mg base true 3 "_law_columns" ["_law_script"] (afQ K):=by
 refine Ν T.Di Ii (λ_ _ _ _ s H vs Q E hr h=>?_);intro X;obtain⟨a,ns,rfl,hS,hl,q⟩:=h;have nd:=Ii.nd;have n1:=T.mX;have n2:=T.bR;have hsz:=ϱ;have D1:= @fu P w K mg base T;have D2:= @Bb P w K mg base T;have qZ:(["_law_k","_law_names_here","_law_script"]:List Str).Nodup:=by decide+kernel
 have fin:∀(m:Nat)(L:δ)(zs:List Str)(H1:Hp)(o3:Option V),1<=m->m<=6->ζ H H1->H1 L=some (.lst (zs.map V.str))->zs.length=m->zs.Nodup->(∀z∈zs,isName z=true)->
   Κ X ((ϗ nU).drop 4) {nx:=λ_ H'=>Q .non H',rt:=Q} [some (.ref a),some (.int m),some (.ref L),o3] H1:=by
  intro m L zs H1 o3 hm1 uL Δ hL lX Ge zc;have Gh:(zs.map V.str).length=zs.length:=aaf ..;have SL:η K H1 L (zs.map V.str):=η.of hL;refine ς (Ζ ?_);refine Lg ["_law_k","_law_names_here","_law_script"] (σ':=[none,some (.ref L),some (.ref a)]) (cC (ρ nU)) n1 ?_;walk_at"go";rw[Gh];refine⟨by omega,by omega,λτ=>∃o1,τ=[o1,some (.ref L),some (.ref a)],λE2 i u H'=>∃kk:Str,(kk="number"\/kk="text")/\∃t,u=.ref t/\t≠E2/\H' t=some (.tup [.str (zs.getD i ""),.str kk]),⟨none,rfl⟩,λE2 i u H2 H3 ys _ y2 y3=>?_,λfp E2 C s3 H0 i τ x H4 H3 cX hi hτ Ρ hys hG=>?_,λL2 H2 ys hL2 hl2 hx2 e2 Η =>?_⟩
  .obtain⟨kk,hk,t,rfl,ht,hq⟩:=y3;exact⟨kk,hk,t,rfl,ht,y2 _ _ ht hq⟩
  .obtain⟨o1,rfl⟩:=hτ;obtain⟨rfl,rfl⟩:=hG;have hi':i<zs.length:=by simpa using hi
   have hz:(zs.map V.str)[i]?=some (V.str (zs.getD i "")):=by
    rw[aa2,abm,ϳ hi'];rfl
   refine Ο qZ (by rfl) (.inl rfl) (.inr rfl) ?_;walk_at"go";refine ϐ (Ρ.seq SL) (Ϛ hz) ?_;walk_at"go";refine⟨by show 2<=ϩ;omega,λk hk=>?_⟩;obtain⟨uP,ek⟩:=ϙ hk (.lst [.str "number",.str "text"]);generalize upd H4 k (.lst [.str "number",.str "text"])=H5 at uP ek⊢;walk_at"go";refine⟨a,ns,10+i,2,rfl,((Δ.trans Ρ).trans uP).seq hS,hl,by omega,by omega,by decide,?_⟩;have k0:=aQ ns (10+i) (m:=2) (by decide);have k1:=aU ns (10+i) (m:=2) (by decide);obtain⟨kd,e1,e2⟩:=GJ (xs:=[V.str "number",V.str "text"]) k0 (by show _<(2:Int);omega);refine ϐ (η.of ek) e1 ?_;walk_at"go";obtain⟨kk,rfl,hkk⟩:∃kk:Str,kd=.str kk/\(kk="number"\/kk="text"):=by
    obtain e|e:=ϴ.mp e2
    .exact⟨_,e,.inl rfl⟩
    .exact⟨"text",by simpa using e,.inr rfl⟩
   refine⟨by show 2<=ϩ;omega,λtp htp=>?_⟩;refine⟨⟨_,rfl⟩,⟨kk,hkk,tp,rfl,λe=>?_,υ⟩,uP.trans (ζ.upd htp)⟩;obtain⟨zs',hz'⟩:=hys;rw[e,uP _ _ hz']at htp;cases htp
  .have hyl:ys.length=zs.length:=by rw[hl2];simp
   have hex:∀(k:Nat)(ys:List V)(zs:List Str),ys.length=zs.length->(∀(i:Nat) u,ys[i]?=some u->∃kk:Str,(kk="number"\/kk="text")/\∃t,u=.ref t/\H2 t=some (.tup [.str (zs.getD i ""),.str kk]))->∃cs:List ο,ω (tu H2) ys cs/\cs.map Prod.fst=zs/\∀c∈cs,c.2="number"\/c.2="text":=by
    intro _ ys;induction ys with
    |nil=>
     intro zs hl _;cases zs with
     |nil=>exact⟨[],.nil,rfl,λc hc=>by simp at hc⟩
     |cons _ _=>simp at hl
    |cons u ys ih=>
     intro zs hl h;cases zs with
     |nil=>simp at hl
     |cons z zs=>
      obtain⟨kk,hk,t,rfl,ht⟩:=h 0 u rfl;obtain⟨cs,h1,h2,h3⟩:=ih zs (by simpa using hl) λi u e=>by
       have:=h (i+1) u (by simpa using e);simpa using this
      refine⟨(z,kk)::cs,.cons ⟨t,rfl,by simpa using ht⟩ h1,by simp[h2],λc hc=>?_⟩;obtain e|e:=ϴ.mp hc
      .subst e;exact hk
      .exact h3 c e
   obtain⟨cs,h1,h2,h3⟩:=hex 0 ys zs hyl λi u e=>by
    obtain⟨kk,hk,t,e1,_,e3⟩:=hx2 i u e;exact⟨kk,hk,t,e1,e3⟩
   have hcl:cs.length=zs.length:=by rw[<-h2,aaf]
   refine q L2 cs H2 (Δ.trans Η) (Δ.free hL2) ⟨ys,e2,h1⟩ (ab9 (by omega) (by omega) (by rw[h2];exact Ge) λc hc=>⟨zc _ ?_,h3 c hc⟩);rw[<-h2];exact List.mem_map_of_mem hc
 have mid:∀(m:Nat),1<=m->m<=6->Κ X ((ϗ nU).drop 2) {nx:=λ_ H'=>Q .non H',rt:=Q} [some (.ref a),some (.int m),none,none] H:=by
  intro m hm1 uL;refine ξ ?_;walk_at"go";refine⟨a,ns,m,rfl,hS,hl,uL,λL zs H1 Δ pR hL lX Ge zc=>?_⟩;have Gh:(zs.map V.str).length=zs.length:=aaf ..;refine ξ ?_;walk_at"go";refine⟨a,ns,9,4,rfl,Δ.seq hS,hl,by decide,by decide,by decide,?_⟩;walk_at"go";refine Ε (λh=>?_) (λh=>?_)
  .refine ξ ?_;walk_at"go";refine⟨by show 9<=ϩ;omega,λy hy=>?_⟩;obtain⟨mR,ey⟩:=ϙ hy (.lst (nine.map V.str));change Κ _ _ _ _ (upd H1 y (.lst (nine.map V.str)));generalize upd H1 y (.lst (nine.map V.str))=H2 at mR ey⊢;have SL:η K H2 L (zs.map V.str):=η.of (mR _ _ hL);refine ς ?_;walk_at"s";refine O6 ["_law_k","_law_script","_law_some"] (σ':=[none,some (.ref a),some (.ref y)]) (cC (ρ nU)) n1 ?_;walk_at"go";rw[Gh];have d0:=aQ ns 8 (m:=9) (by decide);have d1:=aU ns 8 (m:=9) (by decide);obtain⟨d,ed⟩:=adz d0;have hd:d<9:=by omega
   refine⟨by omega,by omega,λi v=>v=.str (nine.getD ((d+2*i) % 9) ""),λfp E' C s3 H0 i H3 hi sm=>?_,λE' H3 xs hE hl2 hx e2 sm=>?_⟩
   .walk_at "go";refine⟨a,ns,8,9,rfl,((Δ.trans mR).trans sm).seq hS,hl,by decide,by decide,by decide,?_⟩;rw[ed];walk_at"go";rw[show((d:Int)+2*(i:Int)) % 9=(((d+2*i) % 9:Nat):Int)by omega];have hg:(nine.map V.str)[(d+2*i) % 9]?=some (V.str (nine.getD ((d+2*i) % 9) "")):=by
     rw[aa2,t8 (anA _ (by decide))];rfl
    exact ϐ (η.of (sm _ _ ey)) (Ϛ hg) ⟨rfl,ζ.refl _⟩
   .have ex:=jT (ys:=ady zs.length) (λi:Nat=>V.str (nine.getD ((d+2*i) % 9) "")) (by rw[hl2,af7];simp) (λi v e=>⟨i,?_,hx i v e⟩)
    .have qG:xs=((ady zs.length).map λi:Nat=>nine.getD ((d+2*i) % 9) "").map V.str:=by
      rw[ex,agn];rfl
     subst qG;refine fin m E' _ H3 _ hm1 uL ((Δ.trans mR).trans sm) e2 (by rw[aaf,af7];exact lX) ?_ λz hz=>?_
     .unfold aoU;rw[amv];refine List.Pairwise.imp_of_mem (λ{x y} hx hy hxy e=>?_) (anf (n:=zs.length));have hx':=aiV.mp hx;have hy':=aiV.mp hy;have:=ahY (anA _ (by decide)) (anA _ (by decide)) e;omega
     .obtain⟨i,_,rfl⟩:=acQ.mp hz;have h9:(d+2*i) % 9<9:=anA _ (by decide);exact aeb _ (aaJ (t8 h9))
    .have :i<xs.length:=(aae.mp e).1;rw[an8 (by simp at hl2;omega)]
  .refine Γ ?_;exact fin m L zs H1 _ hm1 uL Δ hL lX Ge zc
 refine ξ ?_;walk_at"go";refine⟨a,ns,0,4,rfl,hS,hl,by decide,by decide,by decide,?_⟩;have c0:=aQ ns 0 (m:=4) (by decide);have c1:=aU ns 0 (m:=4) (by decide);obtain⟨m,em⟩:∃m:Nat,1+ϒ ns 0 4=(m:Int):=⟨(1+ϒ ns 0 4).toNat,by omega⟩;walk_at"go";rw[em];refine⟨a,ns,7,8,rfl,hS,hl,by decide,by decide,by decide,?_⟩;walk_at"go";refine Ε (λh=>?_) (λh=>?_)
 .refine ς ?_;walk_at"s";walk_at"go";refine⟨a,ns,6,2,rfl,hS,hl,by decide,by decide,by decide,?_⟩;have c2:=aQ ns 6 (m:=2) (by decide);have c3:=aU ns 6 (m:=2) (by decide);obtain⟨m',Yk⟩:∃m:Nat,5+ϒ ns 6 2=(m:Int):=⟨(5+ϒ ns 6 2).toNat,by omega⟩;walk_at"ex";rw[Yk];exact mid m' (by omega) (by omega)
 .exact Γ (mid m (by omega) (by omega))
def ϕ(kd:Str)(v:V):Prop:=v=.non\/(kd="number"/\∃i,v=.int i/\ -1000000000000000000<=i/\i<=1000000000000000000)\/(¬kd="number"/\∃z,v=.str z/\z.length<=20/\∀c∈z.cps.toList,c∈SG)
theorem ϕ.sc{kd:Str}{v:V}(h:ϕ kd v):scalar v=true:=by
 obtain rfl|⟨_,i,rfl,_⟩|⟨_,z,rfl,_⟩:=h<;>rfl
theorem ϕ.lH{kd:Str}{v:V}(h:ϕ kd v):lH v=true/\∀z,v=.str z->gQ 4000 z:=by
 obtain rfl|⟨_,i,rfl,_⟩|⟨_,z,rfl,hl,hz⟩:=h
 .exact⟨rfl,λz e=>by cases e⟩
 .exact⟨rfl,λz e=>by cases e⟩
 .exact⟨rfl,λy e=>by cases e;exact gQ.sg (by omega) hz⟩
def qW:List Str:=[Str.ofString "",Str.ofString "a",Str.ofString "b",Str.ofString "ab",Str.ofString "a-",Str.ofString "0",Str.ofString "z9",Str.ofString "aa"]
theorem aeH:∀z∈qW,z.length<=20/\∀c∈z.cps.toList,c∈SG:=by decide+kernel
def ai0(K:Ϩ):Sp:=λvs H Q _=>∃(a:δ)(ns:List Int)(k:Int)(kd:Str),vs=[.ref a,.int k,.str kd]/\η K H a (ns.map V.int)/\ns.length<=63/\0<=k/\k<=50000/\∀v H',ζ H H'->ϕ kd v->Q v H'
theorem uN(T:Txt K mg):Def P w K mg base true 2 "_law_value" ["_law_script","_law_k","_law_kind"] (ai0 K):=by
 refine Ν T.uN Hj (λ_ _ _ _ _ H vs Q E hr h=>?_);intro X;obtain⟨a,ns,k,kd,rfl,hS,hl,hk0,hk1,q⟩:=h;have nd:=Hj.nd;have n1:=T.bR;have hsz:=ϱ;have bA:(ns.map V.int).length=ns.length:=aaf ..;have D1:= @fu P w K mg base T;have tail:∀(way cell:Int),Κ X ((ϗ zJ).drop 3) {nx:=λ_ H'=>Q .non H',rt:=Q} [some (.ref a),some (.int k),some (.str kd),some (.int way),some (.int cell),none] H:=by
  intro way cell;refine ξ ?_;walk_at"go";refine Ε (λh=>?_) (λh=>?_)
  .have hn:kd="number":=by injection h
   walk_at"go";refine Ε (λh1=>?_) (λh1=>?_)
   .walk_at "go";refine⟨a,ns,k+1,3,rfl,hS,hl,by omega,by omega,by decide,?_⟩;have c0:=aQ ns (k+1) (m:=3) (by decide);have c1:=aU ns (k+1) (m:=3) (by decide);generalize ϒ ns (k+1) 3=d at c0 c1⊢;walk_at"go";exact q _ _ (ζ.refl _) (.inr (.inl ⟨hn,_,rfl,by omega,by omega⟩))
   .walk_at "go";refine Ε (λh2=>?_) (λh2=>?_)
    .walk_at "go";have c0:=akJ cell (b:=2*1000000000000000000+1) (by decide);have c1:=akE cell (b:=2*1000000000000000000+1) (by decide);exact q _ _ (ζ.refl _) (.inr (.inl ⟨hn,_,rfl,by omega,by omega⟩))
    .walk_at "go";refine⟨a,ns,k+1,4,rfl,hS,hl,by omega,by omega,by decide,?_⟩;have c0:=aQ ns (k+1) (m:=4) (by decide);have c1:=aU ns (k+1) (m:=4) (by decide);generalize ϒ ns (k+1) 4=d at c0 c1⊢;walk_at"go";exact q _ _ (ζ.refl _) (.inr (.inl ⟨hn,_,rfl,by omega,by omega⟩))
  .have hn:¬kd="number":=λe=>h (by rw[e])
   walk_at"go";refine Ε (λh1=>?_) (λh1=>?_)
   .have z3:∀j,j<3->("z9-":Str).cps.toList[j]?=some (("z9-":Str).cps.toList.getD j 0):=by decide+kernel
    have z4:∀j,j<4->("a0-z":Str).cps.toList[j]?=some (("a0-z":Str).cps.toList.getD j 0):=by decide+kernel
    have g3:∀j,j<3->("z9-":Str).cps.toList.getD j 0∈SG:=by decide+kernel
    have g4:∀j,j<4->("a0-z":Str).cps.toList.getD j 0∈SG:=by decide+kernel
    refine ξ ?_;walk_at"go";refine⟨a,ns,k+1,3,rfl,hS,hl,by omega,by omega,by decide,?_⟩;have c0:=aQ ns (k+1) (m:=3) (by decide);have c1:=aU ns (k+1) (m:=3) (by decide);obtain⟨d,ed⟩:=adz c0;rw[ed];have hd:d<3:=by omega
    refine rB (by decide+kernel) (Ϛ (z3 d hd)) ?_;have gd:=g3 d hd;generalize("z9-":Str).cps.toList.getD d 0=x at gd⊢;refine ς ?_;walk_at"go";refine agj (by decide) (by decide) (by show 0<1;decide) (by show 1*19<=ϩ;omega) ?_;have r1:=agA x 19 (by decide);have r2:(mV (⟨#[x]⟩:Str) 19).length=19:=by rw[L2.len_list,r1,anP];rfl
    walk_at"go";refine⟨a,ns,k+2,4,rfl,hS,hl,by omega,by omega,by decide,?_⟩;have e0:=aQ ns (k+2) (m:=4) (by decide);have e1:=aU ns (k+2) (m:=4) (by decide);obtain⟨d2,wI⟩:=adz e0;rw[wI];have hd2:d2<4:=by omega
    refine rB (by decide+kernel) (Ϛ (z4 d2 hd2)) ?_;have Mw:=g4 d2 hd2;generalize("a0-z":Str).cps.toList.getD d2 0=y at Mw⊢;have r3:(⟨#[y]⟩:Str).length=1:=rfl;have r4:=len_app (mV (⟨#[x]⟩:Str) 19) ⟨#[y]⟩;refine j9 (by omega) ?_;refine q _ _ (ζ.refl _) (.inr (.inr ⟨hn,_,rfl,by omega,λc hc=>?_⟩));rw[cT,r1]at hc;obtain e|e:=adT.mp hc
    .rw[List.eq_of_mem_replicate e];exact gd
    .have :c=y:=by simpa using e
     rw[this];exact Mw
   .walk_at "go";refine⟨by show 8<=ϩ;omega,λp hp=>?_⟩;obtain⟨aa,ep⟩:=ϙ hp (.lst (qW.map V.str));change EV _ _ _ (upd H p (.lst (qW.map V.str))) _;generalize upd H p (.lst (qW.map V.str))=H2 at aa ep⊢;walk_at"go";refine⟨a,ns,k+1,8,rfl,aa.seq hS,hl,by omega,by omega,by decide,?_⟩;have c0:=aQ ns (k+1) (m:=8) (by decide);have c1:=aU ns (k+1) (m:=8) (by decide);obtain⟨v,e1,e2⟩:=GJ (xs:=qW.map V.str) c0 (by show _<(8:Int);omega);refine ϐ (η.of ep) e1 ?_;obtain⟨z,hz,rfl⟩:=acQ.mp e2;exact q _ _ aa (.inr (.inr ⟨hn,z,rfl,aeH z hz⟩))
 refine ξ ?_;walk_at"go";refine⟨a,ns,k,8,rfl,hS,hl,by omega,by omega,by decide,?_⟩;walk_at"go";refine Ε (λh0=>?_) (λh0=>?_)
 .walk_at "go";exact q _ _ (ζ.refl _) (.inl rfl)
 .walk_at "go";rw[bA];refine Ε (λh3=>?_) (λh3=>?_)
  .walk_at "go";rw[bA];walk_at"go";refine ϐ hS (Aa 0 (akJ _ (by omega)) (akE _ (by omega))) ?_;exact tail _ _
  .walk_at "ex";exact tail _ _
def aeG(K:Ϩ):Sp:=λvs H Q _=>∃(a:δ)(ns:List Int)(k:Int)(b:δ)(cs:List ο),vs=[.ref a,.int k,.ref b]/\η K H a (ns.map V.int)/\ns.length<=63/\0<=k/\k<=40000/\ϋ H b cs/\cs.length<=6/\∀p xs H',ζ H H'->H p=none->H' p=some (.lst xs)->ω (λc x=>ϕ c.2 x) cs xs->Q (.ref p) H'
theorem mH{α β:Type}{R:α->β->Prop}:∀{l:List α}{m:List β},m.length=l.length->(∀(i:Nat) b,m[i]?=some b->∃a,l[i]?=some a/\R a b)->ω R l m
 |[],[],_,_=>.nil
 |[],_::_,h,_=>by simp at h
 |_::_,[],h,_=>by simp at h
 |a::l,b::m,h,g=>by
  obtain⟨a',e,r⟩:=g 0 b rfl;have:a=a':=by simpa using e
  subst this;exact .cons r (mH (by simpa using h) λi x e=>by simpa using g (i+1) x (by simpa using e))
theorem wD(T:Txt K mg):Def P w K mg base true 3 "_law_values" ["_law_script","_law_k","_law_columns_here"] (aeG K):=by
 refine Ν T.wD aiL (λ_ _ _ _ _ H vs Q E hr h=>?_);intro X;obtain⟨a,ns,k,b,cs,rfl,hS,hl,hk0,hk1,hC,hc6,q⟩:=h;have n1:=T.mX;have n2:=T.bR;have hsz:=ϱ;have D1:= @uN P w K mg base T;have qZ:(["_law_n","_law_columns_here","_law_k","_law_script"]:List Str).Nodup:=by decide+kernel
 obtain⟨vs,hb,hvs⟩:=id hC;have hvl:=hvs.len;have SB:η K H b vs:=η.of hb;refine ς (Ζ ?_);refine Lg ["_law_n","_law_columns_here","_law_k","_law_script"] (σ':=[none,some (.ref b),some (.int k),some (.ref a)]) (cC (ρ yO)) n1 ?_;walk_at"go";refine⟨by omega,by omega,λτ=>∃o1,τ=[o1,some (.ref b),some (.int k),some (.ref a)],λE2 i u H'=>∃c,cs[i]?=some c/\ϕ c.2 u,⟨none,rfl⟩,λE2 i u H2 H3 ys _ _ p=>p,λfp E2 C s3 H0 i τ x H4 H3 cX hi hτ Ρ hys hG=>?_,λL H1 ys hL hl2 hx2 e1 Δ =>?_⟩
 .obtain⟨o1,rfl⟩:=hτ;obtain⟨rfl,rfl⟩:=hG;have hil:i<vs.length:=by simpa using hi
  have hg:vs[i]?=some vs[i]:=ϳ hil;obtain⟨c,hc,t,ev,ht⟩:=hvs.get hg;refine Ο qZ (by rfl) (.inl rfl) (.inr rfl) ?_;walk_at"go";refine ϐ (Ρ.seq SB) (Ϛ hg) ?_;rw[ev];walk_at"go";refine Θ (ψ.of (Ρ _ _ ht)) (show Μ [V.str c.1,V.str c.2] 1=some (V.str c.2)from rfl) ?_;walk_at"go";refine⟨a,ns,_,c.2,rfl,Ρ.seq hS,hl,by omega,by omega,λv H5 iR hv=>?_⟩;exact⟨⟨_,rfl⟩,⟨c,hc,hv⟩,iR⟩
 .exact q L ys H1 Δ hL e1 (mH (by rw[hl2, <-hvl];simp) hx2)
def aag(K:Ϩ)(mg:Str->Option ε):Sp:=λvs H Q E=>∃(a:δ)(ws:List Str)(p:Nat),vs=[.ref a,.int p]/\η K H a (ws.map V.str)/\ws.length<=4000/\p<=100000/\
 (¬(p<ws.length/\p<60)->∀e H',ζ H H'->H' e=some (.xd [("at",.int p)])->E (.ref (ι mg "NoSieve")) (some e,true) H')/\∀z,ws[p]?=some z->p<60->Q (.str z) H
theorem pG(T:Txt K mg):Def P w K mg base true 3 "word_at" ["words","place"] (aag K mg):=by
 refine Ν T.pG ZZ (λ_ _ _ _ _ H vs Q E hr h=>?_);intro X;obtain⟨a,ws,p,rfl,hS,hl,hp,bad,q⟩:=h;have n1:=T.bR;have g1:=T.U7;have bA:(ws.map V.str).length=ws.length:=aaf ..;have rest:¬(p<ws.length/\p<60)->Κ X [mK (Jm (mK (ϗ uF) 0)) 0] {nx:=λσ' H'=>Κ X ((ϗ uF).drop 1) {nx:=λ_ H'=>Q .non H',rt:=Q} σ' H',rt:=Q} [some (.ref a),some (.int p)] H:=by
  intro hb;refine ς (v8 (JP T (cc:=true)) hr (λ_=>rfl) Χ ?_);walk_at"go";exact⟨p,rfl,by omega,λe H' sm he=>bad hb e H' sm he⟩
 refine ξ ?_;walk_at"go";rw[bA];refine Ε (λh=>?_) (λh=>?_)
 .exact rest (by omega)
 .walk_at "go";refine Ε (λh2=>?_) (λh2=>?_)
  .exact rest (by omega)
  .walk_at "go";have hlt:p<ws.length:=by omega
   have hg:ws[p]?=some ws[p]:=ϳ hlt;refine ϐ hS (Ϛ (by rw[aa2,hg];rfl)) ?_;exact q _ hg (by omega)
def bU(ws:List Str)(s b:Nat):Str:=Str.join " " ((ws.drop s).take (b-s))
def aix(K:Ϩ):Sp:=λvs H Q _=>∃(a:δ)(ws:List Str)(s b:Nat),vs=[.ref a,.int s,.int b]/\η K H a (ws.map V.str)/\ws.length<=4000/\(∀z∈ws,z.length<=1000)/\s<=b/\b<=ws.length/\∀H',ζ H H'->Q (.str (bU ws s b)) H'
theorem Gu:∀{l:List Str},(∀z∈l,z.length<=1000)->(l.map (·.length)).sum<=l.length*1000
 |[],_=>by simp
 |z::l,h=>by
  have h1:=Gu (l:=l) λy hy=>h y (by simp[hy])
  have h2:=h z (by simp);simp only[List.map_cons,List.sum_cons,List.length_cons];omega
theorem lO(T:Txt K mg):Def P w K mg base true 1 "text_between" ["words","start","behind"] (aix K):=by
 refine Ν T.lO aiF (λ_ _ _ _ _ H vs Q E hr h=>?_);intro X;obtain⟨a,ws,i,j,rfl,hS,hl,hz,hij,hj,q⟩:=h;have lb:(" ":Str).length=1:=by decide+kernel
 have hsz:=ϱ;refine ς (Ζ ?_);walk_at"go";refine BR hS λp hp=>?_
 have e:gA (ws.map V.str) (some (i:Int)) (some (j:Int))=((ws.drop i).take (j-i)).map V.str:=by
  unfold gA;have bA:(ws.map V.str).length=ws.length:=aaf ..;have e1:HT.Ω (ws.map V.str).length 0 (some (i:Int))=i:=by
   rw[bA];unfold HT.Ω;split
   .rename_i h;cases h
   .rename_i h;cases h;rw[if_neg (by omega)];omega
  have e2:HT.Ω (ws.map V.str).length (ws.map V.str).length (some (j:Int))=j:=by
   rw[bA];unfold HT.Ω;split
   .rename_i h;cases h
   .rename_i h;cases h;rw[if_neg (by omega)];omega
  rw[e1,e2, <-List.map_drop, <-List.map_take]
 rw[e];obtain⟨sm,ep⟩:=ϙ hp (.lst (((ws.drop i).take (j-i)).map V.str));generalize upd H p (.lst (((ws.drop i).take (j-i)).map V.str))=H2 at sm ep⊢;walk_at"go";refine qw (η.of ep) ?_ (q H2 sm);have h1:=Gu (l:=(ws.drop i).take (j-i)) λz h=>hz z (ag4 (ahj h))
 have h2:((ws.drop i).take (j-i)).length<=4000:=by
  rw[ae1,afw];omega
 rw[lb];omega
theorem ZG{cs:List ο}{z:Str}:∀{i:Nat}{c:ο}(j:Nat),cs[i]?=some c->(∀k c,k<i->cs[k]?=some c->¬c.1=z)->c.1=z->eU cs z j=.int ((j+i:Nat):Int):=by
 induction cs with
 |nil=>intro i c j e;simp at e
 |cons d r ih=>
  intro i c j e h hz;unfold eU;cases i with
  |zero=>
   simp at e;subst e;rw[if_pos hz];rfl
  |succ i=>
   rw[if_neg (h 0 d (by omega) rfl)];rw[ih (j+1) (by simpa using e) (λk c hk e'=>h (k+1) c (by omega) (by simpa using e')) hz]
   congr 2
   omega
theorem Gm{cs:List ο}{z:Str}:∀(j:Nat),(∀c∈cs,¬c.1=z)->eU cs z j=.non:=by
 induction cs with
 |nil=>intro j h;rfl
 |cons d r ih=>
  intro j h;unfold eU;rw[if_neg (h d (by simp)),ih (j+1) λc hc=>h c (by simp[hc])]
theorem sX(T:Txt K mg):Def P w K mg base true 1 "place_of" ["columns","name"] X5:=by
 refine Ν T.sX MP (λ_ _ _ _ _ H vs Q E hr h=>?_);intro X;obtain⟨a,cs,z,rfl,⟨vs,ha,hvs⟩,q⟩:=h;have n1:=T.adF;have nd:=MP.nd;refine ξ ?_;refine ag6 (by walk_at"po") (by rfl) (by rfl) n1 (by rfl) ?_;walk_at"go";refine⟨a,vs,rfl,ha,λi σ H'=>(∃o1 o2,σ=[some (.ref a),some (.str z),o1,o2])/\ζ H H'/\∀k c,k<i->cs[k]?=some c->¬c.1=z,⟨⟨none,none,rfl⟩,ζ.refl _,λk c hk=>by omega⟩,λi σ H' hi hP=>.inl (.inl (hP.2.1 _ _ ha)),λi x T' σ H' hx hP hT=>?_,λσ H' hP=>?_⟩
 .obtain⟨⟨o1,o2,rfl⟩,sm,hn⟩:=hP;obtain⟨c,hc,t,rfl,ht⟩:=hvs.get hx;have Η :=sm.trans (ζ.upd (o:=.tup [.int i,.ref t]) hT);have eT:(upd H' T' (.tup [.int i,.ref t])) T'=some (.tup [.int i,.ref t]):=υ;generalize upd H' T' (.tup [.int i,.ref t])=H2 at Η eT⊢;refine bM (ψ.of eT) (ϖ (Ο nd (by rfl) (.inl rfl) (.inl rfl) (ϖ (Ο nd (by rfl) (.inl rfl) (.inl rfl) (bJ ?_)))));refine ς ?_;walk_at"go";refine Θ (ψ.of (Η _ _ ht)) (show Μ [V.str c.1,V.str c.2] 0=some (V.str c.1)from rfl) ?_;walk_at"go";refine Ε (λh=>?_) (λh=>?_)
  .have hz:c.1=z:=by injection h
   walk_at"go";have:=ZG 0 hc hn hz;rw[anq]at this;rw[<-this];exact q H2 Η
  .have hz:¬c.1=z:=λe=>h (by rw[e])
   walk_at"go";refine⟨⟨_,_,rfl⟩,Η,λk d hk hd=>?_⟩;by_cases e:k=i
   .subst e;rw[hc]at hd;cases hd;exact hz
   .exact hn k d (by omega) hd
 .obtain⟨⟨o1,o2,rfl⟩,sm,hn⟩:=hP;refine ς ?_;walk_at"go";have:=Gm (cs:=cs) (z:=z) 0 λc hc=>by
   obtain⟨k,hk,e⟩:=amU hc;exact hn k c (by rw[hvs.len];exact hk) (by rw[<-e];exact ϳ hk)
  rw[<-this];exact q H' sm
def dG(cs:List ο)(ws:List Str)(p:Nat):Option Nat:=if p<60 then match ws[p]? with
 |none=>none
 |some z=>if cs.any (λc=>decide (c.1=z))=true then some (ϊ cs z)else none
 else none
def aaI(K:Ϩ)(mg:Str->Option ε):Sp:=λvs H Q E=>∃(b:δ)(cs:List ο)(a:δ)(ws:List Str)(p:Nat),vs=[.ref b,.ref a,.int p]/\ϋ H b cs/\η K H a (ws.map V.str)/\ws.length<=4000/\p<=100000/\
 (dG cs ws p=none->∀e H',ζ H H'->H' e=some (.xd [("at",.int p)])->E (.ref (ι mg "NoSieve")) (some e,true) H')/\∀i H',ζ H H'->dG cs ws p=some i->Q (.int (i:Nat)) H'
theorem vX(T:Txt K mg):Def P w K mg base true 4 "read_column" ["columns","words","place"] (aaI K mg):=by
 refine Ν T.vX Rf (λ_ _ _ _ _ H vs Q E hr h=>?_);intro X;obtain⟨b,cs,a,ws,p,rfl,hC,hS,hl,hp,bad,q⟩:=h;have nd:=Rf.nd;have D1:= @sX P w K mg base T;have D2:= @pG P w K mg base T;refine ξ ?_;walk_at"go";refine⟨a,ws,p,rfl,hS,hl,hp,λhb e H' sm he=>bad ?_ e H' sm he,λz hz sI=>?_⟩
 .unfold dG;by_cases sI:p<60
  .rw[if_pos sI,List.getElem?_eq_none (by omega)]
  .rw[if_neg sI]
 .walk_at "go";refine⟨b,cs,z,rfl,hC,λH2 sm=>?_⟩;by_cases ϻ:∃c∈cs,c.1=z
  .have e:dG cs ws p=some (ϊ cs z):=by
    unfold dG;rw[if_pos sI,hz];exact if_pos (by rw[ane];obtain⟨c,hc,e⟩:=ϻ;exact⟨c,hc,decide_eq_true e⟩)
   rw[zg 0 ϻ,anq];walk_at"go";exact q _ H2 sm e
  .have e:dG cs ws p=none:=by
    unfold dG;rw[if_pos sI,hz];exact if_neg (by rw[ane];rintro⟨c,hc,e⟩;exact ϻ ⟨c,hc,of_decide_eq_true e⟩)
   rw[Gm 0 λc hc e=>ϻ ⟨c,hc,e⟩];refine ξ ?_;walk_at"go";refine v8 (JP T (cc:=true)) hr (λ_=>rfl) Χ ?_;walk_at"go";exact⟨p,rfl,by omega,λe' H' sm' he=>bad e e' H' (sm.trans sm') he⟩
theorem xu(T:Txt K mg):Def P w K mg base true 1 "value_before" ["one","other"] ahG:=by
 refine Ν T.xu Tw (λ_ _ _ _ _ H vs Q E hr h=>?_);intro X;obtain⟨x,y,rfl,hs,q⟩:=h;refine ξ ?_;walk_at"go";refine Ε (λh=>?_) (λh=>?_)
 .subst h;walk_at"go";have e:before x .non=false:=by cases x<;>rfl
  rw[e]at q;exact q
 .walk_at "go";refine Ε (λh2=>?_) (λh2=>?_)
  .subst h2;walk_at"go";have e:before .non y=true:=by cases y<;>first|rfl|exact absurd rfl h
   rw[e]at q;exact q
  .obtain e|e|⟨i,j,rfl,rfl⟩|⟨i,j,rfl,rfl⟩:=hs
   .exact absurd e h2
   .exact absurd e h
   .walk_at "go";exact q
   .walk_at "go";exact q
def nJ(K:Ϩ):Sp:=λvs H Q _=>∃(a C dx:δ)(fs:List (Str×V))(z:Str),vs=[.ref a,.str z]/\H a=some (.ins C dx fs)/\ϔ K C/\ Λ K C "text"/\fs.length<900/\Q .non (upd H a (.ins C dx (ϝ "text" (.str z) fs)))
theorem tR{cc:Bool}:FD P w K mg base cc 1 "__init__" "Sieve.__init__" xJ ["self","text"] (nJ K):=by
 refine aK TV (λ_ _ _ _ _ H vs Q E hr h=>?_);intro X;obtain⟨a,C,dx,fs,z,rfl,ha,hc,hn,hl,q⟩:=h;refine ς (dN ?_);walk_at"e";walk_at"e";exact⟨a,C,dx,fs,rfl,ha,hc,hn,by omega,q⟩
def Oc(K:Ϩ):Sp:=λvs H Q _=>∃(a C dx:δ)(fs:List (Str×V))(z:Str)(p:V),vs=[.ref a,.str z,p]/\H a=some (.ins C dx fs)/\ϔ K C/\ Λ K C "text"/\ Λ K C "place"/\fs.length<800/\
 Q .non (upd (upd H a (.ins C dx (ϝ "text" (.str z) fs))) a (.ins C dx (ϝ "place" p (ϝ "text" (.str z) fs))))
theorem Xu(T:Txt K mg){cc:Bool}:FD P w K mg base cc 2 "__init__" "NoneSieve.__init__" yF ["self","text","place"] (Oc K):=by
 refine aK ZF (λ_ _ _ _ _ H vs Q E hr h=>?_);intro X;obtain⟨a,C,dx,fs,z,p,rfl,ha,hc,hn,hn2,hl,q⟩:=h;have B:nY P w K mg base cc 1 "Sieve" "__init__" ["self","text"] (nJ K):=tR.asked T.wZ T.xG;have hz:=jC "text" (V.str z) fs;refine ξ (au ?_);refine u6 (pl:=_) B hr id Χ ?_;walk_at"go";refine⟨a,C,dx,fs,z,rfl,ha,hc,hn,by omega,?_⟩;refine ς (dN ?_);walk_at"e";walk_at"e";exact⟨a,C,dx,_,rfl,υ,hc,hn2,by omega,q⟩
def rW(K:Ϩ):Sp:=λvs H Q _=>∃(a C dx:δ)(fs:List (Str×V))(z:Str)(p v:V),vs=[.ref a,.str z,p,v]/\H a=some (.ins C dx fs)/\ϔ K C/\ Λ K C "text"/\ Λ K C "place"/\ Λ K C "value"/\fs.length<800/\
 ∀H',H' a=some (.ins C dx (ϝ "value" v (ϝ "place" p (ϝ "text" (.str z) fs))))->(∀b o,b≠a->H b=some o->H' b=some o)->Q .non H'
theorem uo(T:Txt K mg){cc:Bool}:FD P w K mg base cc 2 "__init__" "ValueSieve.__init__" ph ["self","text","place","value"] (rW K):=by
 refine aK aaB (λ_ _ _ _ _ H vs Q E hr h=>?_);intro X;obtain⟨a,C,dx,fs,z,p,v,rfl,ha,hc,hn,hn2,BW,hl,q⟩:=h;have B:nY P w K mg base cc 1 "Sieve" "__init__" ["self","text"] (nJ K):=tR.asked T.wZ T.xG;have hz:=jC "text" (V.str z) fs;have hz2:=jC "place" p (ϝ "text" (V.str z) fs);refine ξ (au ?_);refine u6 (pl:=_) B hr id Χ ?_;walk_at"go";refine⟨a,C,dx,fs,z,rfl,ha,hc,hn,by omega,?_⟩;refine ξ (dN ?_);walk_at"e";walk_at"e";refine⟨a,C,dx,_,rfl,υ,hc,hn2,by omega,?_⟩;refine ς (dN ?_);walk_at"e";walk_at"e";refine⟨a,C,dx,_,rfl,υ,hc,BW,by omega,q _ υ λb o hb e=>?_⟩;rw[θ hb,θ hb,θ hb];exact e
inductive Lk|is|under|over|holds
def jU:Lk->V->V->Bool
 |.is,x,v=>decide (x=v)
 |.under,x,v=>before x v
 |.over,x,v=>before v x
 |.holds,.str x,.str v=> !(Builtin.Str.occurrences x v 0 x.length 1).isEmpty
 |.holds,_,_=>false
abbrev F3(z:Str)(p:Nat)(v:V):List (Str×V):=[("text",.str z),("place",.int p),("value",v)]
def yN:Lk->V->V->Prop
 |.holds,x,v=>∃y z,x=.str y/\v=.str z
 |_,x,v=>scalar x=true/\scalar v=true/\aD x v
def rT(l:Lk)(C:δ):Sp:=λvs H Q _=>∃(a dx:δ)(z:Str)(p:Nat)(x v:V),vs=[.ref a,x]/\H a=some (.ins C dx (F3 z p v))/\yN l x v/\Q (.bl (jU l x v)) H
theorem Vo{cc:Bool}{C:δ}(c:ϔ K C)(n:Λ K C "value"):FD P w K mg base cc 2 "fits" "ValueSieve.fits" Ar ["self","value"] (rT .is C):=by
 refine aK adU (λ_ _ _ _ _ H vs Q E hr h=>?_);intro X;obtain⟨a,dx,z,p,x,v,rfl,ha,⟨sx,sv,hl⟩,q⟩:=h;refine ς (Ζ ?_);walk_at"e";walk_at"e";refine aG ?_;walk_at"e";refine⟨a,C,dx,_,v,rfl,ha,c,n,rfl,?_⟩;refine Fi (Ew sx sv) ?_;exact q
theorem abL{x y:V}(h:aD x y):aD y x:=by
 obtain h|h|⟨i,j,a,b⟩|⟨i,j,a,b⟩:=h
 .exact .inr (.inl h)
 .exact .inl h
 .exact .inr (.inr (.inl ⟨j,i,b,a⟩))
 .exact .inr (.inr (.inr ⟨j,i,b,a⟩))
theorem YF(T:Txt K mg){C:δ}(c:ϔ K C)(n:Λ K C "value"):FD P w K mg base true 2 "fits" "UnderSieve.fits" Gb ["self","value"] (rT .under C):=by
 refine aK afz (λ_ _ _ _ _ H vs Q E hr h=>?_);intro X;obtain⟨a,dx,z,p,x,v,rfl,ha,⟨sx,sv,hl⟩,q⟩:=h;have D1:= @xu P w K mg base T;refine ς (Ζ ?_);walk_at"go";refine aG ?_;walk_at"e";refine⟨a,C,dx,_,v,rfl,ha,c,n,rfl,?_⟩;walk_at"go";exact⟨x,v,rfl,hl,q⟩
theorem adt(T:Txt K mg){C:δ}(c:ϔ K C)(n:Λ K C "value"):FD P w K mg base true 2 "fits" "OverSieve.fits" Dw ["self","value"] (rT .over C):=by
 refine aK ajV (λ_ _ _ _ _ H vs Q E hr h=>?_);intro X;obtain⟨a,dx,z,p,x,v,rfl,ha,⟨sx,sv,hl⟩,q⟩:=h;have D1:= @xu P w K mg base T;refine ς (Ζ ?_);walk_at"go";refine aG ?_;walk_at"e";refine⟨a,C,dx,_,v,rfl,ha,c,n,rfl,?_⟩;walk_at"go";exact⟨v,x,rfl,abL hl,q⟩
theorem acH{cc:Bool}{C:δ}(c:ϔ K C)(n:Λ K C "value"):FD P w K mg base cc 2 "fits" "HoldsSieve.fits" Fb ["self","value"] (rT .holds C):=by
 refine aK aav (λ_ _ _ _ _ H vs Q E hr h=>?_);intro X;obtain⟨a,dx,z,p,x,v,rfl,ha,⟨y,u,rfl,rfl⟩,q⟩:=h;refine ς (Ζ ?_);walk_at"e";refine aG ?_;walk_at"e";refine⟨a,C,dx,_,_,rfl,ha,c,n,rfl,?_⟩;walk_at"go";exact q
def Qk(K:Ϩ)(l:Lk)(C:δ):Sp:=λvs H Q _=>∃(a dx:δ)(z:Str)(p:Nat)(v:V)(b:δ)(xs:List V)(x:V),vs=[.ref a,.ref b]/\H a=some (.ins C dx (F3 z p v))/\η K H b xs/\xs[p]?=some x/\(x=.non\/yN l x v)/\Q (.bl (!decide (x=.non)&&jU l x v)) H
theorem vC{l:Lk}{C:δ}(M:aF P w K mg base true 2 C "fits" ["self","value"] (rT l C))(n:Λ K C "place"):FD P w K mg base true 3 "lets" "ValueSieve.lets" pD ["self","values"] (Qk K l C):=by
 refine aK Sx (λ_ _ _ _ _ H vs Q E hr h=>?_);intro X;obtain⟨a,dx,z,p,v,b,xs,x,rfl,ha,hb,hx,hl,q⟩:=h;have nd:=Sx.nd;refine ξ ?_;walk_at"go";refine aG ?_;walk_at"e";refine⟨a,C,dx,_,_,rfl,ha,M.cls,n,rfl,?_⟩;refine ϐ hb (Ϛ hx) ?_;walk_at"go";refine jr (λh=>?_) (λh=>?_)
 .have hx':¬x=.non:=by simpa using h
  refine N8 ?_;refine bZ (pl:=_) hr Χ (h:=?_);walk_at"e";refine⟨a,C,dx,_,_,_,_,_,rfl,ha,rfl,M,by decide,λ_=>rfl,?_⟩;walk_at"go";refine⟨a,dx,z,p,x,v,rfl,ha,hl.resolve_left hx',?_⟩;rw[h,amn]at q;exact q
 .rw[h]at q;exact q
theorem sY(T:Txt K mg):Def P w K mg base true 1 "made_of" ["text","signs"] aa9:=by
 refine Ν T.sY abD (λ_ _ _ _ _ H vs Q E hr h=>?_);intro X;obtain⟨z,g,rfl,hz,q⟩:=h;have n1:=T.K9;refine ς (Ζ ?_);walk_at"e";walk_at"e";refine ahJ ["sign","signs"] (σ':=[none,some (.str g)]) (by rfl) (by rfl) (cC (ρ Fx)) (by decide+kernel) (by rfl) (by rfl) (by intro _;rfl) ?_;walk_at"e";refine⟨z,rfl,?_,λi v=>∃c,z.cps.toList[i]?=some c/\v=.bl (decide (c∈g.cps.toList)),λfp E' C s3 H0 i c H2 hc sm=>?_,λE' H2 xs hE hl hx e2 sm=>?_⟩
 .have :z.cps.size=z.length:=rfl;have h2:ϩ=16777216:=ϱ;omega
 .walk_at "go";exact⟨⟨c,hc,by rw[StrLaws.found_one]⟩,ζ.refl _⟩
 .have ex:=jT (ys:=z.cps.toList) (λc=>V.bl (decide (c∈g.cps.toList))) (by rw[hl];simp) hx;have qG:xs=(z.cps.toList.map λc=>decide (c∈g.cps.toList)).map V.bl:=by rw[ex,agn];rfl
  subst qG;walk_at"go";refine Il (by rfl) (η.of e2) ?_;have e3:(z.cps.toList.map λc=>decide (c∈g.cps.toList)).all id=c7 z g:=by rw[aon];rfl
  rw[e3];exact q _ sm
theorem xq(T:Txt K mg):Def P w K mg base true 2 "is_text_value" ["value"] Yl:=by
 refine Ν T.xq acW (λ_ _ _ _ _ H vs Q E hr h=>?_);intro X;obtain⟨v,rfl,hs,hz,q⟩:=h;have g1:=T.Xd;have g2:=T.Vx;have n1:=T.xj;have n2:=T.Df;have n3:=T.bR;have D1:= @sY P w K mg base T;have hsz:=ϱ;refine ς (Ζ ?_);cases v with
 |int i=>
  walk_at"go";exact q H (ζ.refl _)
 |non=>
  walk_at"go";exact q H (ζ.refl _)
 |str z=>
  have hz':z.length<=4000:=hz;walk_at"go";refine Ε (λh=>?_) (λh=>?_)
  .walk_at "go";refine⟨z,_,rfl,hz',λH' sm=>?_⟩;have e:fK (.str z)=c7 z qK:=by
    have h':z.length<=20:=by omega
    unfold fK;simp[h']
   rw[e]at q;exact q H' sm
  .have e:fK (.str z)=false:=by
    have h':¬z.length<=20:=by omega
    unfold fK;simp[h']
   rw[e]at q;exact q H (ζ.refl _)
 |_=>cases hs
theorem Az(T:Txt K mg):Def P w K mg base true 2 "are_figures" ["word"] aj7:=by
 refine Ν T.Az aaF (λ_ _ _ _ _ H vs Q E hr h=>?_);intro X;obtain⟨z,rfl,hz,q⟩:=h;have g1:=T.aeU;have D1:= @sY P w K mg base T;have hsz:=ϱ;have e0:("0":Str).cps.toList=[48]:=by decide+kernel
 have e1:("":Str).cps.toList=[]:=by decide+kernel
 unfold cO at q;refine ς (Ζ ?_);walk_at"go";refine Ε (λh=>?_) (λh=>?_)
 .have h':z.cps.toList=[48]:=by cases h;exact e0
  rw[h']at q;exact q H (ζ.refl _)
 .have h':¬z.cps.toList=[48]:=λh2=>h (by rw[iu (h2.trans e0.symm)])
  rw[decide_eq_false h',anF]at q;walk_at"go";refine jg (λh2=>?_) (λh2=>?_)
  .have h2':z.cps.toList≠[]:=λh3=>h2 (by rw[iu (h3.trans e1.symm)])
   rw[decide_eq_true h2',amn]at q;obtain⟨c,r,hc⟩:=List.exists_cons_of_ne_nil h2';have hc0:z.cps.toList[0]?=some c:=by rw[hc];rfl
   walk_at"go";refine rB (by omega) (Ϛ (j:=0) hc0) ?_;walk_at"go";rw[hc0]at q;refine jg (λh3=>?_) (λh3=>?_)
   .have h3':some c≠some 48:=λh4=>h3 (by cases h4;exact congrArg V.str (iu e0.symm))
    rw[decide_eq_true h3',amn]at q;walk_at"go";refine⟨z,_,rfl,hz,λH' sm=>?_⟩;rw[abT];exact q H' sm
   .have h3':¬(some c≠some 48):=λh4=>h4 (by
     have:=congrArg (λv:V=>match v with|.str x=>x.cps.toList|_=>[]) h3;have h5:[c]=("0":Str).cps.toList:=this;rw[e0]at h5;cases h5;rfl)
    rw[decide_eq_false h3',alE]at q;exact q H (ζ.refl _)
  .have h2':¬z.cps.toList≠[]:=λh3=>h3 (by cases h2;exact e1)
   rw[decide_eq_false h2',alE]at q;exact q H (ζ.refl _)
theorem Ej(T:Txt K mg):Def P w K mg base true 3 "read_figures" ["word","most"] Zx:=by
 refine Ν T.Ej Od (λ_ _ _ _ _ H vs Q E hr h=>?_);intro X;obtain⟨z,m,k,rfl,hz,m0,m1,hk,hmk,k1,k2,q⟩:=h;have n1:=T.bR;have n2:=T.Df;have n3:=T.ux;have nd:=Od.nd;have D1:= @Az P w K mg base T;have hsz:=ϱ;have hl:=L2.len_list z;have out:∀(H1:Hp)(o:Option V),ζ H H1->gf z.cps.toList m=none->Κ X ((ϗ Ah).drop 1) {nx:=λ_ H'=>Q .non H',rt:=Q} [some (.str z),some (.int m),o] H1:=by
  intro H1 o sm e;have q1:=q H1 sm;rw[e]at q1;refine ς ?_;walk_at"go";exact q1
 refine ξ ?_;walk_at"go";refine⟨z,rfl,hz,λH1 Δ =>?_⟩;walk_at"go";refine jr (λh1=>?_) (λh1=>?_)
 .walk_at "go";refine QQ (rO m1) ?_;walk_at"go";rw[hk];refine Ε (λh2=>?_) (λh2=>?_)
  .walk_at "go";obtain⟨hd,Ϲ⟩:=Qu h1;refine TX (intText_digits hd Ϲ (by omega)) (by omega) ?_;walk_at"go";refine Ε (λh3=>?_) (λh3=>?_)
   .have q1:=q H1 Δ;have e:gf z.cps.toList m=some _:=if_pos ⟨h1,h3⟩;rw[e]at q1;walk_at"go";exact q1
   .exact Γ (out H1 _ Δ (if_neg λx=>h3 x.2))
  .refine Γ (out H1 _ Δ (if_neg λx=>h2 ?_));have:=yw x.1 x.2 hmk k1;omega
 .exact Γ (out H1 _ Δ (if_neg λx=>by rw[h1]at x;exact aaD x.1))
theorem EY(T:Txt K mg):Def P w K mg base true 4 "read_number_word" ["word"] (Up (.ref (ι mg "NoValue"))):=by
 refine Ν T.EY R6 (λ_ _ _ _ _ H vs Q E hr h=>?_);intro X;obtain⟨z,rfl,hz,q⟩:=h;have g1:=T.agv;have g2:=T.JS;have nd:=R6.nd;have D1:= @Ej P w K mg base T;have hsz:=ϱ;have lm:(Str.ofString (toString (1000000000000000000:Int))).length=19:=by decide+kernel
 have rz:fH z.cps.toList=none->∀H1,ζ H H1->∀o1 o2 D,SX X (mK (Jm (mK (ϗ zK) 2)) 0) D [some (.str z),o1,o2] H1:=by
  intro hn H1 sm o1 o2 D;refine fB Χ T.Ih ?_;walk_at"go";refine oX ?_;walk_at"e";refine⟨z,rfl,by omega,_,4000,rfl,hz,by omega,?_⟩;walk_at"go";intro zz;walk_at"go";have q1:=q H1 sm;rw[hn]at q1;exact⟨by rw[hsz];simp,q1⟩
 refine ξ ?_;walk_at"go";refine Pn ?_;rw[show Txt.startswith z "-"=decide (z.cps.toList[0]?=some 45)from Gr z 45];walk_at"go";refine Ε (λh0=>?_) (λh0=>?_)
 .rw[decide_eq_true h0];walk_at"go";refine ju ?_;walk_at"go";have hcl:=pW z (some 1) none;refine⟨_,_,19,rfl,by omega,by decide,by decide,lm,by decide,by decide,by decide,λH1 Δ =>?_⟩;rw[show(ώ z (some 1) none).cps.toList=z.cps.toList.drop 1 from zO z 1];have er:=aeB h0;cases e:gf (z.cps.toList.drop 1) 1000000000000000000 with
  |none=>
   rw[e]at er;simp only[sG];walk_at"go";exact rz er H1 Δ _ _ _
  |some i=>
   rw[e]at er;dsimp only at er;simp only[sG];walk_at"go";refine Ε (λh1=>?_) (λh1=>?_)
   .have h2:i=0:=by injection h1
    rw[if_pos h2]at er;exact ς (rz er H1 Δ _ _ _)
   .have h2:¬i=0:=λe=>h1 (by rw[e])
    rw[if_neg h2]at er;have q1:=q H1 Δ;rw[er]at q1;refine Γ ?_;walk_at"go";exact q1
 .rw[decide_eq_false h0];walk_at"go";refine⟨_,_,19,rfl,by omega,by decide,by decide,lm,by decide,by decide,by decide,λH1 Δ =>?_⟩;have er:=NZ h0;cases e:gf z.cps.toList 1000000000000000000 with
  |none=>
   rw[e]at er;simp only[sG];walk_at"go";exact rz er H1 Δ _ _ _
  |some i=>
   rw[e]at er;simp only[sG];have q1:=q H1 Δ;rw[er]at q1;walk_at"go";exact q1
theorem Fd(T:Txt K mg):Def P w K mg base true 3 "read_text_word" ["word"] (aaA (.ref (ι mg "NoValue"))):=by
 refine Ν T.Fd HR (λ_ _ _ _ _ H vs Q E hr h=>?_);intro X;obtain⟨z,rfl,hz,q⟩:=h;have g1:=T.aiI;have nd:=HR.nd;have D1:= @xq P w K mg base T;have hsz:=ϱ;have e1:Str.ofString "'"=⟨#[39]⟩:=by decide+kernel
 have lc:=pW z (some 1) none;have rz:iH z=none->∀H1,ζ H H1->Κ X ((ϗ FN).drop 1) {nx:=λ_ H'=>Q .non H',rt:=Q} [some (.str z)] H1:=by
  intro hn H1 sm;refine ς (fB Χ T.Ih ?_);walk_at"go";refine oX ?_;walk_at"e";refine⟨z,rfl,by omega,_,4000,rfl,hz,by omega,?_⟩;walk_at"go";intro zz;walk_at"go";have q1:=q H1 sm;rw[hn]at q1;exact⟨by rw[hsz];simp,q1⟩
 refine ξ ?_;walk_at"go";refine Pn ?_;walk_at"go";rw[e1,Gr];refine Ε (λh1=>?_) (λh1=>?_)
 .walk_at "go";refine ju ?_;walk_at"go";refine⟨_,rfl,rfl,(show(ώ z (some 1) none).length<=4000 by omega),λH1 Δ =>?_⟩;walk_at"go";refine jr (λh2=>?_) (λh2=>?_)
  .walk_at "go";refine ju ?_;have q1:=q H1 Δ;have er:iH z=some (ώ z (some 1) none):=by
    unfold iH;rw[if_pos ⟨h1,h2⟩]
   rw[er]at q1;exact q1
  .refine Γ (rz ?_ H1 Δ);unfold iH;rw[if_neg λh4=>by rw[h2]at h4;exact aaD h4.2]
 .refine Γ (rz ?_ H (ζ.refl _));unfold iH;rw[if_neg λh4=>h1 h4.1]
theorem DR(T:Txt K mg):Def P w K mg base true 5 "read_value" ["kind","word"] (adX (.ref (ι mg "NoValue"))):=by
 refine Ν T.DR Y4 (λ_ _ _ _ _ H vs Q E hr h=>?_);intro X;obtain⟨k,z,rfl,hz,q⟩:=h;have g1:=T.Zf;have g2:=T.Et;have D1:= @EY P w K mg base T;have D2:= @Fd P w K mg base T;refine ξ ?_;walk_at"go";refine Ε (λh1=>?_) (λh1=>?_)
 .have h2:z="?":=by cases h1;rfl
  have q1:=q H (ζ.refl _);have er:cZ k z=some .non:=by unfold cZ;rw[if_pos h2]
  rw[er]at q1;walk_at"go";exact q1
 .have h2:¬z="?":=λe=>h1 (by rw[e])
  have er:cZ k z=if k="number" then uZ (fH z.cps.toList)else CZ (iH z):=by unfold cZ;rw[if_neg h2]
  rw[er]at q;walk_at"go";refine Ε (λh3=>?_) (λh3=>?_)
  .have h4:k="number":=by cases h3;rfl
   rw[if_pos h4]at q;walk_at"go";exact⟨z,rfl,hz,q⟩
  .have h4:¬k="number":=λe=>h3 (by rw[e])
   rw[if_neg h4]at q;walk_at"go";exact⟨z,rfl,hz,q⟩
def aij(K:Ϩ):Sp:=λvs H Q _=>∃(kd:Str)(a:δ)(ws:List Str)(p:Nat)(z:Str)(v:V),vs=[.str kd,.ref a,.int p]/\η K H a (ws.map V.str)/\ws.length<=4000/\ws[p]?=some z/\p<60/\z.length<=4000/\cZ kd z=some v/\¬v=.non/\∀H',ζ H H'->Q v H'
theorem Ea(T:Txt K mg):Def P w K mg base true 6 "read_word" ["kind","words","place"] (aij K):=by
 refine Ν T.Ea Ly (λ_ _ _ _ _ H vs Q E hr h=>?_);intro X;obtain⟨kd,a,ws,p,z,v,rfl,hS,hl,hz,hp,lX,hv,Ϲ,q⟩:=h;have nd:=Ly.nd;have D1:= @pG P w K mg base T;have D2:= @DR P w K mg base T;have hlt:=(aae.mp hz).1;refine ξ ?_;walk_at"go";refine⟨a,ws,p,rfl,hS,hl,by omega,λhb=>absurd ⟨hlt,hp⟩ hb,λz' hz' _=>?_⟩;rw[hz]at hz';cases hz';refine ξ ?_;refine age (λ_ _ _ _=>False) rfl rfl (λF pn xo po=>?_) (λσ c d H' hK=>hK.elim);refine ς ?_;walk_at"go";refine⟨kd,z,rfl,lX,λH' sm=>?_⟩;rw[hv];refine Γ ?_;refine ξ ?_;walk_at"go";rw[decide_eq_false Ϲ];walk_at"go";exact q H' sm
inductive cR|all|none (p:Nat)|look (l:Lk) (p:Nat) (v:V)
def uq(mg:Str->Option ε):Lk->δ
 |.is=>ι mg "IsSieve"
 |.under=>ι mg "UnderSieve"
 |.over=>ι mg "OverSieve"
 |.holds=>ι mg "HoldsSieve"
def oK(mg:Str->Option ε)(H:Hp)(a:δ):cR->Str->Prop
 |.all,z=>∃dx,H a=some (.ins (ι mg "AllSieve") dx [("text",.str z)])
 |.none p,z=>∃dx,H a=some (.ins (ι mg "NoneSieve") dx [("text",.str z),("place",.int p)])
 |.look l p v,z=>∃dx,H a=some (.ins (uq mg l) dx (F3 z p v))
theorem oK.same{mg:Str->Option ε}{H H':Hp}{a:δ}{s:cR}{z:Str}(h:oK mg H a s z)(e:ζ H H'):oK mg H' a s z:=by
 cases s<;>obtain⟨dx,h⟩:=h<;>exact⟨dx,e _ _ h⟩
def Bp(mg:Str->Option ε)(H:Hp)(p:δ)(s:cR)(z:Str)(n:Nat):=∃t,H p=some (.tup [.ref t,.int n])/\oK mg H t s z
def abq(K:Ϩ)(mg:Str->Option ε):Sp:=λvs H Q _=>∃(b:δ)(cs:List ο)(a:δ)(ws:List Str)(s i:Nat),vs=[.ref b,.ref a,.int s]/\ϋ H b cs/\η K H a (ws.map V.str)/\ws.length<=4000/\(∀z∈ws,z.length<=1000)/\s+2<=ws.length/\dG cs ws (s+1)=some i/\
 ∀p H',ζ H H'->Bp mg H' p (.none i) (bU ws s (s+2)) (s+2)->Q (.ref p) H'
theorem DK(T:Txt K mg):Def P w K mg base true 5 "read_none" ["columns","words","start"] (abq K mg):=by
 refine Ν T.DK HN (λ_ _ _ _ _ H vs Q E hr h=>?_);intro X;obtain⟨b,cs,a,ws,s0,i,rfl,hC,hS,hl,hz,hs2,hi,q⟩:=h;have nd:=HN.nd;have hsz:=ϱ;have D1:= @vX P w K mg base T;have D2:= @lO P w K mg base T;have M:fX P w K mg base true 2 "NoneSieve" (ι mg "NoneSieve") ["self","text","place"] (Oc K):=(Xu T).make T.ad2 T.abQ;refine ξ ?_;walk_at"go";refine⟨b,cs,a,ws,s0+1,by simp,hC,hS,hl,by omega,λe=>(by rw[hi]at e;cases e),λi' H2 Η e=>?_⟩;rw[hi]at e;cases e;walk_at"go";refine gC M hr (by decide) (λ_=>rfl) Χ ?_;walk_at"go";refine⟨a,ws,s0,s0+2,by simp,Η.seq hS,hl,hz,by omega,hs2,λH3 sm3=>?_⟩;walk_at"go";intro y dx hy hdx Ϲ;refine⟨y,_,dx,[],bU ws s0 (s0+2),_,rfl,υ,T.Cy,T.acL,T.G3,by simp,rfl,?_⟩;walk_at"go";refine⟨by show 2<=ϩ;omega,λp hp=>?_⟩;generalize hG:upd (upd (upd (upd H3 dx (.own y)) y (.ins (ι mg "NoneSieve") dx [])) y _) y _=G at hp⊢;have bW:ζ H3 G:=λc o e=>by
  rw[<-hG,θ (Ι e hy),θ (Ι e hy),θ (Ι e hy),θ (Ι e hdx)];exact e
 have ey:G y=some (.ins (ι mg "NoneSieve") dx [("text",.str (bU ws s0 (s0+2))),("place",.int i)]):=by
  rw[<-hG];exact υ
 have aa:ζ G (upd G p (.tup [.ref y,.int (s0+2)])):=ζ.upd hp;exact q p _ (((Η.trans sm3).trans bW).trans aa) ⟨y,υ,dx,aa _ _ ey⟩
def aq:Lk->Str
 |.is=>"is"
 |.under=>"under"
 |.over=>"over"
 |.holds=>"holds"
def abM(K:Ϩ)(mg:Str->Option ε):Sp:=λvs H Q _=>∃(l:Lk)(b:δ)(cs:List ο)(a:δ)(ws:List Str)(s i:Nat)(c:ο)(z:Str)(v:V),vs=[.ref b,.ref a,.int s]/\ϋ H b cs/\η K H a (ws.map V.str)/\ws.length<=4000/\(∀z∈ws,z.length<=1000)/\s+3<=ws.length/\s+2<60/\
 ws[s]?=some (aq l)/\dG cs ws (s+1)=some i/\cs[i]?=some c/\(l=.holds->c.2="text")/\ws[s+2]?=some z/\cZ c.2 z=some v/\¬v=.non/\
 ∀p H',ζ H H'->Bp mg H' p (.look l i v) (bU ws s (s+3)) (s+3)->Q (.ref p) H'
theorem DQ(T:Txt K mg):Def P w K mg base true 7 "read_of_value" ["columns","words","start"] (abM K mg):=by
 refine Ν T.DQ Ig (λ_ _ _ _ _ H vs Q E hr h=>?_);intro X;obtain⟨l,b,cs,a,ws,s0,i,c,z,v,rfl,hC,hS,hl,hz,hs3,fJ,hw,hi,hc,hh,jw,hv,Ϲ,q⟩:=h;have nd:=Ig.nd;have hsz:=ϱ;have g1:=T.Fo;have g2:=T.KQ;have g3:=T.En;have g4:=T.Fg;have g5:=T.zA;have D1:= @vX P w K mg base T;have D2:= @lO P w K mg base T;have D3:= @Ea P w K mg base T;refine ξ ?_;walk_at"go";refine ϐ hS (Ϛ (by rw[aa2,hw];rfl)) ?_;walk_at"go";refine⟨b,cs,a,ws,s0+1,by simp,hC,hS,hl,by omega,λe=>(by rw[hi]at e;cases e),λi' H2 Η e=>?_⟩;rw[hi]at e;cases e;obtain⟨vs,hb,hvs⟩:=hC.same Η;obtain⟨cv,gc,t,rfl,ht⟩:=hvs.get' hc;refine ξ ?_;walk_at"go";refine ϐ (η.of hb) (Ϛ gc) ?_;walk_at"go";refine Θ (ψ.of ht) (show Μ [V.str c.1,V.str c.2] 1=some (V.str c.2)from rfl) ?_;cases l with
 |is=>
  have M:fX P w K mg base true 2 "IsSieve" (ι mg "IsSieve") ["self","text","place","value"] (rW K):=(uo T).make T.Xb T.aab;refine ξ ?_;walk_at"go";refine aY ?_;refine Γ ?_;refine ξ ?_;walk_at"go";refine⟨c.2,a,ws,s0+2,z,v,by simp,Η.seq hS,hl,jw,fJ,by have:=hz z (aaJ jw);omega,hv,Ϲ,λH3 sm3=>?_⟩;walk_at"go";refine⟨a,ws,s0,s0+3,by simp,(Η.trans sm3).seq hS,hl,hz,by omega,hs3,λH4 Ρ =>?_⟩;refine ξ ?_;walk_at"go";refine cD ?_;walk_at"go";refine gC M hr (by decide) (λ_=>rfl) Χ ?_;walk_at"go";intro y dx hy hdx hne';refine⟨y,_,dx,[],bU ws s0 (s0+3),_,v,rfl,υ,T.vD,T.YH,T.JT,T.QH,by simp,λG eG hG=>⟨rfl,?_⟩⟩;walk_at"go";refine⟨by show 2<=ϩ;omega,λp hp=>?_⟩;have bW:ζ H4 G:=λc o e=>hG c o (Ι e hy) (by rw[θ (Ι e hy),θ (Ι e hdx)];exact e)
  have aa:ζ G (upd G p (.tup [.ref y,.int (s0+3)])):=ζ.upd hp;exact q p _ ((((Η.trans sm3).trans Ρ).trans bW).trans aa) ⟨y,υ,dx,aa _ _ eG⟩
 |under=>
  have M:fX P w K mg base true 2 "UnderSieve" (ι mg "UnderSieve") ["self","text","place","value"] (rW K):=(uo T).make T.Ze T.ahx;refine ξ ?_;walk_at"go";refine aY ?_;refine Γ ?_;refine ξ ?_;walk_at"go";refine⟨c.2,a,ws,s0+2,z,v,by simp,Η.seq hS,hl,jw,fJ,by have:=hz z (aaJ jw);omega,hv,Ϲ,λH3 sm3=>?_⟩;walk_at"go";refine⟨a,ws,s0,s0+3,by simp,(Η.trans sm3).seq hS,hl,hz,by omega,hs3,λH4 Ρ =>?_⟩;refine ξ ?_;walk_at"go";refine aY ?_;refine Γ ?_;refine ξ ?_;walk_at"go";refine cD ?_;walk_at"go";refine gC M hr (by decide) (λ_=>rfl) Χ ?_;walk_at"go";intro y dx hy hdx hne';refine⟨y,_,dx,[],bU ws s0 (s0+3),_,v,rfl,υ,T.v5,T.abS,T.RZ,T.Hr,by simp,λG eG hG=>⟨rfl,?_⟩⟩;walk_at"go";refine⟨by show 2<=ϩ;omega,λp hp=>?_⟩;have bW:ζ H4 G:=λc o e=>hG c o (Ι e hy) (by rw[θ (Ι e hy),θ (Ι e hdx)];exact e)
  have aa:ζ G (upd G p (.tup [.ref y,.int (s0+3)])):=ζ.upd hp;exact q p _ ((((Η.trans sm3).trans Ρ).trans bW).trans aa) ⟨y,υ,dx,aa _ _ eG⟩
 |over=>
  have M:fX P w K mg base true 2 "OverSieve" (ι mg "OverSieve") ["self","text","place","value"] (rW K):=(uo T).make T.adQ T.af5;refine ξ ?_;walk_at"go";refine aY ?_;refine Γ ?_;refine ξ ?_;walk_at"go";refine⟨c.2,a,ws,s0+2,z,v,by simp,Η.seq hS,hl,jw,fJ,by have:=hz z (aaJ jw);omega,hv,Ϲ,λH3 sm3=>?_⟩;walk_at"go";refine⟨a,ws,s0,s0+3,by simp,(Η.trans sm3).seq hS,hl,hz,by omega,hs3,λH4 Ρ =>?_⟩;refine ξ ?_;walk_at"go";refine aY ?_;refine Γ ?_;refine ξ ?_;walk_at"go";refine aY ?_;refine Γ ?_;refine ξ ?_;walk_at"go";refine cD ?_;walk_at"go";refine gC M hr (by decide) (λ_=>rfl) Χ ?_;walk_at"go";intro y dx hy hdx hne';refine⟨y,_,dx,[],bU ws s0 (s0+3),_,v,rfl,υ,T.vL,T.ace,T.Np,T.S6,by simp,λG eG hG=>⟨rfl,?_⟩⟩;walk_at"go";refine⟨by show 2<=ϩ;omega,λp hp=>?_⟩;have bW:ζ H4 G:=λc o e=>hG c o (Ι e hy) (by rw[θ (Ι e hy),θ (Ι e hdx)];exact e)
  have aa:ζ G (upd G p (.tup [.ref y,.int (s0+3)])):=ζ.upd hp;exact q p _ ((((Η.trans sm3).trans Ρ).trans bW).trans aa) ⟨y,υ,dx,aa _ _ eG⟩
 |holds=>
  have M:fX P w K mg base true 2 "HoldsSieve" (ι mg "HoldsSieve") ["self","text","place","value"] (rW K):=(uo T).make T.adS T.acI;refine ξ ?_;walk_at"go";refine cD ?_;rw[hh rfl];walk_at"go";rw[decide_eq_true rfl];walk_at"t";refine Γ ?_;refine ξ ?_;walk_at"go";refine⟨"text",a,ws,s0+2,z,v,by simp,Η.seq hS,hl,jw,fJ,by have:=hz z (aaJ jw);omega,by rw[<-hh rfl];exact hv,Ϲ,λH3 sm3=>?_⟩;walk_at"go";refine⟨a,ws,s0,s0+3,by simp,(Η.trans sm3).seq hS,hl,hz,by omega,hs3,λH4 Ρ =>?_⟩;refine ξ ?_;walk_at"go";refine aY ?_;refine Γ ?_;refine ξ ?_;walk_at"go";refine aY ?_;refine Γ ?_;refine ξ ?_;walk_at"go";refine aY ?_;walk_at"go";refine gC M hr (by decide) (λ_=>rfl) Χ ?_;walk_at"go";intro y dx hy hdx hne';refine⟨y,_,dx,[],bU ws s0 (s0+3),_,v,rfl,υ,T.wQ,T.ad8,T.Mm,T.Kr,by simp,λG eG hG=>⟨rfl,?_⟩⟩;walk_at"go";refine⟨by show 2<=ϩ;omega,λp hp=>?_⟩;have bW:ζ H4 G:=λc o e=>hG c o (Ι e hy) (by rw[θ (Ι e hy),θ (Ι e hdx)];exact e)
  have aa:ζ G (upd G p (.tup [.ref y,.int (s0+3)])):=ζ.upd hp;exact q p _ ((((Η.trans sm3).trans Ρ).trans bW).trans aa) ⟨y,υ,dx,aa _ _ eG⟩
def nA(cs:List ο)(ws:List Str)(s:Nat):cR->Nat->Prop
 |.all,n=>ws[s]?=some "all"/\n=s+1
 |.none i,n=>ws[s]?=some "none"/\s+2<=ws.length/\dG cs ws (s+1)=some i/\n=s+2
 |.look l i v,n=>s+3<=ws.length/\s+2<60/\ws[s]?=some (aq l)/\dG cs ws (s+1)=some i/\(∃c z,cs[i]?=some c/\(l=.holds->c.2="text")/\ws[s+2]?=some z/\cZ c.2 z=some v)/\(¬v=.non)/\n=s+3
theorem Vy{ws:List Str}{s:Nat}{z:Str}(h:ws[s]?=some z):bU ws s (s+1)=z:=by
 unfold bU;have e:(ws.drop s).take (s+1-s)=[z]:=by
  rw[show s+1-s=1 by omega,v9 h];rfl
 rw[e];exact join_one _ z
def abN(K:Ϩ)(mg:Str->Option ε):Sp:=λvs H Q _=>∃(b:δ)(cs:List ο)(a:δ)(ws:List Str)(s n:Nat)(k:Int)(sv:cR),vs=[.ref b,.ref a,.int s,.int k]/\ϋ H b cs/\η K H a (ws.map V.str)/\ws.length<=4000/\(∀z∈ws,z.length<=1000)/\s<60/\nA cs ws s sv n/\
 ∀p H',ζ H H'->Bp mg H' p sv (bU ws s n) n->Q (.ref p) H'
theorem Yv(T:Txt K mg):Def P w K mg base true 8 "read_part" ["columns","words","start","within"] (abN K mg):=by
 refine Ν T.O5 vY (λ_ _ _ _ _ H vs Q E hr h=>?_);intro X;obtain⟨b,cs,a,ws,s0,n,k,sv,rfl,hC,hS,hl,hz,fJ,hrd,q⟩:=h;have nd:=vY.nd;have hsz:=ϱ;have g1:=T.Fo;have g2:=T.Rp;have g3:=T.En;have g4:=T.Fg;have g5:=T.zA;have g6:=T.G6;have D1:= @pG P w K mg base T;have D2:= @DK P w K mg base T;have D3:= @DQ P w K mg base T;have M:fX P w K mg base true 1 "AllSieve" (ι mg "AllSieve") ["self","text"] (nJ K):=tR.make T.YG T.Z5;have hw:∃z,ws[s0]?=some z:=by
  cases sv with
  |all=>exact⟨_,hrd.1⟩
  |none i=>exact⟨_,hrd.1⟩
  |look l i v=>exact⟨_,hrd.2.2.1⟩
 obtain⟨z0,hw⟩:=hw;have hlt:=(aae.mp hw).1;refine ξ ?_;walk_at"go";refine⟨a,ws,s0,rfl,hS,hl,by omega,λhb=>absurd ⟨hlt,fJ⟩ hb,λz' hz' _=>?_⟩;rw[hw]at hz';cases hz';refine ξ ?_;walk_at"go";cases sv with
 |all=>
  obtain⟨h1,rfl⟩:=hrd;rw[hw]at h1;cases h1;refine cD ?_;walk_at"go";refine gC M hr (by decide) (λ_=>rfl) Χ ?_;walk_at"go";intro y dx hy hdx Ϲ;refine⟨y,_,dx,[],_,rfl,υ,T.Ox,T.ajm,by simp,rfl,?_⟩;walk_at"go";refine⟨by show 2<=ϩ;omega,λp hp=>?_⟩;generalize hG:upd (upd (upd H dx (.own y)) y (.ins (ι mg "AllSieve") dx [])) y _=G at hp⊢;have bW:ζ H G:=λc o e=>by
   rw[<-hG,θ (Ι e hy),θ (Ι e hy),θ (Ι e hdx)];exact e
  have ey:G y=some (.ins (ι mg "AllSieve") dx [("text",.str "all")]):=by
   rw[<-hG];exact υ
  have aa:ζ G (upd G p (.tup [.ref y,.int (s0+1)])):=ζ.upd hp;refine q p _ (bW.trans aa) ⟨y,υ,dx,?_⟩;rw[Vy hw];exact aa _ _ ey
 |none i=>
  obtain⟨h1,h2,h3,rfl⟩:=hrd;rw[hw]at h1;cases h1;refine aY ?_;refine Γ ?_;refine ξ ?_;walk_at"go";refine cD ?_;walk_at"go";exact⟨b,cs,a,ws,s0,i,rfl,hC,hS,hl,hz,h2,h3,λp H' sm hp=>q p H' sm hp⟩
 |look l i v=>
  obtain⟨h1,h2,h3,h4,⟨c,z,h5,h6,h7,h8⟩,h9,rfl⟩:=hrd;rw[hw]at h3;cases h3;have e1:¬V.str (aq l)=V.str ("all":Str):=by cases l<;>decide+kernel
  have e2:¬V.str (aq l)=V.str ("none":Str):=by cases l<;>decide+kernel
  have e3:gh (V.str (aq l)) [V.str ("is":Str),V.str ("under":Str),V.str ("over":Str),V.str ("holds":Str)]=true:=by cases l<;>decide+kernel
  refine Ε (λh=>absurd h e1) (λ_=>?_);refine Γ ?_;refine ξ ?_;walk_at"go";refine Ε (λh=>absurd h e2) (λ_=>?_);refine Γ ?_;refine ξ ?_;walk_at"go";refine⟨by show 4<=ϩ;omega,λtp htp=>?_⟩;refine BX (ψ.of υ) ?_;rw[e3];have ϣ:ζ H (upd H tp (.tup [.str "is",.str "under",.str "over",.str "holds"])):=ζ.upd htp;generalize upd H tp (.tup [.str "is",.str "under",.str "over",.str "holds"])=H2 at ϣ⊢;walk_at"go";exact⟨l,b,cs,a,ws,s0,i,c,z,v,rfl,hC.same ϣ,ϣ.seq hS,hl,hz,h1,h2,hw,h4,h5,h6,h7,h8,h9,λp H' sm hp=>q p H' (ϣ.trans sm) hp⟩
def agV:Sp:=λvs H Q _=>∃x y,vs=[x,y]/\Q (.bl true) H
theorem U3{cc:Bool}:FD P w K mg base cc 1 "lets" "Sieve.lets" yR ["self","values"] agV:=by
 refine aK Ug (λ_ _ _ _ _ H vs Q E hr h=>?_);intro X;obtain⟨x,y,rfl,q⟩:=h;refine ς ?_;walk_at"go";exact q
def Z8(K:Ϩ):Sp:=λvs H Q _=>∃(a C dx:δ)(fs:List (Str×V))(p:Nat)(b:δ)(xs:List V)(x:V),vs=[.ref a,.ref b]/\H a=some (.ins C dx fs)/\ϔ K C/\ Λ K C "place"/\fs.lookup ("place":Str)=some (V.int p)/\η K H b xs/\xs[p]?=some x/\Q (.bl (decide (x=.non))) H
theorem Ww{cc:Bool}:FD P w K mg base cc 1 "lets" "NoneSieve.lets" yK ["self","values"] (Z8 K):=by
 refine aK Uh (λ_ _ _ _ _ H vs Q E hr h=>?_);intro X;obtain⟨a,C,dx,fs,p,b,xs,x,rfl,ha,hc,hn,hl,hb,hx,q⟩:=h;refine ς (Ζ ?_);walk_at"go";refine aG ?_;walk_at"e";refine⟨a,C,dx,fs,_,rfl,ha,hc,hn,hl,?_⟩;refine ϐ hb (Ϛ hx) ?_;walk_at"go";exact q
def Kz(K:Ϩ):Sp:=λvs H Q _=>∃(a C dx:δ)(fs:List (Str×V))(z:Str)(p:V),vs=[.ref a,.str z,p]/\H a=some (.ins C dx fs)/\ϔ K C/\ Λ K C "text"/\ Λ K C "one"/\fs.length<800/\
 Q .non (upd (upd H a (.ins C dx (ϝ "text" (.str z) fs))) a (.ins C dx (ϝ "one" p (ϝ "text" (.str z) fs))))
theorem ajc(T:Txt K mg){cc:Bool}:FD P w K mg base cc 2 "__init__" "NotSieve.__init__" CP ["self","text","one"] (Kz K):=by
 refine aK afi (λ_ _ _ _ _ H vs Q E hr h=>?_);intro X;obtain⟨a,C,dx,fs,z,p,rfl,ha,hc,hn,hn2,hl,q⟩:=h;have B:nY P w K mg base cc 1 "Sieve" "__init__" ["self","text"] (nJ K):=tR.asked T.wZ T.xG;have hz:=jC "text" (V.str z) fs;refine ξ (au ?_);refine u6 (pl:=_) B hr id Χ ?_;walk_at"go";refine⟨a,C,dx,fs,z,rfl,ha,hc,hn,by omega,?_⟩;refine ς (dN ?_);walk_at"e";walk_at"e";exact⟨a,C,dx,_,rfl,υ,hc,hn2,by omega,q⟩
def yr(K:Ϩ):Sp:=λvs H Q _=>∃(a C dx:δ)(fs:List (Str×V))(z:Str)(p v:V),vs=[.ref a,.str z,p,v]/\H a=some (.ins C dx fs)/\ϔ K C/\ Λ K C "text"/\ Λ K C "one"/\ Λ K C "other"/\fs.length<800/\
 ∀H',H' a=some (.ins C dx (ϝ "other" v (ϝ "one" p (ϝ "text" (.str z) fs))))->(∀b o,b≠a->H b=some o->H' b=some o)->Q .non H'
theorem J3(T:Txt K mg){cc:Bool}:FD P w K mg base cc 2 "__init__" "PairSieve.__init__" vm ["self","text","one","other"] (yr K):=by
 refine aK Wx (λ_ _ _ _ _ H vs Q E hr h=>?_);intro X;obtain⟨a,C,dx,fs,z,p,v,rfl,ha,hc,hn,hn2,BW,hl,q⟩:=h;have B:nY P w K mg base cc 1 "Sieve" "__init__" ["self","text"] (nJ K):=tR.asked T.wZ T.xG;have hz:=jC "text" (V.str z) fs;have hz2:=jC "one" p (ϝ "text" (V.str z) fs);refine ξ (au ?_);refine u6 (pl:=_) B hr id Χ ?_;walk_at"go";refine⟨a,C,dx,fs,z,rfl,ha,hc,hn,by omega,?_⟩;refine ξ (dN ?_);walk_at"e";walk_at"e";refine⟨a,C,dx,_,rfl,υ,hc,hn2,by omega,?_⟩;refine ς (dN ?_);walk_at"e";walk_at"e";refine⟨a,C,dx,_,rfl,υ,hc,BW,by omega,q _ υ λb o hb e=>?_⟩;rw[θ hb,θ hb,θ hb];exact e
inductive Tr
 |one (s:cR)
 |nt (t:Tr)
 |bo (t u:Tr)
 |ei (t u:Tr)
def Tr.dep:Tr->Nat
 |.one _=>0
 |.nt t=>t.dep+1
 |.bo t u=>max t.dep u.dep+1
 |.ei t u=>max t.dep u.dep+1
def Reads(cs:List ο)(ws:List Str):Tr->Nat->Nat->Prop
 |.one sv,s,e=>s<60/\nA cs ws s sv e
 |.nt t,s,e=>s<60/\ws[s]?=some "not"/\Reads cs ws t (s+1) e
 |.bo t u,s,e=>s<60/\ws[s]?=some "both"/\∃m,Reads cs ws t (s+1) m/\Reads cs ws u m e
 |.ei t u,s,e=>s<60/\ws[s]?=some "either"/\∃m,Reads cs ws t (s+1) m/\Reads cs ws u m e
theorem nA.le{cs:List ο}{ws:List Str}{s e:Nat}:∀{sv:cR},nA cs ws s sv e->s<e/\e<=ws.length
 |.all,h=>by
   obtain⟨h1,rfl⟩:=h;have:=(aae.mp h1).1;omega
 |.none i,h=>by
   obtain⟨_,h2,_,rfl⟩:=h;omega
 |.look l i v,h=>by
   obtain⟨h1,_,_,_,_,_,rfl⟩:=h;omega
theorem Reads.le{cs:List ο}{ws:List Str}:∀{t:Tr}{s e:Nat},Reads cs ws t s e->s<e/\e<=ws.length
 |.one sv,s,e,h=>nA.le h.2
 |.nt t,s,e,h=>by have:=Reads.le (t:=t) h.2.2;omega
 |.bo t u,s,e,h=>by
   obtain⟨_,_,m,h1,h2⟩:=h;have:=Reads.le (t:=t) h1;have:=Reads.le (t:=u) h2;omega
 |.ei t u,s,e,h=>by
   obtain⟨_,_,m,h1,h2⟩:=h;have:=Reads.le (t:=t) h1;have:=Reads.le (t:=u) h2;omega
def bh(mg:Str->Option ε)(H:Hp):Tr->δ->Str->Prop
 |.one s,a,z=>oK mg H a s z
 |.nt t,a,z=>∃dx b y,H a=some (.ins (ι mg "NotSieve") dx [("text",.str z),("one",.ref b)])/\bh mg H t b y
 |.bo t u,a,z=>∃dx b c y x,H a=some (.ins (ι mg "BothSieve") dx [("text",.str z),("one",.ref b),("other",.ref c)])/\bh mg H t b y/\bh mg H u c x
 |.ei t u,a,z=>∃dx b c y x,H a=some (.ins (ι mg "EitherSieve") dx [("text",.str z),("one",.ref b),("other",.ref c)])/\bh mg H t b y/\bh mg H u c x
theorem bh.same{mg:Str->Option ε}{H H':Hp}(e:ζ H H'):∀{t:Tr}{a:δ}{z:Str},bh mg H t a z->bh mg H' t a z
 |.one s,a,z,h=>oK.same h e
 |.nt t,a,z,h=>by
   obtain⟨dx,b,y,h1,h2⟩:=h;exact⟨dx,b,y,e _ _ h1,bh.same e h2⟩
 |.bo t u,a,z,h=>by
   obtain⟨dx,b,c,y,x,h1,h2,h3⟩:=h;exact⟨dx,b,c,y,x,e _ _ h1,bh.same e h2,bh.same e h3⟩
 |.ei t u,a,z,h=>by
   obtain⟨dx,b,c,y,x,h1,h2,h3⟩:=h;exact⟨dx,b,c,y,x,e _ _ h1,bh.same e h2,bh.same e h3⟩
theorem acX{k:Nat}{x:Str}{ps:List Str}{sp sp':Sp}(F:Def P w K mg base true k x ps sp)(h:∀vs H Q E,sp' vs H Q E->sp vs H Q E):Def P w K mg base true k x ps sp':=by
 obtain⟨f,fd,h1,h2,h3,h4⟩:=F.ex;exact⟨f,fd,h1,h2,h3,⟨λvs H Q E z=>h4.len vs H Q E (h vs H Q E z),λA outer s H args us vs Q E hr e0 bt r z=>h4.run A outer s H args us vs Q E hr e0 bt r (h vs H Q E z)⟩⟩
theorem zG{k k':Nat}{C:δ}{x:Str}{ps:List Str}{sp sp':Sp}(F:aF P w K mg base true k C x ps sp)(hk:k<=k')(h:∀vs H Q E,sp' vs H Q E->sp vs H Q E):aF P w K mg base true k' C x ps sp':=by
 obtain⟨f,fd,h1,h2,h4⟩:=F.ex;have h4:=h4.mono hk;exact⟨F.cls,f,fd,h1,h2,⟨λvs H Q E z=>h4.len vs H Q E (h vs H Q E z),λA outer s H args us vs Q E hr e0 bt r z=>h4.run A outer s H args us vs Q E hr e0 bt r (h vs H Q E z)⟩⟩
def jt(K:Ϩ)(mg:Str->Option ε)(t:Tr):Sp:=λvs H Q _=>∃(b:δ)(cs:List ο)(a:δ)(ws:List Str)(s e:Nat)(k:Int),vs=[.ref b,.ref a,.int s,.int k]/\ϋ H b cs/\η K H a (ws.map V.str)/\ws.length<=4000/\(∀z∈ws,z.length<=1000)/\0<=k/\k+t.dep<=20/\Reads cs ws t s e/\
 ∀p v H',ζ H H'->H' p=some (.tup [.ref v,.int e])->bh mg H' t v (bU ws s e)->Q (.ref p) H'
def wG(K:Ϩ)(mg:Str->Option ε)(t:Tr):Sp:=λvs H Q _=>∃(b:δ)(cs:List ο)(a:δ)(ws:List Str)(s e:Nat)(k:Int),vs=[.ref b,.ref a,.int s,.int k]/\ϋ H b cs/\η K H a (ws.map V.str)/\ws.length<=4000/\(∀z∈ws,z.length<=1000)/\1<=k/\k+t.dep<=21/\k<=20/\Reads cs ws t s e/\
 ∀p v H',ζ H H'->H' p=some (.tup [.ref v,.int e])->bh mg H' t v (bU ws s e)->Q (.ref p) H'
theorem air(T:Txt K mg)(sv:cR):Def P w K mg base true 8 "read_part" ["columns","words","start","within"] (jt K mg (.one sv)):=acX (Yv T) λvs H Q E h=>by
 obtain⟨b,cs,a,ws,s,e,k,rfl,hC,hS,hl,hz,hk0,hk,hr,q⟩:=h;refine⟨b,cs,a,ws,s,e,k,sv,rfl,hC,hS,hl,hz,hr.1,hr.2,λp H' sm hp=>?_⟩;obtain⟨v,h1,h2⟩:=hp;exact q p v H' sm h1 h2
def Bm:Tr->Option Str
 |.one _=>none
 |.nt _=>some "not"
 |.bo _ _=>some "both"
 |.ei _ _=>some "either"
theorem Uj{cs:List ο}{ws:List Str}{t:Tr}{s e:Nat}{z:Str}(h:Reads cs ws t s e)(hw:Bm t=some z):s<60/\ws[s]?=some z:=by
 cases t with
 |one _=>cases hw
 |nt t=>cases hw;exact⟨h.1,h.2.1⟩
 |bo t u=>cases hw;exact⟨h.1,h.2.1⟩
 |ei t u=>cases hw;exact⟨h.1,h.2.1⟩
theorem wJ{t:Tr}{z:Str}(hw:Bm t=some z):z="not"\/z="both"\/z="either":=by
 cases t with
 |one _=>cases hw
 |nt t=>cases hw;exact .inl rfl
 |bo t u=>cases hw;exact .inr (.inl rfl)
 |ei t u=>cases hw;exact .inr (.inr rfl)
theorem Dt(T:Txt K mg){t:Tr}{z:Str}{lv:Nat}(hw:Bm t=some z)(D:Def P w K mg base true lv "read_of_sieves" ["columns","words","start","within"] (wG K mg t))(h3:3<=lv:=by omega):Def P w K mg base true (lv+1) "read_part" ["columns","words","start","within"] (jt K mg t):=by
 refine Ν T.O5 vY (λ_ _ A _ _ H vs Q E hr h=>?_);intro X;obtain⟨b,cs,a,ws,s0,e,k,rfl,hC,hS,hl,hz,hk0,hk,hrd,q⟩:=h;have nd:=vY.nd;have hsz:=ϱ;have g1:=T.Fo;have g2:=T.Rp;have g3:=T.En;have g4:=T.Fg;have g5:=T.zA;have g6:=T.G6;have g7:=T.xx;have g8:=T.uK;have g9:=T.aen;have D1:= @pG P w K mg base T;obtain⟨fJ,hws⟩:=Uj hrd hw;have hlt:=(aae.mp hws).1;have nM:1<=t.dep:=by
  cases t with
  |one _=>cases hw
  |nt t=>show 1<=t.dep+1;omega
  |bo t u=>show 1<=max t.dep u.dep+1;omega
  |ei t u=>show 1<=max t.dep u.dep+1;omega
 have e1:¬V.str z=V.str ("all":Str):=by obtain rfl|rfl|rfl:=wJ hw<;>decide+kernel
 have e2:¬V.str z=V.str ("none":Str):=by obtain rfl|rfl|rfl:=wJ hw<;>decide+kernel
 have e3:gh (V.str z) [V.str ("is":Str),V.str ("under":Str),V.str ("over":Str),V.str ("holds":Str)]=false:=by obtain rfl|rfl|rfl:=wJ hw<;>decide+kernel
 have e4:gh (V.str z) [V.str ("not":Str),V.str ("both":Str),V.str ("either":Str)]=true:=by obtain rfl|rfl|rfl:=wJ hw<;>decide+kernel
 walk_at"A";refine⟨a,ws,s0,rfl,hS,hl,by omega,λhb=>absurd ⟨hlt,fJ⟩ hb,λz' hz' _=>?_⟩;rw[hws]at hz';cases hz';refine ξ (Ψ ?_);walk_at"ex";refine Ε (λh=>absurd h e1) (λ_=>?_);refine Γ (ξ (Ψ ?_));walk_at"ex";refine Ε (λh=>absurd h e2) (λ_=>?_);refine Γ (ξ (Ψ ?_));walk_at"ex";refine⟨by show 4<=ϩ;omega,λtp htp=>?_⟩;refine BX (ψ.of υ) ?_;rw[e3];have ϣ:ζ H (upd H tp (.tup [.str "is",.str "under",.str "over",.str "holds"])):=ζ.upd htp;generalize upd H tp (.tup [.str "is",.str "under",.str "over",.str "holds"])=H2 at ϣ⊢;walk_at"ex";refine Γ (ξ (Ψ ?_));walk_at"ex";refine⟨by show 3<=ϩ;omega,λtq htq=>?_⟩;refine BX (ψ.of υ) ?_;rw[e4];have R7:ζ H2 (upd H2 tq (.tup [.str "not",.str "both",.str "either"])):=ζ.upd htq;generalize upd H2 tq (.tup [.str "not",.str "both",.str "either"])=H3 at R7⊢;walk_at"ex";have sm3:=ϣ.trans R7;refine ς (Ζ ?_);walk_at"ex";exact⟨b,cs,a,ws,s0,e,k+1,rfl,hC.same sm3,sm3.seq hS,hl,hz,by omega,by omega,by omega,hrd,λp v H' sm hp hv=>q p v H' (sm3.trans sm) hp hv⟩
theorem agb(T:Txt K mg){t:Tr}{lv l1:Nat}(D1:Def P w K mg base true l1 "read_part" ["columns","words","start","within"] (jt K mg t))(h1:l1<=lv)(h3:3<=lv):Def P w K mg base true (lv+1) "read_of_sieves" ["columns","words","start","within"] (wG K mg (.nt t)):=by
 refine Ν T.Ax mY (λ_ _ _ _ s H vs Q E hr h=>?_);intro X;obtain⟨b,cs,a,ws,s0,e,k,rfl,hC,hS,hl,hz,hk0,hk,Im,hrd,q⟩:=h;have nd:=mY.nd;have hsz:=ϱ;have g1:=T.yf;have g2:=T.xx;have g3:=T.uK;have DB:= @lO P w K mg base T;have hle:=hrd.le;have hd:k+(t.dep+1:Nat)<=21:=hk;obtain⟨fJ,hws,jy⟩:=hrd;have QF:=jy.le;have sw:η K H a (ws.map V.str):=hS;have e1:(s0:Int)+1=((s0+1:Nat):Int):=by omega
 refine ξ (Ψ ?_);walk_at"ex";refine Ε (λh=>absurd h (by omega)) (λ_=>?_);refine Γ (ξ ?_);walk_at"s";walk_at"ex";refine ϐ sw (v:=.str ("not":Str)) (Ϛ (by rw[aa2,hws];rfl)) ?_;refine ξ (oM ?_);walk_at"ex";rw[e1];refine⟨b,cs,a,ws,s0+1,_,k,rfl,hC,hS,hl,hz,by omega,by omega,jy,λp1 v1 H1 Δ hp1 hv1=>?_⟩;refine bM (ψ.of hp1) (ϖ (Ο nd (by rfl) (.inl rfl) (.inl rfl) (ϖ (Ο nd (by rfl) (.inl rfl) (.inl rfl) (bJ ?_)))));refine ξ (Ψ ?_);walk_at"ex";refine cD ?_;refine ς (Ζ ?_);have M:fX P w K mg base true 2 "NotSieve" (ι mg "NotSieve") ["self","text","one"] (Kz K):=(ajc T).make T.afu T.abx;walk_at"ex";refine gC M hr (by omega) (λ_=>rfl) Χ ?_;walk_at"ex";refine⟨a,ws,s0,e,rfl,Δ.seq hS,hl,hz,by omega,by omega,λH2 Η =>?_⟩;walk_at"ex";intro y dx hy hdx Ϲ;refine⟨y,_,dx,[],_,_,rfl,υ,T.Fz,T.acz,T.MF,by simp,rfl,?_⟩;walk_at"ex";refine⟨by show 2<=ϩ;omega,λp hp=>?_⟩;generalize hG:upd (upd (upd (upd H2 dx (.own y)) y (.ins (ι mg "NotSieve") dx [])) y _) y _=G at hp⊢;have bW:ζ H2 G:=λc o e=>by
  rw[<-hG,θ (Ι e hy),θ (Ι e hy),θ (Ι e hy),θ (Ι e hdx)];exact e
 have ey:G y=some (.ins (ι mg "NotSieve") dx [("text",.str (bU ws s0 e)),("one",.ref v1)]):=by
  rw[<-hG];exact υ
 have aa:ζ G (upd G p (.tup [.ref y,.int e])):=ζ.upd hp;exact q p y _ (((Δ.trans Η).trans bW).trans aa) υ ⟨dx,v1,_,aa _ _ ey,((hv1.same Η).same bW).same aa⟩
theorem aeI(T:Txt K mg){t u:Tr}{lv l1 l2:Nat}(D1:Def P w K mg base true l1 "read_part" ["columns","words","start","within"] (jt K mg t))(h1:l1<=lv)(D2:True->Def P w K mg base true l2 "read_part" ["columns","words","start","within"] (jt K mg u))(h2:l2<=lv)(h3:3<=lv):Def P w K mg base true (lv+1) "read_of_sieves" ["columns","words","start","within"] (wG K mg (.bo t u)):=by
 refine Ν T.Ax mY (λ_ _ A _ s H vs Q E hr h=>?_);intro X;obtain⟨b,cs,a,ws,s0,e,k,rfl,hC,hS,hl,hz,hk0,hk,Im,hrd,q⟩:=h;have nd:=mY.nd;have hsz:=ϱ;have g1:=T.yf;have g2:=T.xx;have g3:=T.uK;have DB:= @lO P w K mg base T;have hle:=hrd.le;have hd:k+(max t.dep u.dep+1:Nat)<=21:=hk;obtain⟨fJ,hws,m,jy,nQ⟩:=hrd;have agL:=nQ.le;have QF:=jy.le;have sw:η K H a (ws.map V.str):=hS;have e1:(s0:Int)+1=((s0+1:Nat):Int):=by omega
 refine ξ (Ψ ?_);walk_at"ex";refine Ε (λh=>absurd h (by omega)) (λ_=>?_);refine Γ (ξ ?_);walk_at"s";walk_at"ex";refine ϐ sw (v:=.str ("both":Str)) (Ϛ (by rw[aa2,hws];rfl)) ?_;refine ξ (oM ?_);walk_at"ex";rw[e1];refine⟨b,cs,a,ws,s0+1,_,k,rfl,hC,hS,hl,hz,by omega,by omega,jy,λp1 v1 H1 Δ hp1 hv1=>?_⟩;refine bM (ψ.of hp1) (ϖ (Ο nd (by rfl) (.inl rfl) (.inl rfl) (ϖ (Ο nd (by rfl) (.inl rfl) (.inl rfl) (bJ ?_)))));refine ξ (Ψ ?_);walk_at"ex";refine aY ?_;clear D1;have D2:=D2 trivial;refine Γ (ξ (oM ?_));walk_at"ex";refine⟨b,cs,a,ws,m,e,k,rfl,hC.same Δ,Δ.seq hS,hl,hz,by omega,by omega,nQ,λp2 v2 H2 Η hp2 hv2=>?_⟩;refine bM (ψ.of hp2) (ϖ (Ο nd (by rfl) (.inl rfl) (.inl rfl) (ϖ (Ο nd (by rfl) (.inl rfl) (.inl rfl) (bJ ?_)))));have tH:=Δ.trans Η;walk_at"A";refine⟨a,ws,s0,e,rfl,tH.seq hS,hl,hz,by omega,by omega,λH3 sm3=>?_⟩;have M:fX P w K mg base true 2 "BothSieve" (ι mg "BothSieve") ["self","text","one","other"] (yr K):=(J3 T).make T.adL T.ab1;refine ξ (Ψ ?_);walk_at"ex";refine cD ?_;refine ς (Ζ ?_);walk_at"ex";refine gC M hr (by omega) (λ_=>rfl) Χ ?_;walk_at"ex";intro y dx hy hdx Ϲ;refine⟨y,_,dx,[],_,_,_,rfl,υ,T.uV,T.aha,T.G9,T.Nq,by simp,λG ey keep=>⟨rfl,?_⟩⟩;walk_at"ex";refine⟨by show 2<=ϩ;omega,λp hp=>?_⟩;have bW:ζ H3 G:=λc o e=>keep _ _ (Ι e hy) (by rw[θ (Ι e hy),θ (Ι e hdx)];exact e)
 have ey:G y=some (.ins (ι mg "BothSieve") dx [("text",.str (bU ws s0 e)),("one",.ref v1),("other",.ref v2)]):=ey;have aa:ζ G (upd G p (.tup [.ref y,.int e])):=ζ.upd hp;have lg:=(sm3.trans bW).trans aa;exact q p y _ (tH.trans lg) υ ⟨dx,v1,v2,_,_,aa _ _ ey,(hv1.same Η).same lg,hv2.same lg⟩
theorem ag3(T:Txt K mg){t u:Tr}{lv l1 l2:Nat}(D1:Def P w K mg base true l1 "read_part" ["columns","words","start","within"] (jt K mg t))(h1:l1<=lv)(D2:True->Def P w K mg base true l2 "read_part" ["columns","words","start","within"] (jt K mg u))(h2:l2<=lv)(h3:3<=lv):Def P w K mg base true (lv+1) "read_of_sieves" ["columns","words","start","within"] (wG K mg (.ei t u)):=by
 refine Ν T.Ax mY (λ_ _ A _ s H vs Q E hr h=>?_);intro X;obtain⟨b,cs,a,ws,s0,e,k,rfl,hC,hS,hl,hz,hk0,hk,Im,hrd,q⟩:=h;have nd:=mY.nd;have hsz:=ϱ;have g1:=T.yf;have g2:=T.xx;have g3:=T.uK;have DB:= @lO P w K mg base T;have hle:=hrd.le;have hd:k+(max t.dep u.dep+1:Nat)<=21:=hk;obtain⟨fJ,hws,m,jy,nQ⟩:=hrd;have agL:=nQ.le;have QF:=jy.le;have sw:η K H a (ws.map V.str):=hS;have e1:(s0:Int)+1=((s0+1:Nat):Int):=by omega
 refine ξ (Ψ ?_);walk_at"ex";refine Ε (λh=>absurd h (by omega)) (λ_=>?_);refine Γ (ξ ?_);walk_at"s";walk_at"ex";refine ϐ sw (v:=.str ("either":Str)) (Ϛ (by rw[aa2,hws];rfl)) ?_;refine ξ (oM ?_);walk_at"ex";rw[e1];refine⟨b,cs,a,ws,s0+1,_,k,rfl,hC,hS,hl,hz,by omega,by omega,jy,λp1 v1 H1 Δ hp1 hv1=>?_⟩;refine bM (ψ.of hp1) (ϖ (Ο nd (by rfl) (.inl rfl) (.inl rfl) (ϖ (Ο nd (by rfl) (.inl rfl) (.inl rfl) (bJ ?_)))));refine ξ (Ψ ?_);walk_at"ex";refine aY ?_;clear D1;have D2:=D2 trivial;refine Γ (ξ (oM ?_));walk_at"ex";refine⟨b,cs,a,ws,m,e,k,rfl,hC.same Δ,Δ.seq hS,hl,hz,by omega,by omega,nQ,λp2 v2 H2 Η hp2 hv2=>?_⟩;refine bM (ψ.of hp2) (ϖ (Ο nd (by rfl) (.inl rfl) (.inl rfl) (ϖ (Ο nd (by rfl) (.inl rfl) (.inl rfl) (bJ ?_)))));have tH:=Δ.trans Η;walk_at"A";refine⟨a,ws,s0,e,rfl,tH.seq hS,hl,hz,by omega,by omega,λH3 sm3=>?_⟩;have M:fX P w K mg base true 2 "EitherSieve" (ι mg "EitherSieve") ["self","text","one","other"] (yr K):=(J3 T).make T.X3 T.agl;refine ξ (Ψ ?_);walk_at"ex";refine aY ?_;refine Γ (ς (Ζ ?_));walk_at"ex";refine gC M hr (by omega) (λ_=>rfl) Χ ?_;walk_at"ex";intro y dx hy hdx Ϲ;refine⟨y,_,dx,[],_,_,_,rfl,υ,T.wX,T.Xa,T.Ni,T.Lf,by simp,λG ey keep=>⟨rfl,?_⟩⟩;walk_at"ex";refine⟨by show 2<=ϩ;omega,λp hp=>?_⟩;have bW:ζ H3 G:=λc o e=>keep _ _ (Ι e hy) (by rw[θ (Ι e hy),θ (Ι e hdx)];exact e)
 have ey:G y=some (.ins (ι mg "EitherSieve") dx [("text",.str (bU ws s0 e)),("one",.ref v1),("other",.ref v2)]):=ey;have aa:ζ G (upd G p (.tup [.ref y,.int e])):=ζ.upd hp;have lg:=(sm3.trans bW).trans aa;exact q p y _ (tH.trans lg) υ ⟨dx,v1,v2,_,_,aa _ _ ey,(hv1.same Η).same lg,hv2.same lg⟩
theorem mU(T:Txt K mg):∀t:Tr,Def P w K mg base true (8+2*t.dep) "read_part" ["columns","words","start","within"] (jt K mg t)
 |.one sv=>air T sv
 |.nt t=>by
   have h:=Dt T (z:="not") (lv:=8+2*t.dep+1) rfl (agb T (lv:=8+2*t.dep) (mU T t) (ϭ _) (by omega));have e:8+2*(Tr.nt t).dep=8+2*t.dep+1+1:=by show 8+2*(t.dep+1)=_;omega
   rw[e];exact h
 |.bo t u=>by
   have h:=Dt T (z:="both") (lv:=8+2*max t.dep u.dep+1) rfl (aeI T (lv:=8+2*max t.dep u.dep) (mU T t) (by omega) (λ_=>mU T u) (by omega) (by omega));have e:8+2*(Tr.bo t u).dep=8+2*max t.dep u.dep+1+1:=by show 8+2*(max t.dep u.dep+1)=_;omega
   rw[e];exact h
 |.ei t u=>by
   have h:=Dt T (z:="either") (lv:=8+2*max t.dep u.dep+1) rfl (ag3 T (lv:=8+2*max t.dep u.dep) (mU T t) (by omega) (λ_=>mU T u) (by omega) (by omega));have e:8+2*(Tr.ei t u).dep=8+2*max t.dep u.dep+1+1:=by show 8+2*(max t.dep u.dep+1)=_;omega
   rw[e];exact h
def aaO(mg:Str->Option ε)(t:Tr):Sp:=λvs H Q _=>∃(b:δ)(cs:List ο)(z:Str),vs=[.ref b,.str z]/\ϋ H b cs/\z.length<=3000/\(∀y∈ϥ 32 z,y.length<=1000)/\t.dep<=20/\Reads cs (ϥ 32 z) t 0 (ϥ 32 z).length/\∀v H',ζ H H'->bh mg H' t v (bU (ϥ 32 z) 0 (ϥ 32 z).length)->Q (.ref v) H'
theorem aaq(T:Txt K mg)(t:Tr):Def P w K mg base true (9+2*t.dep) "read_sieve" ["columns","text"] (aaO mg t):=by
 have e9:9+2*t.dep=(8+2*t.dep)+1:=by omega
 rw[e9];refine Ν T.afG Ir (λ_ _ _ _ s H vs Q E hr h=>?_);intro X;obtain⟨b,cs,z,rfl,hC,hz,hzs,hdp,hrd,q⟩:=h;have nd:=Ir.nd;have n1:=T.bR;have hsz:=ϱ;have D1:= @mU P w K mg base T t;have hcl:=Hf 32 z;refine ξ ?_;walk_at"s";refine du F.plainAttrs_str F.slot_str_split F.type_str_split (h:=?_);walk_at"go";refine m_split (c:=32) (by omega) λp hp=>?_
 obtain⟨Δ,ep⟩:=ϙ hp (.lst ((ϥ 32 z).map V.str));generalize upd H p (.lst ((ϥ 32 z).map V.str))=H1 at Δ ep⊢;refine ξ (oM ?_);walk_at"ex";refine⟨b,cs,p,ϥ 32 z,0,_,0,rfl,hC.same Δ,η.of ep,by omega,hzs,by decide,by omega,hrd,λpr v H2 Η hpt hsv=>?_⟩;refine bM (ψ.of hpt) (ϖ (Ο nd (by rfl) (.inl rfl) (.inl rfl) (ϖ (Ο nd (by rfl) (.inl rfl) (.inl rfl) (bJ ?_)))));have SP2:η K H2 p ((ϥ 32 z).map V.str):=η.of (Η _ _ ep);have bA:((ϥ 32 z).map V.str).length=(ϥ 32 z).length:=aaf ..;refine ξ ?_;walk_at"go";rw[bA];refine Ε (λh=>absurd h (by omega)) (λ_=>?_);walk_at"go";exact q v H2 (Δ.trans Η) hsv
def agf(xs:List V):cR->Bool
 |.all=>true
 |.none p=>decide ((xs[p]?).getD .non=.non)
 |.look l p v=> !decide ((xs[p]?).getD .non=.non)&&jU l ((xs[p]?).getD .non) v
def Hv(xs:List V):cR->Prop
 |.all=>True
 |.none p=>p<xs.length
 |.look l p v=>∃x,xs[p]?=some x/\(x=.non\/yN l x v)
def Ϙ(xs:List V):Tr->Bool
 |.one s=>agf xs s
 |.nt t=> !Ϙ xs t
 |.bo t u=>Ϙ xs t&&Ϙ xs u
 |.ei t u=>Ϙ xs t||Ϙ xs u
def jl(xs:List V):Tr->Prop
 |.one s=>Hv xs s
 |.nt t=>jl xs t
 |.bo t u=>jl xs t/\jl xs u
 |.ei t u=>jl xs t/\jl xs u
def dR(mg:Str->Option ε):Tr->δ
 |.one .all=>ι mg "AllSieve"
 |.one (.none _)=>ι mg "NoneSieve"
 |.one (.look l _ _)=>uq mg l
 |.nt _=>ι mg "NotSieve"
 |.bo _ _=>ι mg "BothSieve"
 |.ei _ _=>ι mg "EitherSieve"
def cW(K:Ϩ)(mg:Str->Option ε)(t:Tr):Sp:=λvs H Q _=>∃(a b:δ)(z:Str)(xs:List V),vs=[.ref a,.ref b]/\bh mg H t a z/\η K H b xs/\jl xs t/\Q (.bl (Ϙ xs t)) H
theorem bh.ins{mg:Str->Option ε}{H:Hp}:∀{t:Tr}{a:δ}{z:Str},bh mg H t a z->∃dx fs,H a=some (.ins (dR mg t) dx fs)/\fs.lookup ("lets":Str)=none
 |.one .all,a,z,h=>by obtain⟨dx,h⟩:=h;exact⟨dx,_,h,rfl⟩
 |.one (.none p),a,z,h=>by obtain⟨dx,h⟩:=h;exact⟨dx,_,h,rfl⟩
 |.one (.look l p v),a,z,h=>by obtain⟨dx,h⟩:=h;exact⟨dx,_,h,rfl⟩
 |.nt t,a,z,h=>by obtain⟨dx,b,y,h,_⟩:=h;exact⟨dx,_,h,rfl⟩
 |.bo t u,a,z,h=>by obtain⟨dx,b,c,y,x,h,_⟩:=h;exact⟨dx,_,h,rfl⟩
 |.ei t u,a,z,h=>by obtain⟨dx,b,c,y,x,h,_⟩:=h;exact⟨dx,_,h,rfl⟩
theorem Vd(T:Txt K mg)(l:Lk)(p:Nat)(v:V):aF P w K mg base true 3 (uq mg l) "lets" ["self","values"] (Qk K l (uq mg l)):=by
 cases l with
 |is=>exact(vC ((Vo T.vD T.QH).meth T.vD T.aeD) T.JT).meth T.vD T.Wd
 |under=>exact(vC ((YF T T.v5 T.Hr).meth T.v5 T.Xr) T.RZ).meth T.v5 T.WL
 |over=>exact(vC ((adt T T.vL T.S6).meth T.vL T.aa6) T.Np).meth T.vL T.W8
 |holds=>exact(vC ((acH T.wQ T.Kr).meth T.wQ T.afa) T.Mm).meth T.wQ T.ado
theorem agQ(T:Txt K mg){t:Tr}{lv:Nat}(M:aF P w K mg base true lv (dR mg t) "lets" ["self","values"] (cW K mg t)):FD P w K mg base true (lv+1) "lets" "NotSieve.lets" yP ["self","values"] (cW K mg (.nt t)):=by
 refine aK abI (λ_ _ _ _ _ H vs Q E hr h=>?_);intro X;obtain⟨a,b,z,xs,rfl,⟨dx,c,y,ha,hc⟩,hS,hf,q⟩:=h;obtain⟨dc,fc,ec,lc⟩:=hc.ins;refine ς (Ζ ?_);walk_at"ex";refine bZ (pl:=_) hr Χ (h:=?_);refine aG ?_;walk_at"e";refine⟨a,_,_,_,_,rfl,ha,T.Fz,T.MF,rfl,?_⟩;refine⟨c,dR mg t,dc,_,true,lv,_,cW K mg t,rfl,ec,lc,M,ϭ _,id,?_⟩;walk_at"ex";refine⟨c,b,y,xs,rfl,hc,hS,hf,?_⟩;walk_at"ex";exact q
theorem aiY(T:Txt K mg){t u:Tr}{lv l1 l2:Nat}(M1:aF P w K mg base true l1 (dR mg t) "lets" ["self","values"] (cW K mg t))(h1:l1<=lv)(M2:aF P w K mg base true l2 (dR mg u) "lets" ["self","values"] (cW K mg u))(h2:l2<=lv):FD P w K mg base true (lv+1) "lets" "BothSieve.lets" yQ ["self","values"] (cW K mg (.bo t u)):=by
 refine aK ahQ (λ_ _ _ _ _ H vs Q E hr h=>?_);intro X;obtain⟨a,b,z,xs,rfl,⟨dx,c,d,y,x,ha,hc,hd⟩,hS,hf,q⟩:=h;obtain⟨dc,fc,ec,lc⟩:=hc.ins;obtain⟨dd,fd,ed,ld⟩:=hd.ins;refine ς (Ζ ?_);walk_at"ex";refine bZ (pl:=_) hr Χ (h:=?_);refine aG ?_;walk_at"e";refine⟨a,_,_,_,_,rfl,ha,T.uV,T.G9,rfl,?_⟩;refine⟨c,dR mg t,dc,_,true,l1,_,cW K mg t,rfl,ec,lc,M1,h1,id,?_⟩;walk_at"ex";refine⟨c,b,y,xs,rfl,hc,hS,hf.1,?_⟩;have q:Q (.bl (Ϙ xs t&&Ϙ xs u)) H:=q;generalize Ϙ xs t=bt at q⊢;cases bt with
 |true=>
  walk_at"ex";refine bZ (pl:=_) hr Χ (h:=?_);refine aG ?_;walk_at"e";refine⟨a,_,_,_,_,rfl,ha,T.uV,T.Nq,rfl,?_⟩;refine⟨d,dR mg u,dd,_,true,l2,_,cW K mg u,rfl,ed,ld,M2,h2,id,?_⟩;walk_at"ex";refine⟨d,b,x,xs,rfl,hd,hS,hf.2,?_⟩;exact q
 |false=>
  walk_at"ex";exact q
theorem Wk(T:Txt K mg){t u:Tr}{lv l1 l2:Nat}(M1:aF P w K mg base true l1 (dR mg t) "lets" ["self","values"] (cW K mg t))(h1:l1<=lv)(M2:aF P w K mg base true l2 (dR mg u) "lets" ["self","values"] (cW K mg u))(h2:l2<=lv):FD P w K mg base true (lv+1) "lets" "EitherSieve.lets" Eb ["self","values"] (cW K mg (.ei t u)):=by
 refine aK aan (λ_ _ _ _ _ H vs Q E hr h=>?_);intro X;obtain⟨a,b,z,xs,rfl,⟨dx,c,d,y,x,ha,hc,hd⟩,hS,hf,q⟩:=h;obtain⟨dc,fc,ec,lc⟩:=hc.ins;obtain⟨dd,fd,ed,ld⟩:=hd.ins;refine ς (Ζ ?_);walk_at"ex";refine bZ (pl:=_) hr Χ (h:=?_);refine aG ?_;walk_at"e";refine⟨a,_,_,_,_,rfl,ha,T.wX,T.Ni,rfl,?_⟩;refine⟨c,dR mg t,dc,_,true,l1,_,cW K mg t,rfl,ec,lc,M1,h1,id,?_⟩;walk_at"ex";refine⟨c,b,y,xs,rfl,hc,hS,hf.1,?_⟩;have q:Q (.bl (Ϙ xs t||Ϙ xs u)) H:=q;generalize Ϙ xs t=bt at q⊢;cases bt with
 |false=>
  walk_at"ex";refine bZ (pl:=_) hr Χ (h:=?_);refine aG ?_;walk_at"e";refine⟨a,_,_,_,_,rfl,ha,T.wX,T.Lf,rfl,?_⟩;refine⟨d,dR mg u,dd,_,true,l2,_,cW K mg u,rfl,ed,ld,M2,h2,id,?_⟩;walk_at"ex";refine⟨d,b,x,xs,rfl,hd,hS,hf.2,?_⟩;exact q
 |true=>
  walk_at"ex";exact q
theorem mO(T:Txt K mg):∀t:Tr,aF P w K mg base true (3+t.dep) (dR mg t) "lets" ["self","values"] (cW K mg t)
 |.one .all=>zG (U3.meth T.Ox T.adn) (by decide) λvs H Q E h=>by
   obtain⟨a,b,z,xs,rfl,_,_,_,q⟩:=h;exact⟨_,_,rfl,q⟩
 |.one (.none p)=>zG (Ww.meth T.Cy T.Vz) (by show 1<=3+0;decide) λvs H Q E h=>by
   obtain⟨a,b,z,xs,rfl,⟨dx,ha⟩,hS,hf,q⟩:=h;have hp:p<xs.length:=hf;have e:xs[p]?=some xs[p]:=ϳ hp;refine⟨a,_,dx,_,p,b,xs,xs[p],rfl,ha,T.Cy,T.G3,rfl,hS,e,?_⟩;have q:Q (.bl (decide ((xs[p]?).getD .non=.non))) H:=q;rw[e]at q;exact q
 |.one (.look l p v)=>zG (Vd T l p v) (by show 3<=3+0;decide) λvs H Q E h=>by
   obtain⟨a,b,z,xs,rfl,⟨dx,ha⟩,hS,⟨x,hx,hf⟩,q⟩:=h;refine⟨a,dx,z,p,v,b,xs,x,rfl,ha,hS,hx,hf,?_⟩;have q:Q (.bl (!decide ((xs[p]?).getD .non=.non)&&jU l ((xs[p]?).getD .non) v)) H:=q;rw[hx]at q;exact q
 |.nt t=>(agQ T (mO T t)).meth T.Fz T.aj4
 |.bo t u=>(aiY T (lv:=3+max t.dep u.dep) (mO T t) (by omega) (mO T u) (by omega)).meth T.uV T.ajQ
 |.ei t u=>(Wk T (lv:=3+max t.dep u.dep) (mO T t) (by omega) (mO T u) (by omega)).meth T.wX T.Vv
theorem Dv(T:Txt K mg):Def P w K mg base true 2 "read_order_word" ["columns","word"] (WW (.ref (ι mg "NoOrder"))):=by
 refine Ν T.Dv Hz (λ_ _ _ _ _ H vs Q E hr h=>?_);intro X;obtain⟨a,cs,z,rfl,hC,hz,qe,q⟩:=h;have g1:=T.aiB;have g2:=T.ah3;have nd:=Hz.nd;have D1:= @sX P w K mg base T;have hsz:=ϱ;have hcl:=pW z (some 1) none;have e1:("+":Str).cps.toList=[43]:=by decide+kernel
 have e2:("-":Str).cps.toList=[45]:=by decide+kernel
 have es:(ώ z none (some 1)).cps.toList=z.cps.toList.take 1:=xP z 1;have key:∀c:Nat,z.cps.toList.take 1=[c]↔z.cps.toList[0]?=some c:=λc=>by
  cases z.cps.toList with
  |nil=>simp
  |cons x r=>simp
 have k1:V.str (ώ z none (some 1))=V.str "+"↔z.cps.toList[0]?=some 43:=by
  rw[<-key];constructor
  .intro h;have h2:ώ z none (some 1)=Str.ofString "+":=by injection h
   rw[<-es,h2,e1]
  .intro h;have h2:ώ z none (some 1)=Str.ofString "+":=iu (by rw[es,h,e1]);rw[h2]
 have k2:V.str (ώ z none (some 1))=V.str "-"↔z.cps.toList[0]?=some 45:=by
  rw[<-key];constructor
  .intro h;have h2:ώ z none (some 1)=Str.ofString "-":=by injection h
   rw[<-es,h2,e2]
  .intro h;have h2:ώ z none (some 1)=Str.ofString "-":=iu (by rw[es,h,e2]);rw[h2]
 refine ξ ?_;walk_at"go";refine ju ?_;walk_at"go";refine ju ?_;walk_at"go";refine⟨by show 2<=ϩ;omega,λp hp=>?_⟩;obtain⟨aj,ep⟩:=ϙ hp (.tup [.str "+",.str "-"]);generalize upd H p (.tup [.str "+",.str "-"])=H0 at aj ep⊢;refine Og (ψ.of ep) ?_;have ei:gh (V.str (ώ z none (some 1))) [.str "+",.str "-"]=decide (z.cps.toList[0]?=some 43\/z.cps.toList[0]?=some 45):=by
  have e3:∀y:Str,dM (V.str y) (V.str (ώ z none (some 1)))=decide (V.str (ώ z none (some 1))=V.str y):=λy=>by
   rw[aik,decide_eq_true_eq];constructor
   .intro h;have:V.str y=V.str (ώ z none (some 1)):=by simpa [dM]using h
    exact this.symm
   .intro h;rw[h];simp[dM]
  rw[aik,decide_eq_true_eq, <-k1, <-k2];show((dM _ _||(dM _ _||false))=true)↔_;rw[e3,e3,aof,am1,decide_eq_true_eq,decide_eq_true_eq]
 rw[ei];walk_at"go";refine jg (λh=>?_) (λh=>?_)
 .refine ς (fB Χ T.wY ?_);walk_at"go";refine oX ?_;walk_at"e";refine⟨z,rfl,by omega,_,4000,rfl,hz,by omega,?_⟩;walk_at"go";intro zz;walk_at"go";exact⟨by rw[hsz];simp,qe H0 aj (if_neg λx=>h x.1)⟩
 .refine Γ ?_;walk_at"go";refine⟨a,cs,_,rfl,hC.same aj,λH1 Δ =>?_⟩;have Η :=aj.trans Δ;walk_at"go";refine Ε (λh2=>?_) (λh2=>?_)
  .refine ς (fB Χ T.wY ?_);walk_at"go";refine oX ?_;walk_at"e";refine⟨_,rfl,by omega,_,4000,rfl,by omega,by omega,?_⟩;walk_at"go";intro zz;walk_at"go";exact⟨by rw[hsz];simp,qe H1 Η (if_neg λx=>x.2 h2)⟩
  .refine Γ ?_;walk_at"go";refine⟨by show 2<=ϩ;omega,λt ht=>?_⟩;refine q t _ _ (Η.trans (ζ.upd ht)) (if_pos ⟨h,h2⟩) ?_;rw[υ];have e4:decide (V.str (ώ z none (some 1))=V.str ("+":Str))=decide (z.cps.toList[0]?=some 43):=decide_eq_decide.mpr k1;rw[e4]
theorem yM(T:Txt K mg):Def P w K mg base true 3 "read_order" ["columns","text"] (ae3 (.ref (ι mg "NoOrder"))):=by
 refine Ν T.yM Ke (λf _ _ _ s H vs Q E hr h=>?_);intro X;obtain⟨a,cs,z,rfl,hC,hz,qe,q⟩:=h;have g1:=T.ae0;have n1:=T.bR;have n2:=T.O7;have nd:=Ke.nd;have Dj:(["word","columns"]:List Str).Nodup:=by decide+kernel
 have bj:(["name","up"]:List Str).Nodup:=by decide+kernel
 have D1:= @Dv P w K mg base T;have hsz:=ϱ;unfold lC at qe q;refine ξ ?_;walk_at"go";refine Ε (λh=>?_) (λh=>?_)
 .have h':z="":=by injection h
  walk_at"go";refine⟨by show 0<=ϩ;omega,λp hp=>?_⟩;exact q p [] _ (ζ.upd hp) (if_pos h') hp ⟨[],υ,.nil⟩
 .have h':¬z="":=λe=>h (by rw[e])
  rw[if_neg h']at qe q;refine Γ ?_;refine ξ ?_;walk_at"s";refine du PySem.F.plainAttrs_str PySem.F.slot_str_split PySem.F.type_str_split (h:=?_);walk_at"go";refine m_split (c:=32) (by omega) λp1 hp1=>?_
  have hwl:=Hf 32 z;have hws:=λy=> @ajR 32 z y
  generalize ϥ 32 z=ws at qe q hwl hws⊢;obtain⟨Δ,oF⟩:=ϙ hp1 (.lst (ws.map V.str));generalize upd H p1 (.lst (ws.map V.str))=H1 at Δ oF⊢;have bA:(ws.map V.str).length=ws.length:=aaf ..;have S1:η K H1 p1 (ws.map V.str):=η.of oF;walk_at"go";rw[bA];refine Ε (λh2=>?_) (λh2=>?_)
  .refine ς (fB Χ T.wY ?_);walk_at"go";exact⟨by rw[hsz];simp,qe H1 Δ (if_pos (by omega))⟩
  .rw[if_neg (by omega)]at qe q;refine Γ ?_;refine ξ ?_;refine ahU ["word","columns"] (σ':=[none,some (.ref a)]) (by rfl) Χ rfl rfl (by rfl) (by rfl) (cC (ρ u5)) (by intro _;rfl) nd (by rfl) (by rfl) ?_;walk_at"go";refine⟨p1,_,rfl,S1,by rw[bA];omega,λτ=>∃o,τ=[o,some (.ref a)],λE' i v H'=>∃y,ws[i]?=some y/\∃o,iM cs y=some o/\∃t,v=.ref t/\t≠E'/\H' t=some (.tup [.str o.1,.bl o.2]),⟨none,rfl⟩,λE' i v H2 H3 ys _ hk hp=>?_,λfp E' C s3 H0 F i τ x H2 H3 xo hE hi hτ Η hys hG=>?_,λE' H2 xs hE hl hx e2 Η =>?_⟩
   .obtain⟨y,a1,o,a2,t,a3,a4,a5⟩:=hp;exact⟨y,a1,o,a2,t,a3,a4,hk t _ a4 a5⟩
   .obtain⟨o,rfl⟩:=hτ;obtain⟨hx,rfl⟩:=hG;rw[aa2]at hx;obtain⟨y,ey,rfl⟩:=akk.mp hx;have hyl:=hws y (aaJ ey);refine Ο Dj (by rfl) (.inl rfl) (.inr rfl) ?_;walk_at"go";have sm3:=Δ.trans Η;refine⟨a,cs,y,rfl,hC.same sm3,by omega,λH' Ρ e=>?_,λt o H' Ρ e et=>?_⟩
    .exact qe H' (sm3.trans Ρ) (by rw[Qs (aaJ ey) e])
    .obtain⟨ys,hy1,_⟩:=hys;refine⟨⟨_,rfl⟩,⟨y,ey,o,e,t,rfl,λz=>?_,et⟩,Ρ⟩;rw[z,Ρ _ _ hy1]at et;cases et
   .obtain⟨os,eo,ha⟩:=Oo (f:=iM cs) (R:=qJ H2) (ws:=ws) (xs:=xs) (by rw[hl,bA]) λi v e=>by
     obtain⟨y,a1,o,a2,t,a3,a4,a5⟩:=hx i v e;exact⟨y,a1,o,a2,t,a3,a5⟩
    rw[eo]at qe q;have hol:=ha.len;have sm3:=Δ.trans Η;have hEn:H E'=none:=by
     cases e:H E' with
     |none=>rfl
     |some u=>rw[Δ _ _ e]at hE;cases hE
    refine ξ ?_;refine vA ["name","up"] (σ':=[none,none]) (cC (ρ u5)) nd ?_;walk_at"go";refine⟨E',xs,rfl,η.of e2,by rw[hl,bA];omega,λτ=>∃o1 o2,τ=[o1,o2],λE2 i u H'=>∃c,os[i]?=some c/\u=.str c.1,⟨none,none,rfl⟩,λE2 i u H2 H3 ys _ _ p=>p,λfp E2 C s3 H0 i τ x H4 H3 cX hi hτ Ρ hys hG=>?_,λE2 H4 ys cX hl2 hx2 e4 Ρ =>?_⟩
    .obtain⟨o1,o2,rfl⟩:=hτ;obtain⟨cV,rfl⟩:=hG;obtain⟨c,hc,t,rfl,ht⟩:=ha.get cV;refine bM (ψ.of (Ρ _ _ ht)) (ϖ (Ο bj (by rfl) (.inl rfl) (.inr rfl) (ϖ (Ο bj (by rfl) (.inl rfl) (.inr rfl) (bJ ?_)))));walk_at"go";exact⟨⟨_,_,rfl⟩,⟨c,hc,rfl⟩,ζ.refl _⟩
    .have ey:=jT (ys:=os) (λc=>V.str c.1) (by rw[hl2,hol]) hx2;have ik:ys=(os.map Prod.fst).map V.str:=by rw[ey,agn];rfl
     subst ik;have hnl:(os.map Prod.fst).length<=4000:=by simp;omega
     refine ξ ?_;walk_at"go";refine Mg (by rfl) (η.of e4) hnl λS hS=>?_
     walk_at"go";refine Mp υ hnl ?_;walk_at"go";refine qt (.inl (η.of ((ζ.upd hS) _ _ e4))) ?_;walk_at"go";have iR:ζ H2 (upd H4 S (jc X S (os.map Prod.fst))):=Ρ.trans (ζ.upd hS);have Jj:=Bx _ (os.map Prod.fst) rfl;generalize upd H4 S (jc X S (os.map Prod.fst))=H5 at iR⊢;rw[aaf (f:=V.str)];refine jg (λh3=>?_) (λh3=>?_)
     .have h4:¬(os.map Prod.fst).Nodup:=λz=>h3 (by rw[Jj.mpr z])
      refine ς (fB Χ T.wY ?_);walk_at"go";exact⟨by rw[hsz];simp,qe H5 (sm3.trans iR) (if_neg h4)⟩
     .have h4:(os.map Prod.fst).Nodup:=Jj.mp (by injection h3 with h5;omega);refine Γ ?_;walk_at"go";exact q E' os H5 (sm3.trans iR) (if_pos h4) hEn ⟨xs,iR _ _ e2,ha.imp λu c r=>r.same iR⟩
abbrev Row:=Int×List V
def jJ(H:Hp)(v:V)(r:Row):=∃t l,v=.ref t/\H t=some (.tup [.int r.1,.ref l])/\H l=some (.lst r.2)
theorem jJ.same{H H':Hp}{v:V}{r:Row}(h:jJ H v r)(s:ζ H H'):jJ H' v r:=by
 obtain⟨t,l,e,q1,q2⟩:=h;exact⟨t,l,e,s _ _ q1,s _ _ q2⟩
def uA(H:Hp)(a:δ)(rs:List Row):=∃vs:List V,H a=some (.lst vs)/\ω (jJ H) vs rs
def ak(cs:List ο)(r:Row):Prop:=ω (λc x=>ϕ c.2 x) cs r.2
theorem ϕ.aD{kd:Str}{x y:V}(h:ϕ kd x)(g:ϕ kd y):aD x y:=by
 obtain rfl|⟨e,i,rfl,_⟩|⟨e,z,rfl,_⟩:=h
 .exact .inl rfl
 .obtain rfl|⟨_,j,rfl,_⟩|⟨e2,z,rfl,_⟩:=g
  .exact .inr (.inl rfl)
  .exact .inr (.inr (.inl ⟨_,_,rfl,rfl⟩))
  .exact absurd e e2
 .obtain rfl|⟨e2,j,rfl,_⟩|⟨_,z,rfl,_⟩:=g
  .exact .inr (.inl rfl)
  .exact absurd e2 e
  .exact .inr (.inr (.inr ⟨_,_,rfl,rfl⟩))
theorem uM(x:V):before x x=false:=by
 cases x with
 |non=>rfl
 |int i=>exact decide_eq_false (by omega)
 |str z=>exact decide_eq_false (aoH _)
 |_=>rfl
theorem Kv{kd:Str}{x y z:V}(hx:ϕ kd x)(hy:ϕ kd y)(hz:ϕ kd z)(h1:before x y=true)(h2:before y z=true):before x z=true:=by
 obtain rfl|⟨e,k,rfl,_⟩|⟨e,z,rfl,_⟩:=hz
 .cases y<;>cases h2
 .obtain rfl|⟨_,i,rfl,_⟩|⟨e2,z,rfl,_⟩:=hx
  .rfl
  .obtain rfl|⟨_,j,rfl,_⟩|⟨e2,z,rfl,_⟩:=hy
   .cases h1
   .have a:=of_decide_eq_true h1;have b:=of_decide_eq_true h2;exact decide_eq_true (by omega)
   .exact absurd e e2
  .exact absurd e e2
 .obtain rfl|⟨e2,i,rfl,_⟩|⟨_,u,rfl,_⟩:=hx
  .rfl
  .exact absurd e2 e
  .obtain rfl|⟨e2,j,rfl,_⟩|⟨_,v,rfl,_⟩:=hy
   .cases h1
   .exact absurd e2 e
   .exact decide_eq_true (aoN (of_decide_eq_true h1) (of_decide_eq_true h2))
theorem p7{x y:V}(h:aD x y)(sx:scalar x=true)(sy:scalar y=true)(Ϲ:¬x=y):before y x= !before x y:=by
 cases x with
 |non=>
  cases y with
  |non=>exact absurd rfl Ϲ
  |int j=>rfl
  |str z=>rfl
  |_=>exact absurd sy aaD
 |int i=>
  cases y with
  |non=>rfl
  |int j=>
   have hij:¬i=j:=λe=>Ϲ (by rw[e])
   show decide (j<i)= !decide (i<j);by_cases h1:i<j
   .rw[decide_eq_true h1,decide_eq_false (by omega)];rfl
   .rw[decide_eq_false h1,decide_eq_true (by omega)];rfl
  |str z=>obtain z|z|⟨_,_,_,z⟩|⟨_,_,z,_⟩:=h<;>cases z
  |_=>exact absurd sy aaD
 |str z=>
  cases y with
  |non=>rfl
  |int j=>obtain z|z|⟨_,_,z,_⟩|⟨_,_,_,z⟩:=h<;>cases z
  |str y=>
   have hzy:¬z.cps.toList=y.cps.toList:=λe=>Ϲ (by rw[iu e])
   show decide (y.cps.toList<z.cps.toList)= !decide (z.cps.toList<y.cps.toList);by_cases h1:z.cps.toList<y.cps.toList
   .rw[decide_eq_true h1,decide_eq_false (List.lt_asymm h1)];rfl
   .have h2:y.cps.toList<z.cps.toList:=by
     by_cases h3:y.cps.toList<z.cps.toList
     .exact h3
     .exact absurd (List.le_antisymm (aoD.mp h3) (aoD.mp h1)) hzy
    rw[decide_eq_false h1,decide_eq_true h2];rfl
  |_=>exact absurd sy aaD
 |_=>exact absurd sx aaD
def km(cs:List ο)(z:Str):Str:=match cs[ϊ cs z]? with
 |some c=>c.2
 |none=>Str.ofString ""
def fQ(cs:List ο)(os:List Ord)(xs:List V):Prop:=ω (λ(o:Ord) x=>ϕ (km cs o.1) x) os xs
theorem Cd:∀{os:List Ord}{xs:List V}{n k:Int},xs.length=os.length->Ϥ os xs xs n k=decide (n<k)
 |[],[],n,k,_=>rfl
 |o::os,x::xs,n,k,h=>by
  show(if x=x then Ϥ os xs xs n k else _)=_;rw[if_pos rfl];exact Cd (by simpa using h)
 |[],_::_,_,_,h=>by simp at h
 |_::_,[],_,_,h=>by simp at h
theorem JC{cs:List ο}{n k:Int}:∀{os:List Ord}{xs ys:List V},fQ cs os xs->fQ cs os ys->¬xs=ys->Ϥ os ys xs k n= !Ϥ os xs ys n k
 |[],_,_,hx,hy,h=>by cases hx;cases hy;exact absurd rfl h
 |o::os,_,_,hx,hy,h=>by
  cases hx with| @cons _ x _ xs hx tx=>
  cases hy with| @cons _ y _ ys hy ty=>
  show(if y=x then Ϥ os ys xs k n else decide (before y x=o.2))= !(if x=y then Ϥ os xs ys n k else decide (before x y=o.2));by_cases e:x=y
  .rw[if_pos e,if_pos e.symm];exact JC tx ty λe2=>h (by rw[e,e2])
  .rw[if_neg e,if_neg (Ne.symm e),p7 (hx.aD hy) hx.sc hy.sc e];cases before x y<;>cases o.2<;>rfl
theorem uX{cs:List ο}{n k m:Int}:∀{os:List Ord}{xs ys zs:List V},fQ cs os xs->fQ cs os ys->fQ cs os zs->Ϥ os xs ys n k=true->Ϥ os ys zs k m=true->Ϥ os xs zs n m=true
 |[],_,_,_,hx,hy,hz,h1,h2=>by
  cases hx;cases hy;cases hz;have a:=of_decide_eq_true h1;have b:=of_decide_eq_true h2;exact decide_eq_true (by omega)
 |o::os,_,_,_,hx,hy,hz,h1,h2=>by
  cases hx with| @cons _ x _ xs hx tx=>
  cases hy with| @cons _ y _ ys hy ty=>
  cases hz with| @cons _ z _ zs hz tz=>
  have h1':(if x=y then Ϥ os xs ys n k else decide (before x y=o.2))=true:=h1;have h2':(if y=z then Ϥ os ys zs k m else decide (before y z=o.2))=true:=h2;show(if x=z then Ϥ os xs zs n m else decide (before x z=o.2))=true;by_cases e1:x=y
  .rw[if_pos e1]at h1';subst e1;by_cases e2:x=z
   .rw[if_pos e2]at h2'⊢;exact uX tx ty tz h1' h2'
   .rw[if_neg e2]at h2'⊢;exact h2'
  .rw[if_neg e1]at h1';by_cases e2:y=z
   .subst e2;rw[if_neg e1];exact h1'
   .rw[if_neg e2]at h2';have a:=of_decide_eq_true h1';have b:=of_decide_eq_true h2';cases ho:o.2 with
    |true=>
     rw[ho]at a b;have c:=Kv hx hy hz a b;have e3:¬x=z:=λe=>by rw[e,uM]at c;cases c
     rw[if_neg e3];exact decide_eq_true c
    |false=>
     rw[ho]at a b;have a':before y x=true:=by rw[p7 (hx.aD hy) hx.sc hy.sc e1,a];rfl
     have b':before z y=true:=by rw[p7 (hy.aD hz) hy.sc hz.sc e2,b];rfl
     have c:=Kv hz hy hx b' a';have e3:¬x=z:=λe=>by rw[e,uM]at c;cases c
     rw[if_neg e3];have d:=p7 (hx.aD hz) hx.sc hz.sc e3;rw[c]at d;refine decide_eq_true ?_;cases hb:before x z with
     |true=>rw[hb]at d;cases d
     |false=>rfl
theorem eZ{cs:List ο}{r:Row}(h:ak cs r):∀{os:List Ord},cJ cs os->fQ cs os (aJ cs os r.2)
 |[],_=>.nil
 |o::os,ϻ=>by
  refine .cons ?_ (eZ h λx hx=>ϻ x (by simp[hx]));obtain⟨c,hc,_⟩:=Fj (ϻ o (by simp));obtain⟨v,hv,hk⟩:=h.get hc;show ϕ (km cs o.1) (bK cs r.2 o.1);unfold km bK;rw[hc,hv];exact hk
theorem fQ.aD{cs:List ο}{os:List Ord}{xs ys:List V}(h:fQ cs os xs)(g:fQ cs os ys):xs.length=os.length/\ys.length=os.length/\∀(i:Nat) x y,xs[i]?=some x->ys[i]?=some y->scalar x=true/\scalar y=true/\aD x y:=by
 refine⟨h.len.symm,g.len.symm,λi x y e1 e2=>?_⟩;obtain⟨o,ho,hx⟩:=h.get' e1;obtain⟨o',ho',hy⟩:=g.get' e2;rw[ho]at ho';cases ho';exact⟨hx.sc,hy.sc,hx.aD hy⟩
def bV(cs:List ο)(os:List Ord)(r q:Row):Bool:=Ϥ os (aJ cs os r.2) (aJ cs os q.2) r.1 q.1
def Line(cs:List ο)(os:List Ord)(rs:List Row):Prop:=rs.Pairwise λr q=>bV cs os r q=true
theorem Rj{α:Type}{p:α->Bool}:∀{l:List α},l.Pairwise (λa b=>p b=true->p a=true)->(∀x∈l.take (l.countP p),p x=true)/\∀x∈l.drop (l.countP p),p x=false
 |[],_=>by simp
 |a::l,h=>by
  obtain⟨h1,h2⟩:=al1.mp h;obtain⟨i1,i2⟩:=Rj h2;cases ha:p a with
  |true=>
   rw[List.countP_cons_of_pos ha];exact⟨λx hx=>by
    rcases ϴ.mp (by simpa using hx)with e|e
    .rw[e];exact ha
    .exact i1 x e,λx hx=>i2 x (by simpa using hx)⟩
  |false=>
   have hn:∀x∈l,p x=false:=λx hx=>by
    cases hp:p x with
    |false=>rfl
    |true=>have:=h1 x hx hp;rw[ha]at this;cases this
   have h0:l.countP p=0:=List.countP_eq_zero.mpr λx hx=>by rw[hn x hx];exact aaD
   rw[List.countP_cons_of_neg (by rw[ha];exact aaD),h0];refine⟨by simp,λx hx=>?_⟩;rcases ϴ.mp (by simpa using hx)with e|e
   .rw[e];exact ha
   .exact hn x e
inductive Ct
 |start
 |fin
 |at_ (ahead:Bool) (xs:List V) (n:Int)
def laF(os:List Ord):Ct->List V->Int->Bool
 |.at_ true ys k,xs,n=>Ϥ os xs ys n k
 |.at_ false ys k,xs,n=> !Ϥ os ys xs k n
 |_,_,_=>false
def j5(cs:List ο)(os:List Ord)(c:Ct)(r:Row):Bool:=laF os c (aJ cs os r.2) r.1
def zP(cs:List ο)(os:List Ord):Ct->Prop
 |.at_ _ xs _=>fQ cs os xs
 |_=>True
theorem adI{cs:List ο}{os:List Ord}(ϻ:cJ cs os){c:Ct}(hc:zP cs os c){r q:Row}(hr:ak cs r)(hq:ak cs q)(h:bV cs os r q=true)(hl:j5 cs os c q=true):j5 cs os c r=true:=by
 have kr:=eZ hr ϻ;have kq:=eZ hq ϻ;cases c with
 |start=>cases hl
 |fin=>cases hl
 |at_ sd xs n=>
  cases sd with
  |true=>exact uX kr kq hc h hl
  |false=>
   have hl':(!Ϥ os xs (aJ cs os q.2) n q.1)=true:=hl;show(!Ϥ os xs (aJ cs os r.2) n r.1)=true;cases hx:Ϥ os xs (aJ cs os r.2) n r.1 with
   |false=>rfl
   |true=>
    rw[uX hc kr kq hx h]at hl';cases hl'
theorem Px{cs:List ο}{os:List Ord}(ϻ:cJ cs os){c:Ct}(hc:zP cs os c):∀{rs:List Row},(∀r∈rs,ak cs r)->Line cs os rs->rs.Pairwise (λa b=>j5 cs os c b=true->j5 cs os c a=true)
 |[],_,_=>.nil
 |r::rs,hf,h=>by
  obtain⟨h1,h2⟩:=al1.mp h;exact .cons (λq hq hl=>adI ϻ hc (hf r (by simp)) (hf q (by simp[hq])) (h1 q hq) hl) (Px ϻ hc (λq hq=>hf q (by simp[hq])) h2)
theorem VD{cs:List ο}{os:List Ord}(ϻ:cJ cs os){rs:List Row}{r:Row}(hf:∀q∈rs,ak cs q)(hr:ak cs r)(h:Line cs os rs)(hn:∀q∈rs,¬q.1=r.1):Line cs os (fM rs (rs.countP λq=>bV cs os q r) r):=by
 have kr:=eZ hr ϻ;have hc:zP cs os (.at_ true (aJ cs os r.2) r.1):=kr;have hp:=Px ϻ hc hf h;obtain⟨p1,p2⟩:=Rj hp;have ee:(λq=>bV cs os q r)=j5 cs os (.at_ true (aJ cs os r.2) r.1):=rfl;rw[ee];unfold fM;have hsp:Line cs os (rs.take (rs.countP (j5 cs os (.at_ true (aJ cs os r.2) r.1)))++rs.drop (rs.countP (j5 cs os (.at_ true (aJ cs os r.2) r.1)))):=by
  rw[anU];exact h
 obtain⟨a1,a2,a3⟩:=ang.mp hsp;refine ang.mpr ⟨a1,al1.mpr ⟨λq hq=>?_,a2⟩,λx hx q hq=>?_⟩
 .have hf':=hf q (ag4 hq);have e:=p2 q hq;have kq:=eZ hf' ϻ;have Ϲ:=hn q (ag4 hq);have e':Ϥ os (aJ cs os q.2) (aJ cs os r.2) q.1 r.1=false:=e;show Ϥ os (aJ cs os r.2) (aJ cs os q.2) r.1 q.1=true;by_cases hk:aJ cs os q.2=aJ cs os r.2
  .rw[hk,Cd (fQ.aD kr kr).1]at e'⊢;have:=of_decide_eq_false e';exact decide_eq_true (by omega)
  .rw[JC kq kr hk,e'];rfl
 .obtain e|e:=ϴ.mp hq
  .rw[e];exact p1 x hx
  .exact a3 x hx q e
def iB:V->List V
 |.non=>[]
 |x=>[x]
def gZ(rs:List Row)(q:List Nat):List Row:=q.map λi=>rs.getD i (0,[])
theorem Bh{R:V->Row->Prop}{ws:List V}{rs:List Row}(h:ω R ws rs):∀{q:List Nat},(∀i∈q,i<ws.length)->ω R (cI ws q) (gZ rs q)
 |[],_=>.nil
 |i::q,hq=>by
  have hi:=hq i (by simp);have e:ws[i]?=some (ws[i]'hi):=ϳ hi;obtain⟨r,er,hr⟩:=h.get e;show ω R (ws.getD i .non::cI ws q) (rs.getD i (0,[])::gZ rs q);rw[abm,abm,e,er];exact .cons hr (Bh h λj hj=>hq j (by simp[hj]))
theorem map_getD{α:Type}(d:α):∀(l:List α),(ady l.length).map (λi=>l.getD i d)=l
 |[]=>rfl
 |a::l=>by
  rw[List.length_cons,anL,List.map_cons,agn];show a::_=_
  congr 1
  exact map_getD d l
theorem Hb{rs:List Row}{lt:Nat->Nat->Bool}{q:List Nat}(h:dh rs.length lt q):(gZ rs q).Perm rs:=by
 have:=h.1.map λi=>rs.getD i (0,[])
 rw[map_getD]at this;exact this
theorem j6{rs:List Row}{i:Nat}(h:i<rs.length):rs.getD i (0,[])=rs[i]:=by
 rw[abm,ϳ h];rfl
theorem PX{kd:Str}{x y:V}(hx:ϕ kd x)(hy:ϕ kd y):aB (iB x) (iB y)=before x y:=by
 obtain rfl|⟨e,i,rfl,_⟩|⟨e,z,rfl,_⟩:=hx
 .obtain rfl|⟨_,j,rfl,_⟩|⟨_,z,rfl,_⟩:=hy<;>rfl
 .obtain rfl|⟨_,j,rfl,_⟩|⟨e2,z,rfl,_⟩:=hy
  .rfl
  .rfl
  .exact absurd e e2
 .obtain rfl|⟨e2,j,rfl,_⟩|⟨_,z,rfl,_⟩:=hy
  .rfl
  .exact absurd e2 e
  .rfl
theorem ajf{cs:List ο}{rs:List Row}{q:List Nat}(hn:(rs.map Prod.fst).Nodup)(hq:dh rs.length (ie false λi j=>decide ((rs.getD i (0,[])).1<(rs.getD j (0,[])).1)) q):Line cs [] (gZ rs q):=by
 unfold Line gZ;rw[amv];have hqn:q.Nodup:=(hq.1.nodup_iff).mpr anf;refine(hq.2.and hqn).imp_of_mem λ{i j} hi hj h=>?_;obtain⟨h,Ϲ⟩:=h;have hi':=lN hq hi;have hj':=lN hq hj;show decide ((rs.getD i (0,[])).1<(rs.getD j (0,[])).1)=true;have hd:¬(rs.getD i (0,[])).1=(rs.getD j (0,[])).1:=λe=>by
  rw[j6 hi',j6 hj']at e;have e2:(rs.map Prod.fst)[i]'(by simpa using hi')=(rs.map Prod.fst)[j]'(by simpa using hj'):=by simpa using e
  exact Ϲ ((amF hn).mp e2)
 obtain h|⟨h,_⟩:=h
 .exact h
 .have h':decide ((rs.getD j (0,[])).1<(rs.getD i (0,[])).1)=false:=h;have:=of_decide_eq_false h';exact decide_eq_true (by omega)
def aN(rs:List Row)(p:Nat)(i:Nat):List V:=iB (((rs.getD i (0,[])).2[p]?).getD .non)
theorem adJ{cs:List ο}{os:List Ord}{o:Ord}{rs:List Row}{q:List Nat}(ϻ:cJ cs (o::os))(hf:∀r∈rs,ak cs r)(h:Line cs os rs)(hq:dh rs.length (ie (!o.2) λi j=>aB (aN rs (ϊ cs o.1) i) (aN rs (ϊ cs o.1) j)) q):Line cs (o::os) (gZ rs q):=by
 unfold Line gZ;rw[amv];have hqn:q.Nodup:=(hq.1.nodup_iff).mpr anf;refine(hq.2.and hqn).imp_of_mem λ{i j} hi hj h0=>?_;obtain⟨h0,Ϲ⟩:=h0;have hi':=lN hq hi;have hj':=lN hq hj;have mi:rs.getD i (0,[])∈rs:=by rw[j6 hi'];exact ahu hi'
 have mj:rs.getD j (0,[])∈rs:=by rw[j6 hj'];exact ahu hj'
 have kx:ϕ (km cs o.1) (bK cs (rs.getD i (0,[])).2 o.1):=by
  cases eZ (hf _ mi) ϻ with|cons h _=>exact h
 have ky:ϕ (km cs o.1) (bK cs (rs.getD j (0,[])).2 o.1):=by
  cases eZ (hf _ mj) ϻ with|cons h _=>exact h
 have qg:aB (aN rs (ϊ cs o.1) i) (aN rs (ϊ cs o.1) j)=before (bK cs (rs.getD i (0,[])).2 o.1) (bK cs (rs.getD j (0,[])).2 o.1):=PX kx ky;have tW:aB (aN rs (ϊ cs o.1) j) (aN rs (ϊ cs o.1) i)=before (bK cs (rs.getD j (0,[])).2 o.1) (bK cs (rs.getD i (0,[])).2 o.1):=PX ky kx;have an:=p7 (kx.aD ky) kx.sc ky.sc;have old:i<j->bV cs os (rs.getD i (0,[])) (rs.getD j (0,[]))=true:=λhlt=>by
  rw[j6 hi',j6 hj'];exact akF.mp h i j hi' hj' hlt
 show(if bK cs (rs.getD i (0,[])).2 o.1=bK cs (rs.getD j (0,[])).2 o.1 then bV cs os (rs.getD i (0,[])) (rs.getD j (0,[]))else decide (before (bK cs (rs.getD i (0,[])).2 o.1) (bK cs (rs.getD j (0,[])).2 o.1)=o.2))=true;generalize bK cs (rs.getD i (0,[])).2 o.1=x at kx qg tW an⊢;generalize bK cs (rs.getD j (0,[])).2 o.1=y at ky qg tW an⊢;by_cases e:x=y
 .rw[if_pos e];refine old ?_;subst e;obtain h1|⟨_,h1⟩:=h0
  .unfold ie at h1;split at h1
   .have h1:aB (aN rs (ϊ cs o.1) j) (aN rs (ϊ cs o.1) i)=true:=h1;rw[tW,uM]at h1;cases h1
   .have h1:aB (aN rs (ϊ cs o.1) i) (aN rs (ϊ cs o.1) j)=true:=h1;rw[qg,uM]at h1;cases h1
  .exact h1
 .rw[if_neg e];have QR:=an e;refine decide_eq_true ?_;cases hu:o.2 with
  |true=>
   rw[hu]at h0;obtain h1|⟨h1,_⟩:=h0
   .have h1:aB (aN rs (ϊ cs o.1) i) (aN rs (ϊ cs o.1) j)=true:=h1;rw[qg]at h1;exact h1
   .have h1:aB (aN rs (ϊ cs o.1) j) (aN rs (ϊ cs o.1) i)=false:=h1;rw[tW,QR]at h1;simpa using h1
  |false=>
   rw[hu]at h0;obtain h1|⟨h1,_⟩:=h0
   .have h1:aB (aN rs (ϊ cs o.1) j) (aN rs (ϊ cs o.1) i)=true:=h1;rw[tW,QR]at h1;simpa using h1
   .have h1:aB (aN rs (ϊ cs o.1) i) (aN rs (ϊ cs o.1) j)=false:=h1;rw[qg]at h1;exact h1
theorem af3{cs:List ο}{o:Ord}{rs:List Row}(ϻ:∃c∈cs,c.1=o.1)(hf:∀r∈rs,ak cs r):oW (aN rs (ϊ cs o.1)):=by
 have kx:∀i,ϕ (km cs o.1) (((rs.getD i (0,[])).2[ϊ cs o.1]?).getD .non):=λi=>by
  by_cases hi:i<rs.length
  .have mi:rs.getD i (0,[])∈rs:=by rw[j6 hi];exact ahu hi
   cases eZ (os:=[o]) (hf _ mi) (λp hp=>by cases adY.mp hp;exact ϻ)with|cons h _=>exact h
  .have e:rs.getD i (0,[])=(0,[]):=by rw[abm,List.getElem?_eq_none (by omega)];rfl
   rw[e];exact .inl rfl
 refine⟨λi=>?_,?_⟩
 .show lU (iB _);obtain e|⟨_,n,e,_⟩|⟨_,z,e,_⟩:=kx i<;>rw[e]
  .exact .inl rfl
  .exact .inr ⟨_,rfl⟩
  .exact .inr ⟨_,rfl⟩
 .by_cases hk:km cs o.1="number"
  .refine .inl λi x h=>?_
   have h:iB (((rs.getD i (0,[])).2[ϊ cs o.1]?).getD .non)=[x]:=h;obtain e|⟨_,n,e,_⟩|⟨e2,z,e,_⟩:=kx i
   .rw[e]at h;cases h
   .rw[e]at h;cases h;exact⟨n,rfl⟩
   .exact absurd hk e2
  .refine .inr λi x h=>?_
   have h:iB (((rs.getD i (0,[])).2[ϊ cs o.1]?).getD .non)=[x]:=h;obtain e|⟨e2,n,e,_⟩|⟨_,z,e,_⟩:=kx i
   .rw[e]at h;cases h
   .exact absurd e2 hk
   .rw[e]at h;cases h;exact⟨z,rfl⟩
def Xq(K:Ϩ):Sp:=λvs H Q _=>∃(t:δ)(n:Int)(x:V),vs=[.ref t]/\H t=some (.tup [.int n,x])/\Q (.int n) H
theorem z9(T:Txt K mg):Def P w K mg base true 1 "number_of" ["told"] (Xq K):=by
 refine Ν T.z9 ZJ (λ_ _ _ _ _ H vs Q E hr h=>?_);intro X;obtain⟨t,n,x,rfl,ht,q⟩:=h;refine ς (Ζ ?_);walk_at"ex";refine Θ (ψ.of ht) (show Μ [V.int n,x] 0=some (V.int n)from rfl) ?_;exact q
def ag5(K:Ϩ):Sp:=λvs H Q _=>∃x:V,vs=[x]/\∀p H',ζ H H'->H p=none->H' p=some (.tup (iB x))->Q (.ref p) H'
theorem FW(T:Txt K mg):Def P w K mg base true 1 "rank_of" ["value"] (ag5 K):=by
 refine Ν T.FW Y6 (λ_ _ _ _ _ H vs Q E hr h=>?_);intro X;obtain⟨x,rfl,q⟩:=h;have hsz:=ϱ;refine ς (Ζ ?_);walk_at"ex";refine Ε (λe=>?_) (λe=>?_)
 .walk_at "ex";refine⟨by show 0<=ϩ;omega,λp hp=>?_⟩;subst e;exact q p _ (ζ.upd hp) hp υ
 .walk_at "ex";refine⟨by show 1<=ϩ;omega,λp hp=>?_⟩;have ex:iB x=[x]:=by
   cases x with
   |non=>exact absurd rfl e
   |_=>rfl
  exact q p _ (ζ.upd hp) hp (by rw[ex];exact υ)
def Ik(K:Ϩ):Sp:=λvs H Q _=>∃(p:δ)(i:Nat)(up:Bool)(ws:List V)(rs:List Row),vs=[.ref p,.int i,.bl up]/\H p=some (.lst ws)/\ω (jJ H) ws rs/\rs.length<64/\(∀r∈rs,i<r.2.length)/\oW (aN rs i)/\H (aP K "sorted_by")=some (.tbl gM)/\
 ∀q pl H',ζ H H'->H pl=none->dh rs.length (ie (!up) λa b=>aB (aN rs i a) (aN rs i b)) q->H' pl=some (.lst (cI ws q))->Q (.ref pl) H'
theorem Ei(T:Txt K mg)(hN:gR K mg base "sorted_by"):Def P w K mg base true 6 "sorted_by" ["rows","place","up"] (Ik K):=by
 refine aa0 T.Ei hN RP (λ_ _ _ _ _ _ us hl=>by obtain⟨_,_,_,rfl⟩:=Ou hl;rfl) (λvs H Q E h=>by obtain⟨p,i,up,ws,rs,rfl,_⟩:=h;rfl) (λf A outer s H vs Q E hr h=>?_);obtain⟨p,i,up,ws,rs,rfl,hp,hws,h64,hlen,hR,hP,q⟩:=h;have nd:=RP.nd;have n1:=T.Aj;have hwl:=hws.len;have hsz:=ϱ;refine ξ ?_;refine ah7 (c:=fY K "sorted_by") (P:=aP K "sorted_by") (ps:=gM) (j:=3) (qual:="sorted_by.<locals>.rank") (clos:=[("place",s.heap.objs.size+1)]) nd (by rfl) (by rfl) (by rfl) hN.code hN.bm (by rfl) hP (ahV _ _) (by change (Str.ofString "sorted_by"++Str.ofString ".<locals>.")++Str.ofString "rank"=_;decide+kernel) (by rfl) (by rfl) (by rfl) ?_;intro fr c' oc doc pm ctv vs t' H1 s1 hfr hf1 hc1 hoc hq;obtain⟨u1,hc1⟩:=hc1;have hK:∀(X:Cx)(σ:L2.St),X=dW true P w K mg base O1 "sorted_by" (ρ t6) f (.ref (fY K "sorted_by")) A outer s H E->σ=[some (.ref p),some (.int i),some (.bl up),some (.ref fr)]->tV X σ (.ref fr) ws H1 (Gw (aN rs i)):=by
  intro X σ eX eσ;subst eX;subst eσ;refine⟨λk v H2 H3 sm h=>?_,λk x u ϵ s2 H2 hx ru sm I=>?_⟩
  .obtain⟨a,e,h⟩:=h;exact⟨a,e,sm _ _ h⟩
  .obtain⟨r,hr2,t,l,rfl,ht,hl⟩:=hws.get hx;have hkl:=(aae.mp hr2).1;have hil:=hlen r (aaJ hr2);have jf:=s1.trans sm;refine Uy (j:=1) (v:=.ref t) (z:=.int i) (x:="told") (y:="place") I (sm _ _ hf1) (sm _ _ hc1) hoc hq hr.in1.in1.depth (λ_ _ _ _ _=>rfl) (by rfl) (by rfl) (by rfl) (by rfl) (by rfl) (by decide+kernel) (λa ha=>?_) (by rfl) (by rfl) (by rfl) (by rfl) ru ?_
   .have h:=PySem.mem_of_lookup ha;change (a,NameKind.free)∈[(Str.ofString "told",NameKind.local),(Str.ofString "place",NameKind.free),(Str.ofString "rank_of",NameKind.globalImplicit)]at h;obtain e|h:=ϴ.mp h
    .cases e
    .obtain e|h:=ϴ.mp h
     .exact congrArg Prod.fst e
     .cases adY.mp h
   .have D1:= @FW P w K mg base T;have hr':=((hr.in1).in1).deeper (W.envX "sorted_by.<locals>.rank" (ρ (mK (ϗ t6) 0)) s2.heap.objs.size fr (.ref c') [("place",s.heap.objs.size+1)]);refine ς (Ζ ?_);walk_at"ex";refine Θ (ψ.of (jf _ _ ht)) (show Μ [V.int r.1,V.ref l] 1=some (V.ref l)from rfl) ?_;walk_at"ex";refine ϐ (η.of (jf _ _ hl)) (Ϛ (ϳ hil)) ?_;walk_at"ex";refine⟨_,rfl,λa H3 s3 ha h3=>?_⟩;refine⟨s3,a,rfl,?_⟩;rw[h3];unfold aN;rw[abm,hr2];show _=some (HO.tup (iB ((r.2[i]?).getD .non)));rw[ϳ hil];rfl
 have hu:=hr.in1.in1.units0;change Κ _ _ _ [some (.ref p),some (.int i),some (.bl up),some (.ref fr)] H1;refine ξ (Ψ ?_);walk_at"ex";cases up with
 |true=>
  walk_at"t";refine ς (Ζ ?_);refine Nr n1 ?_;walk_at"ex";refine⟨p,fr,ws,_,_,rfl,rfl,η.of (s1 _ _ hp),by omega,Pq hR,hK _ _ rfl rfl,Pb hu hR,λpl H2 qq s2 hpl hS=>?_⟩;rw[hwl]at hS;exact q qq pl _ ((s1.trans s2).trans (ζ.upd hpl)) ((s1.trans s2).free hpl) hS υ
 |false=>
  walk_at"t";refine Γ (ς (Ζ ?_));refine ah4 (b:=true) (by rfl) n1 (by rfl) ?_;walk_at"ex";refine⟨rfl,p,fr,ws,_,_,rfl,rfl,η.of (s1 _ _ hp),by omega,Pq hR,hK _ _ rfl rfl,Pb hu hR,λpl H2 qq s2 hpl hS=>?_⟩;rw[hwl]at hS;exact q qq pl _ ((s1.trans s2).trans (ζ.upd hpl)) ((s1.trans s2).free hpl) hS υ
def dj(q:δ)(H H':Hp)(v:V)(r:Row):=∃t l,v=.ref t/\H t=none/\H l=none/\l≠q/\H' t=some (.tup [.int r.1,.ref l])/\H' l=some (.lst r.2)
theorem dj.row{q:δ}{H H':Hp}{v:V}{r:Row}(h:dj q H H' v r):jJ H' v r:=by
 obtain⟨t,l,e,_,_,_,h1,h2⟩:=h;exact⟨t,l,e,h1,h2⟩
theorem dj.same{q:δ}{H H' H2:Hp}{v:V}{r:Row}(h:dj q H H' v r)(s:ζ H' H2):dj q H H2 v r:=by
 obtain⟨t,l,e,a,b,c,h1,h2⟩:=h;exact⟨t,l,e,a,b,c,s _ _ h1,s _ _ h2⟩
theorem dj.turn{q q2:δ}{H H':Hp}{v:V}{r:Row}(h:dj q H H' v r)(hq:H' q2=none):dj q2 H H' v r:=by
 obtain⟨t,l,e,a,b,c,h1,h2⟩:=h;exact⟨t,l,e,a,b,(λz=>by rw[z,hq]at h2;cases h2),h1,h2⟩
def R8(K:Ϩ):Sp:=λvs H Q _=>∃(c b p:δ)(cs:List ο)(os:List Ord)(rs:List Row),vs=[.ref c,.ref b,.ref p]/\ϋ H c cs/\cP H b os/\uA H p rs/\cs.length<=6/\os.length<=6/\cJ cs os/\rs.length<64/\(∀r∈rs,ak cs r)/\(rs.map Prod.fst).Nodup/\H (aP K "sorted_by")=some (.tbl gM)/\
 ∀q ws ls H',ζ H H'->H q=none->H' q=some (.lst ws)->ω (dj q H H') ws ls->Line cs os ls->ls.Perm rs->Q (.ref q) H'
theorem Ef(T:Txt K mg)(hN:gR K mg base "sorted_by"):Def P w K mg base true 8 "line_of" ["columns","order","rows"] (R8 K):=by
 refine Ν T.Ef OD (λf Ϻ A outer s H vs Q E hr h=>?_);obtain⟨c,b,p,cs,os,rs,rfl,hC,⟨ov,hb,hov⟩,⟨ws,hp,hws⟩,hc6,CK,ϻ,h64,hfit,hnd,hP,q⟩:=h;have nd:=OD.nd;have n1:=T.Aj;have n2:=T.Xz;have n3:=T.jb;have hwl:=hws.len;have hol:=hov.len;have hsz:=ϱ;have bj:(["row","values"]:List Str).Nodup:=by decide+kernel
 have D1:= @z9 P w K mg base T;have D2:= @sX P w K mg base T;have D3:Def P w K mg base true 6 "sorted_by" ["rows","place","up"] (Ik K):=Ei T hN;refine ξ ?_;walk_at"s";refine Nr n1 ?_;refine rm ["row","values"] (σ':=[none,none]) (cC (ρ wL)) ?_;walk_at"ex";refine⟨p,ws,rfl,η.of hp,by omega,λτ=>∃o1 o2,τ=[o1,o2],λE2 k u H'=>∃r,rs[k]?=some r/\dj E2 H H' u r,⟨none,none,rfl⟩,λE2 k u H2 H3 ys hE hk p=>?_,λfp E2 C s3 H0 k τ x H4 H5 cX hi hτ Ρ hys hG=>?_,λq0 H2 us hq0 hl2 hx2 e2 s2=>?_⟩
 .obtain⟨r,hr,t,l,e,h1,h2,h3,h4,h5⟩:=p;exact⟨r,hr,t,l,e,h1,h2,h3,hk _ _ (λz=>by rw[z,hE]at h4;cases h4) h4,hk _ _ h3 h5⟩
 .obtain⟨o1,o2,rfl⟩:=hτ;obtain⟨cV,rfl⟩:=hG;obtain⟨r,hr,t,l,rfl,ht,hl⟩:=hws.get cV;obtain⟨ys,hys⟩:=hys;refine bM (ψ.of (Ρ _ _ ht)) (ϖ (Ο bj (by rfl) (.inl rfl) (.inr rfl) (ϖ (Ο bj (by rfl) (.inl rfl) (.inr rfl) (bJ ?_)))));walk_at"ex";refine gD (.inl (η.of (Ρ _ _ hl))) λl2 hl2=>?_
  obtain⟨s5,e5⟩:=ϙ hl2 (.lst r.2);have nl:l2≠E2:=λe=>by rw[e,hys]at hl2;cases hl2
  generalize upd H4 l2 (.lst r.2)=H5 at s5 e5⊢;walk_at"ex";refine⟨by show 2<=ϩ;omega,λt2 bD=>?_⟩;have s6:ζ H5 (upd H5 t2 (.tup [.int r.1,.ref l2])):=ζ.upd bD;exact⟨⟨_,_,rfl⟩,⟨r,hr,t2,l2,rfl,(Ρ.trans s5).free bD,Ρ.free hl2,nl,υ,s6 _ _ e5⟩,s5.trans s6⟩
 have hus:ω (dj q0 H H2) us rs:=mH (by omega) λk r hr=>by
  have hk:k<us.length:=by have:=(aae.mp hr).1;omega
  obtain⟨r',hr',hn⟩:=hx2 k _ (ϳ hk);rw[hr]at hr';cases hr';exact⟨_,ϳ hk,hn⟩
 have yj:=hus.len;obtain⟨fa,hfa,kh⟩:=V0 (σ:=[some (.ref c),some (.ref b),some (.ref p),none,none,none]) (X:=dW true P w K mg base JK "line_of" (ρ wL) f Ϻ A outer s H E) (H:=H2) (xs:=us) (KV:=SQ λi=>(rs.getD i (0,[])).1) D1 (hr.mono (show 1+2<=7 by decide)) (λi v H H' _ h=>h) (λi x H' hx sm=>by
  obtain⟨r,hr,t,l,rfl,_,_,_,ht,hl⟩:=hus.get hx;refine⟨t,r.1,.ref l,rfl,sm _ _ ht,ζ.refl _,?_⟩;show V.int r.1=V.int (rs.getD i (0,[])).1;rw[abm,hr];rfl)
 refine aeh hfa (by rfl) (by decide) ?_;refine⟨q0,fa,us,_,_,rfl,rfl,η.of e2,by omega,aa3,kh,ags,λp1 H3 qq s3 hp1 hS=>?_⟩;rw[yj]at hS;have hout:ω (dj p1 H (upd H3 p1 (.lst (cI us qq)))) (cI us qq) (gZ rs qq):=(Bh hus λi hi=>by rw[yj];exact lN hS hi).imp λu r z=>((z.same s3).turn hp1).same (ζ.upd hp1)
 have hline:=ajf (cs:=cs) hnd hS;have hperm:=Hb hS;have bz:ζ H (upd H3 p1 (.lst (cI us qq))):=(s2.trans s3).trans (ζ.upd hp1);have afC:H p1=none:=(s2.trans s3).free hp1;have oF:(upd H3 p1 (.lst (cI us qq))) p1=some (.lst (cI us qq)):=υ;generalize upd H3 p1 (.lst (cI us qq))=H4 at hout bz oF⊢;generalize cI us qq=w1 at hout oF;generalize gZ rs qq=l1 at hout hline hperm;refine ξ (Z2 (by walk_at"po") (by rfl) (by rfl) n2 (by rfl) ?_);walk_at"ex";refine⟨b,ov,rfl,η.of (bz _ _ hb),λi σ H'=>(∃o4 o5 q1 w2 l2,σ=[some (.ref c),some (.ref b),some (.ref p),some (.ref q1),o4,o5]/\ζ H H'/\H q1=none/\H' q1=some (.lst w2)/\ω (dj q1 H H') w2 l2/\Line cs (os.drop (os.length-i)) l2/\l2.Perm rs),?_,λi σ' H' _ hP'=>?_,λi x σ' H' hi hx hP'=>?_,λσ' H' hP'=>?_⟩
 .refine⟨none,none,p1,w1,l1,rfl,bz,afC,oF,hout,?_,hperm⟩;rw[aom,aor];exact hline
 .obtain⟨_,_,_,_,_,_,sm,_⟩:=hP';exact η.of (sm _ _ hb)
 .obtain⟨o4,o5,q1,w2,l2,rfl,sm,hq1,zY,hA,hL,aH⟩:=hP';obtain⟨o,ho,t,rfl,ht⟩:=hov.get hx;have hio:=ϻ o (aaJ ho);have hlt:=zH hio;have hl2:l2.length=rs.length:=aH.length_eq;have Vi:=hA.len;have Fp:∀r∈l2,ak cs r:=λr hr=>hfit r (aH.mem_iff.mp hr)
  refine bM (ψ.of (sm _ _ ht)) (ϖ (Ο nd (by rfl) (.inl rfl) (.inl rfl) (ϖ (Ο nd (by rfl) (.inl rfl) (.inl rfl) (bJ ?_)))));refine ς ?_;walk_at"s";walk_at"ex";refine⟨c,cs,o.1,rfl,hC.same sm,λH5 s5=>?_⟩;rw[zg 0 hio,anq];walk_at"ex";refine⟨q1,ϊ cs o.1,o.2,w2,l2,rfl,s5 _ _ zY,hA.imp λu r z=>(z.same s5).row,by omega,λr hr=>by have:=(Fp r hr).len;omega,af3 hio Fp,s5 _ _ (sm _ _ hP),λqq pl H6 s6 hpl hS agK=>?_⟩;have sm6:=(sm.trans s5).trans s6;have VG:H pl=none:=(sm.trans s5).free hpl;refine⟨_,_,pl,cI w2 qq,gZ l2 qq,rfl,sm6,VG,agK,(Bh hA λi hi=>by rw[Vi];exact lN hS hi).imp λu r z=>?_,?_,(Hb hS).trans aH⟩
  .exact((z.same s5).turn hpl).same s6
  .have hdrop:os.drop (os.length-(i+1))=o::os.drop (os.length-i):=by
    have hk:os.length-(i+1)<os.length:=by omega
    rw[show ov.length-1-i=os.length-(i+1)by omega]at ho;rw[List.drop_eq_getElem_cons hk];have e1:=ϳ hk;rw[ho]at e1;cases e1;rw[show os.length-(i+1)+1=os.length-i by omega]
   rw[hdrop];exact adJ (λo' ho'=>by
    obtain rfl|h:=ϴ.mp ho'
    .exact hio
    .exact ϻ _ (ag4 h)) Fp hL hS
 .obtain⟨o4,o5,q1,w2,l2,rfl,sm,hq1,zY,hA,hL,aH⟩:=hP';refine ς (Ζ ?_);walk_at"ex";rw[hol,Nat.sub_self,an0]at hL;exact q q1 w2 l2 H' sm hq1 zY hA hL aH
theorem m9{cs:List ο}(h:ϓ cs=true):1<=cs.length/\cs.length<=6:=by
 unfold ϓ at h;simp only[aaH,decide_eq_true_eq]at h;exact h.1.1
def acF(K:Ϩ):Sp:=λvs H Q _=>∃(a:δ)(ns:List Int)(k:Int)(b:δ)(cs:List ο),vs=[.ref a,.int k,.ref b]/\η K H a (ns.map V.int)/\ns.length<=63/\0<=k/\k<=40000/\ϋ H b cs/\ϓ cs=true/\∀p os H',ζ H H'->H p=none->cP H' p os->os.length<=4->cJ cs os->(os.map Prod.fst).Nodup->Q (.ref p) H'
theorem Ad(T:Txt K mg):Def P w K mg base true 2 "_law_order" ["_law_script","_law_k","_law_columns_here"] (acF K):=by
 refine Ν T.Ad Iu (λ_ _ A _ _ H vs Q E hr h=>?_);intro X;obtain⟨a,ns,k,b,cs,rfl,hS,hl,hk0,hk1,⟨vs,hb,hvs⟩,hok,q⟩:=h;have nd:=Iu.nd;have n1:=T.mX;have n2:=T.bR;have n3:=T.BZ;have hsz:=ϱ;have D1:= @fu P w K mg base T;have hvl:=hvs.len;obtain⟨c1,c6⟩:=m9 hok;have rQ:η K H b vs:=η.of hb;walk_at"A";refine⟨a,ns,k+1,_,rfl,hS,hl,by omega,by omega,by omega,?_⟩;have a0:=aQ ns (k+1) (m:=(vs.length:Int)) (by omega);have a1:=aU ns (k+1) (m:=(vs.length:Int)) (by omega);generalize ϒ ns (k+1) (vs.length:Int)=fs at a0 a1⊢;walk_at"A";refine⟨by show 0<=ϩ;omega,λp hp=>?_⟩;obtain⟨aj,ep⟩:=ϙ hp (.lst []);generalize upd H p (.lst [])=H0 at aj ep⊢;refine ξ ?_;refine pO (by walk_at"po") (by rfl) (by rfl) n1 (by rfl) ?_;have aj8:=aj.seq rQ;walk_at"ex";refine DY ?_;walk_at"ex";have hm5:∀x:Int,x=(if(vs.length:Int)+1<5 then(vs.length:Int)+1 else 5)->1<=x/\x<=5:=λx e=>by
  rw[e];split <;>omega
 generalize hmm:(if(vs.length:Int)+1<5 then(vs.length:Int)+1 else 5)=mm;obtain⟨m1,m5⟩:=hm5 mm hmm.symm;refine⟨a,ns,k,mm,rfl,aj.seq hS,hl,by omega,by omega,by omega,?_⟩;have b0:=aQ ns k (m:=mm) (by omega);have b1:=aU ns k (m:=mm) (by omega);generalize ϒ ns k mm=m at b0 b1⊢;walk_at"ex";refine⟨by omega,by omega,λi σ H'=>(∃o1 o2,σ=[some (.ref a),some (.int k),some (.ref b),some (.int fs),some (.ref p),o1,o2])/\ζ H H'/\∃os:List Ord,cP H' p os/\os.length=i/\cJ cs os/\(os.map Prod.fst).Nodup/\∀o∈os,∃(jj q:Nat),jj<i/\(fs+(jj:Int)) % (vs.length:Int)=(q:Int)/\(cs.map Prod.fst)[q]?=some o.1,
  ⟨⟨none,none,rfl⟩,aj,[],⟨[],ep,.nil⟩,rfl,λo ho=>by simp at ho,by simp,λo ho=>by simp at ho⟩,λi σ H' hi hP=>?_,λσ H' hP=>?_⟩
 .obtain⟨⟨o1,o2,rfl⟩,sm,os,⟨ws,hp',hws⟩,hol,ϻ,hnd,hat⟩:=hP;have hwl:=hws.len;have hi':(i:Int)<m:=by omega
  have adx:=sm.seq rQ;refine Ο nd (by rfl) (.inl rfl) (.inl rfl) ?_;walk_at"A";have e0:=akJ (fs+(i:Int)) (show(vs.length:Int)≠0 by omega);have e1:=akE (fs+(i:Int)) (show(0:Int)<(vs.length:Int)by omega);obtain⟨j,ej⟩:=adz e0;rw[ej]at e1⊢;have hj:j<cs.length:=by omega
  have hcj:cs[j]?=some cs[j]:=ϳ hj;have Gi:(cs.map Prod.fst)[j]?=some cs[j].1:=by rw[aa2,hcj];rfl
  have Ϲ:∀o∈os,¬o.1=cs[j].1:=λo ho e=>by
   obtain⟨jj,q,h1,h2,h3⟩:=hat o ho;rw[e, <-Gi]at h3;have hnc:(cs.map Prod.fst).Nodup:=by
    unfold ϓ at hok;simp only[aaH,decide_eq_true_eq]at hok;exact hok.2
   have hjl:j<(cs.map Prod.fst).length:=by rw[aaf];exact hj
   have hql:q<(cs.map Prod.fst).length:=by
    rw[ϳ hjl]at h3;exact(aae.mp h3).1
   rw[ϳ hjl,ϳ hql]at h3;have hjq:=(amF hnc).mp (Option.some.inj h3);have h5:(fs+(i:Int)) % (vs.length:Int)=(fs+(jj:Int)) % (vs.length:Int):=by rw[ej,h2,hjq]
   have h6:=Int.emod_eq_emod_iff_emod_sub_eq_zero.mp h5;rw[show fs+(i:Int)-(fs+(jj:Int))=(i:Int)-jj by omega,Int.emod_eq_of_lt (by omega) (by
    have:mm<=(vs.length:Int)+1:=by rw[<-hmm];split <;>omega
    omega)]at h6
   omega
  have hcm:cs[j]∈cs:=ahu hj;obtain⟨cv,gc,t,rfl,ht⟩:=hvs.get' hcj;generalize cs[j]=cc at hcj hcm ht Gi Ϲ;refine ϐ adx (Ϛ gc) ?_;walk_at"ex";refine Θ (ψ.of (sm _ _ ht)) (show Μ [V.str cc.1,V.str cc.2] 0=some (V.str cc.1)from rfl) ?_;refine ς (au (du F.plainAttrs_list F.slot_list_append F.type_list_append (h:=?_)));walk_at"e";refine⟨.inl ⟨rfl,_,η.of hp'⟩,?_⟩;walk_at"ex";refine⟨a,ns,_,2,rfl,sm.seq hS,hl,by omega,by omega,by decide,?_⟩;walk_at"ex";refine⟨by show 2<=ϩ;omega,λtp htp=>?_⟩;generalize decide (V.int (ϒ ns (k+2+(i:Int)) 2)=V.int 0)=up at htp⊢;have ϣ:ζ H' (upd H' tp (.tup [.str cc.1,.bl up])):=ζ.upd htp;have vR:(upd H' tp (.tup [.str cc.1,.bl up])) tp=some (.tup [.str cc.1,.bl up]):=υ;generalize upd H' tp (.tup [.str cc.1,.bl up])=H5 at ϣ vR⊢;walk_at"ex";have J9:H5 p=some (.lst ws):=ϣ _ _ hp';refine dZ jM ⟨p,ws,_,rfl,rfl,J9,by omega,?_⟩;refine⟨⟨_,_,rfl⟩,λd o e=>?_,os++[(cc.1,up)],⟨ws++[.ref tp],υ,ω.app (hws.imp λu c x=>?_) (.cons ?_ .nil)⟩,by simp[hol],λo ho=>?_,?_,λo ho=>?_⟩
  .rw[θ (Ι e hp)];exact ϣ _ _ (sm _ _ e)
  .obtain⟨tq,rfl,hq⟩:=x;have Ϲ:tq≠p:=λe=>by subst e;rw[hp']at hq;cases hq
   exact⟨tq,rfl,by rw[θ Ϲ];exact ϣ _ _ hq⟩
  .have Ϲ:tp≠p:=λe=>by subst e;rw[J9]at vR;cases vR
   exact⟨tp,rfl,by rw[θ Ϲ];exact vR⟩
  .obtain ho|ho:=adT.mp ho
   .exact ϻ o ho
   .have :o=(cc.1,up):=by simpa using ho
    subst this;exact⟨cc,hcm,rfl⟩
  .rw[am3];refine am7.mpr ⟨hnd,by simp,λx hx y hy e=>?_⟩;obtain⟨o,ho,rfl⟩:=acQ.mp hx;have:y=cc.1:=by simpa using hy
   exact Ϲ o ho (by rw[e,this])
  .obtain ho|ho:=adT.mp ho
   .obtain⟨jj,q,h1,h2,h3⟩:=hat o ho;exact⟨jj,q,by omega,h2,h3⟩
   .have :o=(cc.1,up):=by simpa using ho
    subst this;exact⟨i,j,by omega,ej,Gi⟩
 .obtain⟨⟨o1,o2,rfl⟩,sm,os,hO,hol,ϻ,hnd,_⟩:=hP;refine ς (Ζ ?_);walk_at"ex";have hol':os.length=m.toNat:=by simpa using hol
  exact q p os H' sm hp hO (by omega) ϻ hnd
theorem Jz:∀{cs:List ο}{z:Str}{m:Nat}{c:ο},m<ϊ cs z->cs[m]?=some c->¬c.1=z
 |[],_,_,_,h,_=>by simp[ϊ]at h
 |d::r,z,m,c,h,e=>by
  unfold ϊ at h;split at h
  .omega
  .rename_i hd;cases m with
   |zero=>simp at e;subst e;exact hd
   |succ m=>exact Jz (cs:=r) (m:=m) (by omega) (by simpa using e)
theorem ahD{cs:List ο}{z:Str}(h:∃c∈cs,c.1=z):(cs.map Prod.fst)[ϊ cs z]?=some z:=by
 obtain⟨c,e1,e2⟩:=Fj h;rw[aa2,e1, <-e2];rfl
theorem acr{cs:List ο}{z:Str}{m:Nat}{y:Str}(h:m<ϊ cs z)(e:(cs.map Prod.fst)[m]?=some y):¬y=z:=by
 rw[aa2]at e;cases e2:cs[m]? with
 |none=>rw[e2]at e;cases e
 |some c=>
  rw[e2]at e;have e3:c.1=y:=by simpa using e
  rw[<-e3];exact Jz h e2
def acq(K:Ϩ):Sp:=λvs H Q _=>∃(a b:δ)(v:V)(cs:List ο)(os:List Ord)(r:Row),vs=[.ref a,.ref b,v]/\ϋ H a cs/\cP H b os/\jJ H v r/\r.2.length=cs.length/\cs.length<=1000/\os.length<=1000/\cJ cs os/\
 ∀p k H',ζ H H'->H p=none->H k=none->H' p=some (.tup [.ref k,.int r.1])->H' k=some (.lst (aJ cs os r.2))->Q (.ref p) H'
theorem FQ(T:Txt K mg):Def P w K mg base true 1 "_law_key" ["_law_columns_here","_law_order_here","_law_one"] (acq K):=by
 refine Ν T.FQ Qo (λ_ _ _ _ s H vs Q E hr h=>?_);intro X;obtain⟨a,b,v,cs,os,r,rfl,⟨vs,ha,hvs⟩,⟨ws,hb,hws⟩,⟨t,l,rfl,ht,hv⟩,jH,hcl,hol,ϻ,q⟩:=h;have nd:=Qo.nd;have hsz:=ϱ;have Dj:(["_law_column"]:List Str).Nodup:=by decide+kernel
 have K8:(["_law_name","_law_up","_law_names_here","_law_one"]:List Str).Nodup:=by decide+kernel
 have hvl:=hvs.len;have hwl:=hws.len;refine ξ ?_;walk_at"s";refine rm ["_law_column"] (σ':=[none]) (cC (ρ vP)) ?_;walk_at"e";refine⟨a,vs,rfl,η.of ha,by omega,λτ=>∃o1,τ=[o1],λE2 i u H'=>∃c,cs[i]?=some c/\u=.str c.1,⟨none,rfl⟩,λE2 i u H2 H3 ys _ _ p=>p,λfp E2 C s3 H0 i τ x H4 H3 cX hi hτ Ρ hys hG=>?_,λL H1 ys hL hl2 hx2 e1 Δ =>?_⟩
 .obtain⟨o1,rfl⟩:=hτ;obtain⟨cV,rfl⟩:=hG;obtain⟨c,hc,t,rfl,ht⟩:=hvs.get cV;refine Ο Dj (by rfl) (.inl rfl) (.inr rfl) ?_;walk_at"ex";refine Θ (ψ.of (Ρ _ _ ht)) (show Μ [V.str c.1,V.str c.2] 0=some (V.str c.1)from rfl) ?_;exact⟨⟨_,rfl⟩,⟨c,hc,rfl⟩,ζ.refl _⟩
 have ey:=jT (ys:=cs) (λc=>V.str c.1) (by rw[hl2,hvl]) hx2;have ik:ys=(cs.map Prod.fst).map V.str:=by rw[ey,agn];rfl
 subst ik;refine ς (Ζ ?_);refine Ky (eQ (by rfl) ?_);refine rm ["_law_name","_law_up","_law_names_here","_law_one"] (σ':=[none,none,some (.ref L),some (.ref t)]) (cC (ρ vP)) ?_;walk_at"e";refine⟨b,ws,rfl,η.of (Δ _ _ hb),by omega,λτ=>∃o1 o2,τ=[o1,o2,some (.ref L),some (.ref t)],λE2 i u H'=>∃o,os[i]?=some o/\u=bK cs r.2 o.1,⟨none,none,rfl⟩,λE2 i u H2 H3 ys _ _ p=>p,λfp E2 C s3 H0 i τ x H7 H8 cX hi hτ vW hys hG=>?_,λD H7 ys hD hl3 cV e7 vW=>?_⟩
 .obtain⟨o1,o2,rfl⟩:=hτ;obtain⟨cV,rfl⟩:=hG;obtain⟨o,ho,tp,rfl,htp⟩:=hws.get cV;have hio:=ϻ o (aaJ ho);have hlt:=zH hio;have g1:r.2[ϊ cs o.1]?=some (bK cs r.2 o.1):=by
   have e:r.2[ϊ cs o.1]?=some (r.2[ϊ cs o.1]'(by omega)):=ϳ _;unfold bK;rw[e];rfl
  have mD:=Δ.trans vW;have Jq:=vW _ _ e1;refine bM (ψ.of (mD _ _ htp)) (ϖ (Ο K8 (by rfl) (.inl rfl) (.inr rfl) (ϖ (Ο K8 (by rfl) (.inl rfl) (.inr rfl) (bJ ?_)))));walk_at"e";walk_at"e";walk_at"e";walk_at"e";refine Θ (ψ.of (mD _ _ ht)) (show Μ [V.int r.1,V.ref l] 1=some (V.ref l)from rfl) ?_;refine du F.plainAttrs_list F.slot_list_index F.type_list_index (h:=?_);walk_at"e";refine⟨.inl ⟨rfl,_,η.of Jq⟩,?_⟩;walk_at"ex";refine Wq (η.of Jq) (ahD hio) (λm y h e=>acr h e) ?_;refine ϐ (η.of (mD _ _ hv)) (Ϛ g1) ?_;exact⟨⟨_,_,rfl⟩,⟨o,ho,rfl⟩,ζ.refl _⟩
 have ey:=jT (ys:=os) (λo=>bK cs r.2 o.1) (by rw[hl3,hwl]) cV;have ik:ys=aJ cs os r.2:=ey;subst ik;have mD:=Δ.trans vW;walk_at"ex";refine Θ (ψ.of (mD _ _ ht)) (show Μ [V.int r.1,V.ref l] 0=some (V.int r.1)from rfl) ?_;walk_at"ex";refine⟨by show 2<=ϩ;omega,λp hp=>?_⟩;have s8:ζ H7 (upd H7 p (.tup [.ref D,.int r.1])):=ζ.upd hp;exact q p D _ (mD.trans s8) (mD.free hp) (Δ.free hD) υ (s8 _ _ e7)
def ag2:Sp:=λvs H Q _=>∃b p q os xs ys n k,vs=[.ref b,.ref p,.ref q]/\cP H b os/\vV H p xs n/\vV H q ys k/\xs.length=os.length/\ys.length=os.length/\os.length<=4/\(∀(i:Nat) x y,xs[i]?=some x->ys[i]?=some y->scalar x=true/\scalar y=true/\aD x y)/\
 ∀H',ζ H H'->Q (.bl (Ϥ os xs ys n k)) H'
theorem Ao(T:Txt K mg):Def P w K mg base true 1 "_law_is_ahead" ["_law_order_here","_law_one","_law_other"] ag2:=by
 refine Ν T.Ao RW (λ_ _ A _ _ H vs Q E hr h=>?_);intro X;obtain⟨b,p,q,os,xs,ys,n,k,rfl,⟨ws,hb,hws⟩,⟨l,hp,hl⟩,⟨m,hq,hm⟩,jH,hyl,hol,ajC,post⟩:=h;have nd:=RW.nd;have n1:=T.mX;have n2:=T.bR;have hsz:=ϱ;have hwl:=hws.len;have pJ:η K H b ws:=η.of hb;refine ξ ?_;refine pO (by walk_at"po") (by rfl) (by rfl) n1 (by rfl) ?_;walk_at"ex";refine⟨by omega,by omega,λi σ H'=>(∃o1 o2 o3 o4,σ=[some (.ref b),some (.ref p),some (.ref q),o1,o2,o3,o4])/\H'=H/\∀j x y,j<i->xs[j]?=some x->ys[j]?=some y->x=y,⟨⟨none,none,none,none,rfl⟩,rfl,λj x y h=>by omega⟩,λi σ H' hi hP=>?_,λσ H' hP=>?_⟩
 .obtain⟨⟨o1,o2,o3,o4,rfl⟩,rfl,heq⟩:=hP;have hi':i<os.length:=by omega
  have ho:os[i]?=some os[i]:=ϳ hi';have hx:xs[i]?=some (xs[i]'(by omega)):=ϳ _;have hy:ys[i]?=some (ys[i]'(by omega)):=ϳ _;generalize xs[i]'(by omega)=x at hx;generalize ys[i]'(by omega)=y at hy;obtain⟨wv,gw,t,rfl,ht⟩:=hws.get' ho;obtain⟨sx,sy,hlk⟩:=ajC i x y hx hy;generalize os[i]=o at ho ht;refine Ο nd (by rfl) (.inl rfl) (.inl rfl) ?_;walk_at"A";refine Θ (ψ.of hp) (show Μ [V.ref l,V.int n] 0=some (V.ref l)from rfl) ?_;walk_at"ex";refine ϐ (η.of hl) (Ϛ hx) ?_;walk_at"A";refine Θ (ψ.of hq) (show Μ [V.ref m,V.int k] 0=some (V.ref m)from rfl) ?_;walk_at"ex";refine ϐ (η.of hm) (Ϛ hy) ?_;refine ς (Ψ ?_);walk_at"ex";refine Jg (Ew sx sy) ?_;walk_at"ex";refine jr (λh=>?_) (λh=>?_)
  .have Ϲ:¬x=y:=by simpa using h
   have ahI:=agr (n:=n) (k:=k) jH hyl ho hx hy heq Ϲ;have e2:∀c:Bool,c=before x y->decide (V.bl c=V.bl o.2)=Ϥ os xs ys n k:=λc ec=>by
    rw[ahI,ec]
    congr 1
    exact propext ⟨λz=>by injection z,λz=>by rw[z]⟩
   have fin:∀(c:Bool),c=before x y->Q (.bl (decide (V.bl c=V.bl o.2))) H':=λc ec=>by rw[e2 c ec];exact post H' (ζ.refl _)
   cases x with
   |non=>
    cases y with
    |non=>exact absurd rfl Ϲ
    |int j=>
     walk_at"go";refine ϐ pJ (Ϛ gw) ?_;walk_at"go";refine Θ (ψ.of ht) (show Μ [V.str o.1,V.bl o.2] 1=some (V.bl o.2)from rfl) ?_;walk_at"go";exact fin _ rfl
    |str z=>
     walk_at"go";refine ϐ pJ (Ϛ gw) ?_;walk_at"go";refine Θ (ψ.of ht) (show Μ [V.str o.1,V.bl o.2] 1=some (V.bl o.2)from rfl) ?_;walk_at"go";exact fin _ rfl
    |_=>exact absurd sy aaD
   |int i1=>
    cases y with
    |non=>
     walk_at"go";refine ϐ pJ (Ϛ gw) ?_;walk_at"go";refine Θ (ψ.of ht) (show Μ [V.str o.1,V.bl o.2] 1=some (V.bl o.2)from rfl) ?_;walk_at"go";exact fin _ rfl
    |int j=>
     walk_at"go";refine ϐ pJ (Ϛ gw) ?_;walk_at"go";refine Θ (ψ.of ht) (show Μ [V.str o.1,V.bl o.2] 1=some (V.bl o.2)from rfl) ?_;walk_at"go";exact fin _ rfl
    |str z=>obtain z|z|⟨_,_,_,z⟩|⟨_,_,z,_⟩:=hlk<;>cases z
    |_=>exact absurd sy aaD
   |str z1=>
    cases y with
    |non=>
     walk_at"go";refine ϐ pJ (Ϛ gw) ?_;walk_at"go";refine Θ (ψ.of ht) (show Μ [V.str o.1,V.bl o.2] 1=some (V.bl o.2)from rfl) ?_;walk_at"go";exact fin _ rfl
    |int j=>obtain z|z|⟨_,_,z,_⟩|⟨_,_,_,z⟩:=hlk<;>cases z
    |str z=>
     walk_at"go";refine ϐ pJ (Ϛ gw) ?_;walk_at"go";refine Θ (ψ.of ht) (show Μ [V.str o.1,V.bl o.2] 1=some (V.bl o.2)from rfl) ?_;walk_at"go";exact fin _ rfl
    |_=>exact absurd sy aaD
   |_=>exact absurd sx aaD
  .have he:x=y:=by simpa using h
   refine Γ ⟨⟨_,_,_,_,rfl⟩,rfl,λj x' y' hj e1 e2=>?_⟩;by_cases e:j=i
   .subst e;rw[hx]at e1;rw[hy]at e2;cases e1;cases e2;exact he
   .exact heq j x' y' (by omega) e1 e2
 .obtain⟨⟨o1,o2,o3,o4,rfl⟩,rfl,heq⟩:=hP;refine ς (Ζ ?_);walk_at"ex";refine Θ (ψ.of hp) (show Μ [V.ref l,V.int n] 1=some (V.int n)from rfl) ?_;walk_at"ex";refine Θ (ψ.of hq) (show Μ [V.ref m,V.int k] 1=some (V.int k)from rfl) ?_;walk_at"ex";rw[<-Xg (n:=n) (k:=k) jH hyl λj x y hj e1 e2=>heq j x y (by simp;omega) e1 e2];exact post _ (ζ.refl _)
def aM(B:Bk)(row:Int)(o:Option (List V)):Bk:=
 {B with rows:=(match o with|none=>di B.rows row|some xs=>bB B.rows row xs),touched:=(match o with|none=>di B.touched row|some _=>bB B.touched row (B.now+1)),
         done:=B.done++[⟨B.now+1,row,Ξ B.rows row,o⟩],now:=B.now+1}
def mJ(B:Bk):Prop:=B.rows.length<1000000/\B.touched.length<1000000/\B.done.length<1000000
def nj(B:Bk):=∀i,Ξ B.rows i=none↔ Ξ B.touched i=none
abbrev cB(mg:Str->Option ε):δ:=ι mg "Book"
def lM(mg:Str->Option ε):Sp:=λvs H Q _=>∃(A:BA)(B:Bk)(row:Int)(v:V)(o:Option (List V)),vs=[.ref A.b,.int row,v]/\ Τ (cB mg) H A B/\lV H v o/\(o=none->Ξ B.rows row≠none/\ Ξ B.touched row≠none)/\mJ B/\
 ∀H',Out A.fp H H'->Τ (cB mg) H' A (aM B row o)->Q (.int (B.now+1)) H'
theorem FZ(T:Txt K mg):FD P w K mg base true 1 "do" "Book.do" uH ["self","row","values"] (lM mg):=by
 refine aK Mq (λf Ϻ A' outer s H vs Q E hr h=>?_);intro X;obtain⟨A,B,row,v,o,rfl,kB,hv,hno,⟨z1,z2,z3⟩,q⟩:=h;have nd:=Mq.nd;have hsz:=ϱ;have hc:=T.aW;have a1:=T.rP;have a2:=T.Nz;have a3:=T.Jv;have a4:=T.Eh;have hu:_+1<cLine:=ae6 (afX (by decide:1<=64) _) hr.units;have kR:=kB.rows;obtain⟨Ϸ,er,hR⟩:=id kR;obtain⟨tvs,et,hT⟩:=kB.touched;obtain⟨ds,ed,hD⟩:=kB.done;have kI:=kB.ins;refine ξ ?_;walk_at"s";refine ZW hu (by constructor<;>rfl) ?_;refine aG ?_;walk_at"e";refine⟨A.b,_,_,_,_,rfl,kI,hc,a1,rfl,A.r,rfl,.inl ⟨_,.inl er⟩,?_⟩;walk_at"e";refine⟨_,ϟ.k (k:=Sum.inl row) er,?_⟩;have hw:lV H ((Ϝ Ϸ (Sum.inl row)).getD .non) (Ξ B.rows row):=by
  obtain⟨e1,e2⟩|⟨u,x,e1,e2,r⟩:=iV hR row
  .rw[e1,e2];rfl
  .rw[e1,e2];exact r
 generalize(Ϝ Ϸ (Sum.inl row)).getD .non=wv at hw⊢;refine ξ (agP ?_);walk_at"e";refine⟨A.b,_,_,_,_,rfl,kI,hc,a4,rfl,?_⟩;walk_at"e";refine⟨_,_,rfl,rfl,_,_,kI,by show 6<1000;decide,?_⟩;have k1:=kB.aaz B.known (B.now+1);have o1:Out A.fp H _:=Out.upd (H:=H) (a:=A.b) (o:=.ins (cB mg) A.dx [("heads",.ref A.h),("rows",.ref A.r),("touched",.ref A.t),("done",.ref A.d),("known",.int B.known),("now",.int (B.now+1))]) (by simp[BA.fp]);change Κ _ _ _ _ (upd H A.b (.ins (cB mg) A.dx [("heads",.ref A.h),("rows",.ref A.r),("touched",.ref A.t),("done",.ref A.d),("known",.int B.known),("now",.int (B.now+1))]));generalize upd H A.b _=H1 at k1 o1⊢;have jD:=k1.ins;have fin:∀(H2:Hp)(B2:Bk),Out A.fp H H2->Τ (cB mg) H2 A B2->B2={aM B row o with done:=B.done}->Κ X ((ϗ uH).drop 3) {nx:=λ_ H'=>Q .non H',rt:=Q} [some (.ref A.b),some (.int row),some v,some wv] H2:=by
  intro H2 B2 o2 k2 e2;have hB2:B2.now=B.now+1/\B2.done=B.done:=by rw[e2];exact⟨rfl,rfl⟩
  have jN:=k2.ins;obtain⟨Jr,wI,hD2⟩:=k2.done;have st:=kB.tup o2;have hwv:=hw.stay st;have xQ:=hv.stay st;have hl2:=hD2.len;rw[hB2.2]at hl2 hD2;rw[hB2.1]at jN;refine ξ (au (du F.plainAttrs_list F.slot_list_append F.type_list_append (h:=?_)));refine aG ?_;walk_at"e";refine⟨A.b,_,_,_,_,rfl,jN,hc,a3,rfl,.inl ⟨rfl,_,η.of wI⟩,?_⟩;walk_at"go";refine aG ?_;walk_at"e";refine⟨A.b,_,_,_,_,rfl,jN,hc,a4,rfl,?_⟩;walk_at"go";refine⟨by show 4<=ϩ;omega,λt ht=>?_⟩;obtain⟨ϣ,jY⟩:=ϙ ht (.tup [.int (B.now+1),.int row,wv,v]);generalize upd H2 t (.tup [.int (B.now+1),.int row,wv,v])=H3 at ϣ jY⊢;have k3:=k2.same ϣ;walk_at"go";refine dZ jM ⟨A.d,_,_,rfl,rfl,ϣ _ _ wI,by omega,?_⟩;have qx:ω (nF H3) (Jr++[V.ref t]) (B.done++[⟨B.now+1,row,Ξ B.rows row,o⟩]):=ω.app (ω.imp (λv d h=>h.stay λb ys e=>ϣ _ _ e) hD2) (.cons ⟨t,wv,v,rfl,jY,hwv.stay λb ys e=>ϣ _ _ e,xQ.stay λb ys e=>ϣ _ _ e⟩ .nil);have k4:=k3.Z3 qx;have o4:Out A.fp H _:=(o2.trans (Out.of ϣ)).trans (Out.upd (H:=H3) (a:=A.d) (o:=.lst (Jr++[V.ref t])) (by simp[BA.fp]));generalize upd H3 A.d _=H4 at k4 o4⊢;have k4I:=k4.ins;refine ς (Ζ ?_);refine aG ?_;walk_at"e";refine⟨A.b,_,_,_,_,rfl,k4I,hc,a4,rfl,?_⟩;have e4:{B2 with done:=B.done++[⟨B.now+1,row,Ξ B.rows row,o⟩]}=aM B row o:=by rw[e2];rfl
  rw[e4]at k4;have:=q H4 o4 k4;show Q (.int B2.now) H4;rw[hB2.1];exact this
 obtain⟨xm,Ac,uD⟩:=k1.rows;obtain⟨alF,et1,hT1⟩:=k1.touched;have hrl:=uD.len;have htl:=hT1.len;have z1':xm.length<1000000:=by rw[hrl];exact z1
 cases o with
 |none=>
  have hv':v=.non:=hv;subst hv';obtain⟨g1,g2⟩:=hno rfl;refine ξ ?_;walk_at"go";refine zx ?_;refine aG ?_;walk_at"e";obtain⟨_,e2⟩|⟨u,x,e1,_,_⟩:=iV uD row
  .exact absurd e2 g1
  refine⟨A.b,_,_,_,_,rfl,jD,hc,a1,rfl,A.r,rfl,.inl ⟨_,.inl Ac⟩,?_⟩;walk_at"e";refine⟨xm,Sum.inl row,u,Ac,rfl,e1,?_⟩;have k2:=k1.ni (xX uD row);have o2:Out A.fp H _:=o1.trans (Out.upd (H:=H1) (a:=A.r) (o:=.dK (dU xm (Sum.inl row))) (by simp[BA.fp]));generalize upd H1 A.r _=H2 at k2 o2⊢;have jN:=k2.ins;obtain⟨sO,jY,hT2⟩:=k2.touched;refine ς (au (zx ?_));refine aG ?_;walk_at"e";obtain⟨_,e2⟩|⟨u2,x2,e3,_,_⟩:=iV hT2 row
  .exact absurd e2 g2
  refine⟨A.b,_,_,_,_,rfl,jN,hc,a2,rfl,A.t,rfl,.inl ⟨_,.inl jY⟩,?_⟩;walk_at"e";refine⟨sO,Sum.inl row,u2,jY,rfl,e3,?_⟩;have k3:=k2.RL (xX hT2 row);have o3:Out A.fp H _:=o2.trans (Out.upd (H:=H2) (a:=A.t) (o:=.dK (dU sO (Sum.inl row))) (by simp[BA.fp]));generalize upd H2 A.t _=H3 at k3 o3⊢;exact fin H3 _ o3 k3 rfl
 |some xs=>
  obtain⟨t,rfl,ht⟩:=id hv;refine ξ ?_;walk_at"go";refine jP hu ?_;walk_at"e";refine aG ?_;walk_at"e";refine⟨A.b,_,_,_,_,rfl,jD,hc,a1,rfl,?_⟩;walk_at"e";refine⟨A.r,_,rfl,dq.k (k:=Sum.inl row) Ac (by omega),?_⟩;have k2:=k1.ni (pC uD row (v:=.ref t) (x:=xs) ⟨t,rfl,kB.tup o1 _ _ ht⟩);have o2:Out A.fp H _:=o1.trans (Out.upd (H:=H1) (a:=A.r) (o:=.dK (putK xm (Sum.inl row) (.ref t))) (by simp[BA.fp]));generalize upd H1 A.r _=H2 at k2 o2⊢;have jN:=k2.ins;obtain⟨sO,jY,hT2⟩:=k2.touched;have z2':sO.length<1000000:=by rw[hT2.len];exact z2
  refine ς (jP hu ?_);refine aG ?_;walk_at"e";refine⟨A.b,_,_,_,_,rfl,jN,hc,a4,rfl,?_⟩;refine aG ?_;walk_at"e";refine⟨A.b,_,_,_,_,rfl,jN,hc,a2,rfl,?_⟩;walk_at"e";refine⟨A.t,_,rfl,dq.k (k:=Sum.inl row) jY (by omega),?_⟩;have k3:=k2.RL (pC hT2 row (v:=.int (B.now+1)) (x:=B.now+1) rfl);have o3:Out A.fp H _:=o2.trans (Out.upd (H:=H2) (a:=A.t) (o:=.dK (putK sO (Sum.inl row) (.int (B.now+1)))) (by simp[BA.fp]));generalize upd H2 A.t _=H3 at k3 o3⊢;exact fin H3 _ o3 k3 rfl
theorem sE(T:Txt K mg):Def P w K mg base true 1 "is_whole" ["value"] agS:=by
 refine Ν T.sE Vf (λ_ _ _ _ _ H vs Q E hr h=>?_);intro X;obtain⟨v,rfl,hs,q⟩:=h;have n1:=T.xj;have n2:=T.ux;have n3:=T.aiR;refine ς (Ζ ?_);cases v with
 |non=>
  walk_at"go";exact q
 |int i=>
  walk_at"go";exact q
 |str z=>
  walk_at"go";exact q
 |_=>cases hs
theorem Fy(T:Txt K mg):Def P w K mg base true 2 "is_number_value" ["value"] XM:=by
 refine Ν T.Fy aeC (λ_ _ _ _ _ H vs Q E hr h=>?_);intro X;obtain⟨v,rfl,hs,q⟩:=h;have g1:=T.JS;have D1:= @sE P w K mg base T;refine ς (Ζ ?_);walk_at"go";refine⟨v,rfl,hs,?_⟩;walk_at"go";cases v with
 |int i=>
  refine jr (λ_=>?_) (λh=>by cases h);walk_at"go";refine Ε (λh=>?_) (λh=>?_)
  .walk_at "go";have e:isNum (.int i)=decide (i<=1000000000000000000):=by unfold isNum;simp[h]
   rw[e]at q;exact q
  .have e:isNum (.int i)=false:=by unfold isNum;simp[h]
   rw[e]at q;exact q
 |non=>exact jr (λh=>by cases h) (λ_=>q)
 |str z=>exact jr (λh=>by cases h) (λ_=>q)
 |_=>cases hs
theorem Bv(T:Txt K mg):Def P w K mg base true 3 "is_value" ["kind","value"] W6:=by
 refine Ν T.Bv afU (λ_ _ _ _ _ H vs Q E hr h=>?_);intro X;obtain⟨k,v,rfl,hs,hz,q⟩:=h;have g1:=T.Et;have D1:= @Fy P w K mg base T;have D2:= @xq P w K mg base T;refine ξ ?_;walk_at"go";refine Ε (λh=>?_) (λh=>?_)
 .subst h;walk_at"go";exact q H (ζ.refl _)
 .walk_at "go";have ev:isVal k v=if k="number" then isNum v else fK v:=by cases v<;>first|rfl|exact absurd rfl h
  refine Ε (λh2=>?_) (λh2=>?_)
  .have h3:k="number":=by cases h2;rfl
   rw[if_pos h3]at ev;rw[ev]at q;walk_at"go";exact⟨v,rfl,hs,q H (ζ.refl _)⟩
  .have h3:¬k="number":=λe=>h2 (by rw[e])
   rw[if_neg h3]at ev;rw[ev]at q;walk_at"go";exact⟨v,rfl,hs,hz,q⟩
theorem yS(T:Txt K mg):Def P w K mg base true 2 "is_name" ["name"] VP:=by
 refine Ν T.yS ajN (λ_ _ _ _ _ H vs Q E hr h=>?_);intro X;obtain⟨z,rfl,hz,q⟩:=h;have n1:=T.bR;have g1:=T.Tq;have g2:=T.ae7;have hsz:=ϱ;have D1:= @sY P w K mg base T;refine ς (Ζ ?_);walk_at"go";unfold isName at q;refine Ε (λh=>?_) (λh=>?_)
 .walk_at "go";refine Ε (λh2=>?_) (λh2=>?_)
  .walk_at "go";rw[decide_eq_true (show 1<=z.length/\z.length<=8 by omega)]at q;exact⟨z,_,rfl,hz,q⟩
  .rw[decide_eq_false (show ¬(1<=z.length/\z.length<=8)by omega)]at q;exact q H (ζ.refl _)
 .rw[decide_eq_false (show ¬(1<=z.length/\z.length<=8)by omega)]at q;walk_at"go";exact q H (ζ.refl _)
theorem Wl(k a b:Str):gh (.str k) [.str a,.str b]=decide (k=a\/k=b):=by
 have e:∀a:Str,(a==k)=decide (k=a):=λa=>by rw[aik,beq_iff_eq,decide_eq_true_iff];exact eq_comm
 show((a==k)||((b==k)||false))=_;rw[e,e,aof,Bool.decide_or]
theorem Bd(T:Txt K mg):Def P w K mg base true 3 "ask_columns" ["columns"] (afj (.ref (ι mg "NoColumns"))):=by
 refine Ν T.Bd JH (λ_ _ _ _ _ H vs Q E hr h=>?_);intro X;obtain⟨a,cs,rfl,⟨vs,ha,hvs⟩,hcl,hsc,q⟩:=h;have n1:=T.bR;have n2:=T.O7;have g1:=T.afA;have g2:=T.Et;have g3:=T.KQ;have nd:=JH.nd;have hsz:=ϱ;have sa:η K H a vs:=.inl (.inl ha);have jh:=hvs.len;have D1:= @yS P w K mg base T;have bj:(["name","kind"]:List Str).Nodup:=by decide+kernel
 have bad:ϓ cs=false->∀H',ζ H H'->E (.ref (ι mg "NoColumns")) (none,true) H':=λe H' sm=>by
  have:=q H' sm;rw[e]at this;exact this
 refine ξ ?_;walk_at"go";have Mz:¬(1<=cs.length/\cs.length<=6)->ϓ cs=false:=λh=>by
  unfold ϓ;rw[decide_eq_false h];rfl
 refine Ε (λh1=>?_) (λh1=>?_)
 .walk_at "go";refine jg (λh2=>?_) (λh2=>?_)
  .refine ς (fB Χ T.su ?_);walk_at"go";exact⟨by rw[hsz];simp,bad (Mz (by omega)) H (ζ.refl _)⟩
  .refine Γ (ξ ?_);refine tE (by walk_at"po") (by rfl) (by intro _;rfl) ?_;walk_at"go";refine⟨a,vs,rfl,sa,λi σ H'=>(∃o1 o2 o3,σ=[some (.ref a),o1,o2,o3])/\ζ H H'/\∀k c,k<i->cs[k]?=some c->isName c.1=true/\gO c.2=true,⟨⟨none,none,none,rfl⟩,ζ.refl _,λk c hk=>by omega⟩,λi σ H' hi hP=>.inl (.inl (hP.2.1 _ _ ha)),λi x σ H' hx hP=>?_,λσ H' hP=>?_⟩
   .obtain⟨⟨o1,o2,o3,rfl⟩,sm,hn⟩:=hP;obtain⟨c,hc,t,rfl,ht⟩:=hvs.get hx;have hcm:=aaJ hc;have Aw:=hsc c hcm;have Su:¬(isName c.1&&gO c.2)=true->ϓ cs=false:=λh=>by
     unfold ϓ;have:(cs.all λc=>isName c.1&&gO c.2)=false:=by
      rw[ajh];intro e;exact h (adM.mp e c hcm)
     rw[this,Bool.and_false,alE]
    refine bM (ψ.of (sm _ _ ht)) (ϖ (Ο nd (by rfl) (.inl rfl) (.inl rfl) (ϖ (Ο nd (by rfl) (.inl rfl) (.inl rfl) (bJ ?_)))));refine ξ ?_;walk_at"go";refine⟨c.1,rfl,Aw.1,λH2 Η =>?_⟩;walk_at"go";have sm3:=sm.trans Η;refine Dq (λh3=>?_) (λh3=>?_)
    .refine ς (fB Χ T.su ?_);walk_at"go";refine oX ?_;walk_at"e";refine⟨c.1,rfl,by omega,_,4000,rfl,Aw.1,by omega,?_⟩;walk_at"go";intro zz;walk_at"go";exact⟨by rw[hsz];simp,bad (Su (by rw[h3];simp)) H2 sm3⟩
    .refine Γ (ς ?_);walk_at"go";refine⟨by show 2<=ϩ;omega,λp hp=>?_⟩;have Ρ :=sm3.trans (ζ.upd (o:=.tup [.str "number",.str "text"]) hp);refine Og (ψ.of υ) ?_;walk_at"go";have ek:gh (.str c.2) [.str "number",.str "text"]=gO c.2:=Wl _ _ _;rw[ek];refine Dq (λh4=>?_) (λh4=>?_)
     .refine ς (fB Χ T.su ?_);walk_at"go";refine oX ?_;walk_at"e";refine⟨c.2,rfl,by omega,_,4000,rfl,Aw.2,by omega,?_⟩;walk_at"go";intro zz;walk_at"go";exact⟨by rw[hsz];simp,bad (Su (by rw[h4];simp)) _ Ρ⟩
     .refine Γ ⟨⟨_,_,_,rfl⟩,Ρ,λk d hk hd=>?_⟩;by_cases e:k=i
      .subst e;rw[hc]at hd;cases hd;exact⟨h3,h4⟩
      .exact hn k d (by omega) hd
   .obtain⟨⟨o1,o2,o3,rfl⟩,sm,hn⟩:=hP;have hall:(cs.all λc=>isName c.1&&gO c.2)=true:=adM.mpr λc hc=>by
     obtain⟨k,hk,e⟩:=amU hc;have:=hn k c (by rw[jh];exact hk) (by rw[<-e];exact ϳ hk);rw[this.1,this.2];rfl
    have Io:ϓ cs=decide ((cs.map Prod.fst).Nodup):=by
     unfold ϓ;rw[hall,decide_eq_true (show 1<=cs.length/\cs.length<=6 by omega)];rfl
    refine ξ ?_;refine vA ["name","kind"] (σ':=[none,none]) (cC (ρ zB)) nd ?_;walk_at"go";refine⟨a,vs,rfl,.inl (.inl (sm _ _ ha)),by omega,λτ=>∃o1 o2,τ=[o1,o2],λE' i u H'=>∃c,cs[i]?=some c/\u=.str c.1,⟨none,none,rfl⟩,λE' i u H2 H3 ys _ _ p=>p,λfp E' C s3 H0 i τ x H2 H3 hE hi hτ Η hys hG=>?_,λE' H2 ys hE hl hx e2 Η =>?_⟩
    .obtain⟨o1,o2,rfl⟩:=hτ;obtain⟨hx,rfl⟩:=hG;obtain⟨c,hc,t,rfl,ht⟩:=hvs.get hx;refine bM (ψ.of (Η _ _ (sm _ _ ht))) (ϖ (Ο bj (by rfl) (.inl rfl) (.inr rfl) (ϖ (Ο bj (by rfl) (.inl rfl) (.inr rfl) (bJ ?_)))));walk_at"go";exact⟨⟨_,_,rfl⟩,⟨c,hc,rfl⟩,ζ.refl _⟩
    .have ey:=jT (ys:=cs) (λc=>V.str c.1) (by rw[hl,jh]) hx;have ik:ys=(cs.map Prod.fst).map V.str:=by rw[ey,agn];rfl
     subst ik;have hnl:(cs.map Prod.fst).length<=4000:=by simp;omega
     have sm3:=sm.trans Η;refine ς ?_;walk_at"go";refine Mg (by rfl) (η.of e2) hnl λS hS=>?_
     walk_at"go";refine Mp υ hnl ?_;walk_at"go";refine qt (.inl (η.of ((ζ.upd hS) _ _ e2))) ?_;walk_at"go";have Ρ :=sm3.trans (ζ.upd (o:=jc X S (cs.map Prod.fst)) hS);have JF:=Bx _ (cs.map Prod.fst) rfl;refine jg (λh5=>?_) (λh5=>?_)
     .refine ς (fB Χ T.su ?_);walk_at"go";refine⟨by rw[hsz];simp,bad ?_ _ Ρ⟩;rw[Io];refine decide_eq_false λhd=>h5 ?_
      rw[JF.mpr hd];simp
     .refine Γ ?_;have:=q _ Ρ;rw[Io,if_pos]at this
      .exact this
      .refine decide_eq_true (JF.mp ?_);have h6:((cM (cs.map Prod.fst)).length:Int)=((cs.map Prod.fst).map V.str).length:=by injection h5
       rw[aaf]at h6;omega
 .walk_at "go";refine(fB Χ T.su ?_);walk_at"go";exact⟨by rw[hsz];simp,bad (Mz (by omega)) H (ζ.refl _)⟩
theorem zy(T:Txt K mg):Def P w K mg base true 2 "is_row_number" ["row"] ajL:=by
 refine Ν T.zy ajF (λ_ _ _ _ _ H vs Q E hr h=>?_);intro X;obtain⟨v,rfl,hv,q⟩:=h;have g1:=T.Zv;have D1:= @sE P w K mg base T;refine ς (Ζ ?_);walk_at"go";refine⟨v,rfl,hv,?_⟩;cases v with
 |int i=>
  change Q (.bl (decide (0<=i/\i<=1000000000))) H at q;rw[show nR (V.int i)=true from rfl];walk_at"go";refine Ε (λh=>?_) (λh=>?_)
  .walk_at "go";rw[show decide (0<=i/\i<=1000000000)=decide (i<=1000000000)from by rw[decide_eq_decide];omega]at q;exact q
  .walk_at "go";rw[decide_eq_false (show ¬(0<=i/\i<=1000000000)by omega)]at q;exact q
 |non=>
  rw[show nR V.non=false from rfl];walk_at"go";exact q
 |str z=>
  rw[show nR (V.str z)=false from rfl];walk_at"go";exact q
 |_=>cases hv
theorem QM:∀{cs:List ο}{xs:List V}{bs:List Bool},xs.length=cs.length->bs.length=cs.length->(∀(i:Nat)(b:Bool),bs[i]?=some b->∃c x,cs[i]?=some c/\xs[i]?=some x/\b=isVal c.2 x)->bs.all id=kO cs xs
 |[],[],[],_,_,_=>rfl
 |c::cs,x::xs,b::bs,h1,h2,h=>by
  obtain⟨c',x',e1,e2,e3⟩:=h 0 b rfl;cases e1;cases e2;rw[List.all_cons];unfold kO;rw[QM (by simpa using h1) (by simpa using h2) λi b e=>by simpa using h (i+1) b (by simpa using e)];rw[e3];rfl
 |[],_::_,_,h1,_,_=>by simp at h1
 |_::_,[],_,h1,_,_=>by simp at h1
 |[],[],_::_,_,h2,_=>by simp at h2
 |_::_,_::_,[],_,h2,_=>by simp at h2
theorem Jw:∀{xs:List V},(∀(i:Nat) v,xs[i]?=some v->∃b,v=.bl b)->∃bs:List Bool,xs=bs.map V.bl
 |[],_=>⟨[],rfl⟩
 |x::xs,h=>by
  obtain⟨b,rfl⟩:=h 0 x rfl;obtain⟨bs,rfl⟩:=Jw (xs:=xs) λi v e=>h (i+1) v (by simpa using e)
  exact⟨b::bs,rfl⟩
theorem za(T:Txt K mg):Def P w K mg base true 4 "is_row" ["columns","row","values"] ag0:=by
 refine Ν T.za NP (λ_ _ _ _ _ H vs Q E hr h=>?_);intro X;obtain⟨a,cs,v,b,xs,rfl,⟨vs,ha,hvs⟩,hcl,hv,hb,hxs,q⟩:=h;have n1:=T.bR;have n2:=T.K9;have n3:=T.Vk;have hsz:=ϱ;have nd:=NP.nd;have sa:η K H a vs:=.inl (.inl ha);have sb:η K H b xs:=.inl (.inl hb);have jh:=hvs.len;have D1:= @zy P w K mg base T;have D2:= @Bv P w K mg base T;have bj:(["column","value"]:List Str).Nodup:=by decide+kernel
 unfold wy at q;refine ξ ?_;walk_at"go";refine⟨v,rfl,hv,?_⟩;walk_at"go";refine Dq (λh1=>?_) (λh1=>?_)
 .rw[h1,alE,alE]at q;walk_at"go";exact q H (ζ.refl _)
 .rw[h1,amn]at q;walk_at"go";refine jg (λh2=>?_) (λh2=>?_)
  .have h3:¬xs.length=cs.length:=λe=>h2 (by rw[jh,e])
   rw[decide_eq_false h3,alE]at q;walk_at"go";exact q H (ζ.refl _)
  .have h3:xs.length=cs.length:=by
    have:(xs.length:Int)=vs.length:=by injection h2
    omega
   rw[decide_eq_true h3,amn]at q;refine Γ (ς (Ζ ?_));walk_at"e";walk_at"e";refine abo ["column","value"] (σ':=[none,none]) (by rfl) (by rfl) (cC (ρ Cm)) (by rfl) n3 (by rfl) (by rfl) ?_;walk_at"go";refine⟨a,b,vs,xs,rfl,rfl,ha,hb,by omega,λτ=>∃o1 o2,τ=[o1,o2],λE' i u H'=>∃c x,cs[i]?=some c/\xs[i]?=some x/\u=.bl (isVal c.2 x),⟨none,none,rfl⟩,λE' i u H2 H3 ys _ _ p=>p,λfp E' C s3 H0 i τ x H2 H3 hE hi hτ sm hys hG=>?_,λE' H2 ys hE hl hx e2 sm=>?_⟩
   .obtain⟨o1,o2,rfl⟩:=hτ;obtain⟨T',y,u,rfl,hT,rfl,hy,hu⟩:=hG;obtain⟨c,hc,t,rfl,ht⟩:=hvs.get hy;have Η :ζ H2 (upd H2 T' (.tup [.ref t,u])):=ζ.upd hT;have eT:(upd H2 T' (.tup [.ref t,u])) T'=some (.tup [.ref t,u]):=υ;generalize upd H2 T' (.tup [.ref t,u])=H4 at Η eT⊢;refine bM (ψ.of eT) (ϖ (Ο bj (by rfl) (.inl rfl) (.inr rfl) (ϖ (Ο bj (by rfl) (.inl rfl) (.inr rfl) (bJ ?_)))));walk_at"go";refine Θ (ψ.of (Η _ _ (sm _ _ ht))) (show Μ [V.str c.1,V.str c.2] 1=some (V.str c.2)from rfl) ?_;walk_at"go";have hu':=hxs u (aaJ hu);exact⟨c.2,u,rfl,hu'.1,hu'.2,λH5 iR=>⟨⟨_,_,rfl⟩,⟨c,u,hc,hu,rfl⟩,Η.trans iR⟩⟩
   .obtain⟨bs,rfl⟩:=Jw λi v e=>by
     obtain⟨c,x,_,_,e⟩:=hx i v e;exact⟨_,e⟩
    have hbl:bs.length=cs.length:=by rw[aaf]at hl;omega
    have eb:bs.all id=kO cs xs:=QM h3 hbl λi b e=>by
     obtain⟨c,x,e1,e2,e3⟩:=hx i (.bl b) (by rw[aa2,e];rfl);exact⟨c,x,e1,e2,by injection e3⟩
    walk_at"go";refine Il (by rfl) (η.of e2) ?_;rw[eb];exact q _ sm
def sS(cs:List ο)(row:Int)(xs:List V):Prop:=0<=row/\row<=1000000000/\ω (λc x=>ϕ c.2 x) cs xs
theorem yo:∀c∈SG,c∈qK.cps.toList:=by decide+kernel
theorem ϕ.is{kd:Str}{v:V}(h:ϕ kd v):isVal kd v=true/\scalar v=true/\short v:=by
 obtain rfl|⟨h1,i,rfl,h2,h3⟩|⟨h1,z,rfl,h2,h3⟩:=h
 .exact⟨rfl,rfl,trivial⟩
 .refine⟨?_,rfl,trivial⟩;show(if kd="number" then isNum (.int i)else fK (.int i))=true;rw[if_pos h1];exact decide_eq_true ⟨h2,h3⟩
 .refine⟨?_,rfl,by show z.length<=4000;omega⟩;show(if kd="number" then isNum (.str z)else fK (.str z))=true;rw[if_neg h1];show(decide (z.length<=20)&&c7 z _)=true;rw[decide_eq_true h2,amn];exact adM.mpr λc hc=>decide_eq_true (yo c (h3 c hc))
theorem RQ{cs:List ο}{xs:List V}(h:ω (λ(c:ο) x=>ϕ c.2 x) cs xs):kO cs xs=true/\∀x∈xs,scalar x=true/\short x:=by
 induction h with
 |nil=>exact⟨rfl,λx hx=>by simp at hx⟩
 |cons h _ ih=>
  refine⟨?_,λx hx=>?_⟩
  .show(isVal _ _&&kO _ _)=true;rw[h.is.1,ih.1];rfl
  .obtain e|e:=ϴ.mp hx
   .rw[e];exact h.is.2
   .exact ih.2 x e
theorem sS.ok{cs:List ο}{row:Int}{xs:List V}(h:sS cs row xs):wy cs (.int row) xs=true:=by
 unfold wy;rw[(RQ h.2.2).1,decide_eq_true h.2.2.len.symm];show(decide (0<=row/\row<=1000000000)&&true&&true)=true;rw[decide_eq_true ⟨h.1,h.2.1⟩];rfl
def rF(mg:Str->Option ε):Sp:=λvs H Q _=>∃(A:BA)(B:Bk)(row:Int)(b:δ)(xs:List V),vs=[.ref A.b,.int row,.ref b]/\ Τ (cB mg) H A B/\H b=some (.lst xs)/\B.heads.length<=6/\sS B.heads row xs/\∀H',ζ H H'->Q .non H'
theorem R3(T:Txt K mg):FD P w K mg base true 5 "ask_row" "Book.ask_row" Cg ["self","row","values"] (rF mg):=by
 refine aK Xi (λf Ϻ A' outer s H vs Q E hr h=>?_);intro X;obtain⟨A,B,row,b,xs,rfl,kB,hb,h6,hg,q⟩:=h;have D1:= @za P w K mg base T;have hc:=T.aW;have a1:=T.Cv;have kI:=kB.ins;refine ς ?_;walk_at"go";refine aG ?_;walk_at"e";refine⟨A.b,_,_,_,_,rfl,kI,hc,a1,rfl,?_⟩;walk_at"go";refine⟨A.h,B.heads,.int row,b,xs,rfl,kB.heads,by omega,rfl,hb,(RQ hg.2.2).2,λH' sm=>?_⟩;rw[hg.ok];walk_at"go";exact q H' sm
def rK(mg:Str->Option ε):Sp:=λvs H Q E=>∃(A:BA)(B:Bk)(row:Int),vs=[.ref A.b,.int row]/\ Τ (cB mg) H A B/\0<=row/\row<=1000000000/\
 (Ξ B.rows row=none->∀e H',ζ H H'->H' e=some (.xd [("row",.int row)])->E (.ref (ι mg "Absent")) (some e,true) H')/\(Ξ B.rows row≠none->Q .non H)
theorem PQ(T:Txt K mg):FD P w K mg base true 3 "ask_there" "Book.ask_there" yp ["self","row"] (rK mg):=by
 refine aK aaW (λf Ϻ A' outer s H vs Q E hr h=>?_);intro X;obtain⟨A,B,row,rfl,kB,r0,r1,bad,q⟩:=h;have hc:=T.aW;have a1:=T.rP;have kI:=kB.ins;have hu:_+1<cLine:=ae6 (afX (by decide:1<=64) _) hr.units;obtain⟨Ϸ,er,hR⟩:=kB.rows;refine ς ?_;walk_at"go";refine aG ?_;walk_at"e";refine⟨A.b,_,_,_,_,rfl,kI,hc,a1,rfl,?_⟩;refine aeq hu (ϟ.k (k:=Sum.inl row) er) ?_;obtain⟨e1,e2⟩|⟨u,x,e1,e2,_⟩:=iV hR row
 .rw[show(Ϝ Ϸ (Sum.inl row)).isSome=false by rw[e1];rfl,Bool.not_false];walk_at"go";refine(v8 (afp T (cc:=true)) hr (λ_=>rfl) Χ ?_);walk_at"go";exact⟨row,rfl,by omega,λe H' sm he=>bad e2 e H' sm he⟩
 .rw[show(Ϝ Ϸ (Sum.inl row)).isSome=true by rw[e1];rfl,Bool.not_true];walk_at"go";exact q (by rw[e2];simp)
def pY(mg:Str->Option ε):Sp:=λvs H Q E=>∃(A:BA)(B:Bk)(row:Int)(b:δ)(xs:List V),vs=[.ref A.b,.int row,.ref b]/\ Τ (cB mg) H A B/\H b=some (.lst xs)/\B.heads.length<=6/\sS B.heads row xs/\mJ B/\
 (Ξ B.rows row≠none->∀e H',ζ H H'->H' e=some (.xd [("row",.int row)])->E (.ref (ι mg "Twice")) (some e,true) H')/\
 (Ξ B.rows row=none->∀H',Out A.fp H H'->Τ (cB mg) H' A (aM B row (some xs))->Q (.int (B.now+1)) H')
theorem Pz{X:Cx}{H:Hp}{Q:VK}{p:δ}{ys:List V}(h:η X.K H p ys)(g:∀l,H l=none->Q (.ref l) (upd H l (.tup ys))):CL X (.type "tuple") [.ref p] H Q:=dC XD ⟨p,ys,rfl,.inl ⟨h,g⟩⟩
theorem Oq(T:Txt K mg):FD P w K mg base true 6 "put" "Book.put" zu ["self","row","values"] (pY mg):=by
 refine aK Wz (λf Ϻ A' outer s H vs Q E hr h=>?_);intro X;obtain⟨A,B,row,b,xs,rfl,kB,hb,h6,hg,hsm,bad,q⟩:=h;have M1:aF P w K mg base true 5 (cB mg) "ask_row" ["self","row","values"] (rF mg):=(R3 T).meth T.aW T.Gv;have M2:aF P w K mg base true 1 (cB mg) "do" ["self","row","values"] (lM mg):=(FZ T).meth T.aW T.Gj;have hc:=T.aW;have n1:=T.yD;have a1:=T.rP;have hu:_+1<cLine:=ae6 (afX (by decide:1<=64) _) hr.units;refine ξ (au ?_);refine bZ (pl:=_) hr Χ (h:=?_);walk_at"e";refine⟨A.b,cB mg,A.dx,_,true,5,_,rF mg,rfl,kB.ins,by rfl,M1,by decide,id,?_⟩;walk_at"go";refine⟨A,B,row,b,xs,rfl,kB,hb,h6,hg,λH1 sm=>?_⟩;have k1:=kB.same sm;have jD:=k1.ins;have hb1:=sm _ _ hb;obtain⟨Ϸ,er,hR⟩:=k1.rows;refine ξ ?_;walk_at"go";refine aG ?_;walk_at"e";refine⟨A.b,_,_,_,_,rfl,jD,hc,a1,rfl,?_⟩;refine ym hu (ϟ.k (k:=Sum.inl row) er) ?_;obtain⟨e1,e2⟩|⟨u,x,e1,e2,_⟩:=iV hR row
 .rw[show(Ϝ Ϸ (Sum.inl row)).isSome=false by rw[e1];rfl];walk_at"go";refine bZ (pl:=_) hr Χ (h:=?_);walk_at"e";refine⟨A.b,cB mg,A.dx,_,true,1,_,lM mg,rfl,jD,by rfl,M2,by decide,id,?_⟩;walk_at"go";refine Pz (η.of hb1) λt ht=>?_
  obtain⟨ϣ,et⟩:=ϙ ht (.tup xs);generalize upd H1 t (.tup xs)=H2 at ϣ et⊢;walk_at"go";refine⟨A,B,row,.ref t,some xs,rfl,k1.same ϣ,⟨t,rfl,et⟩,(λe=>by cases e),hsm,λH3 o3 k3=>?_⟩;exact q e2 H3 ((Out.of (sm.trans ϣ)).trans o3) k3
 .rw[show(Ϝ Ϸ (Sum.inl row)).isSome=true by rw[e1];rfl];walk_at"go";refine(v8 (aiy T (cc:=true)) hr (λ_=>rfl) Χ ?_);walk_at"go";exact⟨row,rfl,by have:=hg.1;have:=hg.2.1;omega,λe H' Η he=>bad (by rw[e2];simp) e H' (sm.trans Η) he⟩
def Ez(mg:Str->Option ε):Sp:=λvs H Q E=>∃(A:BA)(B:Bk)(row:Int)(b:δ)(xs:List V),vs=[.ref A.b,.int row,.ref b]/\ Τ (cB mg) H A B/\H b=some (.lst xs)/\B.heads.length<=6/\sS B.heads row xs/\mJ B/\
 (Ξ B.rows row=none->∀e H',ζ H H'->H' e=some (.xd [("row",.int row)])->E (.ref (ι mg "Absent")) (some e,true) H')/\
 (Ξ B.rows row≠none->∀H',Out A.fp H H'->Τ (cB mg) H' A (aM B row (some xs))->Q (.int (B.now+1)) H')
theorem Uq(T:Txt K mg):FD P w K mg base true 6 "change" "Book.change" zV ["self","row","values"] (Ez mg):=by
 refine aK aea (λf Ϻ A' outer s H vs Q E hr h=>?_);intro X;obtain⟨A,B,row,b,xs,rfl,kB,hb,h6,hg,hsm,bad,q⟩:=h;have M1:aF P w K mg base true 5 (cB mg) "ask_row" ["self","row","values"] (rF mg):=(R3 T).meth T.aW T.Gv;have M2:aF P w K mg base true 1 (cB mg) "do" ["self","row","values"] (lM mg):=(FZ T).meth T.aW T.Gj;have M3:aF P w K mg base true 3 (cB mg) "ask_there" ["self","row"] (rK mg):=(PQ T).meth T.aW T.Ow;have hc:=T.aW;have n1:=T.yD;refine ξ (au ?_);refine bZ (pl:=_) hr Χ (h:=?_);walk_at"e";refine⟨A.b,cB mg,A.dx,_,true,5,_,rF mg,rfl,kB.ins,by rfl,M1,by decide,id,?_⟩;walk_at"go";refine⟨A,B,row,b,xs,rfl,kB,hb,h6,hg,λH1 sm=>?_⟩;have k1:=kB.same sm;have jD:=k1.ins;have hb1:=sm _ _ hb;refine ξ (au ?_);refine bZ (pl:=_) hr Χ (h:=?_);walk_at"e";refine⟨A.b,cB mg,A.dx,_,true,3,_,rK mg,rfl,jD,by rfl,M3,by decide,id,?_⟩;walk_at"go";refine⟨A,B,row,rfl,k1,hg.1,hg.2.1,λe2 e H' Η he=>bad e2 e H' (sm.trans Η) he,λe2=>?_⟩;refine ς (Ζ ?_);refine bZ (pl:=_) hr Χ (h:=?_);walk_at"e";refine⟨A.b,cB mg,A.dx,_,true,1,_,lM mg,rfl,jD,by rfl,M2,by decide,id,?_⟩;walk_at"go";refine Pz (η.of hb1) λt ht=>?_
 obtain⟨ϣ,et⟩:=ϙ ht (.tup xs);generalize upd H1 t (.tup xs)=H2 at ϣ et⊢;walk_at"go";refine⟨A,B,row,.ref t,some xs,rfl,k1.same ϣ,⟨t,rfl,et⟩,(λe=>by cases e),hsm,λH3 o3 k3=>?_⟩;exact q e2 H3 ((Out.of (sm.trans ϣ)).trans o3) k3
def Dc(mg:Str->Option ε):Sp:=λvs H Q E=>∃(A:BA)(B:Bk)(row:Int),vs=[.ref A.b,.int row]/\ Τ (cB mg) H A B/\0<=row/\row<=1000000000/\mJ B/\nj B/\
 (Ξ B.rows row=none->∀e H',ζ H H'->H' e=some (.xd [("row",.int row)])->E (.ref (ι mg "Absent")) (some e,true) H')/\
 (Ξ B.rows row≠none->∀H',Out A.fp H H'->Τ (cB mg) H' A (aM B row none)->Q (.int (B.now+1)) H')
theorem VJ(T:Txt K mg):FD P w K mg base true 4 "take" "Book.take" Dz ["self","row"] (Dc mg):=by
 refine aK aji (λf Ϻ A' outer s H vs Q E hr h=>?_);intro X;obtain⟨A,B,row,rfl,kB,r0,r1,hsm,hwf,bad,q⟩:=h;have M2:aF P w K mg base true 1 (cB mg) "do" ["self","row","values"] (lM mg):=(FZ T).meth T.aW T.Gj;have M3:aF P w K mg base true 3 (cB mg) "ask_there" ["self","row"] (rK mg):=(PQ T).meth T.aW T.Ow;refine ξ (au ?_);refine bZ (pl:=_) hr Χ (h:=?_);walk_at"e";refine⟨A.b,cB mg,A.dx,_,true,3,_,rK mg,rfl,kB.ins,by rfl,M3,by decide,id,?_⟩;walk_at"go";refine⟨A,B,row,rfl,kB,r0,r1,bad,λe2=>?_⟩;refine ς (Ζ ?_);refine bZ (pl:=_) hr Χ (h:=?_);walk_at"e";refine⟨A.b,cB mg,A.dx,_,true,1,_,lM mg,rfl,kB.ins,by rfl,M2,by decide,id,?_⟩;walk_at"go";exact⟨A,B,row,.non,none,rfl,kB,rfl,λ_=>⟨e2,λz=>e2 ((hwf row).mpr z)⟩,hsm,q e2⟩
def El(mg:Str->Option ε)(g:Bk->Int):Sp:=λvs H Q _=>∃(A:BA)(B:Bk),vs=[.ref A.b]/\ Τ (cB mg) H A B/\Q (.int (g B)) H
theorem aib(T:Txt K mg):FD P w K mg base true 1 "moment" "Book.moment" yU ["self"] (El mg Bk.now):=by
 refine aK agc (λf Ϻ A' outer s H vs Q E hr h=>?_);intro X;obtain⟨A,B,rfl,kB,q⟩:=h;have hc:=T.aW;refine ς (Ζ (aG ?_));walk_at"e";exact⟨A.b,_,_,_,_,rfl,kB.ins,hc,T.Eh,rfl,q⟩
def Ai(mg:Str->Option ε):Sp:=λvs H Q _=>∃(A:BA)(B:Bk),vs=[.ref A.b]/\ Τ (cB mg) H A B/\∀p H',ζ H H'->H p=none->ϋ H' p B.heads->Q (.ref p) H'
theorem ZL(T:Txt K mg):FD P w K mg base true 1 "columns" "Book.columns" yH ["self"] (Ai mg):=by
 refine aK adw (λf Ϻ A' outer s H vs Q E hr h=>?_);intro X;obtain⟨A,B,rfl,kB,q⟩:=h;have hc:=T.aW;have n1:=T.jb;obtain⟨vs,eh,hv⟩:=kB.heads;refine ς (Ζ ?_);walk_at"go";refine aG ?_;walk_at"e";refine⟨A.b,_,_,_,_,rfl,kB.ins,hc,T.Cv,rfl,?_⟩;walk_at"go";refine gD (.inl (η.of eh)) λp hp=>?_
 have sm:=ζ.upd (H:=H) (o:=.lst vs) hp;exact q p _ sm hp ⟨vs,υ,ω.imp (λv c ⟨t,e,h⟩=>⟨t,e,sm _ _ h⟩) hv⟩
theorem abB{cs:List ο}(h:ϓ cs=true):1<=cs.length/\cs.length<=6:=by
 unfold ϓ at h;rw[aaH,aaH,decide_eq_true_eq]at h;exact h.1.1
theorem aci{cs:List ο}(h:ϓ cs=true):JM cs:=by
 unfold ϓ gO at h;rw[aaH,aaH,adM]at h;intro c hc;have h1:=h.1.2 c hc;rw[aaH,decide_eq_true_eq]at h1;obtain⟨h2,h3⟩:=h1;unfold isName at h2;rw[aaH,decide_eq_true_eq]at h2;refine⟨by omega,?_⟩;obtain e|e:=h3<;>rw[e]
 .exact(by decide+kernel:("number":Str).length<=4000)
 .exact(by decide+kernel:("text":Str).length<=4000)
def aeu(mg:Str->Option ε):Sp:=λvs H Q _=>∃(y dx a:δ)(cs:List ο),vs=[.ref y,.ref a]/\H y=some (.ins (cB mg) dx [])/\H dx=some (.own y)/\ϋ H a cs/\ϓ cs=true/\
 ∀(H':Hp)(A:BA),A.b=y->A.dx=dx->H A.h=none->H A.r=none->H A.t=none->H A.d=none->Out [y] H H'->Τ (cB mg) H' A ⟨cs,[],[],[],0,0⟩->Q .non H'
theorem aaE(T:Txt K mg):FD P w K mg base true 4 "__init__" "Book.__init__" Es ["self","columns"] (aeu mg):=by
 refine aK ad4 (λf Ϻ A' outer s H vs Q E hr h=>?_);intro X;obtain⟨y,dx,a,cs,rfl,hy,hdx,hC,hok,q⟩:=h;have D1:= @Bd P w K mg base T;have hc:=T.aW;have n1:=T.jb;have hsz:=ϱ;refine ξ ?_;walk_at"go";refine⟨a,cs,rfl,hC,by have:=abB hok;omega,aci hok,λH1 Δ =>?_⟩;rw[if_pos hok];obtain⟨vs,ha,hvs⟩:=hC;have hy1:=Δ _ _ hy;have R1:dx≠y:=λe=>by rw[e,hy]at hdx;cases hdx
 refine ξ (dN ?_);walk_at"go";refine gD (.inl (η.of (Δ _ _ ha))) λh hh=>?_
 have Ga:ζ H (upd H1 h (.lst vs)):=Δ.trans (ζ.upd hh);have eh:(upd H1 h (.lst vs)) h=some (.lst vs):=υ;have hn:H h=none:=Δ.free hh;generalize upd H1 h (.lst vs)=H2 at Ga eh⊢;walk_at"e";refine⟨y,_,dx,_,rfl,Ga _ _ hy,hc,T.Cv,by show 0<1000;decide,?_⟩;have yh:h≠y:=λe=>by rw[e,hy]at hn;cases hn
 have o3:Out [y] H (upd H2 y (.ins (cB mg) dx [("heads",.ref h)])):=(Out.of Ga).trans (Out.upd (by simp));have PJ:(upd H2 y (.ins (cB mg) dx [("heads",.ref h)])) h=some (.lst vs):=by rw[θ yh];exact eh
 have Ds:(upd H2 y (.ins (cB mg) dx [("heads",.ref h)])) y=some (.ins (cB mg) dx [("heads",.ref h)]):=υ;change Κ _ _ _ _ (upd H2 y (.ins (cB mg) dx [("heads",.ref h)]));generalize upd H2 y (.ins (cB mg) dx [("heads",.ref h)])=H3 at o3 PJ Ds⊢;have step:∀(H':Hp)(p:δ)(o o1:HO),H' y=some o1->Out [y] H H'->H' p=none->(H p=none/\p≠y/\∀fs,Out [y] H (upd (upd H' p o) y fs)/\(upd (upd H' p o) y fs) y=some fs/\(upd (upd H' p o) y fs) p=some o/\∀b u,b≠y->H' b=some u->b≠p/\(upd (upd H' p o) y fs) b=some u):=by
  intro H' p o o1 ey ho hp;have hpy:p≠y:=λe=>by rw[e,ey]at hp;cases hp
  have keep:∀fs b u,b≠y->H' b=some u->b≠p/\(upd (upd H' p o) y fs) b=some u:=λfs b u hb e=>by
   have HY:b≠p:=λz=>by rw[z,hp]at e;cases e
   refine⟨HY,?_⟩;rw[θ hb,θ HY];exact e
  refine⟨?_,hpy,λfs=>⟨λb u hb e=>?_,υ,by rw[θ hpy];exact υ,keep fs⟩⟩
  .cases e1:H p with
   |none=>rfl
   |some u=>
    have:=ho p u (by simpa using hpy) e1;rw[hp]at this;cases this
  .exact(keep fs b u (by simpa using hb) (ho b u hb e)).2
 refine ξ (dN ?_);refine uh λr hr'=>?_
 walk_at"e";obtain⟨rn,ry,sr⟩:=step H3 r (.dK []) _ Ds o3 hr';have ac6:(upd H3 r (.dK [])) y=some (.ins (cB mg) dx [("heads",.ref h)]):=by rw[θ (Ne.symm ry)];exact Ds
 refine⟨y,_,dx,_,rfl,ac6,hc,T.rP,by show 1<1000;decide,?_⟩;obtain⟨o4,yx,RC,k4⟩:=sr (.ins (cB mg) dx [("heads",.ref h),("rows",.ref r)]);change Κ _ _ _ _ (upd (upd H3 r (.dK [])) y (.ins (cB mg) dx [("heads",.ref h),("rows",.ref r)]));have Lj:=(k4 _ _ yh PJ).2;generalize upd (upd H3 r (.dK [])) y (.ins (cB mg) dx [("heads",.ref h),("rows",.ref r)])=H4 at o4 yx RC Lj⊢;refine ξ (dN ?_);refine uh λt ht'=>?_
 walk_at"e";obtain⟨tn,ty,sr⟩:=step H4 t (.dK []) _ yx o4 ht';have aiX:(upd H4 t (.dK [])) y=some (.ins (cB mg) dx [("heads",.ref h),("rows",.ref r)]):=by rw[θ (Ne.symm ty)];exact yx
 refine⟨y,_,dx,_,rfl,aiX,hc,T.Nz,by show 2<1000;decide,?_⟩;obtain⟨o5,xZ,Nv,k5⟩:=sr (.ins (cB mg) dx [("heads",.ref h),("rows",.ref r),("touched",.ref t)]);change Κ _ _ _ _ (upd (upd H4 t (.dK [])) y (.ins (cB mg) dx [("heads",.ref h),("rows",.ref r),("touched",.ref t)]));have KH:=(k5 _ _ yh Lj).2;obtain⟨rt,Qv⟩:=k5 _ _ ry RC;generalize upd (upd H4 t (.dK [])) y (.ins (cB mg) dx [("heads",.ref h),("rows",.ref r),("touched",.ref t)])=H5 at o5 xZ Nv Qv KH⊢;refine ξ (dN ?_);walk_at"go";refine⟨by show 0<=ϩ;omega,λd hd'=>?_⟩;walk_at"e";obtain⟨dn,dy,sr⟩:=step H5 d (.lst []) _ xZ o5 hd';have ah8:(upd H5 d (.lst [])) y=some (.ins (cB mg) dx [("heads",.ref h),("rows",.ref r),("touched",.ref t)]):=by rw[θ (Ne.symm dy)];exact xZ
 refine⟨y,_,dx,_,rfl,ah8,hc,T.Jv,by show 3<1000;decide,?_⟩;obtain⟨o6,Gz,Jf,k6⟩:=sr (.ins (cB mg) dx [("heads",.ref h),("rows",.ref r),("touched",.ref t),("done",.ref d)]);change Κ _ _ _ _ (upd (upd H5 d (.lst [])) y (.ins (cB mg) dx [("heads",.ref h),("rows",.ref r),("touched",.ref t),("done",.ref d)]));obtain⟨hd2,Lr⟩:=k6 _ _ yh KH;obtain⟨_,Iv⟩:=k6 _ _ ry Qv;obtain⟨_,Li⟩:=k6 _ _ ty Nv;generalize upd (upd H5 d (.lst [])) y (.ins (cB mg) dx [("heads",.ref h),("rows",.ref r),("touched",.ref t),("done",.ref d)])=H6 at o6 Gz Jf Li Iv Lr⊢;refine ξ (dN ?_);walk_at"e";walk_at"e";refine⟨y,_,dx,_,rfl,Gz,hc,T.agD,by show 4<1000;decide,?_⟩;refine ς (dN ?_);walk_at"e";walk_at"e";refine⟨y,_,dx,_,rfl,υ,hc,T.Eh,by show 5<1000;decide,?_⟩;have fin:∀b u,b≠y->H6 b=some u->(upd (upd H6 y (.ins (cB mg) dx [("heads",.ref h),("rows",.ref r),("touched",.ref t),("done",.ref d),("known",.int 0)])) y (.ins (cB mg) dx [("heads",.ref h),("rows",.ref r),("touched",.ref t),("done",.ref d),("known",.int 0),("now",.int 0)])) b=some u:=λb u hb e=>by
  rw[θ hb,θ hb];exact e
 have O2:∀t' ys,H t'=some (.tup ys)->t'≠y:=λt' ys e z=>by rw[z,hy]at e;cases e
 refine q (upd (upd H6 y (.ins (cB mg) dx [("heads",.ref h),("rows",.ref r),("touched",.ref t),("done",.ref d),("known",.int 0)])) y (.ins (cB mg) dx [("heads",.ref h),("rows",.ref r),("touched",.ref t),("done",.ref d),("known",.int 0),("now",.int 0)])) ⟨y,dx,h,r,t,d⟩ rfl rfl hn rn tn dn (λb u hb e=>fin b u (by simpa using hb) (o6 b u hb e)) ?_;refine⟨υ,fin _ _ R1 (o6 _ _ (by simpa using R1) hdx),⟨vs,fin _ _ yh Lr,ω.imp (λv c ⟨u,e,hu⟩=>⟨u,e,fin _ _ (O2 _ _ hu) (o6 _ _ (by simpa using O2 _ _ hu) hu)⟩) hvs⟩,⟨[],fin _ _ ry Iv,.nil⟩,⟨[],fin _ _ ty Li,.nil⟩,⟨[],fin _ _ dy Jf,.nil⟩,rt,hd2⟩
def Dy(H0 H:Hp)(v:V)(p:Int×List V):=∃t l,v=.ref t/\H t=some (.tup [.int p.1,.ref l])/\H l=some (.lst p.2)/\H0 l=none/\H0 t=none
def d8(rows:List (Int×List V))(ks:List Int):List (Int×List V):=ks.map λk=>(k,(Ξ rows k).getD [])
def ah5(C:Unit):Sp:=λvs H Q _=>∃(a:δ)(rows:List (Int×List V)),vs=[.ref a]/\DictAt (TupAt H) H a rows/\rows.length<64/\∀p ys ks H',ζ H H'->H p=none->ks.Perm (rows.map (·.1))->ks.Pairwise (· <= ·)->H' p=some (.lst ys)->ω (Dy H H') ys (d8 rows ks)->Q (.ref p) H'
theorem CV(T:Txt K mg):Def P w K mg base true 1 "told_rows" ["rows"] (ah5 ()):=by
 refine Ν T.CV T4 (λ_ _ _ _ _ H vs Q E hr h=>?_);intro X;obtain⟨a,rows,rfl,⟨Ϸ,ea,hR⟩,hl,q⟩:=h;have n1:=T.Aj;have n2:=T.jb;have hsz:=ϱ;have hu:_+1<cLine:=ae6 (afX (by decide:1<=64) _) hr.units;have qZ:(["row","rows"]:List Str).Nodup:=by decide+kernel
 refine ς (Ζ ?_);refine rm ["row","rows"] (σ':=[none,some (.ref a)]) (cC (ρ By)) ?_;walk_at"cb";walk_at"go";refine UL (ks:=rows.map (·.1)) (by rfl) ea (Y9 hR) (by rw[aaf];exact hl) λL ks hL hp hs=>?_
 obtain⟨aj,eL⟩:=ϙ hL (.lst (ks.map V.int));generalize upd H L (.lst (ks.map V.int))=H1 at aj eL⊢;have hkl:ks.length=rows.length:=by rw[hp.length_eq,aaf]
 have hkm:(ks.map V.int).length=ks.length:=aaf ..;refine⟨L,_,rfl,η.of eL,by omega,λτ=>∃o1,τ=[o1,some (.ref a)],λE2 i u H'=>∃k t l,ks[i]?=some k/\u=.ref t/\t≠E2/\l≠E2/\H' t=some (.tup [.int k,.ref l])/\H' l=some (.lst ((Ξ rows k).getD []))/\H l=none/\H t=none,⟨none,rfl⟩,λE2 i u H2 H3 ys y1 y2 y3=>?_,λfp E2 C s3 H0 i τ x H4 H3 cX hi hτ Ρ hys hG=>?_,λL2 H2 ys hL2 hl2 hx2 e2 Η =>?_⟩
 .obtain⟨k,t,l,z1,z2,z3,z4,z5,z6,z7,z8⟩:=y3;exact⟨k,t,l,z1,z2,z3,z4,y2 _ _ z3 z5,y2 _ _ z4 z6,z7,z8⟩
 .obtain⟨o1,rfl⟩:=hτ;obtain⟨hx,rfl⟩:=hG;have Pk:i<ks.length:=by rw[hkm]at hi;exact hi
  have hk:ks[i]?=some ks[i]:=ϳ Pk;rw[aa2,hk]at hx;have hx':x=.int ks[i]:=by simpa using hx.symm
  subst hx';have hmem:ks[i]∈rows.map (·.1):=hp.mem_iff.mp (ahu Pk);have xK:=aj.trans Ρ;have ea4:=xK _ _ ea;refine Ο qZ (by rfl) (.inl rfl) (.inr rfl) ?_;walk_at"go";rcases iV hR ks[i]with⟨_,e3⟩|⟨u,xs,e1,e3,t0,rfl,ht0⟩
  .exact absurd hmem (Kg.mp e3)
  have g4:=ϟ.k (k:=Sum.inl ks[i]) ea4;rw[e1]at g4;refine cu hu g4 ?_;walk_at"go";refine gD (.inr (ψ.of (xK _ _ ht0))) λl uE=>?_
  obtain⟨vN,el⟩:=ϙ uE (.lst xs);generalize upd H4 l (.lst xs)=H5 at vN el⊢;walk_at"go";refine⟨by show 2<=ϩ;omega,λt ht=>?_⟩;have ϣ:ζ H5 (upd H5 t (.tup [.int ks[i],.ref l])):=ζ.upd ht;obtain⟨ys0,hE⟩:=hys;refine⟨⟨_,rfl⟩,⟨ks[i],t,l,hk,rfl,λe=>?_,λe=>?_,υ,?_,xK.free uE,(xK.trans vN).free ht⟩,vN.trans ϣ⟩
  .rw[e,vN _ _ hE]at ht;cases ht
  .rw[e,hE]at uE;cases uE
  .rw[e3];exact ϣ _ _ el
 .refine q L2 ys ks H2 (aj.trans Η) (aj.free hL2) hp hs e2 (mH (R:=λv p=>Dy H H2 v p) (l:=ys) (m:=d8 rows ks) (by unfold d8;rw[aaf,hl2,hkm]) λi p hp'=>?_);unfold d8 at hp';rw[aa2]at hp';have hi:i<ys.length:=by
   rw[hl2,hkm];cases e:ks[i]? with
   |none=>rw[e]at hp';cases hp'
   |some k=>exact(aae.mp e).1
  have hy:ys[i]?=some ys[i]:=ϳ hi;obtain⟨k,t,l,z1,z2,z3,z4,z5,z6,z7,z8⟩:=hx2 i _ hy;rw[z1]at hp';have hp2:p=(k,(Ξ rows k).getD []):=by simpa using hp'.symm
  rw[hp2];exact⟨_,hy,t,l,z2,z5,z6,z7,z8⟩
def BV(mg:Str->Option ε):Sp:=λvs H Q _=>∃(A:BA)(B:Bk),vs=[.ref A.b]/\ Τ (cB mg) H A B/\B.rows.length<64/\∀p ys ks H',ζ H H'->H p=none->ks.Perm (B.rows.map (·.1))->ks.Pairwise (· <= ·)->H' p=some (.lst ys)->ω (Dy H H') ys (d8 B.rows ks)->Q (.ref p) H'
theorem Y8(T:Txt K mg):FD P w K mg base true 2 "now_rows" "Book.now_rows" ye ["self"] (BV mg):=by
 refine aK U8 (λf Ϻ A' outer s H vs Q E hr h=>?_);intro X;obtain⟨A,B,rfl,kB,hl,q⟩:=h;have D1:= @CV P w K mg base T;refine ς (Ζ ?_);walk_at"go";refine aG ?_;walk_at"e";refine⟨A.b,_,_,_,_,rfl,kB.ins,T.aW,T.rP,rfl,?_⟩;walk_at"go";exact⟨A.r,B.rows,rfl,kB.rows,hl,q⟩
theorem ϕ.word{kd:Str}{v:V}(h:ϕ kd v)(hk:kd="number"\/kd="text"):cZ kd (wordOf v)=some v/\(wordOf v).length<=21/\32∉(wordOf v).cps.toList/\¬wordOf v=Str.ofString "*"/\(∀c∈(wordOf v).cps.toList,c<1114112):=by
 obtain rfl|⟨hn,i,rfl,h1,h2⟩|⟨hn,z,rfl,hl,hz⟩:=h
 .refine⟨?_,by decide+kernel,by decide+kernel,by decide+kernel,by decide+kernel⟩;unfold cZ;rw[if_pos (show wordOf .non=Str.ofString "?" from rfl)]
 .subst hn;have hf:=yq i;refine⟨aed h1 h2,?_,λh=>?_,λh=>?_,λc hc=>?_⟩
  .have :=ahE (i:=i) (k:=19) (by decide) (by omega);show(Str.ofString (toString i)).length<=21;omega
  .have :=hf 32 h;omega
  .have h':Str.ofString (toString i)=Str.ofString "*":=h;have e:("*":Str).cps.toList=[42]:=by decide+kernel
   have:=hf 42 (by rw[h',e];simp);omega
  .have :=hf c hc;omega
 .have hk':kd="text":=hk.resolve_left hn;subst hk';have e1:("'":Str).length=1:=by decide+kernel
  have e3:=len_app ("'":Str) z;have hsg:∀c∈SG,¬c=32/\c<1114112:=by decide+kernel
  have hmem:∀c∈(Str.ofString "'"++z).cps.toList,c=39\/c∈SG:=λc hc=>by
   rw[cT,vh]at hc;obtain h|h:=adT.mp hc
   .exact .inl (by simpa using h)
   .exact .inr (hz c h)
  refine⟨acN hl hz,by show(Str.ofString "'"++z).length<=21;omega,λh=>?_,λh=>?_,λc hc=>?_⟩
  .obtain e|e:=hmem 32 h
   .omega
   .exact(hsg 32 e).1 rfl
  .have h':Str.ofString "'"++z=Str.ofString "*":=h;have e:("*":Str).cps.toList=[42]:=by decide+kernel
   have h0:(Str.ofString "'"++z).cps.toList[0]?=some 39:=by rw[cT,vh];rfl
   rw[h',e]at h0;simp at h0
  .obtain e|e:=hmem c hc
   .omega
   .exact(hsg c e).2
def plainS(z:Str):=∀c∈z.cps.toList,32<=c/\c<=122/\c≠46/\c≠47
theorem plainS.app{a b:Str}(h:plainS a)(g:plainS b):plainS (a++b):=λc hc=>by
 rw[cT]at hc;obtain hc|hc:=adT.mp hc
 .exact h c hc
 .exact g c hc
theorem afZ:∀c∈SG,32<=c/\c<=122/\c≠46/\c≠47:=by decide+kernel
theorem aeV(i:Int):plainS (Str.ofString (toString i)):=λc hc=>by
 have:=yq i c hc;omega
theorem ϕ.plain{kd:Str}{v:V}(h:ϕ kd v):plainS (wordOf v):=by
 obtain rfl|⟨hn,i,rfl,h1,h2⟩|⟨hn,z,rfl,hl,hz⟩:=h
 .unfold plainS;decide+kernel
 .exact aeV i
 .refine plainS.app (a:=Str.ofString "'") ?_ λc hc=>afZ c (hz c hc)
  unfold plainS;decide+kernel
theorem Hu{z:Str}(h:isName z=true):plainS z:=by
 unfold isName at h;rw[aaH]at h;intro c hc;have h2:=h.2;unfold c7 at h2;rw[adM]at h2;have h3:=of_decide_eq_true (h2 c hc);have key:∀c∈fW.cps.toList,32<=c/\c<=122/\c≠46/\c≠47:=by decide+kernel
 exact key c h3
theorem tY:∀ps:List Str,(Str.join " " ps).length<=(ps.map (·.length)).sum+ps.length
 |[]=>by show(0:Nat)<=_;omega
 |[p]=>by
  show p.length<=_;simp
 |p::q::r=>by
  have ih:=tY (q::r);have lb:(" ":Str).length=1:=by decide+kernel
  show(p++Str.ofString " "++Str.join " " (q::r)).length<=_;rw[len_app,len_app,lb];simp only[List.map_cons,List.sum_cons,List.length_cons]at ih⊢;omega
theorem vO(ps:List Str)(n:Nat)(h:∀p∈ps,p.length<=n):(ps.map (·.length)).sum<=ps.length*n:=by
 induction ps with
 |nil=>simp
 |cons p ps ih=>
  have h1:=ih λx hx=>h x (by simp[hx])
  have h2:=h p (by simp);simp only[List.map_cons,List.sum_cons,List.length_cons,aoP];omega
theorem vZ{z:Str}(h:isName z=true):z.length<=8:=by
 unfold isName at h;rw[aaH]at h;exact(of_decide_eq_true h.1).2
theorem rR{cs:List ο}(hc:ϓ cs=true){z:Str}(hz:z∈cs.map Prod.fst):isName z=true:=by
 obtain⟨c,hcm,e⟩:=acQ.mp hz;unfold ϓ at hc;simp only[aaH,adM]at hc;rw[<-e];exact(hc.1.2 c hcm).1
def cY(nm:Nat->Str):cR->List Str
 |.all=>["all"]
 |.none p=>["none",nm p]
 |.look l p v=>[aq l,nm p,wordOf v]
def wT(nm:Nat->Str):Tr->List Str
 |.one s=>cY nm s
 |.nt t=>"not"::wT nm t
 |.bo t u=>"both"::(wT nm t++wT nm u)
 |.ei t u=>"either"::(wT nm t++wT nm u)
def Β(cs:List ο)(p:Nat):Str:=match cs[p]? with
 |some c=>c.1
 |none=>Str.ofString ""
def pX(cs:List ο):cR->Prop
 |.all=>True
 |.none p=>p<cs.length
 |.look l p v=>∃c,cs[p]?=some c/\ϕ c.2 v/\v≠.non/\(l=.holds->c.2="text")
def cH(cs:List ο):Tr->Prop
 |.one s=>pX cs s
 |.nt t=>cH cs t
 |.bo t u=>cH cs t/\cH cs u
 |.ei t u=>cH cs t/\cH cs u
def AtW(nm:Nat->Str)(ws:List Str)(t:Tr)(s:Nat):=∃post,ws.drop s=wT nm t++post
theorem drop_cons{α:Type}{ws r:List α}{s:Nat}{x:α}(h:ws.drop s=x::r):ws[s]?=some x/\ws.drop (s+1)=r:=by
 have hs:s<ws.length:=by
  have h2:(ws.drop s).length=(x::r).length:=by rw[h]
  rw[afw,List.length_cons]at h2;omega
 rw[List.drop_eq_getElem_cons hs]at h;injection h with h1 h2
 exact⟨by rw[ϳ hs,h1],h2⟩
theorem KY{α:Type}{ws a r:List α}{s:Nat}(h:ws.drop s=a++r):ws.drop (s+a.length)=r:=by
 rw[<-aoG,h];simp
theorem JX{α:Type}{ws a r:List α}{s:Nat}(h:ws.drop s=a++r)(ha:a≠[]):s+a.length<=ws.length:=by
 have h2:(ws.drop s).length=(a++r).length:=by rw[h]
 rw[afw,ab7]at h2;have:0<a.length:=an9.mpr ha;omega
theorem uY(nm:Nat->Str)(s:cR):cY nm s≠[]:=by cases s<;>simp[cY]
theorem Ib(nm:Nat->Str)(t:Tr):wT nm t≠[]:=by
 cases t with
 |one s=>exact uY nm s
 |nt t=>simp[wT]
 |bo t u=>simp[wT]
 |ei t u=>simp[wT]
theorem R4:∀{cs:List ο}{p:Nat}{c:ο},(cs.map Prod.fst).Nodup->cs[p]?=some c->ϊ cs c.1=p
 |d::r,0,c,hn,e=>by
  have:d=c:=by simpa using e
  subst this;show(if d.1=d.1 then 0 else ϊ r d.1+1)=0;rw[if_pos rfl]
 |d::r,p+1,c,hn,e=>by
  have e':r[p]?=some c:=by simpa using e
  have hn':=ajw.mp hn;have Ϲ:¬d.1=c.1:=λz=>hn'.1 (by rw[z];exact acQ.mpr ⟨c,aaJ e',rfl⟩)
  show(if d.1=c.1 then 0 else ϊ r c.1+1)=p+1;rw[if_neg Ϲ,R4 hn'.2 e']
theorem oU{cs:List ο}{p:Nat}{c:ο}(e:cs[p]?=some c):Β cs p=c.1:=by
 unfold Β;rw[e]
theorem Jh{cs:List ο}(hn:(cs.map Prod.fst).Nodup){ws:List Str}{p s:Nat}{c:ο}(hp:cs[p]?=some c)(hs:s<60)(e:ws[s]?=some c.1):dG cs ws s=some p:=by
 unfold dG;rw[if_pos hs,e];show(if cs.any (λd=>decide (d.1=c.1))=true then some (ϊ cs c.1)else none)=some p;rw[if_pos (by rw[ane];exact⟨c,aaJ hp,decide_eq_true rfl⟩),R4 hn hp]
theorem afq{cs:List ο}(hok:ϓ cs=true){ws post:List Str}{s:Nat}:∀{sv:cR},ws.drop s=cY (Β cs) sv++post->s+(cY (Β cs) sv).length<=60->pX cs sv->nA cs ws s sv (s+(cY (Β cs) sv).length)
 |.all,e,hl,_=>⟨(drop_cons (r:=post) e).1,rfl⟩
 |.none p,e,hl,hg=>by
   have hn:(cs.map Prod.fst).Nodup:=by
    unfold ϓ at hok;simp only[aaH,decide_eq_true_eq]at hok;exact hok.2
   obtain⟨e1,e2⟩:=drop_cons (r:=[Β cs p]++post) e;obtain⟨e3,_⟩:=drop_cons (r:=post) e2;have iW:=JX e (uY (Β cs) (.none p));have hl':s+2<=60:=hl;have hp:cs[p]?=some cs[p]:=ϳ hg;rw[oU hp]at e3;exact⟨e1,iW,Jh hn hp (by omega) e3,rfl⟩
 |.look l p v,e,hl,hg=>by
   have hn:(cs.map Prod.fst).Nodup:=by
    unfold ϓ at hok;simp only[aaH,decide_eq_true_eq]at hok;exact hok.2
   obtain⟨c,hc,hv,Ϲ,hh⟩:=hg;obtain⟨e1,e2⟩:=drop_cons (r:=[Β cs p,wordOf v]++post) e;obtain⟨e3,e4⟩:=drop_cons (r:=[wordOf v]++post) e2;obtain⟨e5,_⟩:=drop_cons (r:=post) e4;have iW:=JX e (uY (Β cs) (.look l p v));have hl':s+3<=60:=hl;rw[oU hc]at e3;have hk:c.2="number"\/c.2="text":=by
    unfold ϓ at hok;simp only[aaH,adM]at hok;have:=(hok.1.2 c (aaJ hc)).2;unfold gO at this;exact of_decide_eq_true this
   exact⟨iW,by omega,e1,Jh hn hc (by omega) e3,⟨c,_,hc,hh,e5,(hv.word hk).1⟩,Ϲ,rfl⟩
theorem nu{cs:List ο}(hok:ϓ cs=true){ws:List Str}:∀{t:Tr}{s:Nat},AtW (Β cs) ws t s->s+(wT (Β cs) t).length<=60->cH cs t->Reads cs ws t s (s+(wT (Β cs) t).length)
 |.one sv,s,e,hl,hg=>by
   obtain⟨post,e⟩:=e;have hp:0<(cY (Β cs) sv).length:=an9.mpr (uY (Β cs) sv);have hl':s+(cY (Β cs) sv).length<=60:=hl;exact⟨by omega,afq hok e hl hg⟩
 |.nt t,s,e,hl,hg=>by
   obtain⟨post,e⟩:=e;obtain⟨e1,e2⟩:=drop_cons (r:=wT (Β cs) t++post) e;have hl':s+((wT (Β cs) t).length+1)<=60:=hl;refine⟨by omega,e1,?_⟩;have:=nu hok (t:=t) ⟨post,e2⟩ (by omega) hg;have e3:s+(wT (Β cs) (.nt t)).length=s+1+(wT (Β cs) t).length:=by show s+((wT (Β cs) t).length+1)=_;omega
   rw[e3];exact this
 |.bo t u,s,e,hl,hg=>by
   obtain⟨post,e⟩:=e;obtain⟨e1,e2⟩:=drop_cons (r:=(wT (Β cs) t++wT (Β cs) u)++post) e;rw[anz]at e2;have e4:=KY e2;have hl2:(wT (Β cs) (.bo t u)).length=(wT (Β cs) t).length+(wT (Β cs) u).length+1:=by show((wT (Β cs) t++wT (Β cs) u).length+1)=_;rw[ab7]
   rw[hl2]at hl⊢;refine⟨by omega,e1,s+1+(wT (Β cs) t).length,nu hok (t:=t) ⟨_,e2⟩ (by omega) hg.1,?_⟩;have:=nu hok (t:=u) ⟨_,e4⟩ (by omega) hg.2;rw[show s+((wT (Β cs) t).length+(wT (Β cs) u).length+1)=s+1+(wT (Β cs) t).length+(wT (Β cs) u).length by omega];exact this
 |.ei t u,s,e,hl,hg=>by
   obtain⟨post,e⟩:=e;obtain⟨e1,e2⟩:=drop_cons (r:=(wT (Β cs) t++wT (Β cs) u)++post) e;rw[anz]at e2;have e4:=KY e2;have hl2:(wT (Β cs) (.ei t u)).length=(wT (Β cs) t).length+(wT (Β cs) u).length+1:=by show((wT (Β cs) t++wT (Β cs) u).length+1)=_;rw[ab7]
   rw[hl2]at hl⊢;refine⟨by omega,e1,s+1+(wT (Β cs) t).length,nu hok (t:=t) ⟨_,e2⟩ (by omega) hg.1,?_⟩;have:=nu hok (t:=u) ⟨_,e4⟩ (by omega) hg.2;rw[show s+((wT (Β cs) t).length+(wT (Β cs) u).length+1)=s+1+(wT (Β cs) t).length+(wT (Β cs) u).length by omega];exact this
theorem join_cons{x:Str}{b:List Str}(hb:b≠[]):Str.join " " (x::b)=x++Str.ofString " "++Str.join " " b:=by
 match b,hb with
 |y::r,_=>rfl
theorem PB{z:Str}(h:isName z=true):32∉z.cps.toList:=λhm=>by
 unfold isName c7 at h;rw[aaH,adM]at h;exact absurd (of_decide_eq_true (h.2 32 hm)) (by decide+kernel)
theorem ZX{cs:List ο}(hok:ϓ cs=true):∀{sv:cR},pX cs sv->∀z∈cY (Β cs) sv,z.length<=21/\32∉z.cps.toList/\plainS z
 |.all,_,z,hz=>by
   have:z=Str.ofString "all":=by simpa [cY]using hz
   subst this;exact⟨by decide+kernel,by decide+kernel,by unfold plainS;decide+kernel⟩
 |.none p,hg,z,hz=>by
   have hz':z=Str.ofString "none"\/z=Β cs p:=by simpa [cY]using hz
   obtain rfl|rfl:=hz'
   .exact⟨by decide+kernel,by decide+kernel,by unfold plainS;decide+kernel⟩
   .have hp:cs[p]?=some cs[p]:=ϳ hg;rw[oU hp];have hn:=rR hok (acQ.mpr ⟨cs[p],ahu hg,rfl⟩);exact⟨by have:=vZ hn;omega,λh=>by have:=(PB hn);exact this h,Hu hn⟩
 |.look l p v,hg,z,hz=>by
   obtain⟨c,hc,hv,Ϲ,hh⟩:=hg;have hz':z=aq l\/z=Β cs p\/z=wordOf v:=by simpa [cY]using hz
   have hn:=rR hok (acQ.mpr ⟨c,aaJ hc,rfl⟩);have hk:c.2="number"\/c.2="text":=by
    unfold ϓ at hok;simp only[aaH,adM]at hok;have:=(hok.1.2 c (aaJ hc)).2;unfold gO at this;exact of_decide_eq_true this
   obtain rfl|rfl|rfl:=hz'
   .cases l<;>exact⟨by decide+kernel,by decide+kernel,by unfold plainS;decide+kernel⟩
   .rw[oU hc];exact⟨by have:=vZ hn;omega,PB hn,Hu hn⟩
   .have hw:=hv.word hk;exact⟨hw.2.1,hw.2.2.1,hv.plain⟩
theorem jq{cs:List ο}(hok:ϓ cs=true):∀{t:Tr},cH cs t->∀z∈wT (Β cs) t,z.length<=21/\32∉z.cps.toList/\plainS z
 |.one s,hg,z,hz=>ZX hok hg z hz
 |.nt t,hg,z,hz=>by
   obtain rfl|hz:=ϴ.mp hz
   .exact⟨by decide+kernel,by decide+kernel,by unfold plainS;decide+kernel⟩
   .exact jq hok (t:=t) hg z hz
 |.bo t u,hg,z,hz=>by
   obtain rfl|hz:=ϴ.mp hz
   .exact⟨by decide+kernel,by decide+kernel,by unfold plainS;decide+kernel⟩
   .obtain hz|hz:=adT.mp hz
    .exact jq hok hg.1 z hz
    .exact jq hok hg.2 z hz
 |.ei t u,hg,z,hz=>by
   obtain rfl|hz:=ϴ.mp hz
   .exact⟨by decide+kernel,by decide+kernel,by unfold plainS;decide+kernel⟩
   .obtain hz|hz:=adT.mp hz
    .exact jq hok hg.1 z hz
    .exact jq hok hg.2 z hz
def Dm(cs:List ο)(z:Str)(n d:Nat):=∃t,cH cs t/\t.dep<=d/\z=Str.join " " (wT (Β cs) t)/\(wT (Β cs) t).length<=n
theorem Dm.len{cs:List ο}(hok:ϓ cs=true){z:Str}{n d:Nat}(h:Dm cs z n d):z.length<=22*n:=by
 obtain⟨t,hg,_,rfl,hl⟩:=h;have h1:=vO (wT (Β cs) t) 21 λp hp=>(jq hok hg p hp).1
 have h2:=tY (wT (Β cs) t);omega
def aZ(H:Hp)(v:V):Tr->Prop
 |.one .all=>∃t,v=.ref t/\H t=some (.tup [.str ("all":Str)])
 |.one (.none p)=>∃t,v=.ref t/\H t=some (.tup [.str ("none":Str),.int p])
 |.one (.look l p x)=>∃t,v=.ref t/\H t=some (.tup [.str (aq l),.int p,x])
 |.nt t=>∃a u,v=.ref a/\H a=some (.tup [.str ("not":Str),u])/\aZ H u t
 |_=>False
theorem aZ.same{H H':Hp}(s:ζ H H'):∀{t:Tr}{v:V},aZ H v t->aZ H' v t
 |.one .all,_,⟨t,e,h⟩=>⟨t,e,s _ _ h⟩
 |.one (.none p),_,⟨t,e,h⟩=>⟨t,e,s _ _ h⟩
 |.one (.look l p x),_,⟨t,e,h⟩=>⟨t,e,s _ _ h⟩
 |.nt t,_,⟨a,u,e,h,g⟩=>⟨a,u,e,s _ _ h,aZ.same s g⟩
 |.bo _ _,_,h=>h.elim
 |.ei _ _,_,h=>h.elim
def jx:Tr->Prop
 |.one (.look l _ _)=>¬l=.holds
 |.one _=>True
 |_=>False
def jK:Tr->Prop
 |.nt t=>jx t
 |t=>jx t
theorem afc{d:Int}(h0:0<=d)(h1:d<3):∃l:Lk,¬l=.holds/\ Μ [V.str ("is":Str),V.str ("under":Str),V.str ("over":Str)] d=some (.str (aq l)):=by
 by_cases e0:d=0
 .exact⟨.is,nofun,by rw[e0];rfl⟩
 .by_cases e1:d=1
  .exact⟨.under,nofun,by rw[e1];rfl⟩
  .exact⟨.over,nofun,by rw[show d=2 by omega];rfl⟩
theorem Wi{d:Int}(h0:0<=d)(h1:d<2):∃l:Lk,¬l=.holds/\ Μ [V.str ("under":Str),V.str ("over":Str)] d=some (.str (aq l)):=by
 by_cases e0:d=0
 .exact⟨.under,nofun,by rw[e0];rfl⟩
 .exact⟨.over,nofun,by rw[show d=1 by omega];rfl⟩
def acC(K:Ϩ):Sp:=λvs H Q _=>∃(a:δ)(ns:List Int)(k:Int)(b:δ)(cs:List ο),vs=[.ref a,.int k,.ref b]/\η K H a (ns.map V.int)/\ns.length<=63/\0<=k/\k<=40000/\ϋ H b cs/\1<=cs.length/\cs.length<=6/\∀v t H',ζ H H'->aZ H' v t->jK t->cH cs t->Q v H'
theorem Cz(T:Txt K mg):Def P w K mg base true 4 "_law_sieve" ["_law_script","_law_k","_law_columns_here"] (acC K):=by
 refine Ν T.Cz QB (λ_ _ A _ s H vs Q E hr h=>?_);intro X;obtain⟨a,ns,k,b,cs,rfl,hS,hl,hk0,hk1,⟨vs,hb,hvs⟩,c1,c6,q⟩:=h;have nd:=QB.nd;have n1:=T.bR;have hsz:=ϱ;have hvl:=hvs.len;have rQ:η K H b vs:=η.of hb;have D1:= @fu P w K mg base T;have D2:= @uN P w K mg base T;walk_at"A";refine⟨a,ns,k,8,rfl,hS,hl,by omega,by omega,by decide,?_⟩;have w0:=aQ ns k (m:=8) (by decide);have w1:=aU ns k (m:=8) (by decide);generalize ϒ ns k 8=way at w0 w1⊢;walk_at"A";refine⟨a,ns,k+1,_,rfl,hS,hl,by omega,by omega,by omega,?_⟩;have a0:=aQ ns (k+1) (m:=(vs.length:Int)) (by omega);have a1:=aU ns (k+1) (m:=(vs.length:Int)) (by omega);generalize ϒ ns (k+1) (vs.length:Int)=at_ at a0 a1⊢;obtain⟨p,rfl⟩:=adz a0;have hpv:p<vs.length:=by omega
 obtain⟨c,hc,tc,ec,htc⟩:=hvs.get (ϳ hpv);have oG:vs[p]?=some (.ref tc):=by rw[<-ec];exact ϳ hpv
 refine ξ (Ψ ?_);walk_at"ex";refine Ε (λ_=>?_) (λh3=>?_)
 .refine ς (Ζ ?_);walk_at"ex";refine⟨by show 1<=ϩ;omega,λt ht=>?_⟩;exact q _ (.one .all) _ (ζ.upd ht) ⟨t,rfl,υ⟩ trivial trivial
 refine Γ (ξ (Ψ ?_));walk_at"ex";refine Ε (λ_=>?_) (λh4=>?_)
 .refine ς (Ζ ?_);walk_at"ex";refine⟨by show 2<=ϩ;omega,λt ht=>?_⟩;exact q _ (.one (.none p)) _ (ζ.upd ht) ⟨t,rfl,υ⟩ trivial (by show p<cs.length;omega)
 have hw4:4<=way:=by
  have h4':¬way=3:=λe=>h4 (by rw[e])
  omega
 refine Γ (ξ ?_);walk_at"s";walk_at"ex";refine ϐ rQ (Ϛ oG) ?_;walk_at"ex";refine Θ (ψ.of htc) (show Μ [V.str c.1,V.str c.2] 1=some (V.str c.2)from rfl) ?_;walk_at"ex";refine⟨a,ns,k+2,c.2,rfl,hS,hl,by omega,by omega,λx H1 s1 hx=>?_⟩;have fin:∀(y:V)(H2:Hp),ζ H H2->ϕ c.2 y->¬y=.non->Κ X ((ϗ zQ).drop 6) {nx:=λ_ H'=>Q .non H',rt:=Q} [some (.ref a),some (.int k),some (.ref b),some (.int way),some (.int p),some y] H2:=by
  intro y H2 s2 hy Ϲ;have good:∀l:Lk,¬l=.holds->pX cs (.look l p y):=λl hl=>⟨c,hc,hy,Ϲ,λe=>absurd e hl⟩
  refine ξ (Ψ ?_);walk_at"ex";refine Ε (λ_=>?_) (λh7=>?_)
  .refine ς (Ζ ?_);walk_at"ex";refine⟨by show 2<=ϩ;omega,λz hz=>?_⟩;obtain⟨sz,ez⟩:=ϙ hz (.lst [.str ("under":Str),.str ("over":Str)]);generalize upd H2 z (.lst [.str ("under":Str),.str ("over":Str)])=H3 at sz ez⊢;walk_at"ex";refine⟨a,ns,k+5,2,rfl,(s2.trans sz).seq hS,hl,by omega,by omega,by decide,?_⟩;obtain⟨l,hl1,hl2⟩:=Wi (aQ ns (k+5) (m:=2) (by decide)) (aU ns (k+5) (m:=2) (by decide));refine ϐ (η.of ez) hl2 ?_;walk_at"ex";refine⟨by show 3<=ϩ;omega,λt ht=>?_⟩;obtain⟨st,et⟩:=ϙ ht (.tup [.str (aq l),.int p,y]);generalize upd H3 t (.tup [.str (aq l),.int p,y])=H4 at st et⊢;walk_at"ex";refine⟨by show 2<=ϩ;omega,λt2 bD=>?_⟩;have st2:ζ H4 (upd H4 t2 (.tup [.str ("not":Str),.ref t])):=ζ.upd bD;exact q _ (.nt (.one (.look l p y))) _ (((s2.trans sz).trans st).trans st2) ⟨t2,.ref t,rfl,υ,t,rfl,st2 _ _ et⟩ hl1 (good l hl1)
  .have hw7:way<7:=by
    have h7':¬way=7:=λe=>h7 (by rw[e])
    omega
   refine Γ (ς (Ζ ?_));walk_at"ex";refine⟨by show 3<=ϩ;omega,λz hz=>?_⟩;obtain⟨sz,ez⟩:=ϙ hz (.lst [.str ("is":Str),.str ("under":Str),.str ("over":Str)]);generalize upd H2 z (.lst [.str ("is":Str),.str ("under":Str),.str ("over":Str)])=H3 at sz ez⊢;walk_at"ex";obtain⟨l,hl1,hl2⟩:=afc (d:=way-4) (by omega) (by omega);refine ϐ (η.of ez) hl2 ?_;walk_at"ex";refine⟨by show 3<=ϩ;omega,λt ht=>?_⟩;exact q _ (.one (.look l p y)) _ ((s2.trans sz).trans (ζ.upd ht)) ⟨t,rfl,υ⟩ hl1 (good l hl1)
 refine ξ (Ψ ?_);walk_at"ex";refine Ε (λe=>?_) (λe=>Γ (fin x H1 s1 hx e));refine ς ?_;walk_at"s";walk_at"ex";refine ϐ (s1.seq rQ) (Ϛ oG) ?_;walk_at"ex";refine Θ (ψ.of (s1 _ _ htc)) (show Μ [V.str c.1,V.str c.2] 1=some (V.str c.2)from rfl) ?_;walk_at"ex";refine Ε (λe2=>?_) (λe2=>?_)
 .walk_at "ex";have hk:c.2="number":=by injection e2
  exact fin _ H1 s1 (.inr (.inl ⟨hk,0,rfl,by decide,by decide⟩)) nofun
 .walk_at "ex";have hk:¬c.2="number":=λz=>e2 (by rw[z])
  exact fin _ H1 s1 (.inr (.inr ⟨hk,_,rfl,by decide+kernel,by decide+kernel⟩)) nofun
def aaL:Sp:=λvs H Q _=>∃(v:V)(kd:Str),vs=[v]/\ϕ kd v/\Q (.str (wordOf v)) H
theorem Dh(T:Txt K mg):Def P w K mg base true 1 "_law_word" ["_law_value_here"] aaL:=by
 refine Ν T.Dh acv (λ_ _ _ _ _ H vs Q E hr h=>?_);intro X;obtain⟨v,kd,rfl,hv,q⟩:=h;have n1:=T.xj;have n2:=T.Df;have n3:=T.ux;have hsz:=ϱ;have la:("'":Str).length=1:=by decide+kernel
 refine ξ (Ψ ?_);walk_at"ex";obtain rfl|⟨_,i,rfl,h1,h2⟩|⟨_,z,rfl,hl,_⟩:=hv
 .refine cD ?_;refine ς (Ζ ?_);walk_at"ex";exact q
 .refine Ε (λh=>nomatch h) (λ_=>?_);refine Γ (ς (Ζ ?_));walk_at"ex";refine QQ (rO ?_) ?_
  .have :(10:Nat)^60>1000000000000000000:=by decide
   omega
  exact q
 .refine Ε (λh=>nomatch h) (λ_=>?_);refine Γ (ς (Ζ ?_));walk_at"ex";refine j9 (by omega) ?_;exact q
theorem P0(l:Lk):¬V.str (aq l)=V.str ("all":Str)/\¬V.str (aq l)=V.str ("not":Str)/\¬V.str (aq l)=V.str ("none":Str)/\(aq l).length<=5:=by
 cases l<;>exact⟨by decide+kernel,by decide+kernel,by decide+kernel,by decide+kernel⟩
def G8(K:Ϩ)(ok:Tr->Prop):Sp:=λvs H Q _=>∃(v:V)(b:δ)(cs:List ο)(t:Tr),vs=[v,.ref b]/\ϋ H b cs/\ϓ cs=true/\aZ H v t/\ok t/\cH cs t/\∀H',ζ H H'->Q (.str (Str.join " " (wT (Β cs) t))) H'
theorem Hx(T:Txt K mg){k:Nat}(hk:1<=k){f:δ}{Ϻ:ε}{A:ϰ}{outer:List Env}{s:μ}{H:Hp}{Q:VK}{E:XK}(hr:ό true k (A.deeper (envOfC "_law_sieve_text" (ρ qH) s.heap.objs.size f Ϻ))){v:V}{b:δ}{cs:List ο}{t:Tr}(hC:ϋ H b cs)(hok:ϓ cs=true)(hv:aZ H v t)(hs:jx t)(hg:cH cs t)(q:∀H',ζ H H'->Q (.str (Str.join " " (wT (Β cs) t))) H'):Κ (dW true P w K mg base Nk "_law_sieve_text" (ρ qH) f Ϻ A outer s H E) (ϗ qH) {nx:=λ_ H'=>Q .non H',rt:=Q} [some v,some (.ref b),none] H:=by
 have nd:=BJ.nd;have n1:=T.bR;have hsz:=ϱ;have lb:(" ":Str).length=1:=by decide+kernel
 have D1:= @Dh P w K mg base T;obtain⟨vs,hb,hvs⟩:=hC;have hvl:=hvs.len;have Us:=jq hok hg;have bound:((wT (Β cs) t).map (·.length)).sum+(wT (Β cs) t).length*(" ":Str).length<=16777216:=by
  have h1:=vO (wT (Β cs) t) 21 λp hp=>(Us p hp).1
  have h2:(wT (Β cs) t).length<=3:=by
   cases t with
   |one sv=>cases sv<;>simp[wT,cY]
   |_=>exact hs.elim
  rw[lb];omega
 cases t with
 |nt t=>exact hs.elim
 |bo t u=>exact hs.elim
 |ei t u=>exact hs.elim
 |one sv=>
  cases sv with
  |all=>
   obtain⟨t,rfl,ht⟩:=hv;refine ξ (Ψ ?_);walk_at"ex";refine Θ (ψ.of ht) (show Μ [V.str ("all":Str)] 0=some (V.str ("all":Str))from rfl) ?_;walk_at"ex";refine cD ?_;refine ς (Ζ ?_);walk_at"ex";exact q H (ζ.refl _)
  |none p=>
   obtain⟨t,rfl,ht⟩:=hv;have hp:p<cs.length:=hg;obtain⟨c,hc,tc,ec,htc⟩:=hvs.get (ϳ (show p<vs.length by omega));have oG:vs[p]?=some (.ref tc):=by rw[<-ec];exact ϳ _
   have at0:Μ [V.str ("none":Str),V.int (p:Int)] 0=some (V.str ("none":Str)):=rfl;have at1:Μ [V.str ("none":Str),V.int (p:Int)] 1=some (V.int (p:Int)):=rfl;refine ξ (Ψ ?_);walk_at"ex";refine Θ (ψ.of ht) at0 ?_;walk_at"ex";refine aY ?_;refine Γ (ξ (Ψ ?_));walk_at"ex";refine Θ (ψ.of ht) at0 ?_;walk_at"ex";refine aY ?_;refine Γ (ξ ?_);walk_at"s";walk_at"ex";refine Θ (ψ.of ht) at0 ?_;walk_at"ex";refine Θ (ψ.of ht) at1 ?_;refine ϐ (η.of hb) (Ϛ oG) ?_;walk_at"ex";refine Θ (ψ.of htc) (show Μ [V.str c.1,V.str c.2] 0=some (V.str c.1)from rfl) ?_;walk_at"ex";refine⟨by show 2<=ϩ;omega,λwl hwl=>?_⟩;obtain⟨s1,e1⟩:=ϙ hwl (.lst [.str ("none":Str),.str c.1]);generalize upd H wl (.lst [.str ("none":Str),.str c.1])=H1 at s1 e1⊢;refine ξ (Ψ ?_);walk_at"ex";refine qt (.inr (ψ.of (s1 _ _ ht))) ?_;walk_at"ex";refine Ε (λh=>absurd h (by show ¬((2:Nat):Int)>2;decide)) (λ_=>?_);refine Γ (ς (Ζ ?_));walk_at"ex";refine qw (ys:=wT (Β cs) (.one (.none p))) ?_ bound (q H1 s1);refine η.of ?_;rw[e1];show _=some (HO.lst [V.str ("none":Str),V.str (Β cs p)]);rw[oU hc]
  |look l p x=>
   obtain⟨t,rfl,ht⟩:=hv;obtain⟨c,hc,hx,Ϲ,hh⟩:=hg;obtain⟨wv,oG,tc,rfl,htc⟩:=hvs.get' hc;obtain⟨k1,k2,k3,k4⟩:=P0 l;have at0:Μ [V.str (aq l),V.int (p:Int),x] 0=some (V.str (aq l)):=rfl;have at1:Μ [V.str (aq l),V.int (p:Int),x] 1=some (V.int (p:Int)):=rfl;have at2:Μ [V.str (aq l),V.int (p:Int),x] 2=some x:=rfl;refine ξ (Ψ ?_);walk_at"ex";refine Θ (ψ.of ht) at0 ?_;walk_at"ex";refine Ε (λh=>absurd h k1) (λ_=>?_);refine Γ (ξ (Ψ ?_));walk_at"ex";refine Θ (ψ.of ht) at0 ?_;walk_at"ex";refine Ε (λh=>absurd h k2) (λ_=>?_);refine Γ (ξ ?_);walk_at"s";walk_at"ex";refine Θ (ψ.of ht) at0 ?_;walk_at"ex";refine Θ (ψ.of ht) at1 ?_;refine ϐ (η.of hb) (Ϛ oG) ?_;walk_at"ex";refine Θ (ψ.of htc) (show Μ [V.str c.1,V.str c.2] 0=some (V.str c.1)from rfl) ?_;walk_at"ex";refine⟨by show 2<=ϩ;omega,λwl hwl=>?_⟩;obtain⟨s1,e1⟩:=ϙ hwl (.lst [.str (aq l),.str c.1]);generalize upd H wl (.lst [.str (aq l),.str c.1])=H1 at s1 e1⊢;refine ξ (Ψ ?_);walk_at"ex";refine qt (.inr (ψ.of (s1 _ _ ht))) ?_;walk_at"ex";refine Ε (λ_=>?_) (λh=>absurd (by show((3:Nat):Int)>2;decide) h);refine ς (au (du F.plainAttrs_list F.slot_list_append F.type_list_append (h:=?_)));walk_at"ex";refine⟨.inl ⟨rfl,_,η.of e1⟩,?_⟩;walk_at"ex";refine Θ (ψ.of (s1 _ _ ht)) at2 ?_;walk_at"ex";refine⟨x,c.2,rfl,hx,?_⟩;walk_at"ex";refine dZ jM ⟨wl,_,_,rfl,rfl,e1,by show 2<ϩ;omega,?_⟩;have s2:ζ H (upd H1 wl (.lst ([.str (aq l),.str c.1]++[.str (wordOf x)]))):=λe u he=>by
    rw[θ (Ι he hwl)];exact s1 _ _ he
   refine ς (Ζ ?_);walk_at"ex";refine qw (ys:=wT (Β cs) (.one (.look l p x))) ?_ bound (q _ s2);refine η.of ?_;rw[υ];show _=some (HO.lst [V.str (aq l),V.str (Β cs p),V.str (wordOf x)]);rw[oU hc];rfl
theorem afJ(T:Txt K mg):Def P w K mg base true 2 "_law_sieve_text" ["_law_sieve_here","_law_columns_here"] (G8 K jx):=by
 refine Ν T.vq BJ (λ_ _ _ _ _ H vs Q E hr h=>?_);intro X;obtain⟨v,b,cs,t,rfl,hC,hok,hv,hs,hg,q⟩:=h;exact Hx T (ϭ _) hr hC hok hv hs hg q
theorem vq(T:Txt K mg):Def P w K mg base true 3 "_law_sieve_text" ["_law_sieve_here","_law_columns_here"] (G8 K jK):=by
 refine Ν T.vq BJ (λ_ _ _ _ _ H vs Q E hr h=>?_);intro X;obtain⟨v,b,cs,t,rfl,hC,hok,hv,hs,hg,q⟩:=h;cases t with
 |one sv=>exact Hx T (by decide) hr hC hok hv hs hg q
 |bo t u=>exact hs.elim
 |ei t u=>exact hs.elim
 |nt t=>
  have hsz:=ϱ;have ln:("not ":Str).length=4:=by decide+kernel
  have D1:= @afJ P w K mg base T;obtain⟨a,u,rfl,ha,hu⟩:=hv;refine ξ (Ψ ?_);walk_at"ex";refine Θ (ψ.of ha) (show Μ [V.str ("not":Str),u] 0=some (V.str ("not":Str))from rfl) ?_;walk_at"ex";refine aY ?_;refine Γ (ξ (Ψ ?_));walk_at"ex";refine Θ (ψ.of ha) (show Μ [V.str ("not":Str),u] 0=some (V.str ("not":Str))from rfl) ?_;walk_at"ex";refine cD ?_;refine ς (Ζ ?_);walk_at"ex";refine Θ (ψ.of ha) (show Μ [V.str ("not":Str),u] 1=some u from rfl) ?_;walk_at"ex";refine⟨u,b,cs,t,rfl,hC,hok,hu,hs,hg,λH1 s1=>?_⟩;have hl:=Dm.len hok (n:=(wT (Β cs) t).length) (d:=t.dep) ⟨t,hg,ϭ _,rfl,ϭ _⟩;have h3:(wT (Β cs) t).length<=3:=by
   cases t with
   |one sv=>cases sv<;>simp[wT,cY]
   |_=>exact hs.elim
  refine j9 (by omega) ?_;have e:Str.join " " (wT (Β cs) (.nt t))=Str.ofString "not "++Str.join " " (wT (Β cs) t):=by
   show Str.join " " (Str.ofString "not"::wT (Β cs) t)=_;rw[join_cons (Ib (Β cs) t)];rfl
  rw[e]at q;exact q H1 s1
def JQ(K:Ϩ)(ok:Tr->Prop):Sp:=λvs H Q _=>∃(v:V)(b:δ)(cs:List ο)(t:Tr)(xs:List V),vs=[v,.ref b]/\aZ H v t/\ok t/\cH cs t/\H b=some (.lst xs)/\ω (λ(c:ο) x=>ϕ c.2 x) cs xs/\Q (.bl (Ϙ xs t)) H
theorem zL(T:Txt K mg):Def P w K mg base true 1 "_law_order_text" ["_law_order_here"] Ul:=by
 refine Ν T.zL ajW (λ_ _ _ _ _ H vs Q E hr h=>?_);intro X;obtain⟨a,os,rfl,⟨vs,ha,hvs⟩,hl,hn,q⟩:=h;have bj:(["_law_name","_law_up"]:List Str).Nodup:=by decide+kernel
 have hsz:=ϱ;have jh:=hvs.len;have lp:("+":Str).length=1:=by decide+kernel
 have lm:("-":Str).length=1:=by decide+kernel
 have lb:(" ":Str).length=1:=by decide+kernel
 refine ς (Ζ ?_);refine du F.plainAttrs_str F.slot_str_join F.type_str_join (h:=?_);walk_at"e";refine⟨by rfl,eQ (by rfl) ?_⟩;refine rm ["_law_name","_law_up"] (σ':=[none,none]) (cC (ρ zb)) ?_;walk_at"e";refine⟨a,vs,rfl,η.of ha,by omega,λτ=>∃o1 o2,τ=[o1,o2],λE2 i u H'=>∃c,os[i]?=some c/\u=.str (aL c),⟨none,none,rfl⟩,λE2 i u H2 H3 ys _ _ p=>p,λfp E2 C s3 H0 i τ x H4 H3 cX hi hτ Ρ hys hG=>?_,λE2 H4 ys cX hl2 hx2 e4 Ρ =>?_⟩
 .obtain⟨o1,o2,rfl⟩:=hτ;obtain⟨cV,rfl⟩:=hG;obtain⟨c,hc,t,rfl,ht⟩:=hvs.get cV;have hcn:=hn c (aaJ hc);refine bM (ψ.of (Ρ _ _ ht)) (ϖ (Ο bj (by rfl) (.inl rfl) (.inr rfl) (ϖ (Ο bj (by rfl) (.inl rfl) (.inr rfl) (bJ ?_)))));walk_at"go";refine jr (λh=>?_) (λh=>?_)
  .walk_at "go";refine j9 (by rw[lp];omega) ?_;exact⟨⟨_,_,rfl⟩,⟨c,hc,by unfold aL;rw[if_pos h]⟩,ζ.refl _⟩
  .walk_at "go";refine j9 (by rw[lm];omega) ?_;exact⟨⟨_,_,rfl⟩,⟨c,hc,by unfold aL;rw[if_neg (by rw[h];exact aaD)]⟩,ζ.refl _⟩
 .have ey:=jT (ys:=os) (λc=>V.str (aL c)) (by rw[hl2,jh]) hx2;have ik:ys=(os.map aL).map V.str:=by rw[ey,agn];rfl
  subst ik;walk_at"go";refine qw (η.of e4) ?_ (q H4 Ρ);rw[lb,aaf];have hsum:∀l:List Ord,(∀o∈l,o.1.length<=1000)->((l.map aL).map (·.length)).sum<=l.length*1001:=by
   intro l;induction l with
   |nil=>intro _;simp
   |cons o l ih=>
    intro h;have h1:=ih λx hx=>h x (by simp[hx])
    have h2:=h o (by simp);have h3:(aL o).length<=1001:=by
     unfold aL;rw[len_app];split
     .rw[lp];omega
     .rw[lm];omega
    simp only[List.map_cons,List.sum_cons,List.length_cons];omega
  have:=hsum os hn;omega
theorem Jo(T:Txt K mg){k:Nat}{f:δ}{Ϻ:ε}{A:ϰ}{outer:List Env}{s:μ}{H:Hp}{Q:VK}{E:XK}(hr:ό true k (A.deeper (envOfC "_law_lets" (ρ tQ) s.heap.objs.size f Ϻ))){v:V}{b:δ}{cs:List ο}{t:Tr}{xs:List V}(hv:aZ H v t)(hs:jx t)(hg:cH cs t)(hb:H b=some (.lst xs))(hxs:ω (λ(c:ο) x=>ϕ c.2 x) cs xs)(q:Q (.bl (Ϙ xs t)) H):Κ (dW true P w K mg base Qp "_law_lets" (ρ tQ) f Ϻ A outer s H E) (ϗ tQ) {nx:=λ_ H'=>Q .non H',rt:=Q} [some v,some (.ref b),none] H:=by
 have nd:=Ey.nd;cases t with
 |nt t=>exact hs.elim
 |bo t u=>exact hs.elim
 |ei t u=>exact hs.elim
 |one sv=>
  cases sv with
  |all=>
   obtain⟨t,rfl,ht⟩:=hv;refine ξ (Ψ ?_);walk_at"ex";refine Θ (ψ.of ht) (show Μ [V.str ("all":Str)] 0=some (V.str ("all":Str))from rfl) ?_;walk_at"ex";refine cD ?_;refine ς (Ζ ?_);walk_at"ex";exact q
  |none p=>
   obtain⟨t,rfl,ht⟩:=hv;have hp:p<cs.length:=hg;obtain⟨x,hx,nZ⟩:=hxs.get (ϳ hp);have q':Q (.bl (decide (x=.non))) H:=by
    have e:Ϙ xs (.one (.none p))=decide (x=.non):=by
     show decide ((xs[p]?).getD .non=.non)=_;rw[hx];rfl
    rw[e]at q;exact q
   have at0:Μ [V.str ("none":Str),V.int (p:Int)] 0=some (V.str ("none":Str)):=rfl;have at1:Μ [V.str ("none":Str),V.int (p:Int)] 1=some (V.int (p:Int)):=rfl;refine ξ (Ψ ?_);walk_at"ex";refine Θ (ψ.of ht) at0 ?_;walk_at"ex";refine aY ?_;refine Γ (ξ (Ψ ?_));walk_at"ex";refine Θ (ψ.of ht) at0 ?_;walk_at"ex";refine aY ?_;refine Γ (ξ ?_);walk_at"s";walk_at"ex";refine Θ (ψ.of ht) at1 ?_;refine ϐ (η.of hb) (Ϛ hx) ?_;refine ξ (Ψ ?_);walk_at"ex";refine Θ (ψ.of ht) at0 ?_;walk_at"ex";refine cD ?_;refine ς (Ζ ?_);walk_at"ex";refine Θ (ψ.of ht) at0 ?_;walk_at"ex";refine cD ?_;walk_at"ex";exact q'
  |look l p y=>
   obtain⟨t,rfl,ht⟩:=hv;obtain⟨c,hc,hy,Ϲ,hh⟩:=hg;obtain⟨x,hx,nZ⟩:=hxs.get hc;obtain⟨k1,k2,k3,k4⟩:=P0 l;have e:Ϙ xs (.one (.look l p y))=(!decide (x=.non)&&jU l x y):=by
    show(!decide ((xs[p]?).getD .non=.non)&&jU l ((xs[p]?).getD .non) y)=_;rw[hx];rfl
   rw[e]at q;have at0:Μ [V.str (aq l),V.int (p:Int),y] 0=some (V.str (aq l)):=rfl;have at1:Μ [V.str (aq l),V.int (p:Int),y] 1=some (V.int (p:Int)):=rfl;have at2:Μ [V.str (aq l),V.int (p:Int),y] 2=some y:=rfl;refine ξ (Ψ ?_);walk_at"ex";refine Θ (ψ.of ht) at0 ?_;walk_at"ex";refine Ε (λh=>absurd h k1) (λ_=>?_);refine Γ (ξ (Ψ ?_));walk_at"ex";refine Θ (ψ.of ht) at0 ?_;walk_at"ex";refine Ε (λh=>absurd h k2) (λ_=>?_);refine Γ (ξ ?_);walk_at"s";walk_at"ex";refine Θ (ψ.of ht) at1 ?_;refine ϐ (η.of hb) (Ϛ hx) ?_;refine ξ (Ψ ?_);walk_at"ex";refine Θ (ψ.of ht) at0 ?_;walk_at"ex";refine Ε (λh=>absurd h k3) (λ_=>?_);walk_at"ex";refine Ε (λhn=>?_) (λhn=>?_)
   .refine ς (Ζ ?_);walk_at"ex";refine Θ (ψ.of ht) at0 ?_;walk_at"ex";refine Ε (λh=>absurd h k3) (λ_=>?_);rw[decide_eq_true hn]at q;have ek:decide (V.str (aq l)=V.str ("none":Str))=false:=decide_eq_false k3
    first
     |exact q
     |(rw[ek];exact q)
   rw[decide_eq_false hn]at q;have q:Q (.bl (jU l x y)) H:=q;refine Γ (ξ (Ψ ?_));walk_at"ex";refine Θ (ψ.of ht) at0 ?_;walk_at"ex";have sx:=nZ.sc;have sy:=hy.sc;cases l with
   |holds=>exact absurd rfl hs
   |is=>
    refine cD ?_;refine ς (Ζ ?_);walk_at"ex";refine Θ (ψ.of ht) at2 ?_;refine Fi (Ew sx sy) ?_;exact q
   |under=>
    refine aY ?_;refine Γ (ς (Ζ ?_));walk_at"ex";refine Θ (ψ.of ht) at0 ?_;walk_at"ex";refine cD ?_;walk_at"ex";refine Θ (ψ.of ht) at2 ?_;obtain rfl|⟨ek,i,rfl,_⟩|⟨ek,z,rfl,_⟩:=nZ
    .exact absurd rfl hn
    .obtain rfl|⟨_,j,rfl,_⟩|⟨e2,z,rfl,_⟩:=hy
     .exact absurd rfl Ϲ
     .walk_at "ex";exact q
     .exact absurd ek e2
    .obtain rfl|⟨e2,j,rfl,_⟩|⟨_,z,rfl,_⟩:=hy
     .exact absurd rfl Ϲ
     .exact absurd e2 ek
     .walk_at "ex";exact q
   |over=>
    refine aY ?_;refine Γ (ς (Ζ ?_));walk_at"ex";refine Θ (ψ.of ht) at0 ?_;walk_at"ex";refine aY ?_;walk_at"ex";refine Θ (ψ.of ht) at2 ?_;obtain rfl|⟨ek,i,rfl,_⟩|⟨ek,z,rfl,_⟩:=nZ
    .exact absurd rfl hn
    .obtain rfl|⟨_,j,rfl,_⟩|⟨e2,z,rfl,_⟩:=hy
     .exact absurd rfl Ϲ
     .walk_at "ex";exact q
     .exact absurd ek e2
    .obtain rfl|⟨e2,j,rfl,_⟩|⟨_,z,rfl,_⟩:=hy
     .exact absurd rfl Ϲ
     .exact absurd e2 ek
     .refine Vp ?_;exact q
theorem ahh(T:Txt K mg):Def P w K mg base true 1 "_law_lets" ["_law_sieve_here","_law_values_here"] (JQ K jx):=by
 refine Ν T.wK Ey (λ_ _ _ _ _ H vs Q E hr h=>?_);intro X;obtain⟨v,b,cs,t,xs,rfl,hv,hs,hg,hb,hxs,q⟩:=h;exact Jo T hr hv hs hg hb hxs q
theorem wK(T:Txt K mg):Def P w K mg base true 2 "_law_lets" ["_law_sieve_here","_law_values_here"] (JQ K jK):=by
 refine Ν T.wK Ey (λ_ _ _ _ _ H vs Q E hr h=>?_);intro X;obtain⟨v,b,cs,t,xs,rfl,hv,hs,hg,hb,hxs,q⟩:=h;cases t with
 |one sv=>exact Jo T hr hv hs hg hb hxs q
 |bo t u=>exact hs.elim
 |ei t u=>exact hs.elim
 |nt t=>
  have D1:= @ahh P w K mg base T;obtain⟨a,u,rfl,ha,hu⟩:=hv;refine ξ (Ψ ?_);walk_at"ex";refine Θ (ψ.of ha) (show Μ [V.str ("not":Str),u] 0=some (V.str ("not":Str))from rfl) ?_;walk_at"ex";refine aY ?_;refine Γ (ξ (Ψ ?_));walk_at"ex";refine Θ (ψ.of ha) (show Μ [V.str ("not":Str),u] 0=some (V.str ("not":Str))from rfl) ?_;walk_at"ex";refine cD ?_;refine ς (Ζ ?_);walk_at"ex";refine Θ (ψ.of ha) (show Μ [V.str ("not":Str),u] 1=some u from rfl) ?_;walk_at"ex";refine⟨u,b,cs,t,xs,rfl,hu,hs,hg,hb,hxs,?_⟩;walk_at"ex";exact q
def iK(H:Hp)(Ϸ:List (Key×V))(rs:List Row):Prop:=ω (λ(kv:Key×V)(r:Row)=>kv.1=Sum.inl r.1/\∃l,kv.2=.ref l/\H l=some (.lst r.2)) Ϸ rs
theorem iK.keys{H:Hp}:∀{Ϸ:List (Key×V)}{rs:List Row},iK H Ϸ rs->Ϸ.map (·.1)=(rs.map Prod.fst).map Sum.inl
 |_,_,.nil=>rfl
 |_,_,.cons h t=>by
  rw[List.map_cons,List.map_cons,List.map_cons,h.1,iK.keys t]
theorem iK.get{H:Hp}:∀{Ϸ:List (Key×V)}{rs:List Row},iK H Ϸ rs->(rs.map Prod.fst).Nodup->∀{i:Nat}{r:Row},rs[i]?=some r->∃l,Ϝ Ϸ (Sum.inl r.1)=some (.ref l)/\H l=some (.lst r.2)
 |_,_,.nil,_,i,r,h=>by simp at h
 |kv::Ϸ,r0::rs,.cons h t,hn,i,r,e=>by
  obtain⟨h1,l,h2,h3⟩:=h;have hn':=ajw.mp hn;cases i with
  |zero=>
   have:r0=r:=by simpa using e
   subst this;exact⟨l,by rw[lJ h1,h2],h3⟩
  |succ i=>
   have e':rs[i]?=some r:=by simpa using e
   obtain⟨l',g1,g2⟩:=iK.get t hn'.2 e';refine⟨l',?_,g2⟩;rw[lB (λz=>hn'.1 ?_)]
   .exact g1
   .rw[h1]at z;have e2:r0.1=r.1:=by injection z
    rw[e2];exact acQ.mpr ⟨r,aaJ e',rfl⟩
def dI(H H':Hp)(v:V)(r:Row):=∃t l,v=.ref t/\H' t=some (.tup [.int r.1,.ref l])/\H l=some (.lst r.2)
theorem dI.row{H H':Hp}{v:V}{r:Row}(h:dI H H' v r)(s:ζ H H'):jJ H' v r:=by
 obtain⟨t,l,e,e1,e2⟩:=h;exact⟨t,l,e,e1,s _ _ e2⟩
theorem dI.same{H H' H2:Hp}{v:V}{r:Row}(h:dI H H' v r)(s:ζ H' H2):dI H H2 v r:=by
 obtain⟨t,l,e,e1,e2⟩:=h;exact⟨t,l,e,s _ _ e1,e2⟩
theorem ak.len{cs:List ο}{r:Row}(h:ak cs r):r.2.length=cs.length:=(ω.len h).symm
theorem ade{α β:Type}{R:α->β->Prop}{l:List α}{m:List β}{a:α}{b:β}{k:Nat}(h:ω R l m)(r:R a b):ω R (fM l k a) (fM m k b):=(h.take k).app (.cons r (h.drop k))
theorem aZ.stay{H H':Hp}(s:∀x ys,H x=some (.tup ys)->H' x=some (.tup ys)):∀{t:Tr}{v:V},aZ H v t->aZ H' v t
 |.one .all,_,⟨t,e,h⟩=>⟨t,e,s _ _ h⟩
 |.one (.none p),_,⟨t,e,h⟩=>⟨t,e,s _ _ h⟩
 |.one (.look l p x),_,⟨t,e,h⟩=>⟨t,e,s _ _ h⟩
 |.nt t,_,⟨a,u,e,h,g⟩=>⟨a,u,e,s _ _ h,aZ.stay s g⟩
 |.bo _ _,_,h=>h.elim
 |.ei _ _,_,h=>h.elim
def Yr(K:Ϩ):Sp:=λvs H Q _=>∃(c b d:δ)(v:V)(t0:Tr)(Ϸ:List (Key×V))(cs:List ο)(os:List Ord)(rs:List Row),vs=[.ref c,.ref b,v,.ref d]/\ϋ H c cs/\ϓ cs=true/\cP H b os/\os.length<=4/\cJ cs os/\aZ H v t0/\jK t0/\cH cs t0/\H d=some (.dK Ϸ)/\iK H Ϸ rs/\(rs.map Prod.fst).Nodup/\rs.length<=60/\(∀r∈rs,ak cs r)/\
 ∀p ws ls H',ζ H H'->H p=none->H' p=some (.lst ws)->ω (dI H H') ws ls->Line cs os ls->ls.Perm (rs.filter λr=>Ϙ r.2 t0)->Q (.ref p) H'
theorem Bj(T:Txt K mg):Def P w K mg base true 3 "_law_line" ["_law_columns_here","_law_order_here","_law_sieve_here","_law_rows"] (Yr K):=by
 refine Ν T.Bj Nh (λ_ _ A _ s H vs Q E hr h=>?_);intro X;obtain⟨c,b,d,v,t0,Ϸ,cs,os,rs,rfl,Qi,hok,SN,hol,ϻ,Iw,hsh,hgd,hdp,Qd,hnd,hrl,hfit,q⟩:=h;refine ai1 hdp λo=>?_
 have st:∀x u,H x=some u->(∀ks,¬u=.dK ks)->(upd H d (.frz o (.dK Ϸ))) x=some u:=λx u e hu=>by
  rw[θ (λz=>by rw[z,hdp]at e;cases e;exact hu _ rfl)];exact e
 have Ng:∀x,(upd H d (.frz o (.dK Ϸ))) x=none->H x=none:=λx e=>by
  by_cases z:x=d
  .rw[z,υ]at e;cases e
  .rw[θ z]at e;exact e
 have hd:(upd H d (.frz o (.dK Ϸ))) d=some (.frz o (.dK Ϸ)):=υ;have hC:ϋ (upd H d (.frz o (.dK Ϸ))) c cs:=by
  obtain⟨cv,e1,e2⟩:=Qi;exact⟨cv,st _ _ e1 (λ_ z=>by cases z),e2.imp λu k z=>by obtain⟨t,e,h⟩:=z;exact⟨t,e,st _ _ h (λ_ z=>by cases z)⟩⟩
 have hO:cP (upd H d (.frz o (.dK Ϸ))) b os:=by
  obtain⟨ov,e1,e2⟩:=SN;exact⟨ov,st _ _ e1 (λ_ z=>by cases z),e2.imp λu k z=>by obtain⟨t,e,h⟩:=z;exact⟨t,e,st _ _ h (λ_ z=>by cases z)⟩⟩
 have hsv:aZ (upd H d (.frz o (.dK Ϸ))) v t0:=aZ.stay (λx ys e=>st _ _ e (λ_ z=>by cases z)) Iw;have hD:iK (upd H d (.frz o (.dK Ϸ))) Ϸ rs:=Qd.imp λa r z=>by
  obtain⟨e,l,e2,e3⟩:=z;exact⟨e,l,e2,st _ _ e3 (λ_ z=>by cases z)⟩
 have fin:∀p ws ls H',ζ (upd H d (.frz o (.dK Ϸ))) H'->H p=none->H' p=some (.lst ws)->ω (dI (upd H d (.frz o (.dK Ϸ))) H') ws ls->Line cs os ls->ls.Perm (rs.filter λr=>Ϙ r.2 t0)->Q (.ref p) (upd H' d (.dK Ϸ)):=λp ws ls H' sm hp hp' hA hL aH=>by
  have hpd:p≠d:=λz=>by rw[z,hdp]at hp;cases hp
  refine q p ws ls _ (λx u e=>?_) hp (by rw[θ hpd];exact hp') (hA.imp λu r z=>?_) hL aH
  .by_cases z:x=d
   .rw[z]at e⊢;rw[hdp]at e;cases e;exact υ
   .rw[θ z];exact sm _ _ (by rw[θ z];exact e)
  .obtain⟨t,l,e,e1,e2⟩:=z;refine⟨t,l,e,by rw[θ (λz=>by rw[z,sm _ _ hd]at e1;cases e1)];exact e1,?_⟩;rw[θ (λz=>by rw[z,hd]at e2;cases e2)]at e2;exact e2
 have hH0:∀o u,¬H d=some (.frz o u):=λo u z=>by rw[hdp]at z;cases z
 have hpf:∀p,(upd H d (.frz o (.dK Ϸ))) p=none->H p=none:=Ng;clear q Qi SN Iw Qd st Ng;generalize upd H d (.frz o (.dK Ϸ))=HZ at hd hC hO hsv hD fin hpf⊢;have nd:=Nh.nd;have hu1:=ae6 (afX (show 1<=64 by decide) _) hr.units;have hsz:=ϱ;obtain⟨c1,c6⟩:=m9 hok;have D1:= @FQ P w K mg base T;have D2:= @Ao P w K mg base T;have D3:= @wK P w K mg base T;walk_at"A";refine⟨by show 0<=ϩ;omega,λp hp=>?_⟩;obtain⟨aj,ep⟩:=ϙ hp (.lst []);generalize upd HZ p (.lst [])=H0 at aj ep⊢;refine ξ (Yb (by walk_at"po") (by rfl) (by intro _;rfl) ?_);walk_at"ex";refine⟨d,o,Ϸ,rs.map Prod.fst,rfl,aj _ _ hd,hD.keys,λi σ H'=>(∃o5 o6 o7 o8,σ=[some (.ref c),some (.ref b),some v,some (.ref d),some (.ref p),o5,o6,o7,o8])/\ζ HZ H'/\∃ws ls,H' p=some (.lst ws)/\ω (dI HZ H') ws ls/\Line cs os ls/\ls.Perm ((rs.take i).filter λr=>Ϙ r.2 t0),⟨⟨none,none,none,none,rfl⟩,aj,[],[],ep,.nil,.nil,List.Perm.refl _⟩,λi σ' H' hP=>hP.2.1 _ _ hd,λi k σ' H' hk hP=>?_,λσ' H' hP=>?_⟩
 .obtain⟨⟨o5,o6,o7,o8,rfl⟩,sm,ws,ls,hp',hws,hL,aH⟩:=hP;rw[aa2]at hk;obtain⟨r,hri,rfl⟩:=akk.mp hk;have hrm:=aaJ hri;have vH:=hfit r hrm;have hi:=(aae.mp hri).1;have hsub:∀r∈ls,r∈rs.take i:=λr hr=>(aia.mp (aH.mem_iff.mp hr)).1
  have hll:ls.length<=i:=by
   rw[aH.length_eq];exact aft (aiz _ _) (by rw[ae1];omega)
  have htake:rs.take (i+1)=rs.take i++[r]:=by rw[anu,hri];rfl
  have hwl:=hws.len;obtain⟨l,hval,yz⟩:=hD.get hnd hri;have dg:∀{H2:Hp},ζ HZ H2->ϟ H2 d (.int r.1) (some (.ref l)):=λs2=>.inl ⟨Ϸ,Sum.inl r.1,.inr ⟨o,s2 _ _ hd⟩,rfl,hval.symm⟩
  refine Ο nd (by rfl) (.inl rfl) (.inl rfl) ?_;refine ς (Ψ ?_);walk_at"ex";refine cu hu1 (dg sm) ?_;walk_at"ex";refine⟨v,l,cs,t0,r.2,rfl,hsv.same sm,hsh,hgd,sm _ _ yz,vH,?_⟩;cases hlt:Ϙ r.2 t0 with
  |false=>
   walk_at"ex";refine Γ ⟨⟨_,_,_,_,rfl⟩,sm,ws,ls,hp',hws,hL,?_⟩;rw[htake,anp,List.filter_cons_of_neg (by rw[hlt];exact aaD),List.filter_nil,List.append_nil];exact aH
  |true=>
  walk_at"ex";walk_at"A";refine cu hu1 (dg sm) ?_;walk_at"ex";refine⟨by show 2<=ϩ;omega,λt ht=>?_⟩;have s1:ζ H' (upd H' t (.tup [.int r.1,.ref l])):=ζ.upd ht;have e1:(upd H' t (.tup [.int r.1,.ref l])) t=some (.tup [.int r.1,.ref l]):=υ;generalize upd H' t (.tup [.int r.1,.ref l])=H1 at s1 e1⊢;have Δ :=sm.trans s1;walk_at"ex";refine⟨c,b,_,cs,os,r,rfl,hC.same Δ,hO.same Δ,⟨t,l,rfl,e1,Δ _ _ yz⟩,vH.len,by omega,by omega,ϻ,λkp kl H2 s2 akp alq hkp hkl=>?_⟩;have Η :=Δ.trans s2;walk_at"A";have hp2:=s2 _ _ (s1 _ _ hp');have S5:ω (dI HZ H2) ws ls:=hws.imp λu q x=>(x.same s1).same s2
  have kr:=eZ vH ϻ;have hfl:∀q∈ls,q∈rs:=λq hq=>ahj (hsub q hq)
  refine ξ (tE (by walk_at"po") (by rfl) (by intro _;rfl) ?_);walk_at"ex";refine⟨p,ws,rfl,η.of hp2,λj σ H'=>(∃o8,σ=[some (.ref c),some (.ref b),some v,some (.ref d),some (.ref p),some (.int r.1),some (.ref kp),some (.int ((ls.take j).countP λq=>bV cs os q r:Nat)),o8])/\ζ H2 H',⟨⟨_,rfl⟩,ζ.refl _⟩,λj σ' H' _ hP=>η.of (hP.2 _ _ hp2),λj x σ' H3 hx hP=>?_,λσ' H3 hP=>?_⟩
  .obtain⟨⟨o8',rfl⟩,s3⟩:=hP;obtain⟨q',hq,hrow⟩:=S5.get hx;have Y0:=hfl q' (aaJ hq);have hqf:=hfit q' Y0;have sm3:=Η.trans s3;refine Ο nd (by rfl) (.inl rfl) (.inl rfl) ?_;refine ς (Ψ ?_);walk_at"ex";refine⟨c,b,x,cs,os,q',rfl,hC.same sm3,hO.same sm3,(hrow.row Η).same s3,hqf.len,by omega,by omega,ϻ,λZg kl2 H4 s4 _ _ VM Uw=>?_⟩;have Ρ :=sm3.trans s4;have kq:=eZ hqf ϻ;obtain⟨x1,x2,x3⟩:=kq.aD kr;walk_at"ex";refine⟨b,Zg,kp,os,_,_,q'.1,r.1,rfl,hO.same Ρ,⟨kl2,VM,Uw⟩,⟨kl,s4 _ _ (s3 _ _ hkp),s4 _ _ (s3 _ _ hkl)⟩,x1,x2,hol,x3,λH5 s5=>?_⟩;have Oj:=(s3.trans s4).trans s5;have htk:(ls.take (j+1)).countP (λq=>bV cs os q r)=(ls.take j).countP (λq=>bV cs os q r)+(if bV cs os q' r=true then 1 else 0):=by
    rw[anu,hq,List.countP_append]
    congr 1
    show List.countP _ [q']=_;rw[List.countP_cons,List.countP_nil,anq]
   rw[show Ϥ os (aJ cs os q'.2) (aJ cs os r.2) q'.1 r.1=bV cs os q' r from rfl];cases Oe:bV cs os q' r with
   |true=>
    rw[Oe,if_pos rfl]at htk;walk_at"ex";refine ς ?_;walk_at"s";walk_at"ex";refine⟨⟨some x,?_⟩,Oj⟩;rw[htk];rfl
   |false=>
    rw[Oe,if_neg aaD,aoS]at htk;walk_at"ex";refine Γ ⟨⟨some x,?_⟩,Oj⟩;rw[htk];rfl
  .obtain⟨⟨o8',rfl⟩,s3⟩:=hP;rw[hwl,anH];have sm3:=Η.trans s3;have hp3:=s3 _ _ hp2;have hcl:=List.countP_le_length (p:=λq=>bV cs os q r) (l:=ls);refine ς (au (du F.plainAttrs_list F.slot_list_insert F.type_list_insert (h:=?_)));walk_at"e";refine⟨.inl ⟨rfl,_,η.of hp3⟩,?_⟩;walk_at"ex";refine cu hu1 (dg sm3) ?_;walk_at"ex";refine⟨by show 2<=ϩ;omega,λt2 bD=>?_⟩;obtain⟨s4,e4⟩:=ϙ bD (.tup [.int r.1,.ref l]);generalize upd H3 t2 (.tup [.int r.1,.ref l])=H4 at s4 e4⊢;have R5:=s4 _ _ hp3;walk_at"ex";refine dZ abH ⟨p,ws,ls.countP λq=>bV cs os q r,_,rfl,rfl,R5,by omega,by omega,?_⟩;refine⟨⟨_,_,_,_,rfl⟩,λe u he=>?_,fM ws (ls.countP λq=>bV cs os q r) (.ref t2),fM ls (ls.countP λq=>bV cs os q r) r,υ,ade (S5.imp λu q x=>?_) ?_,VD ϻ (λq hq=>hfit q (hfl q hq)) vH hL (λq hq e=>?_),?_⟩
   .rw[θ (Ι he hp)];exact s4 _ _ (sm3 _ _ he)
   .obtain⟨tq,lq,rfl,hq1,hq2⟩:=x;have nt:tq≠p:=λe=>by rw[e,hp2]at hq1;cases hq1
    exact⟨tq,lq,rfl,by rw[θ nt];exact s4 _ _ (s3 _ _ hq1),hq2⟩
   .have nt:t2≠p:=λe=>by rw[e,R5]at e4;cases e4
    exact⟨t2,l,rfl,by rw[θ nt];exact e4,yz⟩
   .obtain⟨j,hj,ej⟩:=amU (hsub q hq);have hj':j<i:=by rw[ae1]at hj;omega
    have e2:rs[j]?=some q:=by
     rw[List.getElem_take]at ej;rw[<-ej];exact ϳ _
    have e3:(rs.map Prod.fst)[j]?=(rs.map Prod.fst)[i]? :=by rw[aa2,aa2,e2,hri];exact congrArg some e
    have hjl:j<(rs.map Prod.fst).length:=by rw[aaf];omega
    have hil:i<(rs.map Prod.fst).length:=by rw[aaf];omega
    rw[ϳ hjl,ϳ hil]at e3;have:=(amF hnd).mp (Option.some.inj e3);omega
   .rw[htake,anp,show(([r]:List Row).filter λr=>Ϙ r.2 t0)=[r]from by rw[List.filter_cons,if_pos hlt,List.filter_nil]];unfold fM;refine List.perm_middle.trans ?_;rw[anU];exact(List.Perm.cons r aH).trans (List.perm_append_singleton r _).symm
 .obtain⟨⟨o5,o6,o7,o8,rfl⟩,sm,ws,ls,hp',hws,hL,aH⟩:=hP;rw[aaf,anH]at aH;refine VF (sm _ _ hd) hH0 ?_;refine ς (Ζ ?_);walk_at"ex";exact fin p ws ls H' sm (hpf p hp) hp' hws hL aH
def abJ(K:Ϩ)(mg:Str->Option ε)(t:Tr):Sp:=λvs H Q _=>∃(a p:δ)(z:Str)(rs:List Row),vs=[.ref a,.ref p]/\bh mg H t a z/\uA H p rs/\rs.length<=1000/\(∀r∈rs,jl r.2 t)/\
 ∀q ws H',ζ H H'->H q=none->H' q=some (.lst ws)->ω (dI H H') ws (rs.filter λr=>Ϙ r.2 t)->Q (.ref q) H'
theorem aaT(rs:List Row)(f:Row->Bool):(iz (λi=>f (rs.getD i (0,[]))) rs.length).map (λi=>rs.getD i (0,[]))=rs.filter f:=by
 unfold iz;have h:=map_getD (0,[]) rs
 conv=>rhs;rw[<-h]
 rw[List.filter_map];rfl
theorem LK{α β γ:Type}{R:α->γ->Prop}(g:β->γ):∀{l:List α}{m:List β},ω (λa b=>R a (g b)) l m->ω R l (m.map g)
 |_,_,.nil=>.nil
 |_,_,.cons h t=>.cons h (LK g t)
theorem BP(T:Txt K mg)(t:Tr):Def P w K mg base true (4+t.dep) "let_through" ["sieve","rows"] (abJ K mg t):=by
 rw[show 4+t.dep=(3+t.dep)+1 by omega];refine Ν T.BP aiQ (λ_ _ _ _ _ H vs Q E hr h=>?_);intro X;obtain⟨a,p,z,rs,rfl,hv,⟨ws,hp,hws⟩,hl,hf,q⟩:=h;have hsz:=ϱ;have hwl:=hws.len;have Lp:(["row","values","sieve"]:List Str).Nodup:=by decide+kernel
 refine ς (Ζ ?_);refine acd ["row","values","sieve"] (σ':=[none,none,some (.ref a)]) (by rfl) (by rfl) (cC (ρ xW)) (by intro _;rfl) ?_;walk_at"ex";refine⟨p,ws,rfl,η.of hp,by omega,λτ=>∃o1 o2,τ=[o1,o2,some (.ref a)],λi=>Ϙ (rs.getD i (0,[])).2 t,λE2 i u H'=>u≠.ref E2/\dI H H' u (rs.getD i (0,[])),⟨none,none,rfl⟩,λE2 i v H2 H3 ys hE hk h=>?_,λfp E2 C s3 H0 i τ x H2 cX hx hτ sm hys=>?_,λE2 H2 us cX e2 hA sm=>?_⟩
 .obtain⟨h0,t2,l,e,h1,h2⟩:=h;exact⟨h0,t2,l,e,hk _ _ (λz=>by rw[z,hE]at h1;cases h1) h1,h2⟩
 .obtain⟨o1,o2,rfl⟩:=hτ;obtain⟨r,hr2,tr,lr,rfl,htr,hlr⟩:=hws.get hx;obtain⟨ys,hys⟩:=hys;have er:rs.getD i (0,[])=r:=by rw[abm,hr2];rfl
  obtain⟨da,fa,ea,la⟩:=(hv.same sm).ins;refine bM (ψ.of (sm _ _ htr)) (ϖ (Ο Lp (by rfl) (.inl rfl) (.inr rfl) (ϖ (Ο Lp (by rfl) (.inl rfl) (.inr rfl) (bJ ?_)))));refine Mh (λ_=>by rfl) ?_;refine bZ (pl:=_) hr (by walk_at"xo") (by rfl) (by rfl) (by rfl) ?_;walk_at"e";refine⟨a,dR mg t,da,_,true,3+t.dep,_,cW K mg t,rfl,ea,la,mO T t,ϭ _,id,?_⟩;walk_at"ex";refine⟨a,lr,z,r.2,rfl,hv.same sm,η.of (sm _ _ hlr),hf r (aaJ hr2),?_⟩;refine⟨_,rfl,(by show Ϙ r.2 t=Ϙ (rs.getD i (0,[])).2 t;rw[er]),⟨_,_,rfl⟩,ζ.refl _,λ_=>?_⟩;walk_at"ex";refine⟨by show 2<=ϩ;omega,λt2 bD=>?_⟩;refine⟨⟨λz=>?_,t2,lr,rfl,by rw[er];exact υ,by rw[er];exact hlr⟩,ζ.upd bD⟩;injection z with z
  rw[z,hys]at bD;cases bD
 .rw[hwl]at hA;have hA2:ω (dI H H2) us (rs.filter λr=>Ϙ r.2 t):=by
   rw[<-aaT rs λr=>Ϙ r.2 t];exact LK _ (hA.imp λu i z=>by
    exact z.2)
  exact q E2 us H2 sm cX e2 hA2
theorem yC{cs:List ο}{os:List Ord}(ϻ:cJ cs os):∀{l m:List Row},(∀r∈l,ak cs r)->l.Perm m->Line cs os l->Line cs os m->l=m
 |[],m,_,h,_,_=>List.Perm.nil_eq h
 |a::l,[],_,h,_,_=>absurd h.length_eq (by simp)
 |a::l,b::m,hf,h,h1,h2=>by
  have h1':=al1.mp h1;have h2':=al1.mp h2;have e:a=b:=by
   have ha:a∈b::m:=h.mem_iff.mp (by simp);have hb:b∈a::l:=h.mem_iff.mpr (by simp);obtain e|ha:=ϴ.mp ha
   .exact e
   .obtain e|hb:=ϴ.mp hb
    .exact e.symm
    .have x1:bV cs os a b=true:=h1'.1 b hb;have x2:bV cs os b a=true:=h2'.1 a ha;have ka:=eZ (hf a (by simp)) ϻ;have kb:=eZ (hf b (by simp[hb])) ϻ;have x3:Ϥ os (aJ cs os a.2) (aJ cs os a.2) a.1 a.1=true:=uX ka kb ka x1 x2;rw[Cd (Wt cs os a.2)]at x3;exact absurd (of_decide_eq_true x3) (by omega)
  subst e;rw[yC ϻ (λr hr=>hf r (by simp[hr])) (List.Perm.cons_inv h) h1'.2 h2'.2]
def adP:Sp:=λvs H Q _=>∃n:Int,vs=[.int n]/\1<=n/\n<=100/\Q .non H
theorem xY(T:Txt K mg):Def P w K mg base true 2 "ask_size" ["size"] adP:=by
 refine Ν T.xY ZR (λ_ _ _ _ _ H vs Q E hr h=>?_);intro X;obtain⟨n,rfl,h1,h2,q⟩:=h;have g1:=T.Z9;have D1:= @sE P w K mg base T;refine ς (Ψ ?_);walk_at"ex";refine⟨_,rfl,rfl,?_⟩;rw[show nR (V.int n)=true from rfl];walk_at"ex";refine Ε (λ_=>?_) (λh=>absurd h1 h);walk_at"ex";refine jg (λh=>absurd h2 h) (λ_=>?_);exact Γ q
theorem Gn{α:Type}:∀{m:List (Int×α)}{p:Int×α},(m.map (·.1)).Nodup->p∈m->Ξ m p.1=some p.2
 |q::m,p,hn,hp=>by
  have hn':=ajw.mp hn;obtain rfl|hp:=ϴ.mp hp
  .unfold Ξ;rw[List.find?_cons,decide_eq_true rfl];rfl
  .have Ϲ:¬q.1=p.1:=λe=>hn'.1 (acQ.mpr ⟨p,hp,e.symm⟩)
   have ih:=Gn hn'.2 hp;unfold Ξ at ih⊢;rw[List.find?_cons,decide_eq_false Ϲ];exact ih
theorem aep{rows:List (Int×List V)}{ks:List Int}(hn:(rows.map (·.1)).Nodup)(h:ks.Perm (rows.map (·.1))):(d8 rows ks).Perm rows:=by
 have h1:(d8 rows ks).Perm (d8 rows (rows.map (·.1))):=h.map _;have h2:d8 rows (rows.map (·.1))=rows:=by
  unfold d8;rw[agn];have:rows.map ((λk=>(k,(Ξ rows k).getD []))∘λx=>x.1)=rows.map id:=anm λp hp=>by
   show(p.1,(Ξ rows p.1).getD [])=p;rw[Gn hn hp];rfl
  rw[this,aoB]
 rw[h2]at h1;exact h1
def ahb(K:Ϩ):Sp:=λvs H Q _=>∃(a:δ)(ns:List Int)(k:Int),vs=[.ref a,.int k]/\η K H a (ns.map V.int)/\ns.length<=63/\0<=k/\k<=40000/\∀n:Int,1<=n->n<=100->Q (.int n) H
theorem CJ(T:Txt K mg):Def P w K mg base true 2 "_law_some_size" ["_law_script","_law_k"] (ahb K):=by
 refine Ν T.CJ Rw (λ_ _ A _ _ H vs Q E hr h=>?_);intro X;obtain⟨a,ns,k,rfl,hS,hl,hk0,hk1,q⟩:=h;have nd:=Rw.nd;have D1:= @fu P w K mg base T;walk_at"A";refine⟨a,ns,k,8,rfl,hS,hl,by omega,by omega,by decide,?_⟩;generalize ϒ ns k 8=way;refine ξ (Ψ ?_);walk_at"ex";refine Ε (λ_=>?_) (λ_=>?_)
 .refine ς (Ζ ?_);walk_at"ex";exact q 100 (by decide) (by decide)
 refine Γ (ς (Ζ ?_));walk_at"ex";refine Ε (λ_=>?_) (λ_=>?_)
 .walk_at "ex";refine⟨a,ns,k+1,30,rfl,hS,hl,by omega,by omega,by decide,?_⟩;have h0:=aQ ns (k+1) (m:=30) (by decide);have h1:=aU ns (k+1) (m:=30) (by decide);walk_at"ex";exact q _ (by omega) (by omega)
 .walk_at "ex";refine⟨a,ns,k+1,4,rfl,hS,hl,by omega,by omega,by decide,?_⟩;have h0:=aQ ns (k+1) (m:=4) (by decide);have h1:=aU ns (k+1) (m:=4) (by decide);walk_at"ex";exact q _ (by omega) (by omega)
theorem aiU{cs:List ο}{xs:List V}(h:ω (λ(c:ο) x=>ϕ c.2 x) cs xs):∀{sv:cR},pX cs sv->Hv xs sv
 |.all,_=>trivial
 |.none p,hg=>by
   have:=h.len;show p<xs.length;have hg':p<cs.length:=hg;omega
 |.look l p v,hg=>by
   obtain⟨c,hc,hv,Ϲ,hh⟩:=hg;obtain⟨x,hx,nZ⟩:=h.get hc;refine⟨x,hx,?_⟩;obtain e|⟨ek,i,rfl,_⟩|⟨ek,y,rfl,_⟩:=nZ
   .exact .inl e
   .right;obtain e|⟨_,j,rfl,_⟩|⟨e2,_⟩:=hv
    .exact absurd e Ϲ
    .cases l with
     |holds=>rw[hh rfl]at ek;exact absurd ek (by decide+kernel)
     |is=>exact⟨rfl,rfl,.inr (.inr (.inl ⟨i,j,rfl,rfl⟩))⟩
     |under=>exact⟨rfl,rfl,.inr (.inr (.inl ⟨i,j,rfl,rfl⟩))⟩
     |over=>exact⟨rfl,rfl,.inr (.inr (.inl ⟨i,j,rfl,rfl⟩))⟩
    .exact absurd ek e2
   .right;obtain e|⟨e2,_⟩|⟨_,z,rfl,_⟩:=hv
    .exact absurd e Ϲ
    .exact absurd e2 ek
    .cases l with
     |holds=>exact⟨y,z,rfl,rfl⟩
     |is=>exact⟨rfl,rfl,.inr (.inr (.inr ⟨y,z,rfl,rfl⟩))⟩
     |under=>exact⟨rfl,rfl,.inr (.inr (.inr ⟨y,z,rfl,rfl⟩))⟩
     |over=>exact⟨rfl,rfl,.inr (.inr (.inr ⟨y,z,rfl,rfl⟩))⟩
theorem mW{cs:List ο}{xs:List V}(h:ω (λ(c:ο) x=>ϕ c.2 x) cs xs):∀{t:Tr},cH cs t->jl xs t
 |.one s,hg=>aiU h hg
 |.nt t,hg=>mW h (t:=t) hg
 |.bo t u,hg=>⟨mW h hg.1,mW h hg.2⟩
 |.ei t u,hg=>⟨mW h hg.1,mW h hg.2⟩
def gK(b:Bool)(q:δ)(H H':Hp)(v:V)(r:Row):=∃t l,v=.ref t/\H t=none/\H l=none/\l≠q/\H' t=some (.tup [.int r.1,.ref l,.bl b])/\H' l=some (.lst r.2)
theorem gK.same{b:Bool}{q:δ}{H H' H2:Hp}{v:V}{r:Row}(h:gK b q H H' v r)(s:ζ H' H2):gK b q H H2 v r:=by
 obtain⟨t,l,e,h1,h2,h0,h3,h4⟩:=h;exact⟨t,l,e,h1,h2,h0,s _ _ h3,s _ _ h4⟩
def cz(ls:List Row)(i n:Nat):List Row:=(ls.drop i).take n
def dJ(ls:List Row)(k n:Int):Nat:=min (k*n).toNat ls.length
theorem HH(xs:List V)(i n:Nat)(hi:i<=xs.length):gA xs (some (i:Int)) (some ((i:Int)+(n:Int)))=(xs.drop i).take n:=by
 unfold gA;rw[show(i:Int)+(n:Int)=((i+n:Nat):Int)by omega,HT.mL,HT.mL,aiE hi];by_cases h:i+n<=xs.length
 .rw[aiE h,show i+n-i=n by omega]
 .rw[amM (by omega),agN (by rw[afw];omega),agN (by rw[afw];omega)]
def Ag(K:Ϩ)(mg:Str->Option ε)(t:Tr):Sp:=λvs H Q _=>∃(A:BA)(B:Bk)(zo:Str)(n k:Int)(os:List Ord),vs=[.ref A.b,.str zo,.str (Str.join " " (wT (Β B.heads) t)),.int n,.int k]/\ Τ (cB mg) H A B/\ϓ B.heads=true/\B.rows.length<64/\(B.rows.map (·.1)).Nodup/\(∀r∈B.rows,ak B.heads r)/\zo.length<=4000/\lC B.heads zo=some os/\os.length<=4/\cJ B.heads os/\cH B.heads t/\t.dep<=20/\(wT (Β B.heads) t).length<=60/\1<=n/\n<=100/\0<=k/\H (aP K "sorted_by")=some (.tbl gM)/\
 ∀p q ls ws H',ζ H H'->Line B.heads os ls->ls.Perm (B.rows.filter λr=>Ϙ r.2 t)->H p=none->H q=none->H' p=some (.tup [.ref q,.non,.non,.int (ls.length:Nat),.int (dJ ls k n:Nat),.int B.now])->H' q=some (.lst ws)->ω (gK true q H H') ws (cz ls (dJ ls k n) n.toNat)->Q (.ref p) H'
theorem abg{rows:List Row}{f:Row->Bool}(h:(rows.map Prod.fst).Nodup):((rows.filter f).map Prod.fst).Nodup:=List.Nodup.sublist (List.Sublist.map _ (an7 ..)) h
theorem xN(T:Txt K mg)(hN:gR K mg base "sorted_by")(t:Tr):Def P w K mg base true (10+2*t.dep) "leaf_by_place" ["book","order","sieve","size","number"] (Ag K mg t):=by
 rw[show 10+2*t.dep=(9+2*t.dep)+1 by omega];refine Ν T.xN K7 (λf Ϻ A' outer s H vs Q E hr h=>?_);intro X;obtain⟨A,B,zo,n,k,os,rfl,kB,hok,hrl,hrn,hfit,hzo,Gx,CK,ϻ,hgt,hdp,wH,hn1,hn2,hk0,hP,q⟩:=h;have nd:=K7.nd;have n1:=T.bR;have n2:=T.BZ;have hsz:=ϱ;obtain⟨c1,c6⟩:=m9 hok;have bj:(["row","values"]:List Str).Nodup:=by decide+kernel
 have D1:= @yM P w K mg base T;have D2:= @aaq P w K mg base T t;have D3:= @xY P w K mg base T;have D4:= @BP P w K mg base T t;have D5:Def P w K mg base true 8 "line_of" ["columns","order","rows"] (R8 K):=Ef T hN;have M1:aF P w K mg base true 2 (cB mg) "now_rows" ["self"] (BV mg):=(Y8 T).meth T.aW T.agh;have M2:aF P w K mg base true 1 (cB mg) "moment" ["self"] (El mg Bk.now):=(aib T).meth T.aW T.TQ;have M3:aF P w K mg base true 1 (cB mg) "columns" ["self"] (Ai mg):=(ZL T).meth T.aW T.abn;have hw:=jq hok hgt;have IK:ϥ 32 (Str.join " " (wT (Β B.heads) t))=wT (Β B.heads) t:=Jy (Ib (Β B.heads) t) λz hz=>(hw z hz).2.1
 have lX:(Str.join " " (wT (Β B.heads) t)).length<=3000:=by
  have h1:=vO (wT (Β B.heads) t) 21 λp hp=>(hw p hp).1
  have h2:=tY (wT (Β B.heads) t);omega
 have hrd:Reads B.heads (wT (Β B.heads) t) t 0 (wT (Β B.heads) t).length:=by
  have:=nu hok (ws:=wT (Β B.heads) t) (t:=t) (s:=0) ⟨[],by simp⟩ (by omega) hgt;rw[anq]at this;exact this
 refine ξ ?_;walk_at"s";refine Bo (pl:=_) hr Χ ?_;walk_at"e";refine⟨A.b,cB mg,A.dx,_,true,1,_,Ai mg,rfl,kB.ins,by rfl,M3,by omega,id,A,B,rfl,kB,λc H1 s1 hc0 hC=>?_⟩;walk_at"A";refine⟨c,B.heads,zo,rfl,hC,hzo,(λH' _ e=>by rw[Gx]at e;cases e),λb os' H2 s2 e hb0 hO=>?_⟩;rw[Gx]at e;cases e;have jf:=s1.trans s2;walk_at"A";refine⟨c,B.heads,_,rfl,hC.same s2,lX,by rw[IK];exact λy hy=>by have:=(hw y hy).1;omega,hdp,by rw[IK];exact hrd,λv H3 s3 hv=>?_⟩;generalize bU (ϥ 32 (Str.join " " (wT (Β B.heads) t))) 0 (ϥ 32 (Str.join " " (wT (Β B.heads) t))).length=zz at hv;have bz:=jf.trans s3;refine ξ (au ?_);walk_at"ex";refine⟨n,rfl,hn1,hn2,?_⟩;walk_at"A";refine Bo (pl:=_) hr Χ ?_;walk_at"e";refine⟨A.b,cB mg,A.dx,_,true,2,_,BV mg,rfl,(kB.same bz).ins,by rfl,M1,by omega,id,A,B,rfl,kB.same bz,hrl,λp1 ys ks H4 s4 hp1 hks hso ac1 hys=>?_⟩;have hpm:=aep hrn hks;have Jp:uA H4 p1 (d8 B.rows ks):=⟨ys,ac1,hys.imp λu r z=>by
  obtain⟨t,l,e,h1,h2,_⟩:=z;exact⟨t,l,e,h1,h2⟩⟩
 generalize d8 B.rows ks=rs at hpm Jp;have hrs:rs.length=B.rows.length:=hpm.length_eq;have hfr:∀r∈rs,ak B.heads r:=λr hr=>hfit r (hpm.mem_iff.mp hr)
 walk_at"ex";refine⟨v,p1,zz,rs,rfl,hv.same s4,Jp,by omega,λr hr=>mW (hfr r hr) hgt,λp2 ws2 H5 s5 hp2 hp2' hA5=>?_⟩;have Cr:=s4.trans s5;have BK:=bz.trans Cr;have HS:uA H5 p2 (rs.filter λr=>Ϙ r.2 t):=⟨ws2,hp2',hA5.imp λu r z=>z.row s5⟩;have hpf:(rs.filter λr=>Ϙ r.2 t).Perm (B.rows.filter λr=>Ϙ r.2 t):=hpm.filter _;have hfl:(rs.filter λr=>Ϙ r.2 t).length<=rs.length:=aiz ..;have Um:(rs.map Prod.fst).Nodup:=(hpm.map Prod.fst).nodup_iff.mpr hrn;have hff:((rs.filter λr=>Ϙ r.2 t).map Prod.fst).Nodup:=abg Um;have Kw:∀r∈rs.filter λr=>Ϙ r.2 t,ak B.heads r:=λr hr=>hfr r (aia.mp hr).1
 generalize rs.filter (λr=>Ϙ r.2 t)=fs at HS hpf hfl hff Kw;walk_at"ex";refine⟨c,b,p2,B.heads,os,fs,rfl,hC.same ((s2.trans s3).trans Cr),hO.same (s3.trans Cr),HS,c6,by omega,ϻ,by omega,Kw,hff,BK _ _ hP,λln lw ls H6 s6 iW zX PL hL aH=>?_⟩;have s06:=BK.trans s6;have aj5:=aH.trans hpf;have qz:=PL.len;have hll:ls.length=fs.length:=aH.length_eq;refine ξ ?_;walk_at"s";have JN:η K H6 ln lw:=η.of zX;walk_at"ex";refine DY ?_;have hkn:0<=k*n:=aoI hk0 (by omega);have e6:(if(lw.length:Int)<k*n then(lw.length:Int)else k*n)=((dJ ls k n:Nat):Int):=by
  unfold dJ;rw[qz];split
  .rw[amM (by omega)]
  .rw[aiE (by omega)];omega
 rw[e6];have hpl:dJ ls k n<=ls.length:=anG ..;generalize pH:dJ ls k n=i at hpl;refine ξ ?_;refine vA ["row","values"] (σ':=[none,none]) (cC (ρ xU)) nd ?_;walk_at"ex";obtain⟨m,rfl⟩:=adz (show 0<=n by omega);refine BR JN λp3 hp3=>?_
 rw[HH lw i m (by omega)];obtain⟨s7,e7⟩:=ϙ hp3 (.lst ((lw.drop i).take m));generalize upd H6 p3 (.lst ((lw.drop i).take m))=H7 at s7 e7⊢;have hsl:ω (dj ln H5 H6) ((lw.drop i).take m) (cz ls i m):=(PL.drop i).take m;have YM:=hsl.len;have Vg:(cz ls i m).length<=ls.length:=by unfold cz;rw[ae1,afw];omega
 have Be:=s06.trans s7;refine⟨p3,_,rfl,η.of e7,by omega,λτ=>∃o1 o2,τ=[o1,o2],λE2 j u H'=>u≠.ref E2/\∃r,(cz ls i m)[j]?=some r/\(∃t l,u=.ref t/\H t=none/\H l=none/\H' t=some (.tup [.int r.1,.ref l,.bl true])/\H6 l=some (.lst r.2)),⟨none,none,rfl⟩,λE2 j u H2 H3 ys hE hk p=>?_,λfp E2 C s3 H0 j τ x H4 H5 cX hi hτ Ρ hys hG=>?_,λq0 H8 us hq0 Tj Dr e8 s8=>?_⟩
 .obtain⟨h0,r,hr,t,l,e,h1,h2,h3,h4⟩:=p;exact⟨h0,r,hr,t,l,e,h1,h2,hk _ _ (λz=>by rw[z,hE]at h3;cases h3) h3,h4⟩
 .obtain⟨o1,o2,rfl⟩:=hτ;obtain⟨cV,rfl⟩:=hG;obtain⟨r,hr,tr,lr,rfl,akQ,aaC,_,htr,hlr⟩:=hsl.get cV;obtain⟨ys,hys⟩:=hys;refine bM (ψ.of ((s7.trans Ρ) _ _ htr)) (ϖ (Ο bj (by rfl) (.inl rfl) (.inr rfl) (ϖ (Ο bj (by rfl) (.inl rfl) (.inr rfl) (bJ ?_)))));walk_at"ex";refine⟨by show 3<=ϩ;omega,λt2 bD=>?_⟩;refine⟨⟨_,_,rfl⟩,⟨λz=>?_,r,hr,t2,lr,rfl,(Be.trans Ρ).free bD,BK.free aaC,υ,hlr⟩,ζ.upd bD⟩;injection z with z
  rw[z,hys]at bD;cases bD
 have wk:=Be.trans s8;have QZ:=s7.trans s8;have hus:ω (gK true q0 H H8) us (cz ls i m):=mH (by omega) λj r hr=>by
  have hj:j<us.length:=by have:=(aae.mp hr).1;omega
  obtain⟨_,r',hr',t,l,e,h1,h2,h3,h4⟩:=Dr j _ (ϳ hj);rw[hr]at hr';cases hr';exact⟨_,ϳ hj,t,l,e,h1,h2,(λz=>by rw[z]at h4;have:=s7 _ _ h4;rw[hq0]at this;cases this),h3,QZ _ _ h4⟩
 refine ς (Ζ ?_);have sq8:η K H8 ln lw:=QZ.seq JN;walk_at"ex";refine Bo (pl:=_) hr Χ ?_;walk_at"e";refine⟨A.b,cB mg,A.dx,_,true,1,_,El mg Bk.now,rfl,(kB.same wk).ins,by rfl,M2,by omega,id,A,B,rfl,kB.same wk,?_⟩;walk_at"ex";refine⟨by show 6<=ϩ;omega,λp9 hp9=>?_⟩;have s9:ζ H8 (upd H8 p9 (.tup [.ref q0,.non,.non,.int (lw.length:Nat),.int (i:Nat),.int B.now])):=ζ.upd hp9;have e9:(upd H8 p9 (.tup [.ref q0,.non,.non,.int (lw.length:Nat),.int (i:Nat),.int B.now])) p9=some (.tup [.ref q0,.non,.non,.int (ls.length:Nat),.int (dJ ls k m:Nat),.int B.now]):=by rw[pH, <-qz];exact υ
 refine q p9 q0 ls us _ (wk.trans s9) hL aj5 (wk.free hp9) (Be.free hq0) e9 (s9 _ _ e8) ?_;rw[pH];exact hus.imp λu r z=>z.same s9
theorem _root_.Vl.Out.seq{S:List δ}{H H':Hp}{a:δ}{xs:List V}(o:Out S H H')(ha:a∉S)(h:η K H a xs):η K H' a xs:=by
 rcases h with(h|⟨u,h⟩)|h
 .exact .inl (.inl (o _ _ ha h))
 .exact .inl (.inr ⟨u,o _ _ ha h⟩)
 .exact .inr h
theorem aho{H:Hp}{a:δ}{xs:List V}(h:η K H a xs):H a≠none\/∀H',η K H' a xs:=by
 rcases h with(h|⟨u,h⟩)|h
 .exact .inl (by rw[h];nofun)
 .exact .inl (by rw[h];nofun)
 .exact .inr λ_=>.inr h
theorem ud{L:List δ}(h:L.Nodup)(is js:List Nat)(hd:∀i∈is,i∉js):∀x∈is.filterMap (λi=>L[i]?),x∉js.filterMap (λi=>L[i]?):=by
 intro x hx hy;obtain⟨i,hi,ei⟩:=akD.mp hx;obtain⟨j,hj,ej⟩:=akD.mp hy;have hil:=(aae.mp ei).1;have hjl:=(aae.mp ej).1;have e1:=(aae.mp ei).2;have e2:=(aae.mp ej).2;have hij:i=j:=by
  have hp:=akF.mp h;obtain z|z|z:=Nat.lt_trichotomy i j
  .exact absurd (e1.trans e2.symm) (hp i j hil hjl z)
  .exact z
  .exact absurd (e2.trans e1.symm) (hp j i hjl hil z)
 subst hij;exact hd i hi hj
def NT(H:Hp)(S:List δ):=∀x∈S,∀ys,H x≠some (.tup ys)
theorem NT.tup{H H':Hp}{S:List δ}(h:NT H S)(o:Out S H H'):∀b ys,H b=some (.tup ys)->H' b=some (.tup ys):=λb ys e=>o b _ (λz=>h b z ys e) e
def _root_.Vl.BA.six(A:BA):List δ:=[A.h,A.r,A.t,A.d,A.b,A.dx]
theorem _root_.Vl.Τ.Fw{C:δ}{H:Hp}{A:BA}{B:Bk}(k:Τ C H A B):A.six.Nodup:=by
 obtain⟨n1,n2,n3,n4,n5,n6,n7,n8,n9,n10,rN,n12⟩:=k.ne;have n13:=k.rt;have n14:=k.hd;have n15:A.h≠A.dx:=λe=>by
  obtain⟨_,h3,_⟩:=k.heads;have h2:=k.own;rw[e,h2]at h3;cases h3
 simp only[BA.six,List.nodup_cons,List.mem_cons,List.not_mem_nil,or_false,not_or,not_false_eq_true,List.nodup_nil,and_true];exact⟨⟨Ne.symm n7,Ne.symm n10,n14,Ne.symm n2,n15⟩,⟨n13,n8,Ne.symm n3,n6⟩,⟨rN,Ne.symm n4,n9⟩,⟨Ne.symm n5,n12⟩,n1⟩
theorem _root_.Vl.Τ.J6{C:δ}{H:Hp}{A:BA}{B:Bk}(k:Τ C H A B):∀x∈A.six,H x≠none:=by
 intro x hx;have hx':x=A.h\/x=A.r\/x=A.t\/x=A.d\/x=A.b\/x=A.dx:=by simpa [BA.six]using hx
 obtain⟨_,h3,_⟩:=k.heads;obtain⟨_,h4,_⟩:=k.rows;obtain⟨_,h5,_⟩:=k.touched;obtain⟨_,h6,_⟩:=k.done;obtain rfl|rfl|rfl|rfl|rfl|rfl:=hx'
 .rw[h3];nofun
 .rw[h4];nofun
 .rw[h5];nofun
 .rw[h6];nofun
 .rw[k.ins];nofun
 .rw[k.own];nofun
theorem WR{A:BA}{x:δ}(hx:x∈[A.b,A.dx,A.h,A.r,A.t,A.d]):x∈A.six:=by
 have hx':x=A.b\/x=A.dx\/x=A.h\/x=A.r\/x=A.t\/x=A.d:=by simpa using hx
 obtain rfl|rfl|rfl|rfl|rfl|rfl:=hx'<;>simp[BA.six]
theorem _root_.Vl.Τ.out{C:δ}{H H':Hp}{A:BA}{B:Bk}{S:List δ}(k:Τ C H A B)(o:Out S H H')(nt:NT H S)(h6:∀x∈A.six,x∉S):Τ C H' A B:=
 k.stay (nt.tup o) λx u hx e=>o x u (h6 x (WR hx)) e
theorem _root_.Vl.ϋ.out{H H':Hp}{a:δ}{cs:List ο}{S:List δ}(h:ϋ H a cs)(o:Out S H H')(nt:NT H S)(ha:a∉S):ϋ H' a cs:=h.stay (λxs e=>o _ _ ha e) (nt.tup o)
theorem made{C:δ}{H H':Hp}{y dx:δ}{A:BA}(hy:H y=none)(hdx:H dx=none)(eb:A.b=y)(yJ:A.dx=dx)(f1:(upd (upd H dx (.own y)) y (.ins C dx [])) A.h=none)(f2:(upd (upd H dx (.own y)) y (.ins C dx [])) A.r=none)(f3:(upd (upd H dx (.own y)) y (.ins C dx [])) A.t=none)(f4:(upd (upd H dx (.own y)) y (.ins C dx [])) A.d=none)(o:Out [y] (upd (upd H dx (.own y)) y (.ins C dx [])) H'):ζ H H'/\∀x∈A.six,H x=none:=by
 have sm:ζ H (upd (upd H dx (.own y)) y (.ins C dx [])):=λb u e=>by
  rw[θ (λz=>by rw[z,hy]at e;cases e),θ (λz=>by rw[z,hdx]at e;cases e)];exact e
 refine⟨λb u e=>o b u (λz=>by rw[adY.mp z,hy]at e;cases e) (sm b u e),λx hx=>?_⟩;have hx':x=A.h\/x=A.r\/x=A.t\/x=A.d\/x=A.b\/x=A.dx:=by simpa [BA.six]using hx
 obtain rfl|rfl|rfl|rfl|rfl|rfl:=hx'
 .exact sm.free f1
 .exact sm.free f2
 .exact sm.free f3
 .exact sm.free f4
 .rw[eb];exact hy
 .rw[yJ];exact hdx
def LR(F:List δ)(H:Hp)(v:V)(xs:List V):=∃l,v=.ref l/\H l=some (.lst xs)/\l∉F
def XR(F:List δ)(H:Hp)(a:δ)(m:List (Int×List V)):Prop:=DictAt (LR F H) H a m
theorem LR.stay{F:List δ}{H H':Hp}{v:V}{xs:List V}(h:LR F H v xs)(s:∀b ys,b∉F->H b=some (.lst ys)->H' b=some (.lst ys)):LR F H' v xs:=by
 obtain⟨l,e,h1,h2⟩:=h;exact⟨l,e,s _ _ h2 h1,h2⟩
def je(cs:List ο)(xs:List V):Prop:=ω (λc x=>ϕ c.2 x) cs xs
def stK(r s:δ)(n:Int):List (Key×V):=[(Sum.inr ("rows":Str),.ref r),(Sum.inr ("since":Str),.ref s),(Sum.inr ("moment":Str),.int n)]
theorem key_ne:¬(Sum.inr ("rows":Str):Key)=Sum.inr ("since":Str)/\¬(Sum.inr ("rows":Str):Key)=Sum.inr ("moment":Str)/\¬(Sum.inr ("since":Str):Key)=Sum.inr ("moment":Str):=by
 refine⟨?_,?_,?_⟩<;>intro e<;>injection e with e<;>exact absurd e (by decide+kernel)
theorem WD(r s:δ)(n:Int):Ϝ (stK r s n) (Sum.inr ("rows":Str))=some (.ref r):=lJ rfl
theorem ahg(r s:δ)(n:Int):Ϝ (stK r s n) (Sum.inr ("since":Str))=some (.ref s):=by
 unfold stK;rw[lB key_ne.1,lJ rfl]
theorem ajq(r s:δ)(n:Int):Ϝ (stK r s n) (Sum.inr ("moment":Str))=some (.int n):=by
 unfold stK;rw[lB key_ne.2.1,lB key_ne.2.2,lJ rfl]
theorem YQ(r s:δ)(n m:Int):putK (stK r s n) (Sum.inr ("moment":Str)) (.int m)=stK r s m:=by
 unfold putK stK;simp[key_ne.2.1,key_ne.2.2]
theorem aip(r s:δ):jA [] [(Sum.inr ("rows":Str),V.ref r),(Sum.inr ("since":Str),V.ref s),(Sum.inr ("moment":Str),V.int 0)]=stK r s 0:=by
 simp[jA,putK,stK,key_ne.1,key_ne.2.1,key_ne.2.2]
theorem lZ{H:Hp}{d r s:δ}{n:Int}(e:H d=some (.dK (stK r s n))):ϟ H d (.str ("rows":Str)) (some (.ref r)):=by
 have:=ϟ.k (k:=Sum.inr ("rows":Str)) e;rw[WD]at this;exact this
theorem Rx{H:Hp}{d r s:δ}{n:Int}(e:H d=some (.dK (stK r s n))):ϟ H d (.str ("since":Str)) (some (.ref s)):=by
 have:=ϟ.k (k:=Sum.inr ("since":Str)) e;rw[ahg]at this;exact this
theorem wA{H:Hp}{d r s:δ}{n:Int}(e:H d=some (.dK (stK r s n))):ϟ H d (.str ("moment":Str)) (some (.int n)):=by
 have:=ϟ.k (k:=Sum.inr ("moment":Str)) e;rw[ajq]at this;exact this
theorem Sh{H:Hp}{d r s:δ}{n m:Int}(e:H d=some (.dK (stK r s n))):dq H d (.str ("moment":Str)) (.int m) (upd H d (.dK (stK r s m))):=by
 have:=dq.k (k:=Sum.inr ("moment":Str)) (v:=.int m) e (by have hsz:ϩ=16777216:=ϱ;rw[hsz];show 3<16777216;decide);rw[YQ]at this;exact this
structure ϑ(mg:Str->Option ε)(F:List δ)(A:BA)(d r s:δ)(H:Hp)(B:Bk)(n:Int)(m:List (Int×List V))(sn:List (Int×Int)):Prop where
 bk:Τ (cB mg) H A B
 st:H d=some (.dK (stK r s n))
 ro:XR F H r m
 si:DictAt uC H s sn
structure gH(A:BA)(d r s:δ)(F:List δ):Prop where
 nd:[A.h,A.r,A.t,A.d,A.b,A.dx,d,r,s].Nodup
 inF:∀x∈d::r::s::A.fp,x∈F
section
variable{F:List δ}{A:BA}{d r s:δ}{H H':Hp}{B B':Bk}{n:Int}{m m':List (Int×List V)}{sn QW:List (Int×Int)}
theorem ϑ.same(h:ϑ mg F A d r s H B n m sn)(sm:ζ H H'):ϑ mg F A d r s H' B n m sn:=by
 obtain⟨k1,e1,h1⟩:=h.ro;obtain⟨k2,e2,h2⟩:=h.si;exact⟨h.bk.same sm,sm _ _ h.st,⟨k1,sm _ _ e1,eO h1 λv x z=>z.stay λb ys _ e=>sm _ _ e⟩,⟨k2,sm _ _ e2,h2⟩⟩
theorem ϑ.dicts(h:ϑ mg F A d r s H B n m sn):∀x∈[d,r,s],∃Ϸ,H x=some (.dK Ϸ):=by
 obtain⟨k1,e1,_⟩:=h.ro;obtain⟨k2,e2,_⟩:=h.si;intro x hx;have hx':x=d\/x=r\/x=s:=by simpa using hx
 obtain rfl|rfl|rfl:=hx'
 .exact⟨_,h.st⟩
 .exact⟨_,e1⟩
 .exact⟨_,e2⟩
theorem ϑ.Cj(ap:gH A d r s F)(h:ϑ mg F A d r s H B n m sn){x:δ}{o:HO}(hx:x∈[d,r,s]):Τ (cB mg) (upd H x o) A B:=by
 obtain⟨Ϸ,e⟩:=h.dicts x hx;refine h.bk.out (S:=[x]) (Out.upd (by simp)) (λy hy ys z=>by rw[adY.mp hy,e]at z;cases z) λy hy hz=>?_
 rw[adY.mp hz]at hy;exact ud ap.nd [0,1,2,3,4,5] [6,7,8] (by decide) x hy hx
theorem ϑ.ne(ap:gH A d r s F):d≠r/\d≠s/\r≠s:=by
 have h1:=ud ap.nd [6] [7,8] (by decide) d (by simp);have h2:=ud ap.nd [7] [8] (by decide) r (by simp);exact⟨λe=>h1 (by simp[e]),λe=>h1 (by simp[e]),λe=>h2 (by simp[e])⟩
theorem ϑ.setM(ap:gH A d r s F)(h:ϑ mg F A d r s H B n m sn)(n':Int):ϑ mg F A d r s (upd H d (.dK (stK r s n'))) B n' m sn:=by
 obtain⟨n1,n2,n3⟩:=ϑ.ne ap;obtain⟨k1,e1,h1⟩:=h.ro;obtain⟨k2,e2,h2⟩:=h.si;refine⟨h.Cj ap (by simp),υ,⟨k1,by rw[θ (Ne.symm n1)];exact e1,eO h1 λv x z=>z.stay λb ys hb e=>?_⟩,⟨k2,by rw[θ (Ne.symm n2)];exact e2,h2⟩⟩;rw[θ (λz=>hb (by rw[z];exact ap.inF _ (by simp)))];exact e
theorem ϑ.ni(ap:gH A d r s F)(h:ϑ mg F A d r s H B n m sn){Ϸ:List (Key×V)}(hk:ω (PR (LR F H)) Ϸ m'):ϑ mg F A d r s (upd H r (.dK Ϸ)) B n m' sn:=by
 obtain⟨n1,n2,n3⟩:=ϑ.ne ap;obtain⟨k2,e2,h2⟩:=h.si;refine⟨h.Cj ap (by simp),by rw[θ n1];exact h.st,⟨Ϸ,υ,eO hk λv x z=>z.stay λb ys hb e=>?_⟩,⟨k2,by rw[θ (Ne.symm n3)];exact e2,h2⟩⟩;rw[θ (λz=>hb (by rw[z];exact ap.inF _ (by simp)))];exact e
theorem ϑ.La(ap:gH A d r s F)(h:ϑ mg F A d r s H B n m sn){Ϸ:List (Key×V)}(hk:ω (PR uC) Ϸ QW):ϑ mg F A d r s (upd H s (.dK Ϸ)) B n m QW:=by
 obtain⟨n1,n2,n3⟩:=ϑ.ne ap;obtain⟨k1,e1,h1⟩:=h.ro;refine⟨h.Cj ap (by simp),by rw[θ n2];exact h.st,⟨k1,by rw[θ n3];exact e1,eO h1 λv x z=>z.stay λb ys hb e=>?_⟩,⟨Ϸ,υ,hk⟩⟩;rw[θ (λz=>hb (by rw[z];exact ap.inF _ (by simp)))];exact e
theorem ϑ.book(ap:gH A d r s F)(h:ϑ mg F A d r s H B n m sn)(o:Out A.fp H H')(k:Τ (cB mg) H' A B'):ϑ mg F A d r s H' B' n m sn:=by
 have hn:=ud ap.nd [6,7,8] [4,1,2,3] (by decide);obtain⟨k1,e1,h1⟩:=h.ro;obtain⟨k2,e2,h2⟩:=h.si;refine⟨k,o _ _ (hn d (by simp)) h.st,⟨k1,o _ _ (hn r (by simp)) e1,eO h1 λv x z=>z.stay λb ys hb e=>o _ _ (λz=>hb (ap.inF _ (by simp[z]))) e⟩,⟨k2,o _ _ (hn s (by simp)) e2,h2⟩⟩
end
theorem Ua{H:Hp}{a d:δ}{xs:List V}{Ϸ:List (Key×V)}{o:HO}(h:η K H a xs)(e:H d=some (.dK Ϸ)):η K (upd H d o) a xs:=by
 rcases h with(h|⟨u,h⟩)|h
 .exact .inl (.inl (by rw[θ (λz=>by rw[z,e]at h;cases h)];exact h))
 .by_cases z:a=d
  .rw[z,e]at h;cases h
  .exact .inl (.inr ⟨u,by rw[θ z];exact h⟩)
 .exact .inr h
theorem VN{H:Hp}{a d:δ}{cs:List ο}{Ϸ:List (Key×V)}{o:HO}(h:ϋ H a cs)(e:H d=some (.dK Ϸ)):ϋ (upd H d o) a cs:=by
 refine h.stay (λxs e2=>?_) (λb ys e2=>?_)
 .rw[θ (λz=>by rw[z,e]at e2;cases e2)];exact e2
 .rw[θ (λz=>by rw[z,e]at e2;cases e2)];exact e2
end
end K65
namespace K65
open PySem L2 PyProof.Rows My Vl Lw
section
variable{P:Ϯ}{w:Ϭ}{K:Ϩ}{mg:Str->Option ε}{base:ϫ}
def ahK:List ϧ->List ϧ
 |(.If _ t _ _)::_=>t
 |_=>[]
def bH:List Int:=[3,0,7,1000000000,12,5,1,999]
def uQ(sn:List (Int×Int))(row n:Int):Option (List V)->List (Int×Int)
 |none=>sn
 |some _=>bB sn row n
def ad0(K:Ϩ)(mg:Str->Option ε):Sp:=λvs H Q _=>∃(F:List δ)(A:BA)(B:Bk)(sc c d r s:δ)(ns:List Int)(k:Int)(sn:List (Int×Int)),vs=[.ref sc,.int k,.ref c,.ref A.b,.ref d]/\η K H sc (ns.map V.int)/\ns.length<=63/\0<=k/\k<=30000/\ϋ H c B.heads/\B.heads.length<=6/\ϑ mg F A d r s H B B.now B.rows sn/\gH A d r s F/\(∀x∈F,H x≠none)/\mJ B/\nj B/\sn.length<1000000/\(∀i xs,Ξ B.rows i=some xs->je B.heads xs)/\
 ∀row o H',row∈bH->(Ξ B.rows row=none->o≠none)->(∀xs,o=some xs->je B.heads xs)->Out (d::r::s::A.fp) H H'->ϑ mg F A d r s H' (aM B row o) (B.now+1) (aM B row o).rows (uQ sn row (B.now+1) o)->Q (.int row) H'
theorem xr(T:Txt K mg):Def P w K mg base true 7 "_law_deed" ["_law_script","_law_k","_law_columns_here","_law_book","_law_state"] (ad0 K mg):=by
 refine Ν T.xr Jd (λf Ϻ A' outer s0 H vs Q E hr h=>?_);intro X;obtain⟨F,A,B,sc,c,d,r,s,ns,k,sn,rfl,hS,hl,k0,k1,hC,h6,hL,ap,jh,hsm,hwf,hsn,aiK,q⟩:=h;have nd:=Jd.nd;have n2:=T.jb;have hsz:=ϱ;have hu1:_+1<cLine:=ae6 (afX (by decide:1<=64) _) hr.units;have D0:= @fu P w K mg base T;have D2:= @wD P w K mg base T;have M1:aF P w K mg base true 6 (cB mg) "put" ["self","row","values"] (pY mg):=(Oq T).meth T.aW T.Km;have M2:aF P w K mg base true 6 (cB mg) "change" ["self","row","values"] (Ez mg):=(Uq T).meth T.aW T.Vs;have M3:aF P w K mg base true 4 (cB mg) "take" ["self","row"] (Dc mg):=(VJ T).meth T.aW T.acK;walk_at"A";refine⟨by show 8<=ϩ;omega,λp hp=>?_⟩;obtain⟨aj,ep⟩:=ϙ hp (.lst (bH.map V.int));change EV _ _ _ (upd H p (.lst (bH.map V.int))) _;generalize upd H p (.lst (bH.map V.int))=H0 at aj ep⊢;walk_at"ex";refine⟨sc,ns,k,8,rfl,aj.seq hS,hl,by omega,by omega,by decide,?_⟩;have j0:=aQ ns k (m:=8) (by decide);have j1:=aU ns k (m:=8) (by decide);generalize ϒ ns k 8=jv at j0 j1⊢;obtain⟨j,rfl⟩:=adz j0;have hj:j<bH.length:=by show j<8;omega
 refine ϐ (η.of ep) (v:=.int bH[j]) (Ϛ (by rw[aa2,ϳ hj];rfl)) ?_;have hrow:bH[j]∈bH:=ahu hj;have dH:∀x∈bH,0<=x/\x<=1000000000:=by decide
 have dH:=dH _ hrow;generalize bH[j]=row at hrow dH⊢;walk_at"A";refine⟨sc,ns,k+1,5,rfl,aj.seq hS,hl,by omega,by omega,by decide,?_⟩;generalize ϒ ns (k+1) 5=way;have hL0:=hL.same aj;refine ξ (jP hu1 ?_);walk_at"ex";refine cu hu1 (wA hL0.st) ?_;walk_at"ex";refine⟨d,_,rfl,Sh hL0.st,?_⟩;have hL1:=hL0.setM ap (B.now+1);have hS1:η K (upd H0 d (.dK (stK r s (B.now+1)))) sc (ns.map V.int):=Ua (aj.seq hS) hL0.st;have Jt:ϋ (upd H0 d (.dK (stK r s (B.now+1)))) c B.heads:=VN (hC.same aj) hL0.st;have o1:Out (d::r::s::A.fp) H (upd H0 d (.dK (stK r s (B.now+1)))):=(Out.of aj).trans (Out.upd (by simp));have yX:∀x,(upd H0 d (.dK (stK r s (B.now+1)))) x=none->x∉F:=λx e hx=>by
  by_cases z:x=d
  .rw[z,υ]at e;cases e
  .rw[θ z]at e;exact jh x hx (aj.free e)
 generalize upd H0 d (.dK (stK r s (B.now+1)))=H1 at hL1 hS1 Jt o1 yX⊢;obtain⟨Ϸ,er,hR⟩:=id hL1.ro;have hkl:=hR.len;have qm:∀{H2 H3:Hp},Out A.fp H2 H3->Out (d::r::s::A.fp) H2 H3:=λo=>o.mono λx hx=>by simp[hx]
 have g1:=ϟ.k (k:=Sum.inl row) er
 have tail:∀(v:δ)(xs:List V)(H3:Hp),je B.heads xs->Out (d::r::s::A.fp) H H3->ϑ mg F A d r s H3 (aM B row (some xs)) (B.now+1) B.rows sn->H3 v=some (.lst xs)->v∉F->
   Κ X ((ϗ pK).drop 6) {nx:=λ_ H'=>Q .non H',rt:=Q} [some (.ref sc),some (.int k),some (.ref c),some (.ref A.b),some (.ref d),some (.int row),some (.int way),some (.ref v)] H3:=by
  intro v xs H3 hok o3 lK hv iT;obtain⟨kJ,vB,qL⟩:=id lK.ro;have ak9:=qL.len;refine ξ (jP hu1 ?_);walk_at"ex";refine cu hu1 (lZ lK.st) ?_;walk_at"ex";refine⟨r,_,rfl,dq.k (k:=Sum.inl row) vB (by have:=hsm.1;omega),?_⟩;have eF:ϑ mg F A d r s (upd H3 r (.dK (putK kJ (Sum.inl row) (.ref v)))) (aM B row (some xs)) (B.now+1) (aM B row (some xs)).rows sn:=lK.ni ap (pC qL row ⟨v,rfl,hv,iT⟩);have o4:Out (d::r::s::A.fp) H (upd H3 r (.dK (putK kJ (Sum.inl row) (.ref v)))):=o3.trans (Out.upd (by simp));generalize upd H3 r (.dK (putK kJ (Sum.inl row) (.ref v)))=H4 at eF o4⊢;obtain⟨kv4,Xy,jo⟩:=id eF.si;have amD:=jo.len;refine ξ (jP hu1 ?_);walk_at"ex";refine cu hu1 (wA eF.st) ?_;walk_at"ex";refine cu hu1 (Rx eF.st) ?_;walk_at"ex";refine⟨s,_,rfl,dq.k (k:=Sum.inl row) Xy (by omega),?_⟩;have jX:ϑ mg F A d r s (upd H4 s (.dK (putK kv4 (Sum.inl row) (.int (B.now+1))))) (aM B row (some xs)) (B.now+1) (aM B row (some xs)).rows (uQ sn row (B.now+1) (some xs)):=eF.La ap (pC jo row rfl);refine ς (Ζ ?_);walk_at"ex";exact q row (some xs) _ hrow (λ_=>by simp) (λys e=>by cases e;exact hok) (o4.trans (Out.upd (by simp))) jX
 have rest:Κ X ((ϗ pK).drop 4) {nx:=λ_ H'=>Q .non H',rt:=Q} [some (.ref sc),some (.int k),some (.ref c),some (.ref A.b),some (.ref d),some (.int row),some (.int way),none] H1:=by
  walk_at"A";refine⟨sc,ns,k+2,c,B.heads,rfl,hS1,hl,by omega,by omega,Jt,h6,λv xs H2 s2 hv0 hv hall=>?_⟩;have iT:=yX v hv0;have hL2:=hL1.same s2;have xO:=hL2.bk;have o2:=o1.trans (Out.of s2);have g2:=ϟ.k (k:=Sum.inl row) (s2 _ _ er);refine ξ (Ψ ?_);walk_at"ex";refine cu hu1 (lZ hL2.st) ?_;refine ym hu1 g2 ?_;obtain⟨e1,e2⟩|⟨u,x,e1,e2,lu,rfl,hlu,alw⟩:=iV hR row
  .rw[show(Ϝ Ϸ (Sum.inl row)).isSome=false by rw[e1];rfl];walk_at"ex";refine ς (au ?_);refine bZ (pl:=_) hr Χ (h:=?_);walk_at"e";refine⟨A.b,cB mg,A.dx,_,true,6,_,pY mg,rfl,xO.ins,by rfl,M1,by decide,id,?_⟩;walk_at"ex";refine gD (.inl (η.of hv)) λb hb=>?_
   obtain⟨cN,eb⟩:=ϙ hb (.lst xs);generalize upd H2 b (.lst xs)=H8 at cN eb⊢;walk_at"ex";refine⟨A,B,row,b,xs,rfl,xO.same cN,eb,h6,⟨dH.1,dH.2,hall⟩,hsm,λz=>absurd e2 z,λ_ H3 o3 k3=>?_⟩;exact tail v xs H3 hall ((o2.trans (Out.of cN)).trans (qm o3)) ((hL2.same cN).book ap o3 k3) (o3 _ _ (λz=>iT (ap.inF _ (by simp[z]))) (cN _ _ hv)) iT
  .rw[show(Ϝ Ϸ (Sum.inl row)).isSome=true by rw[e1];rfl];walk_at"ex";have chg:∀(v2:δ)(ys:List V)(H5:Hp),je B.heads ys->ζ H2 H5->H5 v2=some (.lst ys)->v2∉F->Κ X ((ahK ((ϗ pK).drop 5)).drop 1) {nx:=λσ' H'=>Κ X ((ϗ pK).drop 6) {nx:=λ_ H'=>Q .non H',rt:=Q} σ' H',rt:=Q} [some (.ref sc),some (.int k),some (.ref c),some (.ref A.b),some (.ref d),some (.int row),some (.int way),some (.ref v2)] H5:=by
    intro v2 ys H5 hok s5 hv2 RK;refine ς (au ?_);refine bZ (pl:=_) hr Χ (h:=?_);walk_at"e";refine⟨A.b,cB mg,A.dx,_,true,6,_,Ez mg,rfl,(xO.same s5).ins,by rfl,M2,by decide,id,?_⟩;walk_at"ex";refine gD (.inl (η.of hv2)) λb hb=>?_
    obtain⟨cN,eb⟩:=ϙ hb (.lst ys);generalize upd H5 b (.lst ys)=H8 at cN eb⊢;walk_at"ex";refine⟨A,B,row,b,ys,rfl,(xO.same s5).same cN,eb,h6,⟨dH.1,dH.2,hok⟩,hsm,(λz=>by rw[e2]at z;cases z),λ_ H3 o3 k3=>?_⟩;exact tail v2 ys H3 hok (((o2.trans (Out.of s5)).trans (Out.of cN)).trans (qm o3)) (((hL2.same s5).same cN).book ap o3 k3) (o3 _ _ (λz=>RK (ap.inF _ (by simp[z]))) (cN _ _ hv2)) RK
   refine ξ (Ψ ?_);walk_at"ex";refine Ε (λh=>?_) (λh=>?_)
   .refine ς ?_;walk_at"s";walk_at"ex";refine cu hu1 (lZ hL2.st) ?_;walk_at"ex";refine cu hu1 (v:=.ref lu) (by rw[e1]at g2;exact g2) ?_;walk_at"ex";refine gD (.inl (η.of (s2 _ _ hlu))) λv2 hv2=>?_
    exact chg v2 x _ (aiK row x e2) (ζ.upd hv2) υ (yX v2 (s2.free hv2))
   .exact Γ (chg v xs H2 hall (ζ.refl _) hv iT)
 refine ξ (Ψ ?_);walk_at"ex";refine cu hu1 (lZ hL1.st) ?_;refine ym hu1 g1 ?_;obtain⟨e1,e2⟩|⟨u,x,e1,e2,_⟩:=iV hR row
 .rw[show(Ϝ Ϸ (Sum.inl row)).isSome=false by rw[e1];rfl];walk_at"ex";exact Γ rest
 .rw[show(Ϝ Ϸ (Sum.inl row)).isSome=true by rw[e1];rfl];walk_at"ex";refine Ε (λh=>?_) (λh=>?_)
  .refine ξ (au ?_);refine bZ (pl:=_) hr Χ (h:=?_);walk_at"e";refine⟨A.b,cB mg,A.dx,_,true,4,_,Dc mg,rfl,hL1.bk.ins,by rfl,M3,by decide,id,?_⟩;walk_at"ex";refine⟨A,B,row,rfl,hL1.bk,dH.1,dH.2,hsm,hwf,(λz=>by rw[e2]at z;cases z),λ_ H3 o3 k3=>?_⟩;have lK:=hL1.book ap o3 k3;obtain⟨kJ,vB,qL⟩:=id lK.ro;refine ξ (au (zx ?_));walk_at"ex";refine cu hu1 (lZ lK.st) ?_;refine⟨r,rfl,.inl ⟨_,.inl vB⟩,?_⟩;walk_at"ex";have Vj:∃v,Ϝ kJ (Sum.inl row)=some v:=by
    obtain⟨_,z⟩|⟨u,y,z,_⟩:=iV qL row
    .rw[e2]at z;cases z
    .exact⟨u,z⟩
   obtain⟨vv,xQ⟩:=Vj;refine⟨kJ,Sum.inl row,vv,vB,rfl,xQ,?_⟩;have eF:ϑ mg F A d r s (upd H3 r (.dK (dU kJ (Sum.inl row)))) (aM B row none) (B.now+1) (aM B row none).rows sn:=lK.ni ap (xX qL row);refine ς (Ζ ?_);walk_at"ex";exact q row none _ hrow (λz=>by rw[e2]at z;cases z) (λys e=>by cases e) ((o1.trans (qm o3)).trans (Out.upd (by simp))) eF
  .exact Γ rest
theorem GC{α:Type}[BEq α][LawfulBEq α]:∀{l m:List α},l.Nodup->(∀x∈l,x∈m)->l.length<=m.length
 |[],m,_,_=>afS _
 |a::r,m,h,s=>by
  have h':=ajw.mp h;have ha:=s a (aek ..);have hle:=GC (l:=r) (m:=m.erase a) h'.2 λx hx=>(List.mem_erase_of_ne (λe=>h'.1 (by subst e;exact hx))).mpr (s x (acV _ hx))
  rw[List.length_erase_of_mem ha]at hle;have:=List.length_pos_of_mem ha;rw[List.length_cons];omega
structure cQ(cs:List ο)(ks:List Int)(B:Bk)(sn:List (Int×Int))(i:Nat):Prop where
 heads:B.heads=cs
 known:B.known=0
 nd:(B.rows.map (·.1)).Nodup
 wf:nj B
 ok:∀p∈B.rows,je cs p.2
 keys:∀k∈B.rows.map (·.1),k∈ks
 tl:B.touched.length<=i
 dl:B.done.length<=i
 sl:sn.length<=i
 now:B.now=(i:Int)
 si:∀j x,Ξ B.touched j=some x->Ξ sn j=some x
theorem Rb{α:Type}{m:List (Int×α)}{i:Int}{x:α}{p:Int×α}(h:p∈bB m i x):p∈m\/p=(i,x):=by
 unfold bB at h;split at h
 .obtain⟨q,hq,e⟩:=acQ.mp h;split at e
  .next e2=>exact .inr (by rw[<-e,e2])
  .exact .inl (by rw[<-e];exact hq)
 .obtain h|h:=adT.mp h
  .exact .inl h
  .exact .inr (adY.mp h)
theorem Qy{α:Type}(m:List (Int×α))(i:Int)(x:α):(bB m i x).length<=m.length+1:=by
 unfold bB;split
 .rw[aaf];omega
 .rw[ab7,ad5];omega
theorem afT{α:Type}(m:List (Int×α))(i:Int):(di m i).length<=m.length:=aiz ..
theorem nj.deed{B:Bk}(h:nj B)(row:Int)(o:Option (List V)):nj (aM B row o):=λi=>by
 cases o with
 |none=>
  show Ξ (di B.rows row) i=none↔ Ξ (di B.touched row) i=none;rw[CQ,CQ];by_cases e:i=row
  .rw[if_pos e,if_pos e];exact⟨λ_=>rfl,λ_=>rfl⟩
  .rw[if_neg e,if_neg e];exact h i
 |some xs=>
  show Ξ (bB B.rows row xs) i=none↔ Ξ (bB B.touched row (B.now+1)) i=none;rw[Gg,Gg];by_cases e:i=row
  .rw[if_pos e,if_pos e];exact⟨(λz=>by cases z),(λz=>by cases z)⟩
  .rw[if_neg e,if_neg e];exact h i
theorem cQ.deed{cs:List ο}{ks ks':List Int}{B:Bk}{sn:List (Int×Int)}{i:Nat}(h:cQ cs ks B sn i){row:Int}{o:Option (List V)}(hs:∀k∈ks,k∈ks')(hr:row∈ks')(ho:∀xs,o=some xs->je cs xs):cQ cs ks' (aM B row o) (uQ sn row (B.now+1) o) (i+1):=by
 have h1:=h.tl;have h2:=h.dl;have h3:=h.sl;have h4:=h.now;have hd:(aM B row o).done.length<=i+1:=by
  show(B.done++[_]).length<=i+1;rw[ab7,ad5];omega
 have hn:(aM B row o).now=((i+1:Nat):Int):=by
  show B.now+1=_;omega
 cases o with
 |none=>
  refine⟨h.heads,h.known,ae8 h.nd,h.wf.deed row none,λp hp=>h.ok p (aia.mp hp).1,λk hk=>?_,?_,hd,by show sn.length<=i+1;omega,hn,λj x e=>?_⟩
  .obtain⟨p,hp,rfl⟩:=acQ.mp hk;exact hs _ (h.keys _ (acQ.mpr ⟨p,(aia.mp hp).1,rfl⟩))
  .show(di B.touched row).length<=i+1;have:=afT B.touched row;omega
  .have e':Ξ (di B.touched row) j=some x:=e;rw[CQ]at e';split at e'
   .cases e'
   .exact h.si j x e'
 |some xs=>
  refine⟨h.heads,h.known,ae4 h.nd,h.wf.deed row (some xs),λp hp=>?_,λk hk=>?_,?_,hd,?_,hn,λj x e=>?_⟩
  .obtain hp|hp:=Rb hp
   .exact h.ok p hp
   .rw[hp];exact ho xs rfl
  .obtain⟨p,hp,rfl⟩:=acQ.mp hk;obtain hp|hp:=Rb hp
   .exact hs _ (h.keys _ (acQ.mpr ⟨p,hp,rfl⟩))
   .rw[hp];exact hr
  .show(bB B.touched row (B.now+1)).length<=i+1;have:=Qy B.touched row (B.now+1);omega
  .show(bB sn row (B.now+1)).length<=i+1;have:=Qy sn row (B.now+1);omega
  .have e':Ξ (bB B.touched row (B.now+1)) j=some x:=e;show Ξ (bB sn row (B.now+1)) j=some x;rw[Gg]at e'⊢;split at e'
   .rw[if_pos (by assumption)];exact e'
   .rw[if_neg (by assumption)];exact h.si j x e'
theorem cQ.get{cs:List ο}{ks:List Int}{B:Bk}{sn:List (Int×Int)}{i:Nat}(h:cQ cs ks B sn i):∀j xs,Ξ B.rows j=some xs->je B.heads xs:=λj xs e=>by
 rw[h.heads];exact h.ok _ (Wy e)
theorem cQ.len{cs:List ο}{ks:List Int}{B:Bk}{sn:List (Int×Int)}{i:Nat}(h:cQ cs ks B sn i):B.rows.length<=ks.length:=by
 have:=GC h.nd h.keys;rw[aaf]at this;exact this
theorem cQ.small{cs:List ο}{ks:List Int}{B:Bk}{sn:List (Int×Int)}{i:Nat}(h:cQ cs ks B sn i)(hi:i<1000000)(hk:ks.length<1000000):mJ B:=by
 have h1:=h.tl;have h2:=h.dl;have h3:=h.len;exact⟨by omega,by omega,by omega⟩
def gF(i:Nat):List Int:=(ady i).map λj=>2000+((j*7 % 23:Nat):Int)
def ou:List Int:=bH++gF 20
theorem ahf:∀i<20,(2000+((i*7 % 23:Nat):Int))∉bH++gF i:=by decide
theorem ϑ.live{F:List δ}{A:BA}{d r s:δ}{H:Hp}{B:Bk}{n:Int}{m:List (Int×List V)}{sn:List (Int×Int)}(h:ϑ mg F A d r s H B n m sn):∀x∈d::r::s::A.fp,(∃o,H x=some o/\∀ys,¬o=.tup ys):=λx hx=>by
 have hx':x∈[d,r,s]\/x∈A.fp:=by
  simp only[List.mem_cons,List.not_mem_nil,or_false]at hx⊢;obtain z|z|z|z:=hx
  .exact .inl (.inl z)
  .exact .inl (.inr (.inl z))
  .exact .inl (.inr (.inr z))
  .exact .inr z
 obtain hx|hx:=hx'
 .obtain⟨Ϸ,e⟩:=h.dicts x hx;exact⟨_,e,λys z=>by cases z⟩
 .obtain⟨fs,z⟩|⟨Ϸ,z⟩|⟨xs,z⟩:=h.bk.vd hx<;>exact⟨_,z,λys z=>by cases z⟩
def aeZ(K:Ϩ)(mg:Str->Option ε):Sp:=λvs H Q _=>∃(J:Bk->Prop)(A:BA)(sc c:δ)(ns:List Int)(many:Nat)(cs:List ο),vs=[.ref sc,.ref c,.ref A.b,.int (many:Nat)]/\η K H sc (ns.map V.int)/\ns.length<=63/\many<=40/\ϋ H c cs/\c∉A.fp/\((∀H',η K H' sc (ns.map V.int))\/sc∉A.fp)/\ϓ cs=true/\ Τ (cB mg) H A ⟨cs,[],[],[],0,0⟩/\J ⟨cs,[],[],[],0,0⟩/\(∀B row o,(Ξ B.rows row=none->o≠none)->(∀xs,o=some xs->je B.heads xs)->J B->J (aM B row o))/\
 ∀(d r s:δ)(B:Bk)(sn:List (Int×Int))(i:Nat) H',H d=none->H r=none->H s=none->Out A.fp H H'->ϑ mg (d::r::s::A.fp) A d r s H' B B.now B.rows sn->gH A d r s (d::r::s::A.fp)->cQ cs ou B sn i->many<=i->i<=many+20->J B->Q (.ref d) H'
theorem Ek(T:Txt K mg):Def P w K mg base true 8 "_law_begun" ["_law_script","_law_columns_here","_law_book","_law_many"] (aeZ K mg):=by
 refine Ν T.Ek RV (λf Ϻ A' outer s0 H vs Q E hr h=>?_);intro X;obtain⟨J,A,sc,c,ns,many,cs,rfl,hS,hl,amh,hC,hcA,ajt,hok,kB,j0,QX,q⟩:=h;have nd:=RV.nd;have n1:=T.mX;have n2:=T.ux;have n3:=T.jb;have hsz:=ϱ;have hu1:_+1<cLine:=ae6 (afX (by decide:1<=64) _) hr.units;obtain⟨c1,c6⟩:=m9 hok;have D0:= @fu P w K mg base T;have D2:= @wD P w K mg base T;have D3:= @xr P w K mg base T;have M1:aF P w K mg base true 6 (cB mg) "put" ["self","row","values"] (pY mg):=(Oq T).meth T.aW T.Km;refine ξ ?_;walk_at"s";refine W3 λd hd=>?_
 obtain⟨sd,ed⟩:=ϙ hd (.dK []);generalize upd H d (.dK [])=H1 at sd ed⊢;walk_at"e";refine uh λr hr1=>?_
 obtain⟨sr,er⟩:=ϙ hr1 (.dK []);generalize upd H1 r (.dK [])=H2 at sr er⊢;walk_at"e";refine uh λs hs2=>?_
 obtain⟨ss,es⟩:=ϙ hs2 (.dK []);generalize upd H2 s (.dK [])=H3 at ss es⊢;walk_at"e";walk_at"e";refine⟨(sr.trans ss) _ _ ed,Sum.inr ("rows":Str),Sum.inr ("since":Str),Sum.inr ("moment":Str),rfl,rfl,rfl,?_⟩;rw[aip];have bz:=(sd.trans sr).trans ss;have hr0:H r=none:=sd.free hr1;have hs0:H s=none:=(sd.trans sr).free hs2;have hdr:d≠r:=λe=>by rw[e]at ed;rw[ed]at hr1;cases hr1
 have hds:d≠s:=λe=>by have:=sr _ _ ed;rw[e,hs2]at this;cases this
 have hrs:r≠s:=λe=>by rw[e,hs2]at er;cases er
 have six:∀x∈A.six,H x≠none:=kB.J6;have Fw:=kB.Fw;have ap:gH A d r s (d::r::s::A.fp):=by
  refine⟨?_,λx hx=>hx⟩;have h1:([A.h,A.r,A.t,A.d,A.b,A.dx]++[d,r,s]).Nodup:=by
   refine am7.mpr ⟨Fw,by simp[hdr,hds,hrs],λa ha b hb e=>six a ha ?_⟩;rw[e];have hb':b=d\/b=r\/b=s:=by simpa using hb
   obtain rfl|rfl|rfl:=hb'
   .exact hd
   .exact hr0
   .exact hs0
  exact h1
 have o0:Out A.fp H (upd H3 d (.dK (stK r s 0))):=λb u hb e=>by
  rw[θ (λz=>by rw[z,hd]at e;cases e)];exact bz _ _ e
 have hL0:ϑ mg (d::r::s::A.fp) A d r s (upd H3 d (.dK (stK r s 0))) ⟨cs,[],[],[],0,0⟩ 0 [] []:=by
  refine⟨kB.stay (λb ys e=>?_) λx o hx e=>?_,υ,⟨[],?_,.nil⟩,⟨[],?_,.nil⟩⟩
  .rw[θ (λz=>by rw[z,hd]at e;cases e)];exact bz _ _ e
  .rw[θ (λz=>by rw[z,hd]at e;cases e)];exact bz _ _ e
  .rw[θ (Ne.symm hdr)];exact ss _ _ er
  .rw[θ (Ne.symm hds)];exact es
 have Za:cQ cs bH ⟨cs,[],[],[],0,0⟩ [] 0:=⟨rfl,rfl,by simp,λi=>by simp[Ξ],λp hp=>by simp at hp,λk hk=>by simp at hk,ϭ _,ϭ _,ϭ _,rfl,λj x e=>by simp[Ξ]at e⟩;have fr:∀x,H x≠none->x∉A.fp->x∉d::r::s::A.fp:=λx hx hA hm=>by
  simp only[List.mem_cons]at hm;obtain rfl|rfl|rfl|z:=hm
  .exact hx hd
  .exact hx hr0
  .exact hx hs0
  .exact hA z
 have oO:H c≠none:=by
  obtain⟨_,e,_⟩:=hC;rw[e];exact λz=>by cases z
 have hcF:=fr c oO hcA;have hsc:∀{H':Hp},Out A.fp H H'->η K H' sc (ns.map V.int):=λo=>by
  obtain z|z:=ajt
  .exact z _
  .exact o.seq z hS
 have Vu:NT H A.fp:=λx hx ys e=>by
  obtain⟨fs,z⟩|⟨Ϸ,z⟩|⟨xs,z⟩:=kB.vd hx<;>(rw[z]at e;cases e)
 have Ry:∀{H':Hp},Out A.fp H H'->ϋ H' c cs:=λo=>hC.out o Vu hcA
 have oA:∀{H1 H':Hp},Out A.fp H H1->Out (d::r::s::A.fp) H1 H'->Out A.fp H H':=λo1 o2 b u hb e=>o2 b u (fr b (by rw[e];exact λz=>by cases z) hb) (o1 b u hb e)
 generalize upd H3 d (.dK (stK r s 0))=H4 at o0 hL0⊢
 have rest:∀(B:Bk)(sn:List (Int×Int))(σ:List (Option V))(H5:Hp)(o5:Option V),σ=[some (.ref sc),some (.ref c),some (.ref A.b),some (.int (many:Nat)),some (.ref d),o5,none,none]->Out A.fp H H5->ϑ mg (d::r::s::A.fp) A d r s H5 B B.now B.rows sn->cQ cs bH B sn many->J B->
   Κ X ((ϗ Gd).drop 2) {nx:=λ_ H'=>Q .non H',rt:=Q} σ H5:=by
  intro B sn σ H5 o5 eσ o5' jX fZ jB;subst eσ;refine ξ (pO (by walk_at"po") (by rfl) (by rfl) n1 (by rfl) ?_);walk_at"ex";refine⟨sc,ns,590,12,rfl,hsc o5',hl,by decide,by decide,by decide,?_⟩;generalize ϒ ns 590 12=dv;walk_at"ex";refine dC abj (.inr ⟨_,rfl,?_⟩);walk_at"ex";have Ri:∃cnt:Nat,cnt<=20/\(20:Int)*(if decide (V.int dv=V.int 0)=true then 1 else 0)=(cnt:Int):=by
   by_cases z:V.int dv=V.int 0
   .exact⟨20,ϭ _,by rw[decide_eq_true z];rfl⟩
   .exact⟨0,by omega,by rw[decide_eq_false z];rfl⟩
  obtain⟨cnt,Ri,adN⟩:=Ri;rw[adN];refine⟨by omega,by omega,λi σ' H'=>(∃o5 o6 o7,σ'=[some (.ref sc),some (.ref c),some (.ref A.b),some (.int (many:Nat)),some (.ref d),o5,o6,o7])/\Out A.fp H H'/\∃B sn,ϑ mg (d::r::s::A.fp) A d r s H' B B.now B.rows sn/\cQ cs (bH++gF i) B sn (many+i)/\J B,
   ⟨⟨_,_,_,rfl⟩,o5',B,sn,jX,⟨fZ.heads,fZ.known,fZ.nd,fZ.wf,fZ.ok,λk hk=>agg _ (fZ.keys k hk),fZ.tl,fZ.dl,fZ.sl,fZ.now,fZ.si⟩,jB⟩,λi σ' H' hi hP=>?_,λσ' H' hP=>?_⟩
  .obtain⟨⟨o5,o6,o7,rfl⟩,oH,B,sn,hL,hD,jB⟩:=hP;have W2:i<20:=by omega
   have hnew:=ahf i W2;have hnone:Ξ B.rows (2000+((i*7 % 23:Nat):Int))=none:=Kg.mpr λz=>hnew (hD.keys _ z)
   have hrl:=hD.len;have hkl:(bH++gF i).length=8+i:=by rw[ab7];unfold gF;rw[aaf,af7];rfl
   refine Ο nd (by rfl) (.inl rfl) (.inl rfl) ?_;walk_at"A";rw[show(2000:Int)+(i:Int)*7 % 23=2000+((i*7 % 23:Nat):Int)by omega];have dH:(0:Int)<=2000+((i*7 % 23:Nat):Int)/\2000+((i*7 % 23:Nat):Int)<=1000000000:=by omega
   have hmem:(2000+((i*7 % 23:Nat):Int))∈bH++gF (i+1):=acp _ (by
    unfold gF;exact acQ.mpr ⟨i,by simp,rfl⟩)
   generalize 2000+((i*7 % 23:Nat):Int)=row at hnone dH hmem⊢;walk_at"A";refine⟨sc,ns,_,c,cs,rfl,hsc oH,hl,by omega,by omega,Ry oH,c6,λv xs H6 s6 hv0 hv hall=>?_⟩;have iT:v∉d::r::s::A.fp:=λz=>by
    obtain⟨o,e,_⟩:=hL.live v z;rw[e]at hv0;cases hv0
   refine ξ (jP hu1 ?_);refine bZ (pl:=_) hr Χ (h:=?_);walk_at"e";have vG:=hL.same s6;refine⟨A.b,cB mg,A.dx,_,true,6,_,pY mg,rfl,vG.bk.ins,by rfl,M1,by decide,id,?_⟩;walk_at"ex";refine gD (.inl (η.of hv)) λb hb=>?_
   obtain⟨cN,eb⟩:=ϙ hb (.lst xs);generalize upd H6 b (.lst xs)=H7 at cN eb⊢;have GZ:=vG.same cN;walk_at"ex";refine⟨A,B,row,b,xs,rfl,GZ.bk,eb,by rw[hD.heads];exact c6,⟨dH.1,dH.2,by rw[hD.heads];exact hall⟩,hD.small (by omega) (by omega),λz=>absurd hnone z,λ_ H8 o8 k8=>?_⟩;have hL8:=GZ.book ap o8 k8;walk_at"ex";refine⟨d,_,rfl,Sh hL8.st,?_⟩;have hL9:=hL8.setM ap (B.now+1);have qm:Out (d::r::s::A.fp) H7 H8:=o8.mono λx hx=>by simp[hx]
   have o9:Out A.fp H (upd H8 d (.dK (stK r s (B.now+1)))):=oA oH (((Out.of (s6.trans cN)).trans qm).trans (Out.upd (by simp)));have JL:(upd H8 d (.dK (stK r s (B.now+1)))) v=some (.lst xs):=by
    rw[θ (λz=>iT (by rw[z];simp))];exact o8 _ _ (λz=>iT (by simp[z])) (cN _ _ hv)
   generalize upd H8 d (.dK (stK r s (B.now+1)))=H9 at hL9 o9 JL⊢;obtain⟨Ep,er9,Ja⟩:=id hL9.ro;have alk:=Ja.len;refine ξ (jP hu1 ?_);walk_at"ex";refine cu hu1 (lZ hL9.st) ?_;walk_at"ex";refine⟨r,_,rfl,dq.k (k:=Sum.inl row) er9 (by omega),?_⟩;have rH:ϑ mg (d::r::s::A.fp) A d r s (upd H9 r (.dK (putK Ep (Sum.inl row) (.ref v)))) (aM B row (some xs)) (B.now+1) (aM B row (some xs)).rows sn:=hL9.ni ap (pC Ja row ⟨v,rfl,JL,iT⟩);have bL:Out A.fp H (upd H9 r (.dK (putK Ep (Sum.inl row) (.ref v)))):=oA o9 (Out.upd (by simp));generalize upd H9 r (.dK (putK Ep (Sum.inl row) (.ref v)))=iC at rH bL⊢;obtain⟨X6,aiw,Ld⟩:=id rH.si;have akC:=Ld.len;have hsl:=hD.sl;refine ς (jP hu1 ?_);walk_at"ex";refine cu hu1 (wA rH.st) ?_;walk_at"ex";refine cu hu1 (Rx rH.st) ?_;walk_at"ex";refine⟨s,_,rfl,dq.k (k:=Sum.inl row) aiw (by omega),?_⟩;have oV:ϑ mg (d::r::s::A.fp) A d r s (upd iC s (.dK (putK X6 (Sum.inl row) (.int (B.now+1))))) (aM B row (some xs)) (B.now+1) (aM B row (some xs)).rows (uQ sn row (B.now+1) (some xs)):=rH.La ap (pC Ld row rfl);refine⟨⟨_,_,_,rfl⟩,oA bL (Out.upd (by simp)),_,_,oV,?_,QX B row (some xs) (λ_=>by simp) (λys e=>by cases e;rw[hD.heads];exact hall) jB⟩;exact hD.deed (λk hk=>by
    obtain hk|hk:=adT.mp hk
    .exact agg _ hk
    .refine acp _ ?_;unfold gF at hk⊢;obtain⟨j,hj,e⟩:=acQ.mp hk;exact acQ.mpr ⟨j,by simp at hj⊢;omega,e⟩) hmem (λys e=>by cases e;exact hall)
  .obtain⟨⟨o5,o6,o7,rfl⟩,oH,B,sn,hL,hD,jB⟩:=hP;refine ς (Ζ ?_);walk_at"ex";have hsub:∀k∈bH++gF cnt,k∈ou:=λk hk=>by
    obtain hk|hk:=adT.mp hk
    .exact agg _ hk
    .refine acp _ ?_;unfold gF at hk⊢;obtain⟨j,hj,e⟩:=acQ.mp hk;exact acQ.mpr ⟨j,by simp at hj⊢;omega,e⟩
   have hct:(cnt:Int).toNat=cnt:=by omega
   exact q d r s B sn (many+cnt) H' hd hr0 hs0 oH hL ap ⟨hD.heads,hD.known,hD.nd,hD.wf,hD.ok,λk hk=>hsub k (by have:=hD.keys k hk;simpa [hct]using this),hD.tl,hD.dl,hD.sl,hD.now,hD.si⟩ (by omega) (by omega) jB
 refine ξ (pO (by walk_at"po") (by rfl) (by rfl) n1 (by rfl) ?_);walk_at"ex";refine⟨by omega,by omega,λi σ' H'=>(∃o5,σ'=[some (.ref sc),some (.ref c),some (.ref A.b),some (.int (many:Nat)),some (.ref d),o5,none,none])/\Out A.fp H H'/\∃B sn,ϑ mg (d::r::s::A.fp) A d r s H' B B.now B.rows sn/\cQ cs bH B sn i/\J B,⟨⟨none,rfl⟩,o0,_,[],hL0,Za,j0⟩,λi σ' H' hi hP=>?_,λσ' H' hP=>?_⟩
 .obtain⟨⟨o5,rfl⟩,oH,B,sn,hL,hD,jB⟩:=hP;have hi':i<many:=by omega
  have hsl:=hD.sl;refine Ο nd (by rfl) (.inl rfl) (.inl rfl) ?_;refine ς (au ?_);walk_at"ex";refine⟨d::r::s::A.fp,A,B,sc,c,d,r,s,ns,_,sn,rfl,hsc oH,hl,by omega,by omega,by rw[hD.heads];exact Ry oH,by rw[hD.heads];exact c6,hL,ap,(λx hx e=>by obtain⟨o,z,_⟩:=hL.live x hx;rw[e]at z;cases z),hD.small (by omega) (by show 8<1000000;decide),hD.wf,by omega,hD.get,λrow o H5 hrow hno vU o5' jX=>?_⟩;exact⟨⟨_,rfl⟩,oA oH o5',_,_,jX,hD.deed (λk hk=>hk) hrow (λxs e=>by rw[<-hD.heads];exact vU xs e),QX B row o hno vU jB⟩
 .obtain⟨⟨o5,rfl⟩,oH,B,sn,hL,hD,jB⟩:=hP;have hct:((many:Nat):Int).toNat=many:=by omega
  first
   |exact rest B sn _ H' o5 rfl oH hL hD jB
   |(rw[hct]at hD;exact rest B sn _ H' o5 rfl oH hL hD jB)
theorem ak.lay{cs:List ο}{r:Row}(h:ak cs r):∀x∈r.2,lH x=true/\∀z,x=.str z->gQ 4000 z:=by
 obtain⟨n,xs⟩:=r;have h':ω (λ(c:ο) x=>ϕ c.2 x) cs xs:=h;show ∀x∈xs,_;clear h;induction h' with
 |nil=>intro x hx;cases hx
 |cons r t ih=>
  intro x hx;obtain e|hx:=ϴ.mp hx
  .subst e;exact r.lH
  .exact ih x hx
structure Lv where
 rows:List Row
 len:Nat
 first:Nat
 now:Int
def DG(G:δ->Prop)(H:Hp)(v:V)(r:Row):=∃t l,v=.ref t/\H t=some (.tup [.int r.1,.ref l,.bl true])/\G l/\H l=some (.lst r.2)
def fG(Gq Gl:δ->Prop)(H:Hp)(v:V)(L:Lv):=∃p q ws,v=.ref p/\H p=some (.tup [.ref q,.non,.non,.int (L.len:Nat),.int (L.first:Nat),.int L.now])/\Gq q/\H q=some (.lst ws)/\ω (DG Gl H) ws L.rows
theorem fG.stay{Gq Gl:δ->Prop}{H H':Hp}{v:V}{L:Lv}(h:fG Gq Gl H v L)(t:∀b ys,H b=some (.tup ys)->H' b=some (.tup ys))(s:∀b ys,Gq b\/Gl b->H b=some (.lst ys)->H' b=some (.lst ys)):fG Gq Gl H' v L:=by
 obtain⟨p,q,ws,e,h1,h2,h3,h4⟩:=h;exact⟨p,q,ws,e,t _ _ h1,h2,s _ _ (.inl h2) h3,h4.imp λu r z=>by
  obtain⟨x,l,e,g1,g2,g3⟩:=z;exact⟨x,l,e,t _ _ g1,g2,s _ _ (.inr g2) g3⟩⟩
theorem fG.turn{Gq Gl Rn Ml:δ->Prop}{H:Hp}{v:V}{L:Lv}(h:fG Gq Gl H v L)(f:∀b ys,H b=some (.lst ys)->Gq b->Rn b)(g:∀b ys,H b=some (.lst ys)->Gl b->Ml b):fG Rn Ml H v L:=by
 obtain⟨p,q,ws,e,h1,h2,h3,h4⟩:=h;exact⟨p,q,ws,e,h1,f _ _ h3 h2,h3,h4.imp λu r z=>by
  obtain⟨x,l,e,g1,g2,g3⟩:=z;exact⟨x,l,e,g1,g _ _ g3 g2,g3⟩⟩
theorem agm{q:δ}{H H':Hp}{ws:List V}{rs:List Row}(h:ω (gK true q H H') ws rs):∃S:List δ,(∀x∈S,H x=none/\x≠q/\∃r∈rs,H' x=some (.lst r.2))/\ω (DG (λl=>H l=none/\l≠q/\l∈S) H') ws rs:=by
 induction h with
 |nil=>exact⟨[],(λx hx=>by cases hx),.nil⟩
 |cons r t ih=>
  obtain⟨S,hS,hA⟩:=ih;obtain⟨tt,l,e,h1,h2,h0,h3,h4⟩:=r;refine⟨l::S,λx hx=>?_,.cons ⟨tt,l,e,h3,⟨h2,h0,by simp⟩,h4⟩ (hA.imp λu r z=>?_)⟩
  .obtain rfl|hx:=ϴ.mp hx
   .exact⟨h2,h0,_,by simp,h4⟩
   .obtain⟨g1,g2,r,hr,g3⟩:=hS x hx;exact⟨g1,g2,r,by simp[hr],g3⟩
  .obtain⟨x,l,e,g1,g2,g3⟩:=z;exact⟨x,l,e,g1,⟨g2.1,g2.2.1,by simp[g2.2.2]⟩,g3⟩
def dY(r:Row):amX:=.tuple [.int r.1,.list (r.2.map dV),.bool true]
def jQ(L:Lv):amX:=.tuple [.list (L.rows.map dY),.none,.none,.int (L.len:Nat),.int (L.first:Nat),.int L.now]
theorem UG{cs:List ο}{G:δ->Prop}{H:Hp}{vs:List V}{rs:List Row}(h:ω (DG G H) vs rs)(g:∀r∈rs,ak cs r):cj K H vs (rs.map dY):=by
 induction h with
 |nil=>exact .nil
 |cons r t ih=>
  obtain⟨p,l,rfl,h1,_,h2⟩:=r;refine .cons (.tup (ψ.of h1) (.cons (.int _) (.cons (.lst (η.of h2) (HW ?_)) (.cons (.bl true) .nil)))) (ih λr hr=>g r (by simp[hr]));exact adM.mpr λx hx=>((g _ (by simp)).lay x hx).1
theorem pI{cs:List ο}{Gq Gl:δ->Prop}{H:Hp}{v:V}{L:Lv}(h:fG Gq Gl H v L)(g:∀r∈L.rows,ak cs r):RD K H v (jQ L):=by
 obtain⟨p,q,ws,rfl,h1,_,h3,h4⟩:=h;exact .tup (ψ.of h1) (.cons (.lst (η.of h3) (UG h4 g)) (.cons .non (.cons .non (.cons (.int _) (.cons (.int _) (.cons (.int _) .nil))))))
theorem NK{cs:List ο}:∀{rs:List Row},(∀r∈rs,ak cs r)->(PyData.list (rs.map dY)).canLay0=true
 |[],_=>rfl
 |r::rs,h=>by
  have ih:=NK (rs:=rs) λd hd=>h d (by simp[hd])
  have h1:(dY r).canLay0=true:=by
   show(true&&((PyData.list (r.2.map dV)).canLay0&&(true&&true)))=true;rw[Ny λx hx=>(h r (by simp)).lay x hx];rfl
  show((dY r).canLay0&&PyData.canLayAll0 (rs.map dY))=true;rw[h1];exact ih
theorem CG{cs:List ο}{L:Lv}(h:∀r∈L.rows,ak cs r):(jQ L).canLay0=true:=by
 show((PyData.list (L.rows.map dY)).canLay0&&(true&&(true&&(true&&(true&&(true&&true))))))=true;rw[NK h];rfl
theorem JV:∀rs:List Row,PyData.depthAll (rs.map dY)<=5
 |[]=>by show(0:Nat)<=5;omega
 |r::rs=>by
  have ih:=JV rs;have:=Hc r.2;have h1:(dY r).depth<=5:=by
   simp only[dY,PyData.depth,PyData.depthAll];omega
  show max (dY r).depth (PyData.depthAll (rs.map dY))<=5;omega
theorem xV(L:Lv):(jQ L).depth<=60:=by
 have:=JV L.rows;simp only[jQ,PyData.depth,PyData.depthAll];omega
def HeldAt(F Z:List δ)(H:Hp)(v:V)(e:List δ×Lv):=∃t f u,v=.ref t/\H t=some (.tup [f,u])/\fG (λq=>q∉F/\q∉Z) (λl=>l∉F/\l∈e.1) H f e.2/\fG (λq=>q∉F/\q∉Z) (λl=>l∉F/\l∉Z) H u e.2
def aA(es:List (List δ×Lv)):List δ:=(es.map Prod.fst).flatten
theorem ajA{es:List (List δ×Lv)}{e:List δ×Lv}{x:δ}(he:e∈es)(hx:x∈e.1):x∈aA es:=aoy.mpr ⟨e.1,acQ.mpr ⟨e,he,rfl⟩,hx⟩
theorem GQ{es:List (List δ×Lv)}{x:δ}(hx:x∈aA es):∃e∈es,x∈e.1:=by
 obtain⟨S,hS,h⟩:=aoy.mp hx;obtain⟨e,he,rfl⟩:=acQ.mp hS;exact⟨e,he,h⟩
structure d7(H0:Hp)(F:List δ)(cs:List ο)(H:Hp)(hd:δ)(hv:List V)(es:List (List δ×Lv)):Prop where
 hd:H hd=some (.lst hv)
 at_:ω (HeldAt F (aA es) H) hv es
 dis:es.Pairwise λa b=>∀x∈a.1,x∉b.1
 pL:∀e∈es,∀x∈e.1,x∉F/\H0 x=none/\∃ys,H x=some (.lst ys)/\ys.length<=6
 fit:∀e∈es,(∀r∈e.2.rows,ak cs r)/\e.2.rows.length<=1000
theorem HeldAt.stay{F Z:List δ}{H H':Hp}{v:V}{e:List δ×Lv}(h:HeldAt F Z H v e)(t:∀b ys,H b=some (.tup ys)->H' b=some (.tup ys))(s:∀b ys,b∉F->b∉Z\/b∈e.1->H b=some (.lst ys)->H' b=some (.lst ys)):HeldAt F Z H' v e:=by
 obtain⟨x,f,u,e1,h1,h2,h3⟩:=h;refine⟨x,f,u,e1,t _ _ h1,h2.stay t λb ys hb=>?_,h3.stay t λb ys hb=>?_⟩
 .obtain hb|hb:=hb
  .exact s b ys hb.1 (.inl hb.2)
  .exact s b ys hb.1 (.inr hb.2)
 .obtain hb|hb:=hb
  .exact s b ys hb.1 (.inl hb.2)
  .exact s b ys hb.1 (.inl hb.2)
theorem d7.stay{H0:Hp}{F:List δ}{cs:List ο}{H H':Hp}{hd:δ}{hv:List V}{es:List (List δ×Lv)}(h:d7 H0 F cs H hd hv es)(e:H' hd=some (.lst hv))(t:∀b ys,H b=some (.tup ys)->H' b=some (.tup ys))(s:∀b ys,b∉F->H b=some (.lst ys)->H' b=some (.lst ys)):d7 H0 F cs H' hd hv es:=
 ⟨e,h.at_.imp λv e z=>z.stay t λb ys hb _=>s b ys hb,h.dis,λe he x hx=>by
  obtain⟨h1,h2,ys,h3,h4⟩:=h.pL e he x hx;exact⟨h1,h2,ys,s _ _ h1 h3,h4⟩,h.fit⟩
theorem d7.same{H0:Hp}{F:List δ}{cs:List ο}{H H':Hp}{hd:δ}{hv:List V}{es:List (List δ×Lv)}(h:d7 H0 F cs H hd hv es)(s:ζ H H'):d7 H0 F cs H' hd hv es:=h.stay (s _ _ h.hd) (λ_ _ e=>s _ _ e) λ_ _ _ e=>s _ _ e
theorem d7.add{H0:Hp}{F:List δ}{cs:List ο}{H Hm H2:Hp}{hd:δ}{hv:List V}{es:List (List δ×Lv)}(h:d7 H0 F cs H hd hv es)(hdF:hd∈F)(hF:∀x∈F,H x≠none)(s0:∀x,H x=none->H0 x=none)(s1:ζ H Hm)(s2:ζ Hm H2){L:Lv}(hfit:∀r∈L.rows,ak cs r)(hlen:L.rows.length<=1000)(c6:cs.length<=6){t pf qf pu qu:δ}{wf wu:List V}(ht:H2 t=some (.tup [.ref pf,.ref pu]))(hpf:H2 pf=some (.tup [.ref qf,.non,.non,.int (L.len:Nat),.int (L.first:Nat),.int L.now]))(hqf:Hm qf=none)(lA:H2 qf=some (.lst wf))(hf:ω (gK true qf Hm H2) wf L.rows)(zW:H2 pu=some (.tup [.ref qu,.non,.non,.int (L.len:Nat),.int (L.first:Nat),.int L.now]))(GK:H qu=none)(Pr:Hm qu=some (.lst wu))(hu:ω (gK true qu H Hm) wu L.rows):∃S,d7 H0 F cs (upd H2 hd (.lst (hv++[.ref t]))) hd (hv++[.ref t]) (es++[(S,L)]):=by
 obtain⟨S,hS,hA⟩:=agm hf;refine⟨S,?_⟩;have s12:=s1.trans s2;have zs:aA (es++[(S,L)])=aA es++S:=by simp[aA]
 have tup:∀b ys,H2 b=some (.tup ys)->(upd H2 hd (.lst (hv++[.ref t]))) b=some (.tup ys):=λb ys e=>by
  rw[θ (λz=>by rw[z,s12 _ _ h.hd]at e;cases e)];exact e
 have lst:∀b ys,b∉F->H2 b=some (.lst ys)->(upd H2 hd (.lst (hv++[.ref t]))) b=some (.lst ys):=λb ys hb e=>by
  rw[θ (λz=>hb (by rw[z];exact hdF))];exact e
 have m6:∀b o,Hm b=some o->b∉S:=λb o e hb=>by
  have:=(hS b hb).1;rw[e]at this;cases this
 have uw:∀b,H b=none->b∉F:=λb e hb=>hF b hb e
 have Ff:∀b,H b=none->b∉aA es:=λb e hb=>by
  obtain⟨e',he,hx⟩:=GQ hb;obtain⟨_,_,ys,z,_⟩:=h.pL e' he b hx;rw[e]at z;cases z
 have mem:∀b,b∉aA es->b∉S->b∉aA (es++[(S,L)]):=λb h1 h2 hb=>by
  rw[zs]at hb;obtain hb|hb:=adT.mp hb
  .exact h1 hb
  .exact h2 hb
 refine⟨υ,ω.app ?_ (.cons ?_ .nil),?_,λe he x hx=>?_,λe he=>?_⟩
 .have hat:ω (HeldAt F (aA es) H) hv es:=h.at_;have hmem:∀{l:List V}{m:List (List δ×Lv)},ω (HeldAt F (aA es) H) l m->ω (HeldAt F (aA (es++[(S,L)])) (upd H2 hd (.lst (hv++[.ref t])))) l m:=λz=>z.imp λv e z=>by
   obtain⟨x,f,u,e1,h1,h2,h3⟩:=z;refine⟨x,f,u,e1,tup _ _ (s12 _ _ h1),?_,?_⟩
   .exact((h2.turn (λb ys hb g=>(⟨g.1,mem b g.2 (m6 b _ (s1 _ _ hb))⟩:b∉F/\b∉aA (es++[(S,L)]))) (λb ys hb g=>g)).stay (λ_ _ e=>s12 _ _ e) (λ_ _ _ e=>s12 _ _ e)).stay tup λb ys hb e=>lst b ys (by obtain z|z:=hb<;>exact z.1) e
   .exact((h3.turn (λb ys hb g=>(⟨g.1,mem b g.2 (m6 b _ (s1 _ _ hb))⟩:b∉F/\b∉aA (es++[(S,L)]))) (λb ys hb g=>(⟨g.1,mem b g.2 (m6 b _ (s1 _ _ hb))⟩:b∉F/\b∉aA (es++[(S,L)])))).stay (λ_ _ e=>s12 _ _ e) (λ_ _ _ e=>s12 _ _ e)).stay tup λb ys hb e=>lst b ys (by obtain z|z:=hb<;>exact z.1) e
  exact hmem hat
 .have M6:∀b,Hm b=none->b∉F:=λb e=>uw b (s1.free e)
  refine⟨t,.ref pf,.ref pu,rfl,tup _ _ ht,?_,?_⟩
  .have h1:fG (λq=>q∉F/\q∉aA (es++[(S,L)])) (λl=>l∉F/\l∈S) H2 (.ref pf) L:=⟨pf,qf,wf,rfl,hpf,⟨M6 _ hqf,mem _ (Ff _ (s1.free hqf)) λz=>(hS _ z).2.1 rfl⟩,lA,hA.imp λu r z=>by
    obtain⟨x,l,e,g1,g2,g3⟩:=z;exact⟨x,l,e,g1,⟨M6 _ g2.1,g2.2.2⟩,g3⟩⟩
   exact h1.stay tup λb ys hb e=>lst b ys (by obtain z|z:=hb<;>exact z.1) e
  .have h1:fG (λq=>q∉F/\q∉aA (es++[(S,L)])) (λl=>l∉F/\l∉aA (es++[(S,L)])) H2 (.ref pu) L:=⟨pu,qu,wu,rfl,zW,⟨uw _ GK,mem _ (Ff _ GK) (m6 _ _ Pr)⟩,s2 _ _ Pr,hu.imp λu r z=>by
    obtain⟨x,l,e,g1,g2,_,g3,g4⟩:=z;exact⟨x,l,e,s2 _ _ g3,⟨uw _ g2,mem _ (Ff _ g2) (m6 _ _ g4)⟩,s2 _ _ g4⟩⟩
   exact h1.stay tup λb ys hb e=>lst b ys (by obtain z|z:=hb<;>exact z.1) e
 .refine ang.mpr ⟨h.dis,by simp,λa ha b hb x hx=>?_⟩;have hb':b=(S,L):=by simpa using hb
  rw[hb'];obtain⟨_,_,ys,z,_⟩:=h.pL a ha x hx;exact m6 x _ (s1 _ _ z)
 .obtain he|he:=adT.mp he
  .obtain⟨h1,h2,ys,h3,h4⟩:=h.pL e he x hx;exact⟨h1,h2,ys,lst _ _ h1 (s12 _ _ h3),h4⟩
  .have he':e=(S,L):=by simpa using he
   rw[he']at hx;obtain⟨g1,g2,r,hr,g3⟩:=hS x hx;have:=(hfit r hr).len;have hx0:=uw _ (s1.free g1);exact⟨hx0,s0 _ (s1.free g1),r.2,lst _ _ hx0 g3,by omega⟩
 .obtain he|he:=adT.mp he
  .exact h.fit e he
  .have he':e=(S,L):=by simpa using he
   rw[he'];exact⟨hfit,hlen⟩
theorem U6{cs:List ο}{c:ο}:∀(i:Nat),c∈cs->eU cs c.1 i≠.non:=by
 induction cs with
 |nil=>intro i h;simp at h
 |cons d r ih=>
  intro i h;unfold eU;by_cases e:d.1=c.1
  .rw[if_pos e];intro z;cases z
  .rw[if_neg e];obtain z|z:=ϴ.mp h
   .subst z;exact absurd rfl e
   .exact ih (i+1) z
theorem Mt:("+":Str).cps.toList=[43]/\("-":Str).cps.toList=[45]/\(" ":Str).cps.toList=[32]/\("":Str).cps.toList=[]:=by decide+kernel
theorem ai6{x:Nat}{n:Str}:ώ (⟨#[x]⟩++n) (some 1) none=n:=by
 apply iu;rw[show(ώ (⟨#[x]⟩++n) (some 1) none).cps.toList=(⟨#[x]⟩++n:Str).cps.toList.drop 1 from zO _ 1,cT];rfl
theorem aje{cs:List ο}{o:Ord}{c:ο}(hc:c∈cs)(e:c.1=o.1):iM cs (aL o)=some o:=by
 obtain⟨n,up⟩:=o;have hp:eU cs n 0≠.non:=by rw[<-show c.1=n from e];exact U6 0 hc
 have key:∀x:Nat,(x=43\/x=45)->iM cs (⟨#[x]⟩++n)=some (n,decide (x=43)):=λx hx=>by
  unfold iM;rw[ai6];have h0:(⟨#[x]⟩++n:Str).cps.toList[0]?=some x:=by rw[cT];rfl
  rw[h0,if_pos ⟨by obtain z|z:=hx<;>simp[z],hp⟩];simp
 unfold aL;cases up with
 |true=>exact key 43 (.inl rfl)
 |false=>exact key 45 (.inr rfl)
theorem aeL{o:Ord}(h:32∉o.1.cps.toList):32∉(aL o).cps.toList:=by
 unfold aL;rw[cT];obtain⟨e1,e2,_⟩:=Mt;split
 .rw[e1];simpa using h
 .rw[e2];simpa using h
theorem aaN:∀{ps:List Str},Str.join " " ps=""->ps=[]\/ps=[Str.ofString ""]
 |[],_=>.inl rfl
 |[p],h=>.inr (by rw[show p="" from h])
 |p::q::r,h=>by
  have e:(Str.join " " (p::q::r)).cps.toList=jz 32 ((p::q::r).map λp=>p.cps.toList):=wF 32 _;rw[h]at e;have e2:([]:List Nat)=p.cps.toList++32::jz 32 ((q::r).map λp=>p.cps.toList):=e;have:=congrArg am6 e2;simp at this
theorem aas{cs:List ο}{os:List Ord}(hl:os.length<=4)(hn:(os.map Prod.fst).Nodup)(hc:∀o∈os,∃c∈cs,c.1=o.1)(hf:∀o∈os,32∉o.1.cps.toList):lC cs (dm os)=some os:=by
 unfold lC dm;by_cases h0:os=[]
 .subst h0;exact if_pos (by decide+kernel)
 .have h1:os.map aL≠[]:=by simpa using h0
  have hw:∀p∈os.map aL,32∉p.cps.toList:=λp hp=>by
   obtain⟨o,ho,rfl⟩:=acQ.mp hp;exact aeL (hf o ho)
  have Ϲ:os.map aL≠[Str.ofString ""]:=λe=>by
   have:Str.ofString ""∈os.map aL:=by rw[e];simp
   obtain⟨o,ho,e2⟩:=acQ.mp this;have e3:=congrArg (λz:Str=>z.cps.toList.length) e2;have e4:(aL o).cps.toList.length=1+o.1.cps.toList.length:=by
    unfold aL;rw[cT,ab7];obtain⟨l1,l2,_⟩:=Mt;split
    .rw[l1];rfl
    .rw[l2];rfl
   have e5:("":Str).cps.toList.length=0:=by decide+kernel
   have e3':(aL o).cps.toList.length=("":Str).cps.toList.length:=e3;rw[e4,e5]at e3';omega
  rw[if_neg (λz=>(aaN z).elim h1 Ϲ),Jy h1 hw,aaf,if_neg (by omega)];have hm:iJ (iM cs) (os.map aL)=some os:=by
   refine Nu (by simp) λi x y e1 e2=>?_
   rw[aa2,e2]at e1;have e1':aL y=x:=Option.some.inj e1;obtain⟨c,hcm,ec⟩:=hc y (aaJ e2);rw[<-e1'];exact aje hcm ec
  rw[hm];show(if(os.map Prod.fst).Nodup then some os else none)=some os;rw[if_pos hn]
theorem QV{cs:List ο}:∀{t:Tr},jK t->(wT (Β cs) t).length<=60/\t.dep<=1
 |.one .all,_=>⟨by show 1<=60;decide,by show 0<=1;decide⟩
 |.one (.none _),_=>⟨by show 2<=60;decide,by show 0<=1;decide⟩
 |.one (.look _ _ _),_=>⟨by show 3<=60;decide,by show 0<=1;decide⟩
 |.nt (.one .all),_=>⟨by show 2<=60;decide,by show 1<=1;decide⟩
 |.nt (.one (.none _)),_=>⟨by show 3<=60;decide,by show 1<=1;decide⟩
 |.nt (.one (.look _ _ _)),_=>⟨by show 4<=60;decide,by show 1<=1;decide⟩
 |.nt (.nt _),h=>h.elim
 |.nt (.bo _ _),h=>h.elim
 |.nt (.ei _ _),h=>h.elim
 |.bo _ _,h=>h.elim
 |.ei _ _,h=>h.elim
theorem IW{cs:List ο}(hc:ϓ cs=true){os:List Ord}(ϻ:cJ cs os)(h4:os.length<=4):(dm os).length<=100:=by
 have h1:=vO (os.map aL) 9 λp hp=>by
  obtain⟨o,ho,rfl⟩:=acQ.mp hp;obtain⟨c,hcm,e⟩:=ϻ o ho;have:=vZ (rR hc (z:=o.1) (acQ.mpr ⟨c,hcm,e⟩));have l1:("+":Str).length=1:=by decide+kernel
  have l2:("-":Str).length=1:=by decide+kernel
  unfold aL;rw[len_app];split <;>omega
 have h2:=tY (os.map aL);rw[aaf]at h1 h2;unfold dm;omega
theorem Jc{cs:List ο}(hc:ϓ cs=true){os:List Ord}(ϻ:cJ cs os)(h4:os.length<=4)(hn:(os.map Prod.fst).Nodup):lC cs (dm os)=some os:=aas h4 hn ϻ λo ho hm=>by
 obtain⟨c,hcm,e⟩:=ϻ o ho;have hn:=rR hc (z:=o.1) (acQ.mpr ⟨c,hcm,e⟩);unfold isName c7 at hn;rw[aaH,adM]at hn;exact absurd (of_decide_eq_true (hn.2 32 hm)) (by decide+kernel)
def Zq:List ϧ->List ϧ
 |(.For _ _ b _ _)::_=>b
 |_=>[]
def gq(ls:List Row)(k n now:Int):Lv:=⟨cz ls (dJ ls k n) n.toNat,ls.length,dJ ls k n,now⟩
theorem V9{F:List δ}{H:Hp}{Ϸ:List (Key×V)}{m:List (Int×List V)}(h:ω (PR (LR F H)) Ϸ m):iK H Ϸ m:=h.imp λkv p z=>by
 obtain⟨e,l,e2,e3,_⟩:=z;exact⟨e,l,e2,e3⟩
theorem ag1{H H':Hp}{v:V}{t:Tr}(h:aZ H v t)(s:∀x ys,H x=some (.tup ys)->H' x=some (.tup ys)):aZ H' v t:=aZ.stay s h
def yt(mg:Str->Option ε)(H0 H1:Hp)(A:BA)(d r s tx hd:δ)(cs:List ο)(os:List Ord)(t0:Tr)(n:Int)(nums:List Int)(pre:List (Option V))(i:Nat)(σ:List (Option V))(H:Hp):Prop:=
 (∃bL lz j4 kZ jd ji,σ=pre++[bL,lz,j4,kZ,jd,ji,none])/\Out (hd::d::r::s::A.fp) H1 H/\∃(B:Bk)(sn:List (Int×Int))(j:Nat)(hv:List V)(es:List (List δ×Lv)),ϑ mg (hd::d::r::s::A.fp) A d r s H B B.now B.rows sn/\cQ cs ou B sn j/\j<=40+i/\d7 H0 (hd::tx::d::r::s::A.six) cs H hd hv es/\es.length=i/\
  ∀e,es.getLast? =some e->∃ls kk,nums[i-1]?=some kk/\Line cs os ls/\ls.Perm (B.rows.filter λr=>Ϙ r.2 t0)/\e.2=gq ls kk n B.now
structure pU(K:Ϩ)(H0 H1:Hp)(A:BA)(a c d r s b tx hd:δ)(v:V)(ns:List Int)(cs:List ο)(os:List Ord)(t0:Tr):Prop where
 old:∀x∈hd::tx::d::r::s::A.six,H0 x=none
 mono:∀x,H1 x=none->H0 x=none
 live:∀x∈hd::tx::d::r::s::A.six,H1 x≠none
 nt:NT H1 (hd::d::r::s::A.fp)
 cF:c∉hd::d::r::s::A.fp
 bF:b∉hd::d::r::s::A.fp
 tF:tx∉hd::d::r::s::A.fp
 sF:(∀H',η K H' a (ns.map V.int))\/a∉hd::d::r::s::A.fp
 ap:gH A d r s (hd::d::r::s::A.fp)
 hdn:hd∉d::r::s::A.fp
 Hi:¬hd=A.h
 co:ϋ H1 c cs
 or:cP H1 b os
 sv:aZ H1 v t0
 tx:H1 tx=some (.lst [.str (dm os),.str (Str.join " " (wT (Β cs) t0))])
 sc:η K H1 a (ns.map V.int)
 tb:H1 (aP K "sorted_by")=some (.tbl gM)
 SM:H0 (aP K "sorted_by")≠none
 HF:aP K "sorted_by"∉hd::d::r::s::A.fp
 ok:ϓ cs=true
 o4:os.length<=4
 inc:cJ cs os
 Br:(os.map Prod.fst).Nodup
 sh:jK t0
 gd:cH cs t0
theorem pU.keep{H0 H1 H':Hp}{A:BA}{a c d r s b tx hd:δ}{v:V}{ns:List Int}{cs:List ο}{os:List Ord}{t0:Tr}(h:pU K H0 H1 A a c d r s b tx hd v ns cs os t0)(o:Out (hd::d::r::s::A.fp) H1 H'):ϋ H' c cs/\cP H' b os/\aZ H' v t0/\H' tx=some (.lst [.str (dm os),.str (Str.join " " (wT (Β cs) t0))])/\η K H' a (ns.map V.int)/\H' (aP K "sorted_by")=some (.tbl gM):=by
 have tup:=h.nt.tup o;refine⟨h.co.out o h.nt h.cF,?_,ag1 h.sv tup,o _ _ h.tF h.tx,?_,o _ _ h.HF h.tb⟩
 .obtain⟨ov,e1,e2⟩:=h.or;exact⟨ov,o _ _ h.bF e1,e2.imp λu k z=>by obtain⟨t,e,h⟩:=z;exact⟨t,e,tup _ _ h⟩⟩
 .obtain z|z:=h.sF
  .exact z _
  .exact o.seq z h.sc
theorem Q6{A:BA}{d r s hd tx:δ}:∀x∈hd::d::r::s::A.fp,x∈hd::tx::d::r::s::A.six:=λx hx=>by
 have hx':x=hd\/x=d\/x=r\/x=s\/x=A.b\/x=A.r\/x=A.t\/x=A.d:=by simpa [BA.fp]using hx
 obtain rfl|rfl|rfl|rfl|rfl|rfl|rfl|rfl:=hx'<;>simp[BA.six]
theorem RM(T:Txt K mg)(hN:gR K mg base "sorted_by"){f:δ}{Ϻ:ε}{A':ϰ}{outer:List Env}{s0:μ}{H:Hp}{E:XK}(hr:ό true 59 (A'.deeper (envOfC "law" (ρ fj) s0.heap.objs.size f Ϻ))){H0 H1 H2:Hp}{A:BA}{a c d r s b tx hd:δ}{v:V}{ns:List Int}{cs:List ο}{os:List Ord}{t0:Tr}(hb:pU K H0 H1 A a c d r s b tx hd v ns cs os t0){n cell kk:Int}(hn1:1<=n)(hn2:n<=100){nums:List Int}{i:Nat}(hk:nums[i]?=some kk)(hk0:0<=kk)(Al:i<8){D:Ends}(hD:∀σ' H',yt mg H0 H1 A d r s tx hd cs os t0 n nums [some (.ref a),some (.ref c),some (.ref A.b),some (.ref d),some (.ref b),some v,some (.ref tx),some (.int n),some (.int cell),some (.ref hd)] (i+1) σ' H'->D.nx σ' H'){lz j4 kZ jd ji:Option V}(o2:Out (hd::d::r::s::A.fp) H1 H2){B:Bk}{sn:List (Int×Int)}{j:Nat}{hv:List V}{es:List (List δ×Lv)}(hL:ϑ mg (hd::d::r::s::A.fp) A d r s H2 B B.now B.rows sn)(hO:cQ cs ou B sn j)(hj:j<=41+i)(hI:d7 H0 (hd::tx::d::r::s::A.six) cs H2 hd hv es)(hel:es.length=i):Κ (dW true P w K mg base uy "law" (ρ fj) f Ϻ A' outer s0 H E) ((Zq ((ϗ fj).drop 9)).drop 1) D [some (.ref a),some (.ref c),some (.ref A.b),some (.ref d),some (.ref b),some v,some (.ref tx),some (.int n),some (.int cell),some (.ref hd),some (.int kk),lz,j4,kZ,jd,ji,none] H2:=by
 have nd:=wR.nd;have hu:=hr.units;have hu1:_+1<cLine:=ae6 (afX (by decide:1<=64) _) hr.units;have n1:=T.bR;have n2:=T.BZ;have n3:=T.jb;have n4:=T.xj;have n5:=T.yD;have hsz:=ϱ;have bj:(["_law_row","_law_values_here"]:List Str).Nodup:=by decide+kernel
 obtain⟨wH,hdp⟩:=QV (cs:=cs) hb.sh;have D1:= @Bj P w K mg base T;have D2:Def P w K mg base true (10+2*t0.dep) "leaf_by_place" ["book","order","sieve","size","number"] (Ag K mg t0):=xN T hN t0;obtain⟨c1,c6⟩:=m9 hb.ok;obtain⟨hC,hOr,Nt,yV,hSc,hTb⟩:=hb.keep o2;obtain⟨Ϸ,er,hR⟩:=id hL.ro;have hrl:=hO.len;have hrL:ou.length=28:=by decide
 have hfit:∀r∈B.rows,ak cs r:=λr hr=>hO.ok r hr
 have Bg:∀{H':Hp},ζ H2 H'->∀x∈hd::tx::d::r::s::A.six,H' x≠none:=λsm x hx=>by
  have h1:H2 x≠none:=by
   by_cases z:x∈hd::d::r::s::A.fp
   .obtain rfl|z:=ϴ.mp z
    .rw[hI.hd];exact λz=>by cases z
    .obtain⟨o,e,_⟩:=hL.live x z;rw[e];exact λz=>by cases z
   .have :=hb.live x hx;cases e:H1 x with
    |none=>exact absurd e this
    |some u=>rw[o2 _ _ z e];exact λz=>by cases z
  cases e:H2 x with
  |none=>exact absurd e h1
  |some u=>rw[sm _ _ e];exact λz=>by cases z
 have ahw:∀x,H2 x=none->H0 x=none:=λx e=>by
  by_cases z:x∈hd::d::r::s::A.fp
  .exact hb.old x (Q6 x z)
  .refine hb.mono x ?_;cases e1:H1 x with
   |none=>rfl
   |some u=>rw[o2 _ _ z e1]at e;cases e
 walk_at"A";refine cu hu1 (lZ hL.st) ?_;walk_at"ex";refine⟨c,b,r,v,t0,Ϸ,cs,os,B.rows,rfl,hC,hb.ok,hOr,hb.o4,hb.inc,Nt,hb.sh,hb.gd,er,V9 hR,hO.nd,by omega,hfit,λln lw ls H3 s3 iW zX Pg pR aH=>?_⟩;have qz:=Pg.len;have hfl:(B.rows.filter λr=>Ϙ r.2 t0).length<=B.rows.length:=aiz ..;have hll:ls.length<=28:=aft (anb aH.length_eq) (aft hfl (by omega));have uc:∀r∈ls,ak cs r:=λr hr=>hfit r (aia.mp (aH.mem_iff.mp hr)).1
 have HX:η K H3 ln lw:=η.of zX;walk_at"A";refine DY ?_;have hkn:0<=kk*n:=aoI hk0 (by omega);have e6:(if kk*n<(lw.length:Int)then kk*n else(lw.length:Int))=((dJ ls kk n:Nat):Int):=by
  unfold dJ;rw[qz];split
  .rw[aiE (by omega)];omega
  .rw[amM (by omega)]
 rw[e6];have hpl:dJ ls kk n<=ls.length:=anG ..;generalize pH:dJ ls kk n=fi at hpl;refine ξ ?_;refine vA ["_law_row","_law_values_here"] (σ':=[none,none]) (cC (ρ fj)) nd ?_;walk_at"ex";obtain⟨m,rfl⟩:=adz (show 0<=n by omega);refine BR HX λp3 hp3=>?_
 rw[HH lw fi m (by omega)];obtain⟨s4,e4⟩:=ϙ hp3 (.lst ((lw.drop fi).take m));generalize upd H3 p3 (.lst ((lw.drop fi).take m))=H4 at s4 e4⊢;have hsl:ω (dI H2 H3) ((lw.drop fi).take m) (cz ls fi m):=(Pg.drop fi).take m;have YM:=hsl.len;have Vg:(cz ls fi m).length<=ls.length:=by unfold cz;rw[ae1,afw];omega
 have rG:=s3.trans s4;refine⟨p3,_,rfl,η.of e4,by omega,λτ=>∃o1 o2,τ=[o1,o2],λE2 jj u H'=>u≠.ref E2/\∃r,(cz ls fi m)[jj]?=some r/\gK true E2 H2 H' u r,⟨none,none,rfl⟩,λE2 jj u H8 H9 ys hE hk p=>?_,λfp E2 C s9 H8 jj τ x H6 H7 cX hi hτ Ρ hys hG=>?_,λq0 H5 us hq0 Tj Dr e8 s5=>?_⟩
 .obtain⟨h0,r,hr,t,l,e,h1,h2,h5,h3,h4⟩:=p;exact⟨h0,r,hr,t,l,e,h1,h2,h5,hk _ _ (λz=>by rw[z,hE]at h3;cases h3) h3,hk _ _ h5 h4⟩
 .obtain⟨o1,o2,rfl⟩:=hτ;obtain⟨cV,rfl⟩:=hG;obtain⟨r,hr,tr,lr,rfl,htr,hlr⟩:=hsl.get cV;obtain⟨ys,hys⟩:=hys;refine bM (ψ.of ((s4.trans Ρ) _ _ htr)) (ϖ (Ο bj (by rfl) (.inl rfl) (.inr rfl) (ϖ (Ο bj (by rfl) (.inl rfl) (.inr rfl) (bJ ?_)))));walk_at"ex";refine gD (.inl (η.of ((rG.trans Ρ) _ _ hlr))) λl2 hl2=>?_
  obtain⟨s6,e6⟩:=ϙ hl2 (.lst r.2);have nl:l2≠E2:=λe=>by rw[e,hys]at hl2;cases hl2
  have Kl:=s6 _ _ hys;generalize upd H6 l2 (.lst r.2)=H7 at s6 e6 Kl⊢;walk_at"ex";refine⟨by show 3<=ϩ;omega,λt2 bD=>?_⟩;have s7:ζ H7 (upd H7 t2 (.tup [.int r.1,.ref l2,.bl true])):=ζ.upd bD;refine⟨⟨_,_,rfl⟩,⟨λz=>?_,r,hr,t2,l2,rfl,((rG.trans Ρ).trans s6).free bD,(rG.trans Ρ).free hl2,nl,υ,s7 _ _ e6⟩,s6.trans s7⟩;injection z with z
  rw[z,Kl]at bD;cases bD
 have Rc:=rG.trans s5;have hus:ω (gK true q0 H2 H5) us (cz ls fi m):=mH (by omega) λjj r hr=>by
  have hj:jj<us.length:=by have:=(aae.mp hr).1;omega
  obtain⟨_,r',hr',h⟩:=Dr jj _ (ϳ hj);rw[hr]at hr';cases hr';exact⟨_,ϳ hj,h⟩
 have XQ:H2 q0=none:=rG.free hq0;have sq5:η K H5 ln lw:=(s4.trans s5).seq HX;walk_at"A";refine cu hu1 (wA (Rc _ _ hL.st)) ?_;walk_at"ex";refine⟨by show 6<=ϩ;omega,λpu zW=>?_⟩;have s6:ζ H5 (upd H5 pu (.tup [.ref q0,.non,.non,.int (lw.length:Nat),.int (fi:Nat),.int B.now])):=ζ.upd zW;have e6:(upd H5 pu (.tup [.ref q0,.non,.non,.int (lw.length:Nat),.int (fi:Nat),.int B.now])) pu=some (.tup [.ref q0,.non,.non,.int (ls.length:Nat),.int (fi:Nat),.int B.now]):=by rw[<-qz];exact υ
 generalize upd H5 pu (.tup [.ref q0,.non,.non,.int (lw.length:Nat),.int (fi:Nat),.int B.now])=H6 at s6 e6⊢;have qb:=Rc.trans s6;have vG:=hL.same qb;have rJ:η K H6 tx [.str (dm os),.str (Str.join " " (wT (Β cs) t0))]:=η.of (qb _ _ yV);walk_at"A";refine ϐ rJ (i:=0) rfl ?_;walk_at"ex";refine ϐ rJ (i:=1) rfl ?_;walk_at"ex";refine⟨A,B,dm os,m,kk,os,by rw[hO.heads],vG.bk,by rw[hO.heads];exact hb.ok,by omega,hO.nd,by rw[hO.heads];exact hfit,by have:=IW hb.ok hb.inc hb.o4;omega,by rw[hO.heads];exact Jc hb.ok hb.inc hb.o4 hb.Br,hb.o4,by rw[hO.heads];exact hb.inc,by rw[hO.heads];exact hb.gd,by omega,by rw[hO.heads];exact wH,hn1,hn2,hk0,qb _ _ hTb,λpf qf cG wf H7 s7 hL2 Ck hpf hqf j7 lA qi=>?_⟩;rw[hO.heads]at hL2;have els:cG=ls:=(yC hb.inc uc (aH.trans Ck.symm) pR hL2).symm;subst els;rw[pH]at j7 qi;have Hg:=qb.trans s7;have nQ:cz cG fi ((m:Nat):Int).toNat=cz cG fi m:=rfl;have uI:∀r∈cz cG fi m,ak cs r:=λr hr=>uc r (ag4 (ahj hr))
 have hlay:=CG (L:=gq cG kk m B.now) (cs:=cs) (by unfold gq;rw[pH];exact uI);have nM:=xV (gq cG kk m B.now);have jG:gq cG kk m B.now=⟨cz cG fi m,cG.length,fi,B.now⟩:=by unfold gq;rw[pH];rfl
 have zr:RD K H7 (.ref pf) (jQ (gq cG kk m B.now)):=by
  rw[jG];exact pI (cs:=cs) (Gq:=λ_=>True) (Gl:=λ_=>True) ⟨pf,qf,wf,rfl,j7,trivial,lA,qi.imp λu r z=>by
   obtain⟨t,l,e,_,_,_,h3,h4⟩:=z;exact⟨t,l,e,h3,trivial,h4⟩⟩ uI
 have Av:RD K H7 (.ref pu) (jQ (gq cG kk m B.now)):=by
  rw[jG];exact pI (cs:=cs) (Gq:=λ_=>True) (Gl:=λ_=>True) ⟨pu,q0,us,rfl,s7 _ _ e6,trivial,(s6.trans s7) _ _ e8,hus.imp λu r z=>by
   obtain⟨t,l,e,_,_,_,h3,h4⟩:=z;exact⟨t,l,e,(s6.trans s7) _ _ h3,trivial,(s6.trans s7) _ _ h4⟩⟩ uI
 refine ξ (Ψ ?_);walk_at"ex";refine Xj j7 ?_;walk_at"ex";refine Q4 hu zr Av hlay hlay nM ?_;rw[SeqAt.eqv_refl _ hlay];walk_at"ex";refine Θ (ψ.of j7) (i:=0) rfl ?_;walk_at"ex";refine ad9 lA ?_;walk_at"ex";refine Γ ?_;have hI2:=hI.same (ζ.refl _);refine ς (au (du F.plainAttrs_list F.slot_list_append F.type_list_append (h:=?_)));walk_at"e";refine⟨.inl ⟨rfl,_,η.of (Hg _ _ hI.hd)⟩,?_⟩;walk_at"ex";refine⟨by show 2<=ϩ;omega,λt ht=>?_⟩;obtain⟨s8,e9⟩:=ϙ ht (.tup [.ref pf,.ref pu]);generalize upd H7 t (.tup [.ref pf,.ref pu])=H8 at s8 e9⊢;have sH:=Hg.trans s8;have hhl:=hI.at_.len;walk_at"ex";refine dZ jM ⟨hd,hv,_,rfl,rfl,sH _ _ hI.hd,by omega,?_⟩;obtain⟨S,hI3⟩:=hI.add (Hm:=H6) (H2:=H8) (by simp) (Bg (ζ.refl _)) ahw qb (s7.trans s8) (L:=gq cG kk m B.now) (by rw[jG];exact uI) (by rw[jG];show(cz cG fi m).length<=1000;omega) c6 e9 (by rw[jG];exact s8 _ _ j7) hqf (s8 _ _ lA) (by rw[jG];exact qi.imp λu r z=>z.same s8) (by rw[jG];exact(s7.trans s8) _ _ e6) XQ (s6 _ _ e8) (by rw[jG];exact hus.imp λu r z=>z.same s6);refine hD _ _ ⟨⟨_,_,_,_,_,_,rfl⟩,(o2.trans (Out.of sH)).trans (Out.upd (by simp)),B,sn,j,_,_,?_,hO,by omega,hI3,by rw[ab7,hel];rfl,λe he=>?_⟩
 .have h8:=hL.same sH;obtain⟨k1,g1,g2⟩:=h8.ro;obtain⟨k2,g3,g4⟩:=h8.si;have Ϲ:∀x∈d::r::s::A.fp,x≠hd:=λx hx z=>hb.hdn (by rw[<-z];exact hx)
  refine⟨h8.bk.out (S:=[hd]) (Out.upd (by simp)) (λy hy ys z=>?_) λy hy hz=>?_,?_,⟨k1,?_,eO g2 λv x z=>z.stay λb ys hb' e=>?_⟩,⟨k2,?_,g4⟩⟩
  .rw[adY.mp hy,sH _ _ hI.hd]at z;cases z
  .rw[adY.mp hz]at hy;have hy':hd=A.h\/hd=A.r\/hd=A.t\/hd=A.d\/hd=A.b\/hd=A.dx:=by simpa [BA.six]using hy
   obtain z|z|z|z|z|z:=hy'
   .exact hb.Hi z
   .exact hb.hdn (by simp[z,BA.fp])
   .exact hb.hdn (by simp[z,BA.fp])
   .exact hb.hdn (by simp[z,BA.fp])
   .exact hb.hdn (by simp[z,BA.fp])
   .have :=h8.bk.own;rw[<-z,sH _ _ hI.hd]at this;cases this
  .rw[θ (Ϲ d (by simp))];exact h8.st
  .rw[θ (Ϲ r (by simp))];exact g1
  .rw[θ (λz=>hb' (by rw[z];simp))];exact e
  .rw[θ (Ϲ s (by simp))];exact g3
 .rw[List.getLast?_append]at he;have he':e=(S,gq cG kk m B.now):=by simpa using he.symm
  exact⟨cG,kk,hk,pR,aH,by rw[he']⟩
theorem XF(T:Txt K mg)(hN:gR K mg base "sorted_by"){f:δ}{Ϻ:ε}{A':ϰ}{outer:List Env}{s0:μ}{H:Hp}{E:XK}{Q:VK}(hr:ό true 59 (A'.deeper (envOfC "law" (ρ fj) s0.heap.objs.size f Ϻ))){H0 H1 H2:Hp}{A:BA}{a c d r s b tx hd:δ}{v:V}{ns:List Int}{cs:List ο}{os:List Ord}{t0:Tr}(hb:pU K H0 H1 A a c d r s b tx hd v ns cs os t0){n cell:Int}(hn1:1<=n)(hn2:n<=100){nums:List Int}(h7:nums[7]?=some 0)(q:∀H',Q (.bl true) H'){σ:List (Option V)}(hP:yt mg H0 H1 A d r s tx hd cs os t0 n nums [some (.ref a),some (.ref c),some (.ref A.b),some (.ref d),some (.ref b),some v,some (.ref tx),some (.int n),some (.int cell),some (.ref hd)] 8 σ H2):Κ (dW true P w K mg base uy "law" (ρ fj) f Ϻ A' outer s0 H E) ((ϗ fj).drop 10) {nx:=λ_ H'=>Q .non H',rt:=Q} σ H2:=by
 obtain⟨⟨bL,lz,j4,kZ,jd,ji,rfl⟩,o2,B,sn,j,hv,es,hL,hO,hj,hI,hel,Le⟩:=hP;have nd:=wR.nd;have hu:=hr.units;have hsz:=ϱ;obtain⟨wH,hdp⟩:=QV (cs:=cs) hb.sh;have D2:Def P w K mg base true (10+2*t0.dep) "leaf_by_place" ["book","order","sieve","size","number"] (Ag K mg t0):=xN T hN t0;obtain⟨hC,hOr,Nt,yV,hSc,hTb⟩:=hb.keep o2;have zF:∀x∈aA es,x∉hd::tx::d::r::s::A.six/\H0 x=none/\∃ys,H2 x=some (.lst ys)/\ys.length<=6:=λx hx=>by
  obtain⟨e,he,h⟩:=GQ hx;exact hI.pL e he x h
 have Fq:NT H2 (aA es):=λx hx ys e=>by
  obtain⟨_,_,zs,z,_⟩:=zF x hx;rw[z]at e;cases e
 have hdZ:hd∉aA es:=λz=>(zF _ z).1 (by simp)
 have txZ:tx∉aA es:=λz=>(zF _ z).1 (by simp)
 have tbZ:aP K "sorted_by"∉aA es:=λz=>hb.SM (zF _ z).2.1
 have Va:∀x∈A.six,x∉aA es:=λx hx z=>(zF _ z).1 (by simp[hx])
 have hvl:=hI.at_.len;refine ξ (tE (by walk_at"po") (by rfl) (by intro _;rfl) ?_);walk_at"ex";refine⟨hd,hv,rfl,η.of hI.hd,λi σ H'=>(∃jd ji qX,σ=[some (.ref a),some (.ref c),some (.ref A.b),some (.ref d),some (.ref b),some v,some (.ref tx),some (.int n),some (.int cell),some (.ref hd),bL,lz,j4,kZ,jd,ji,qX])/\Out (aA es) H2 H'/\∀(j:Nat) v e,i<=j->hv[j]?=some v->es[j]?=some e->HeldAt (hd::tx::d::r::s::A.six) (aA es) H' v e/\∀x∈e.1,∃ys,H' x=some (.lst ys)/\ys.length<=6,⟨⟨_,_,_,rfl⟩,Out.refl _ _,λj v e _ hv' he'=>?_⟩,λi σ' H' _ hP=>η.of (hP.2.1 _ _ hdZ hI.hd),λi x σ' H' hx hP=>?_,λσ' H' hP=>?_⟩
 .obtain⟨e2,he2,hh⟩:=hI.at_.get hv';rw[he']at he2;cases he2;exact⟨hh,λx hx=>(hI.pL e (aaJ he') x hx).2.2⟩
 .obtain⟨⟨jd,ji,qX,rfl⟩,oZ,hh⟩:=hP;obtain⟨e,he,_⟩:=hI.at_.get hx;have Sq:=aaJ he;obtain⟨⟨t,fv,uv,rfl,ht,hf,hu2⟩,O3⟩:=hh i x e (ϭ _) hx he;obtain⟨hfit,alV⟩:=hI.fit e Sq;have CW:∀x∈e.1,x∈aA es:=λx hx=>ajA Sq hx
  have Jl:NT H' e.1:=λx hx ys z=>by
   obtain⟨zs,z2,_⟩:=O3 x hx;rw[z2]at z;cases z
  have hlay:=CG (L:=e.2) hfit;have nM:=xV e.2;refine bM (ψ.of ht) (ϖ (Ο nd (by rfl) (.inl rfl) (.inl rfl) (ϖ (Ο nd (by rfl) (.inl rfl) (.inl rfl) (bJ ?_)))));refine ξ (Ψ ?_);walk_at"ex";refine Q4 hu (pI hf hfit) (pI hu2 hfit) hlay hlay nM ?_;rw[SeqAt.eqv_refl _ hlay];walk_at"ex";obtain⟨pf,qf,wf,rfl,hpf,hGq,hqf,hwf⟩:=hf;have hwl:=hwf.len;have qE:qf∉e.1:=λz=>hGq.2 (CW _ z)
  refine Γ (ς (tE (by walk_at"po") (by rfl) (by intro _;rfl) ?_));walk_at"ex";refine Θ (ψ.of hpf) (i:=0) rfl ?_;refine⟨qf,wf,rfl,η.of hqf,λk σ yG=>(∃qX,σ=[some (.ref a),some (.ref c),some (.ref A.b),some (.ref d),some (.ref b),some v,some (.ref tx),some (.int n),some (.int cell),some (.ref hd),bL,lz,j4,kZ,some uv,some (.ref pf),qX])/\Out e.1 H' yG/\∀x∈e.1,∃ys,yG x=some (.lst ys)/\ys.length<=6+k,⟨⟨_,rfl⟩,Out.refl _ _,O3⟩,λk σ' yG _ hP=>η.of (hP.2.1 _ _ qE hqf),λk y σ' H3 hy hP=>?_,λσ' H3 hP=>?_⟩
  .obtain⟨⟨afg,rfl⟩,oE,hs⟩:=hP;obtain⟨rr,hrr,tt,l,rfl,htt,LQ,hl⟩:=hwf.get hy;have hkw:=(aae.mp hy).1;have Qj:H3 tt=some (.tup [.int rr.1,.ref l,.bl true]):=Jl.tup oE _ _ htt;obtain⟨ys,hl3,hyl⟩:=hs l LQ.2;refine Ο nd (by rfl) (.inl rfl) (.inl rfl) ?_;refine ξ (Ψ ?_);walk_at"ex";refine Θ (ψ.of Qj) (i:=2) rfl ?_;walk_at"e";refine ad7 ?_;walk_at"ex";refine Γ (ς (au (du F.plainAttrs_list F.slot_list_append F.type_list_append (h:=?_))));walk_at"ex";refine Θ (ψ.of Qj) (i:=1) rfl ?_;refine⟨.inl ⟨rfl,_,η.of hl3⟩,?_⟩;walk_at"ex";refine dZ jM ⟨l,ys,_,rfl,rfl,hl3,by omega,?_⟩;refine⟨⟨_,rfl⟩,oE.trans (Out.upd LQ.2),λx hx=>?_⟩;by_cases z:x=l
   .subst z;exact⟨_,υ,by rw[ab7,ad5];omega⟩
   .obtain⟨zs,z1,z2⟩:=hs x hx;exact⟨zs,by rw[θ z];exact z1,by omega⟩
  .obtain⟨⟨afg,rfl⟩,oE,hs⟩:=hP;refine⟨⟨_,_,_,rfl⟩,oZ.trans (oE.mono CW),λj v2 e2 hij hv2 he2=>?_⟩;obtain⟨h1,h2⟩:=hh j v2 e2 (by omega) hv2 he2;have Q8:∀x∈e.1,x∉e2.1:=by
    have hi1:=(aae.mp he).1;have hj1:=(aae.mp he2).1;have h5:=akF.mp hI.dis i j hi1 hj1 (by omega);rw[(aae.mp he).2,(aae.mp he2).2]at h5;exact h5
   refine⟨h1.stay (Jl.tup oE) λb ys _ hb2 z=>oE _ _ (λy=>?_) z,λx hx=>?_⟩
   .obtain g|g:=hb2
    .exact g (CW _ y)
    .exact Q8 _ y g
   .obtain⟨zs,z1,z2⟩:=h2 x hx;exact⟨zs,oE _ _ (λy=>Q8 _ y hx) z1,z2⟩
 .obtain⟨⟨alR,akg,qX,rfl⟩,oZ,_⟩:=hP;have hbk:Τ (cB mg) H' A B:=hL.bk.out oZ Fq Va;have G4:=oZ _ _ txZ yV;have rJ:η K H' tx [.str (dm os),.str (Str.join " " (wT (Β cs) t0))]:=η.of G4;have jn:=oZ _ _ hdZ hI.hd;have hrl:=hO.len;have hrL:ou.length=28:=by decide
  have hfit:∀r∈B.rows,ak cs r:=λr hr=>hO.ok r hr
  have h7l:7<es.length:=by omega
  have he7:es[7]?=some es[7]:=ϳ h7l;have J0:hv[7]?=some hv[7]:=ϳ (show 7<hv.length by omega);obtain⟨e,he,hh⟩:=hI.at_.get J0;have hel2:es.getLast? =some e:=by rw[List.getLast?_eq_getElem?,hel];exact he
  obtain⟨ls,kk,hkk,pR,aH,e2⟩:=Le e hel2;rw[show(8-1:Nat)=7 from rfl,h7]at hkk;cases hkk;obtain⟨t,fv,uv,Ws,ht,_,hu2⟩:=hh;have hu3:=hu2.stay (Fq.tup oZ) λb ys hb2 z=>oZ _ _ (by obtain g|g:=hb2<;>exact g.2) z
  have ht3:=Fq.tup oZ _ _ ht;obtain⟨hfe,_⟩:=hI.fit e (aaJ he);have hlay:=CG (L:=e.2) hfe;have nM:=xV e.2;refine ς (Ζ ?_);walk_at"ex";refine ϐ rJ (i:=0) rfl ?_;walk_at"ex";refine ϐ rJ (i:=1) rfl ?_;walk_at"ex";refine⟨A,B,dm os,n,0,os,by rw[hO.heads],hbk,by rw[hO.heads];exact hb.ok,by omega,hO.nd,by rw[hO.heads];exact hfit,by have:=IW hb.ok hb.inc hb.o4;omega,by rw[hO.heads];exact Jc hb.ok hb.inc hb.o4 hb.Br,hb.o4,by rw[hO.heads];exact hb.inc,by rw[hO.heads];exact hb.gd,by omega,by rw[hO.heads];exact wH,hn1,hn2,by decide,oZ _ _ tbZ hTb,λpf qf cG wf H7 s7 hL2 Ck hpf hqf j7 lA qi=>?_⟩;rw[hO.heads]at hL2;have uc:∀r∈ls,ak cs r:=λr hr=>hfit r (aia.mp (aH.mem_iff.mp hr)).1
  have els:cG=ls:=(yC hb.inc uc (aH.trans Ck.symm) pR hL2).symm;subst els;have zr:RD K H7 (.ref pf) (jQ e.2):=by
   refine pI (cs:=cs) (Gq:=λ_=>True) (Gl:=λ_=>True) ⟨pf,qf,wf,rfl,?_,trivial,lA,?_⟩ hfe
   .rw[e2];exact j7
   .rw[e2];exact qi.imp λu r z=>by
     obtain⟨t,l,e,_,_,_,h3,h4⟩:=z;exact⟨t,l,e,h3,trivial,h4⟩
  have Av:RD K H7 uv (jQ e.2):=RD.same s7 (pI hu3 hfe);have Z7:η K H7 hd hv:=η.of (s7 _ _ jn);walk_at"ex";refine ϐ Z7 (v:=.ref t) ?_ ?_
  .rw[<-Ws];have h8:hv.length=8:=hvl.trans hel;have h9:iy hv.length (-1)=some 7:=by rw[h8];rfl
   show(iy hv.length (-1)).bind _=_;rw[h9];exact J0
  walk_at"ex";refine Θ (ψ.of (s7 _ _ ht3)) (i:=1) rfl ?_;refine abe hu zr Av hlay hlay nM ?_;rw[SeqAt.eqv_refl _ hlay];exact q _
theorem acn(T:Txt K mg)(hN:gR K mg base "sorted_by"){f:δ}{fd:ahy}(F:cA K "law" "law" fj f fd):cL P w K mg base (bQ P w) true 60 f fd ["_law_script"] (Ss K "sorted_by" gM):=by
 refine xf F wR (λvs H Q E h=>by obtain⟨a,ns,rfl,_⟩:=h;rfl) (λϺ A' outer s0 H vs Q E hr h=>?_);obtain⟨a,ns,rfl,hS,hl,vQ,q⟩:=h;have nd:=wR.nd;have hu1:_+1<cLine:=ae6 (afX (by decide:1<=64) _) hr.units;have n1:=T.jb;have n2:=T.bR;have hsz:=ϱ;have bA:(ns.map V.int).length=ns.length:=aaf ..;have D0:= @fu P w K mg base T;have D1:= @Di P w K mg base T;have D2:= @Ad P w K mg base T;have D3:= @Cz P w K mg base T;have D4:= @zL P w K mg base T;have D5:= @vq P w K mg base T;have D6:= @CJ P w K mg base T;have D7:= @Ek P w K mg base T;have D8:= @xr P w K mg base T;have MB:=(aaE (P:=P) (w:=w) (base:=base) T).make T.ahd T.Zi;have hsl:=aho hS;walk_at"A";refine⟨a,ns,rfl,hS,hl,λc cs H1 s1 hc0 hC hok=>?_⟩;obtain⟨c1,c6⟩:=m9 hok;obtain⟨cv,ec,hcv⟩:=id hC;refine ξ ?_;walk_at"s";refine gC MB hr (by decide) (λ_=>rfl) Χ ?_;walk_at"ex";refine gD (.inl (η.of ec)) λlc hlc=>?_
 obtain⟨s2,Nf⟩:=ϙ hlc (.lst cv);generalize upd H1 lc (.lst cv)=H2 at s2 Nf⊢;have hC2:ϋ H2 lc cs:=⟨cv,Nf,hcv.imp λu k z=>by obtain⟨t,e,h⟩:=z;exact⟨t,e,s2 _ _ h⟩⟩;have jf:=s1.trans s2;walk_at"ex";intro y dx hy hdx Ϲ;have mR:ζ H2 (upd (upd H2 dx (.own y)) y (.ins (cB mg) dx [])):=λb u e=>by
  rw[θ (λz=>by rw[z,hy]at e;cases e),θ (λz=>by rw[z,hdx]at e;cases e)];exact e
 refine⟨y,dx,lc,cs,rfl,υ,by rw[θ Ϲ,υ],hC2.same mR,hok,λH3 A eb yJ f1 f2 f3 f4 o3 k3=>?_⟩;obtain⟨s3,fr3⟩:=made hy hdx eb yJ f1 f2 f3 f4 o3;subst eb;refine⟨rfl,?_⟩;have bz:=jf.trans s3;have uW:∀x∈A.fp,x∈A.six:=λx hx=>by
  have hx':x=A.b\/x=A.r\/x=A.t\/x=A.d:=by simpa [BA.fp]using hx
  obtain rfl|rfl|rfl|rfl:=hx'<;>simp[BA.six]
 have hcA:c∉A.fp:=λz=>by
  have:=fr3 c (uW c z);rw[s2 _ _ ec]at this;cases this
 have KR:(∀H',η K H' a (ns.map V.int))\/a∉A.fp:=by
  obtain z|z:=hsl
  .exact .inr λy=>z (jf.free (fr3 a (uW a y)))
  .exact .inl z
 walk_at"A";refine⟨a,ns,15,10,rfl,bz.seq hS,hl,by decide,by decide,by decide,?_⟩;have g0:=aQ ns 15 (m:=10) (by decide);have g1:=aU ns 15 (m:=10) (by decide);generalize ϒ ns 15 10=mv at g0 g1⊢;obtain⟨many,rfl⟩:=adz g0;walk_at"ex";refine⟨λ_=>True,A,a,c,ns,many,cs,rfl,bz.seq hS,hl,by omega,hC.same (s2.trans s3),hcA,KR,hok,k3,trivial,λ_ _ _ _ _ _=>trivial,λd r s B sn j H4 hd0 hr0 hs0 o4 eF ap4 Wm hj1 hj2 _=>?_⟩;have fU:∀x∈d::r::s::A.six,H x=none:=λx hx=>by
  have hx':x=d\/x=r\/x=s\/x∈A.six:=by simpa using hx
  obtain rfl|rfl|rfl|z:=hx'
  .exact bz.free hd0
  .exact bz.free hr0
  .exact bz.free hs0
  .exact jf.free (fr3 x z)
 have uB:∀x∈d::r::s::A.fp,x∈d::r::s::A.six:=λx hx=>by
  have hx':x=d\/x=r\/x=s\/x∈A.fp:=by simpa using hx
  obtain rfl|rfl|rfl|z:=hx'
  .simp
  .simp
  .simp
  .simp[uW x z]
 have nt3:NT H3 A.fp:=λx hx ys e=>by
  obtain⟨fs,z⟩|⟨Ϸ,z⟩|⟨xs,z⟩:=k3.vd hx<;>(rw[z]at e;cases e)
 have qF:ϋ H4 c cs:=(hC.same (s2.trans s3)).out o4 nt3 hcA;have jo:η K H4 a (ns.map V.int):=by
  obtain z|z:=KR
  .exact z _
  .exact o4.seq z (bz.seq hS)
 have N7:H4 (aP K "sorted_by")=some (.tbl gM):=o4 _ _ (λz=>by have:=fU (aP K "sorted_by") (uB _ (by simp[z]));rw[vQ]at this;cases this) (bz _ _ vQ);have cF4:c∉d::r::s::A.fp:=λz=>by
  have hx':c=d\/c=r\/c=s\/c∈A.fp:=by simpa using z
  have e3:=(s2.trans s3) _ _ ec;obtain e|e|e|e:=hx'
  .rw[e,hd0]at e3;cases e3
  .rw[e,hr0]at e3;cases e3
  .rw[e,hs0]at e3;cases e3
  .exact hcA e
 have wg:∀x,H4 x=none->H x=none:=λx e=>by
  by_cases z:x∈A.fp
  .exact fU x (by simp[uW x z])
  .refine bz.free ?_;cases e3:H3 x with
   |none=>rfl
   |some u=>rw[o4 _ _ z e3]at e;cases e
 have Ci:∀x∈d::r::s::A.six,H4 x≠none:=λx hx=>by
  have hx':x∈d::r::s::A.fp\/x∈A.six:=by
   simp only[List.mem_cons]at hx⊢;obtain z|z|z|z:=hx
   .exact .inl (.inl z)
   .exact .inl (.inr (.inl z))
   .exact .inl (.inr (.inr (.inl z)))
   .exact .inr z
  obtain z|z:=hx'
  .obtain⟨o,e,_⟩:=eF.live x z;rw[e];exact λz=>by cases z
  .exact eF.bk.J6 x z
 walk_at"A";refine⟨a,ns,20,c,cs,rfl,jo,hl,by decide,by decide,qF,hok,λb os H5 s5 hb0 hO CK ϻ hnd=>?_⟩;walk_at"A";refine⟨a,ns,30,c,cs,rfl,s5.seq jo,hl,by decide,by decide,qF.same s5,c1,c6,λv t0 H6 s6 hsv hsh hgd=>?_⟩;have LC:=s5.trans s6;walk_at"A";refine⟨b,os,rfl,hO.same s6,by omega,(λo ho=>by
  obtain⟨cc,hcm,e⟩:=ϻ o ho;have:=vZ (rR hok (z:=o.1) (acQ.mpr ⟨cc,hcm,e⟩));omega),λH7 s7=>?_⟩
 have Ji:=LC.trans s7;walk_at"ex";refine⟨v,c,cs,t0,rfl,qF.same Ji,hok,hsv.same s7,hsh,hgd,λH8 s8=>?_⟩;have Ij:=Ji.trans s8;walk_at"ex";refine⟨by show 2<=ϩ;omega,λtx htx=>?_⟩;obtain⟨s9,uJ⟩:=ϙ htx (.lst [.str (dm os),.str (Str.join " " (wT (Β cs) t0))]);generalize hZ:upd H8 tx (.lst [.str (dm os),.str (Str.join " " (wT (Β cs) t0))])=H9 at s9 uJ⊢;clear hZ;have sV:=Ij.trans s9;have HD:H4 tx=none:=Ij.free htx;walk_at"A";refine⟨a,ns,17,rfl,sV.seq jo,hl,by decide,by decide,λn hn1 hn2=>?_⟩;have rest:∀cell:Int,Κ (dW true P w K mg base uy "law" (ρ fj) f Ϻ A' outer s0 H E) ((ϗ fj).drop 8) {nx:=λ_ H'=>Q .non H',rt:=Q} [some (.ref a),some (.ref c),some (.ref A.b),some (.ref d),some (.ref b),some v,some (.ref tx),some (.int n),some (.int cell),none,none,none,none,none,none,none,none] H9:=by
  intro cell;walk_at"A";refine⟨by show 0<=ϩ;omega,λhd jn=>?_⟩;obtain⟨fO,p6⟩:=ϙ jn (.lst []);generalize upd H9 hd (.lst [])=iC at fO p6⊢;have kY:H4 hd=none:=sV.free jn;have aet:hd≠tx:=λe=>by rw[e,uJ]at jn;cases jn
  have V2:∃nums:List Int,[V.int 0,V.int 1,V.int 2,V.int 3,V.int 4,V.int (10^anV 58),V.int (cell % 10^anV 59),V.int 0]=nums.map V.int/\nums.length=8/\(∀x∈nums,0<=x)/\nums[7]?=some 0:=by
   refine⟨[0,1,2,3,4,10^anV 58,cell % 10^anV 59,0],rfl,rfl,λx hx=>?_,rfl⟩;have h9:(0:Int)<=cell % 10^anV 59:=akJ _ (by decide);have h8:(0:Int)<=10^anV 58:=by decide
   simp only[List.mem_cons,List.not_mem_nil,or_false]at hx;obtain rfl|rfl|rfl|rfl|rfl|rfl|rfl|rfl:=hx
   .decide
   .decide
   .decide
   .decide
   .decide
   .exact h8
   .exact h9
   .decide
  obtain⟨nums,enums,TJ,hnn,hn7⟩:=V2;refine ξ (tE (by walk_at"po") (by rfl) (by intro _;rfl) ?_);walk_at"ex";refine⟨by show 8<=ϩ;omega,λnl hnl=>?_⟩;rw[enums];obtain⟨fV,Cw⟩:=ϙ hnl (.lst (nums.map V.int));generalize upd iC nl (.lst (nums.map V.int))=gJ at fV Cw⊢;have jk:=(sV.trans fO).trans fV;have oV:=eF.same jk;have Bg:∀x∈hd::tx::d::r::s::A.six,gJ x≠none:=λx hx=>by
   obtain rfl|hx:=ϴ.mp hx
   .rw[fV _ _ p6];exact λz=>by cases z
   .obtain rfl|hx:=ϴ.mp hx
    .rw[(fO.trans fV) _ _ uJ];exact λz=>by cases z
    .have :=Ci x hx;cases e:H4 x with
     |none=>exact absurd e this
     |some u=>rw[jk _ _ e];exact λz=>by cases z
  have M7:∀x o,H4 x=some o->x∉d::r::s::A.fp->x∉hd::d::r::s::A.fp:=λx o e h z=>by
   obtain rfl|z:=ϴ.mp z
   .rw[kY]at e;cases e
   .exact h z
  have wO:∀x,H4 x=none->x∉d::r::s::A.fp:=λx e z=>Ci x (uB x z) e
  obtain⟨bv,SJ,_⟩:=id hO;have hbd:b≠hd:=λe=>by rw[e]at SJ;have:=(LC.trans (s7.trans s8)).trans s9;rw[s6.trans (s7.trans (s8.trans s9)) _ _ SJ]at jn;cases jn
  have B5:pU K H gJ A a c d r s b tx hd v ns cs os t0:={
   old:=λx hx=>by
    obtain rfl|hx:=ϴ.mp hx
    .exact wg _ kY
    .obtain rfl|hx:=ϴ.mp hx
     .exact wg _ HD
     .exact fU x hx
   mono:=λx e=>wg x (jk.free e)
   live:=Bg
   nt:=λx hx ys e=>by
    obtain rfl|hx:=ϴ.mp hx
    .rw[fV _ _ p6]at e;cases e
    .obtain⟨o,e2,e3⟩:=oV.live x hx;rw[e2]at e;cases e;exact e3 _ rfl
   cF:=by
    obtain⟨cv4,ec4,_⟩:=qF;exact M7 c _ ec4 cF4
   bF:=λz=>by
    obtain e|z:=ϴ.mp z
    .exact hbd e
    .exact wO b hb0 z
   tF:=λz=>by
    obtain e|z:=ϴ.mp z
    .exact aet e.symm
    .exact wO tx HD z
   sF:=by
    obtain z|z:=hsl
    .refine .inr λy=>?_
     obtain e|y:=ϴ.mp y
     .exact z (by rw[e];exact wg _ kY)
     .exact z (fU a (uB a y))
    .exact .inl z
   ap:=⟨ap4.nd,λx hx=>acV _ hx⟩
   hdn:=wO hd kY
   Hi:=λe=>Ci hd (by rw[e];simp[BA.six]) kY
   co:=qF.same jk
   or:=hO.same (s6.trans ((s7.trans (s8.trans s9)).trans (fO.trans fV)))
   sv:=hsv.same ((s7.trans (s8.trans s9)).trans (fO.trans fV))
   tx:=(fO.trans fV) _ _ uJ
   sc:=jk.seq jo
   tb:=jk _ _ N7
   SM:=by rw[vQ];exact λz=>by cases z
   HF:=λz=>by
    obtain e|z:=ϴ.mp z
    .rw[<-e,N7]at kY;cases kY
    .have :=fU _ (uB _ z);rw[vQ]at this;cases this
   ok:=hok
   o4:=CK
   inc:=ϻ
   Br:=hnd
   sh:=hsh
   gd:=hgd}
  have Y5:nl∉hd::d::r::s::A.fp:=λz=>by
   have aar:=(sV.trans fO).free hnl;obtain e|z:=ϴ.mp z
   .rw[e,p6]at hnl;cases hnl
   .exact wO nl aar z
  have hLF:ϑ mg (hd::d::r::s::A.fp) A d r s gJ B B.now B.rows sn:=by
   refine⟨oV.bk,oV.st,?_,oV.si⟩;obtain⟨kv,ek,hk⟩:=eF.ro;refine⟨kv,jk _ _ ek,eO hk λv x z=>?_⟩;obtain⟨l,e,h1,h2⟩:=z;exact⟨l,e,jk _ _ h1,M7 l _ h1 h2⟩
  refine⟨nl,_,rfl,η.of Cw,yt mg H gJ A d r s tx hd cs os t0 n nums [some (.ref a),some (.ref c),some (.ref A.b),some (.ref d),some (.ref b),some v,some (.ref tx),some (.int n),some (.int cell),some (.ref hd)],?_,λi σ' H' _ hP=>η.of (hP.2.1 _ _ Y5 Cw),λi x σ' H' hx hP=>?_,λσ' H' hP=>?_⟩
  .refine⟨⟨none,none,none,none,none,none,rfl⟩,Out.refl _ _,B,sn,j,[],[],hLF,Wm,by omega,⟨fV _ _ p6,.nil,.nil,(λe he=>by cases he),(λe he=>by cases he)⟩,rfl,λe he=>by cases he⟩
  .obtain⟨⟨bL,lz,j4,kZ,jd,ji,rfl⟩,o2,B,sn,j,hv,es,hL,iw,hj,hI,hel,Le⟩:=hP;rw[aa2]at hx;obtain⟨kk,hkk,rfl⟩:=akk.mp hx;have hk0:=hnn kk (aaJ hkk);have Al:i<8:=by have:=(aae.mp hkk).1;omega
   refine Ο nd (by rfl) (.inl rfl) (.inl rfl) ?_;refine ξ (Ψ ?_);walk_at"ex";refine Ε (λ_=>?_) (λ_=>?_)
   .obtain⟨hC',alx,amS,G4,aa8,alp⟩:=B5.keep o2;have alu:=iw.sl;refine ς (au ?_);walk_at"ex";refine⟨hd::d::r::s::A.fp,A,B,a,c,d,r,s,ns,1000,sn,rfl,aa8,hl,by decide,by decide,by rw[iw.heads];exact hC',by rw[iw.heads];exact c6,hL,B5.ap,(λx hx e=>by
     obtain rfl|hx:=ϴ.mp hx
     .rw[hI.hd]at e;cases e
     .obtain⟨o,z,_⟩:=hL.live x hx;rw[e]at z;cases z),iw.small (by omega) (by decide),iw.wf,by omega,iw.get,λrow o H5 hrow hno vU o5 jX=>?_⟩
    have o5':Out (hd::d::r::s::A.fp) H' H5:=o5.mono λx hx=>acV _ hx
    have ntd:NT H' (d::r::s::A.fp):=λx hx ys e=>by
     obtain⟨o,e2,e3⟩:=hL.live x hx;rw[e2]at e;cases e;exact e3 _ rfl
    have hI5:d7 H (hd::tx::d::r::s::A.six) cs H5 hd hv es:=hI.stay (o5 _ _ B5.hdn hI.hd) (ntd.tup o5) λb ys hb e=>o5 _ _ (λz=>hb (Q6 b (acV _ z))) e
    exact RM T hN hr B5 hn1 hn2 hkk hk0 Al (λ_ _ z=>z) (o2.trans o5') jX (iw.deed (λk hk=>hk) (agg _ hrow) (λxs e=>by rw[<-iw.heads];exact vU xs e)) (by omega) hI5 hel
   .exact Γ (RM T hN hr B5 hn1 hn2 hkk hk0 Al (λ_ _ z=>z) o2 hL iw (by omega) hI hel)
  .rw[aaf,TJ]at hP;exact XF T hN hr B5 hn1 hn2 hn7 q hP
 refine ξ ?_;walk_at"s";have hS9:=sV.seq jo;walk_at"ex";rw[bA];refine Ε (λh3=>?_) (λh3=>?_)
 .walk_at "ex";rw[bA];walk_at"ex";refine ϐ hS9 (Aa 0 (akJ _ (by omega)) (akE _ (by omega))) ?_;exact rest _
 .walk_at "ex";exact rest _
end
end K65
namespace PySem.W.Fast
def tw10037317010794314328:=()
def tw10094246850152095967:=()
def tw10118605391182929822:=()
def tw10193610940523394376:=()
def tw10259387402708232652:=()
def tw1029465722284765143:=()
def tw10345527108878895969:=()
def tw10403980685910640981:=()
def tw10420230972878481315:=()
def tw1043855654183139783:=()
def tw10446683085078697387:=()
def tw10457574104392980176:=()
def tw10470271151289032312:=()
def tw10471650147049075324:=()
def tw1048952123585235934:=()
def tw10530299827506036061:=()
def tw10565478465842526388:=()
def tw10588290743260942789:=()
def tw1068222059201678420:=()
def tw1080483029953511916:=()
def tw10858770844733205044:=()
def tw10859460289351797615:=()
def tw10915197119160034932:=()
def tw10920833210297823330:=()
def tw10993968853224119172:=()
def tw11051278031174568206:=()
def tw11064371347551000356:=()
def tw11271632869392203082:=()
def tw11305251259385830068:=()
def tw11350539636155332592:=()
def tw11353097653156419076:=()
def tw11368828884503145519:=()
def tw11372290534201911754:=()
def tw11398050123516496105:=()
def tw11408833126559143217:=()
def tw11410076657471428176:=()
def tw11435555767677179403:=()
def tw114604134417472003:=()
def tw114767779266289893:=()
def tw11518219513833736976:=()
def tw11518657571128785873:=()
def tw11527839602984708927:=()
def tw11597853026590322258:=()
def tw11678663624312255850:=()
def tw11723308221393447458:=()
def tw11734057259956229702:=()
def tw11766392207557340941:=()
def tw11857180406937554692:=()
def tw11864170221797840100:=()
def tw11885385997970170041:=()
def tw12035299666767379284:=()
def tw12045141310454649738:=()
def tw12084003923248094769:=()
def tw12175810941418068798:=()
def tw12179271367155330873:=()
def tw12199980871327141394:=()
def tw12202886491429857540:=()
def tw12210381811929353998:=()
def tw12232709637211143054:=()
def tw12279809382954582276:=()
def tw12307713369512588456:=()
def tw12324348215980538555:=()
def tw12343143742645090736:=()
def tw12374576665748740308:=()
def tw12389317844785734161:=()
def tw12396441471360475537:=()
def tw1246219471267878954:=()
def tw12494178048819124065:=()
def tw12508303136489282098:=()
def tw12572818281138867242:=()
def tw12611837209343965227:=()
def tw12620678919943871025:=()
def tw12656157528814789352:=()
def tw12670814890539981762:=()
def tw12676756908956316434:=()
def tw12681664223729265490:=()
def tw12765395896180813930:=()
def tw12803801185290108264:=()
def tw12847191248263938900:=()
def tw12879346655416730101:=()
def tw12956567618760186297:=()
def tw12972655030375148972:=()
def tw12975348976625187740:=()
def tw12979275705107373722:=()
def tw12983214761987473030:=()
def tw13061930443459679355:=()
def tw1306771522567791075:=()
def tw13148123923345465357:=()
def tw13169860686852370272:=()
def tw13181162997001848111:=()
def tw1319298271227960704:=()
def tw13214071278397064848:=()
def tw1321695632340199892:=()
def tw13231589243524154037:=()
def tw13366051289883742141:=()
def tw13399160619222442238:=()
def tw13415138973374890244:=()
def tw13434818323510819864:=()
def tw1344029601029711187:=()
def tw13444245015941465232:=()
def tw13456152851443882167:=()
def tw13459073774878060577:=()
def tw13475984333836883699:=()
def tw13525587811764591886:=()
def tw13526195528459581514:=()
def tw13535660210973936502:=()
def tw13559509346660914649:=()
def tw13594826536645101046:=()
def tw13643087443147739139:=()
def tw13649773816961777707:=()
def tw1365958976614043834:=()
def tw13667458358497042896:=()
def tw13667922018209981876:=()
def tw1366846453406532494:=()
def tw1378833273898033765:=()
def tw13821155049097611275:=()
def tw13837762652182446832:=()
def tw1384604821679158966:=()
def tw13884850028013130633:=()
def tw1392476565350090854:=()
def tw13938043395771983756:=()
def tw13989878033100421487:=()
def tw1401641271027423795:=()
def tw14147608891597748676:=()
def tw14161940793731090890:=()
def tw14167919135769186013:=()
def tw14190370957413740642:=()
def tw14276627457795239984:=()
def tw1428601766276267262:=()
def tw14288720180257324341:=()
def tw14333550562991791053:=()
def tw14340051258938291938:=()
def tw14358904504710461667:=()
def tw14377053163567226183:=()
def tw14393542374004310490:=()
def tw14414771626991198732:=()
def tw14433236256120720537:=()
def tw14434759935383825954:=()
def tw14497208640770205945:=()
def tw14513390759611670919:=()
def tw14548446023724438016:=()
def tw1455246792757944293:=()
def tw14560934592909525379:=()
def tw145698501473311390:=()
def tw14596278296382802838:=()
def tw14612258994638166094:=()
def tw1461608092811291648:=()
def tw14616400177833406628:=()
def tw14620401066642714684:=()
def tw14622577699810458320:=()
def tw14648941224907630978:=()
def tw14659110173408801559:=()
def tw14773474326601456407:=()
def tw14878191710306194269:=()
def tw14985696680120726171:=()
def tw15002557826873912356:=()
def tw1504098387757195168:=()
def tw15045388234374493402:=()
def tw15078402584032796615:=()
def tw151726286516324912:=()
def tw15208610928246080613:=()
def tw15277831069131723714:=()
def tw15295205282732982181:=()
def tw15327745887168382972:=()
def tw15398677563033075863:=()
def tw15402239233893879106:=()
def tw15433056087793456024:=()
def tw15469026102976613487:=()
def tw15475256571580679135:=()
def tw15502645370945520887:=()
def tw15510809183682167439:=()
def tw1551253021677394261:=()
def tw15584738768546077395:=()
def tw15618687118818337920:=()
def tw15624487906641414251:=()
def tw15640797681572657848:=()
def tw15715909713903405184:=()
def tw15771589352544302466:=()
def tw15790302941729830960:=()
def tw15811403780295568809:=()
def tw15858182638167155531:=()
def tw15951072820478829549:=()
def tw15996808346835559494:=()
def tw16014033589913433329:=()
def tw16042505899333655911:=()
def tw16045988270728850053:=()
def tw16049789662616647637:=()
def tw16053235511799005995:=()
def tw16061907388907402102:=()
def tw16123953446891756316:=()
def tw16130496871262332384:=()
def tw16202755020335292708:=()
def tw16205700773991075813:=()
def tw16227085205584367636:=()
def tw16253817421320062588:=()
def tw16289612355431779434:=()
def tw16351026140197364034:=()
def tw16357806289464830385:=()
def tw16380305701262552068:=()
def tw16405413125546213274:=()
def tw16427440505412347466:=()
def tw16453931124789131298:=()
def tw16462337584108885905:=()
def tw16515138647123744132:=()
def tw16537896244423128251:=()
def tw16544571746068061762:=()
def tw16547641034883765740:=()
def tw16568333638704268460:=()
def tw16573178123293515049:=()
def tw16612602220186383117:=()
def tw16654841398976074693:=()
def tw16666863983591968121:=()
def tw16669966480036841018:=()
def tw16689294401982751082:=()
def tw1670462004666469227:=()
def tw16725361164116066914:=()
def tw16726542164753535637:=()
def tw1674674935476101191:=()
def tw16840949251544311395:=()
def tw16871639970736955023:=()
def tw16956352138652141686:=()
def tw1697408256265855940:=()
def tw17014057814549804705:=()
def tw17093976294876745997:=()
def tw17161756641735485987:=()
def tw17205859915446229169:=()
def tw1722959144450853664:=()
def tw17239511284140559436:=()
def tw17249091681925048209:=()
def tw17280148906968858396:=()
def tw17288354626923335190:=()
def tw17319427306207153500:=()
def tw17346825362833252971:=()
def tw17402354783827559050:=()
def tw17434257417679336643:=()
def tw17451176032511053091:=()
def tw17463851448601606260:=()
def tw17466535551228912710:=()
def tw17477951580272204838:=()
def tw17526271033932692089:=()
def tw17547245029934482506:=()
def tw17587459268754853928:=()
def tw17597712519599077551:=()
def tw17612900945932032709:=()
def tw17649230125794159780:=()
def tw17680429459346698779:=()
def tw17716021942908269253:=()
def tw17723061438986541629:=()
def tw17736720281392439295:=()
def tw17740857077836351124:=()
def tw177747933998749733:=()
def tw17816269479534372231:=()
def tw17860748875061043114:=()
def tw17884710848514387149:=()
def tw17917786754720295967:=()
def tw17954242786868623070:=()
def tw17961458268505989220:=()
def tw17971828196285756062:=()
def tw17993149550890847481:=()
def tw18004169873401698664:=()
def tw18011691414189563867:=()
def tw18016108792520009849:=()
def tw18018870385365103909:=()
def tw18019887338346702608:=()
def tw18097527092869468802:=()
def tw18109138254688994405:=()
def tw18133014702587379470:=()
def tw1815153507491422318:=()
def tw18169081419399916230:=()
def tw18181599957947806986:=()
def tw18217238012859079419:=()
def tw18251767149561281621:=()
def tw18264086916274711848:=()
def tw18276924664600523706:=()
def tw18372064480548995451:=()
def tw1838199648176178413:=()
def tw18420391625939350619:=()
def tw18424850080922281336:=()
def tw1876269985467624954:=()
def tw1897273706950593916:=()
def tw1938413103729155195:=()
def tw1959378284198884820:=()
def tw2014378078969272588:=()
def tw2028866948729576780:=()
def tw2037893971175656421:=()
def tw2095400606602645926:=()
def tw2127256326644270081:=()
def tw2132785598985816681:=()
def tw2162354312111740513:=()
def tw22210775514034839:=()
def tw2247846699900794960:=()
def tw2419541829120894212:=()
def tw2427444823967255861:=()
def tw2437813781722164277:=()
def tw2457192902970474864:=()
def tw253194025926233359:=()
def tw2538389422356904047:=()
def tw2551527134423184749:=()
def tw2621014410690791979:=()
def tw2621160075006251092:=()
def tw2675124780748221733:=()
def tw2684747548746123332:=()
def tw2700937385955322791:=()
def tw2706618245615775755:=()
def tw276670087316514672:=()
def tw2788425289489227476:=()
def tw2794918709272952997:=()
def tw2852928985871872053:=()
def tw2872317416506199354:=()
def tw2875935934177036289:=()
def tw2905760183186322959:=()
def tw2962834009455321348:=()
def tw297889353940190503:=()
def tw2988311322311883365:=()
def tw2998523496520030357:=()
def tw3044539771298102033:=()
def tw3060387171564665529:=()
def tw3064455598855477969:=()
def tw3094700592401341747:=()
def tw313882904857385837:=()
def tw314128473725290457:=()
def tw314333056955730691:=()
def tw3158667942951113911:=()
def tw3213896375818183379:=()
def tw3219160103595694897:=()
def tw3236931870714884014:=()
def tw3249330852161990439:=()
def tw3256783600781941407:=()
def tw3273329442612394764:=()
def tw3309928231826536601:=()
def tw3345813506264118601:=()
def tw3459088200296963224:=()
def tw346645895226195238:=()
def tw3488527171881002304:=()
def tw3490603145419987383:=()
def tw3501952588907411323:=()
def tw3527537521491812555:=()
def tw3582440034006080169:=()
def tw3603999641807260642:=()
def tw3610419782100485277:=()
def tw3657472017630116429:=()
def tw3669756485620620528:=()
def tw3687627990941144697:=()
def tw3704033774539466563:=()
def tw3757274899502500693:=()
def tw3767126556233628449:=()
def tw3774787923418400133:=()
def tw3846884384233084078:=()
def tw3888495457881051055:=()
def tw3913081764040940231:=()
def tw3915317530575038466:=()
def tw3946138227161674729:=()
def tw4001834985309588427:=()
def tw4059423076094922099:=()
def tw4097286423592708688:=()
def tw4147238527378310919:=()
def tw4195445793104758080:=()
def tw4205798284332897138:=()
def tw4254463804003820797:=()
def tw4349868059548451823:=()
def tw4370742023745241469:=()
def tw4534311233320551467:=()
def tw455422787576972465:=()
def tw4558202710420511784:=()
def tw4561205395496829309:=()
def tw4597661963575203303:=()
def tw4629825577656551570:=()
def tw470041085832511642:=()
def tw4726254853384365881:=()
def tw4761080617543826685:=()
def tw4768172744582602790:=()
def tw4778345949980590341:=()
def tw4784561959408880330:=()
def tw4791576912702498686:=()
def tw4791586984273354059:=()
def tw4818367449675807826:=()
def tw4820719942612183998:=()
def tw4824922712890927047:=()
def tw4845338498956566322:=()
def tw4872462731167470164:=()
def tw4887406155221238672:=()
def tw4933721419985211531:=()
def tw4957045835192534763:=()
def tw4960011963504865529:=()
def tw5001171916731747247:=()
def tw500223289654467588:=()
def tw5054506933419923727:=()
def tw5119327281108319516:=()
def tw5175743430753108093:=()
def tw5189471427108688505:=()
def tw5213940195732402511:=()
def tw5228223262806809628:=()
def tw5275955382635199377:=()
def tw5308794925491730786:=()
def tw5314791429317548133:=()
def tw5330879405459419585:=()
def tw5337138490851716882:=()
def tw540035620916458829:=()
def tw5429239820899197360:=()
def tw5432537666348711739:=()
def tw5465250771661125926:=()
def tw5472763018886620892:=()
def tw5475448073961157951:=()
def tw5493927526382464916:=()
def tw560772501123026793:=()
def tw5666556792810474863:=()
def tw5733981992447979107:=()
def tw5734888032491707370:=()
def tw580465064433059865:=()
def tw5810680656529755906:=()
def tw581181965571647268:=()
def tw5889129006292670353:=()
def tw591962402461309374:=()
def tw5938468366516327527:=()
def tw596820352827556516:=()
def tw5974390308101515887:=()
def tw5995736515249445733:=()
def tw5996165072199331842:=()
def tw6015385676868209356:=()
def tw6053690669009545847:=()
def tw6131120526690341583:=()
def tw613667977825287778:=()
def tw6179168489126960440:=()
def tw6183745063641941535:=()
def tw6188163955428885611:=()
def tw6298062202734961462:=()
def tw6335908009595332786:=()
def tw6346320192952889940:=()
def tw6346942876511017088:=()
def tw6366070005946168010:=()
def tw6411726955279385134:=()
def tw6413075010165205688:=()
def tw6454710472420961375:=()
def tw6499147868104523422:=()
def tw6503963573065768526:=()
def tw6607916840932203366:=()
def tw6611718723367890461:=()
def tw6619671077182844034:=()
def tw6651095852805656772:=()
def tw6728881482677561111:=()
def tw6734983034281021933:=()
def tw6757329781419358485:=()
def tw680657358251281252:=()
def tw6812414444107920416:=()
def tw6825829079331694120:=()
def tw6894120079047814512:=()
def tw692794631439265871:=()
def tw6996802955771210521:=()
def tw6998826724751087805:=()
def tw7023897154809440882:=()
def tw704845777965086661:=()
def tw7097930497749599292:=()
def tw7101202383034555192:=()
def tw7123508539338813469:=()
def tw7169798513935896624:=()
def tw7221524574035632220:=()
def tw7235791019424985264:=()
def tw7278115014888187651:=()
def tw7281001101044814919:=()
def tw7284811872623232892:=()
def tw7302479681047828387:=()
def tw7328531697113458842:=()
def tw7378948349841210212:=()
def tw740703781884153462:=()
def tw7475705250108912328:=()
def tw7512547106814312760:=()
def tw7539552618658186276:=()
def tw7540241727682839005:=()
def tw7564443214517896242:=()
def tw7596122229584809058:=()
def tw7655753817270449219:=()
def tw7678158257138907358:=()
def tw7697074745577271403:=()
def tw7714219806039410735:=()
def tw7716259925112091098:=()
def tw7729990217762967430:=()
def tw7733584241349981418:=()
def tw7736941495043011088:=()
def tw7768239668771939295:=()
def tw7859193501538578824:=()
def tw7958413125778753605:=()
def tw7987787458894489958:=()
def tw7996004166057414983:=()
def tw7997366895032878004:=()
def tw8029775753202222929:=()
def tw814848735780735675:=()
def tw8154322321736261947:=()
def tw815476891908782127:=()
def tw8155778825759858962:=()
def tw8252711092476335304:=()
def tw8279354783077185938:=()
def tw8294190268020809742:=()
def tw8310212881500308422:=()
def tw8319818408202401547:=()
def tw8335137827562516588:=()
def tw8390129486344510360:=()
def tw8401131059898772866:=()
def tw842051748336526278:=()
def tw8436773668176667942:=()
def tw8446726972683701539:=()
def tw8459777382592417756:=()
def tw8471485340551856779:=()
def tw8481937805502908754:=()
def tw8554434309658745871:=()
def tw856919242051415952:=()
def tw8586407481297210363:=()
def tw8595723225075735450:=()
def tw8652080616647714956:=()
def tw8658883955500943376:=()
def tw8663008038470465637:=()
def tw8671150850206434808:=()
def tw86763040200347077:=()
def tw8699044963022289399:=()
def tw8758327672935028163:=()
def tw8815734108225400213:=()
def tw8844798435241874851:=()
def tw8855843192254522226:=()
def tw8902878438308680849:=()
def tw8970174712205375789:=()
def tw8973456961626534586:=()
def tw902391922883988786:=()
def tw9024684531675305135:=()
def tw9089832339416917778:=()
def tw9113571480143971041:=()
def tw9131713506260449795:=()
def tw9184405619731189422:=()
def tw9190119415119879604:=()
def tw9214954338852029830:=()
def tw9223994975417276894:=()
def tw9244358205981958529:=()
def tw9331697837974235697:=()
def tw9331903576617190923:=()
def tw9336810875131556020:=()
def tw9338986778598165642:=()
def tw9363754521703314463:=()
def tw9411373423909702597:=()
def tw9505393940841628307:=()
def tw9511798207749499597:=()
def tw9520400481042335927:=()
def tw958693486194299879:=()
def tw9596796262098356956:=()
def tw9604395801614534346:=()
def tw9667382141150940635:=()
def tw9680466774181147055:=()
def tw9723494325038831332:=()
def tw9756567316534501788:=()
def tw9776510136478985760:=()
def tw9819514461417579069:=()
def tw9861251491361982902:=()
def tw9890447394480023025:=()
def tw9891603946038024286:=()
def tw992303178019037713:=()
def tw9925537510749210379:=()
def tw993302133026935121:=()
def tw9962867619245366854:=()
def tw9966484214372796327:=()
def tw998059260696769433:=()
end PySem.W.Fast
namespace K65
open PySem L2 PyProof.Rows
end K65
open PySem PySem.W PyProof.Rows
set_option maxRecDepth 100000 in
set_option maxHeartbeats 0 in
theorem PySem.Challenge.cw_turnleaf_k65_leaves_by_places_holds : PySem.Challenge.rw_turnleaf_k65_leaves_by_places.Holds := by
 w_on;o_law;k_head;(case hw=>w_witness2)
 k_fill
 refine L2.adi (l:=PySem.Challenge.rw_turnleaf_k65_leaves_by_places) (n:=63) (k:=60) (x:="_law_script") (xn:="sorted_by") (ps:=K65.gM) (CX:=λw=>L2.bQ PySem.Challenge.rw_turnleaf_k65_leaves_by_places.prog w) (cc:=true) (sp:=λw=>L2.Ss _ "sorted_by" K65.gM) rfl (by decide) rfl ⟨λ_=>rfl,by decide,by decide⟩ (λw h Y=>PySem.W.km_in_of Y) ?R ?B ?F (λ_ _ a ns hl hS hH=>⟨a,ns,rfl,hS,hl,hH,λ_=>rfl⟩) (λ_ _ _ _ _ z=>L2.bQ.never z)
 case R=>kernel_rfl
 case B=>intro w;kernel_rfl
 case F=>
  intro w mg fa h KX G hmg;have T:K65.Txt (L2.Sd KX) mg:=by
   dsimp only[L2.Sd];constructor
   all_goals first|refine' L2.adB KX G ..|refine' L2.Vq KX G ..|refine' L2.Wg KX G ..|refine' L2.T3 KX G ..|refine' L2.Yj KX G ..|refine' L2.aec KX G ..|refine' L2.adK KX G ..|refine' L2.V5 KX G ..|refine' L2.t_k KX G ..|refine' L2.agt KX G ..|refine' L2.T6 KX G ..|refine' L2.ahl KX G ..|refine' L2.aic KX G ..|refine' L2.aja KX G ..|refine' L2.agw KX G ..|refine' L2.aif KX G ..|refine' L2.aj0 KX G ..|refine' L2.aau (mg:=mg) (L2.iD KX G ?_ (L2.iD KX G ?_ (L2.iD KX G ?_ (L2.iD KX G ?_ (L2.iD KX G ?_ (L2.iD KX G ?_ (L2.iD KX G ?_ (L2.iD KX G ?_ (L2.iD KX G ?_ L2.iQ.nil))))))))) ?_
   any_goals try delta L2.bC
   any_goals try delta L2.nW
   any_goals first|k_is|k_exc|kernel_rfl|decide
  obtain⟨f,fd,F,hm⟩:=T.afK;have e0:=hmg.symm.trans hm;cases e0;obtain⟨oc,od,kV,doc,pm,an,Ϻ,ct,osl,rfl,lk,hcd⟩:=id F.ex;exact⟨_,λs u=>.of_eq rfl,λbase kb nb hN=>K65.acn T hN F⟩
#print axioms PySem.Challenge.cw_turnleaf_k65_leaves_by_places_holds
