import PyProof.Rows.All
import Wide.All
import OpenK.AllK
import Wide.FinOn
import Lean
import PyProof.EqAt
import PyProof.EqKinds
import PyProof.TupleCall
import PyProof.NeData
import PyProof.ZipIter
import PyProof.WalksEnum
import PyProof.Rows.SetFrom
import PyProof.StrLawsTight
import PyProof.StrLawsChain
import PyProof.StrCalls2
import PyProof.ListStr
import PyProof.Rows.StrOrd
import KE.KRevIter
import PyProof.ExcInit
import PyProof.InstStoreFacts
import PyProof.ExcArgs
import PyProof.ExcAttrAll.ValueError
import PyProof.NsDelKeeps
import PyProof.RulesAs
import OpenK.KCls
import PyProof.Rows.TupAssign
import PyProof.StrLawsIn
import KE.KDictSum
import PyProof.DictWalks
import PyProof.Rows.CountFlat
import KE.KTryMore
import KE.KxWritten
import KE.KStrOpen
import KE.KSortTup
import KE.KNest
import PyProof.FString5
import KE.KDictList
import PySem.Challenge.RW_turnleaf_k67_who_stood
open PySem renaming Addr->δ,Value->ε,Shared->μ,wpAny->ν,Expr->π,model->Ϧ,wpAny_bind->ϧ,Stmt->Ϩ,sizeLine->Ϫ,Heap->ϫ,World->Ϭ,wpAny_pure->ϭ,Program->ϯ,starEach->ϰ,Around->ϲ,sizeLine_eq->ϳ,compareOp->adJ,wpAny_mono->adL,wpAny_holding->ae5,wpAny_truthy_bool->ah9,Scope->ai8,codeAny_builtin->aki,FuncData->akn,SetTable->akr,codeAny_mono->akK,wpAny_newObj_type->ak3,swapsWith->alk,tupleKind_room_in1->alo,codeAny_call_builtin->aly,wpAny_standAt->alO,wpAny_call_entry->alR,assignEach->alX,PyData->alY,ExceptHandler->amb,Builtin->amw,wpAny_loadPart_at->amy,wpAny_setField->am0,wpAny_askSetting->ani,wpAny_passesOwn->ano,wpAny_Call_Name_kw->ant,wpAny_call->anu,PassesOwn->anv,wpAny_pyIter_list->anB,NameKind->anC,wpAny_setState_of->anD
open PySem.W renaming Frag->ϩ,findIn->aeB,specialIn->aks,mg_of->als,emptyDict->alT,hasDictIn->amG,mroIn->amQ,kia_one->ank,keepIn->anl,instObj->anI,typeIn->anM,plainGet->anN,takerIn->anP,methodCall_KW->anR,exmOne->anU,looks_findIn->anV,readsIn->anZ,findCls->an0,methodObj->an7,plainOver->an8,codeIn->an9,takesIn->aoi,callWith_K->aol,plainGet_of->aoA,isFn->aoB,looks_clsIn->aoC,kitOne->aoD,fnOf->aoE,lookIn->aoY,InstAt->aoZ,makesIn->ao0,subIn->ao3,handedIn->ao5,nsIn->ao6,findObj_own->ao7,Looks->ao8,clsIn->ao9,looks_mroIn->apa,excIn->api,notCls->apj
open Nat renaming le_refl->Ϯ,ne_of_lt->acT,lt_of_lt_of_le->adz,add_le_add_left->afJ,lt_of_le_of_lt->afY,le_trans->ah6,zero_le->ajg,lt_irrefl->akD,le_of_ble_eq_true->akV,le_succ->alE,le_add_right->anm,min_eq_left->anz,mod_lt->anO,le_of_lt->anT,lt_succ_of_lt->anY,min_eq_right->aod,zero_add->aoo,mul_le_mul_right->aoq,ne_of_gt->aoQ,le_of_eq->aoR,sub_zero->aoS,lt_succ_self->aoT,min_le_left->ao1,succ_mul->ape,mul_comm->apf,toDigits->apg,sub_self->aph
open List renaming length_map->ϱ,getElem?_eq_getElem->aak,getElem?_eq_some_iff->aaF,mem_of_getElem?->abG,mem_cons_of_mem->abN,getElem?_map->acy,mem_cons_self->acB,mem_cons->acG,mem_map->acL,mem_singleton->ac8,size_toArray->adi,all_eq_true->ady,length_append->adI,mem_append_right->ad2,range->ad6,length_singleton->aec,ne_nil_of_length_eq_add_one->aef,mem_append->aei,length_eq_zero_iff->aeG,dropLast_concat_getLast->ae1,length_take->afr,length_drop->afz,map_map->afK,mem_of_mem_take->afU,take_length->agC,map_append->agF,length_range->ahl,take_add_one->ah8,nodup_cons->aiU,length_filter_le->ajl,replicate->ajq,mem_of_mem_drop->ajN,getElem_mem->aj9,take_of_length_le->akk,filter_sublist->akC,getElem?_append_left->akE,mem_filter->akL,nodup_append->alf,lookup->alm,mem_range->alD,mem_append_left->alQ,any_eq_true->al6,take_append_of_le_length->al8,getElem?_set_self->amd,getElem?_concat_length->amV,foldl_append->am3,getD_eq_getElem?_getD->anj,getElem_of_mem->anp,map_congr_left->anq,getElem?_range->anr,mem_filterMap->anw,length->anE,append_assoc->anG,take_append_drop->anK,getElem?_set_ne->anL,replicate_succ->anQ,getElem?_append_right->anS,length_erase_of_mem->an6,getElem_inj->aoc,drop_of_length_le->aof,drop_eq_nil_of_le->aog,length_pos_of_mem->aoh,of_mem_zip->aoj,length_replicate->aok,range_succ->aon,mem_iff_getElem?->aop,mem_erase_of_ne->aor,drop_zero->aos,drop_drop->aou,length_reverse->aov,length_pos_iff->aox,filter_append->aoG,pairwise_cons->aoH,count_eq_zero->aoI,getElem?_drop->aoJ,pairwise_map->aoN,count_append->aoO,getElem_drop->aoP,mem_reverse->aoV,nodup_range->aoW,drop_length->aoX,map_id->ao2,toArray->apd,Nodup->apk
open PySem.Heap renaming lt_size->ϴ,get?_push_size->acM,get?_update_other->adv,get?_update_self->ad5,SameBut->akS,get?_none_of_le->ak4,size_push->anH,size_after_update->aoe,MadeExcOf->aot,get?_update_ne->aow,get?_push_at->aoL
open Bool renaming and_eq_true->aaV,false_ne_true->abe,eq_iff_iff->agp,false_eq_true->ajD,and_false->ak5,false_and->ama,true_and->anb,or_eq_true->anx,false_or->aoa,and_true->aob,or_false->aoF,not_eq_true->aoU,not_true->apb,true_or->apc
open Int renaming eq_ofNat_of_zero_le->adK,emod_lt_of_pos->amj,emod_nonneg->anA,toNat_natCast->anF,zero_add->aom,le_refl->aoy
open Option renaming map_eq_some_iff->afi,isSome_map->anW
open Array renaming getElem?_setIfInBounds_ne->akz,getElem?_eq_some_iff->alp,size_map->alG,getElem?_eq_getElem->alN,length_toList->alS,getElem?_toList->anJ,toList_push->an5,find?_toList->aoz,size_append->aoK,map_extract->aoM,map_push->ao4
set_option maxHeartbeats 4000000
set_option Elab.async false
set_option linter.all false
set_option maxRecDepth 100000
local macro_rules | `(tactic| walk_at "sc") => `(tactic| exact ⟨rfl, rfl, rfl, by decide +kernel, rfl, by decide +kernel, by decide +kernel⟩)
local macro_rules | `(tactic| omega) => `(tactic| lia)
namespace L2
open PySem PySem.Spec PyProof.Rows
abbrev Key:=Sum Int Str
def pH:Key->ε->Bool
 |.inl k,v=>Value.isInt k v
 |.inr x,v=>Value.isStrOf x v
def Yo(w:Ϭ):Key->Int
 |.inl k=>hashInt k
 |.inr x=>hashStr w x
theorem fV:∀{k:Key}{v:ε},pH k v=true->(∃i t,k=Sum.inl i/\v=Value.int i t)\/(∃x t,k=Sum.inr x/\v=Value.str x t)
 |.inl i,v,h=>by
   obtain⟨t,e⟩:=Value.isInt_shape (k:=i) (v:=v) h;exact .inl ⟨i,t,rfl,e⟩
 |.inr x,v,h=>by
   obtain⟨t,e⟩:=Value.isStrOf_shape (x:=x) (v:=v) h;exact .inr ⟨x,t,rfl,e⟩
theorem ab3(i:Int)(t:Tok):pH (.inl i) (.int i t)=true:=by simp[pH,Value.isInt]
theorem aaJ(x:Str)(t:Tok):pH (.inr x) (.str x t)=true:=by simp[pH,Value.isStrOf]
theorem V4(a b:Int):decide ((Sum.inl a:Key)=Sum.inl b)=(a==b):=by
 by_cases e:a=b
 .subst e;simp
 .have h:¬(Sum.inl a:Key)=Sum.inl b:=λq=>e (Sum.inl.inj q)
  rw[decide_eq_false h];exact(beq_eq_false_iff_ne.mpr e).symm
theorem aeg(a b:Str):decide ((Sum.inr a:Key)=Sum.inr b)=decide (a=b):=by
 by_cases e:a=b
 .subst e;simp
 .have h:¬(Sum.inr a:Key)=Sum.inr b:=λq=>e (Sum.inr.inj q)
  rw[decide_eq_false h,decide_eq_false e]
theorem aao(a:Int)(b:Str):decide ((Sum.inl a:Key)=Sum.inr b)=false:=decide_eq_false (λq=>nomatch q)
theorem WM(a:Str)(b:Int):decide ((Sum.inr a:Key)=Sum.inl b)=false:=decide_eq_false (λq=>nomatch q)
def aZ(prog:ϯ)(w:Ϭ):PySem.KeyKind prog w Key where
 is:=pH
 hash:=Yo w
 inj:=λv a b ha hb=>by
  obtain⟨i,t,rfl,rfl⟩|⟨x,t,rfl,rfl⟩:=fV ha
  .obtain⟨j,u,rfl,e⟩|⟨y,u,rfl,e⟩:=fV hb
   .injection e with e1 _;rw[e1]
   .exact nomatch e
  .obtain⟨j,u,rfl,e⟩|⟨y,u,rfl,e⟩:=fV hb
   .exact nomatch e
   .injection e with e1 _;rw[e1]
 byValue:=λk v h=>by
  obtain⟨i,t,rfl,rfl⟩|⟨x,t,rfl,rfl⟩:=fV h<;>rfl
 pyHash:=λhv h=>by
  obtain⟨i,t,rfl,rfl⟩|⟨x,t,rfl,rfl⟩:=fV hv
  .exact wpAny_pyHash_int h
  .exact wpAny_pyHash_str h
 eqBool:=λhu hv h=>by
  obtain⟨i,t,rfl,rfl⟩|⟨x,t,rfl,rfl⟩:=fV hu
  .obtain⟨j,u,rfl,rfl⟩|⟨y,u,rfl,rfl⟩:=fV hv
   .rw[V4]at h;exact wpAny_eqBool_int h
   .rw[aao]at h;exact SeqAt.EqAt.int_str i t y u _ _ _ _ h
  .obtain⟨j,u,rfl,rfl⟩|⟨y,u,rfl,rfl⟩:=fV hv
   .rw[WM]at h;exact SeqAt.EqAt.str_int x t j u _ _ _ _ h
   .rw[aeg]at h;exact wpAny_eqBool_str h
 «strs» :=λk x t v h=>by
  obtain⟨i,u,rfl,e⟩|⟨y,u,rfl,e⟩:=fV h
  .exact nomatch e
  .injection e with e1 _
   subst e1;cases v<;>rfl
theorem Xv(prog:ϯ)(w:Ϭ)(i:Int)(t:Tok):(aZ prog w).is (.inl i) (.int i t)=true:=ab3 i t
theorem Uc(prog:ϯ)(w:Ϭ)(x:Str)(t:Tok):(aZ prog w).is (.inr x) (.str x t)=true:=aaJ x t
inductive V where
 |non|bl (b:Bool)|int (i:Int)|str (x:Str)|byt (b:Array UInt8)|flt (b:UInt64)|ref (a:δ)|ty (n:String)
 deriving DecidableEq
def RelV:V->ε->Prop
 |.non,u=>u=Value.none
 |.bl b,u=>u=Value.bool b
 |.int i,u=>∃t,u=Value.int i t
 |.str x,u=>∃t,u=Value.str x t
 |.byt b,u=>∃t,u=Value.bytes b t
 |.flt b,u=>∃t,u=Value.float b t
 |.ref a,u=>u=Value.ref a
 |.ty n,u=>u=Value.type n
abbrev Vals:List V->List ε->Prop:=Paired RelV
theorem Vals.length{xs:List V}{us:List ε}(r:Vals xs us):xs.length=us.length:=Paired.length r
theorem Vals.get:∀{xs:List V}{us:List ε}{i:Nat}{x:V},Vals xs us->xs[i]?=some x->∃u,us[i]?=some u/\RelV x u
 |_,_,_,_,.nil,e=>by simp at e
 |_,_,0,_,.cons r _,e=>by simp at e;subst e;exact⟨_,rfl,r⟩
 |_,_,i+1,x,.cons _ t,e=>by
  obtain⟨u,h1,h2⟩:=Vals.get (i:=i) (x:=x) t (by simpa using e);exact⟨u,by simpa using h1,h2⟩
theorem Vals.append:∀{xs ys:List V}{us ws:List ε},Vals xs us->Vals ys ws->Vals (xs++ys) (us++ws)
 |_,_,_,_,.nil,s=>s
 |_,_,_,_,.cons r t,s=>.cons r (Vals.append t s)
theorem Vals.take:∀{xs:List V}{us:List ε}(n:Nat),Vals xs us->Vals (xs.take n) (us.take n)
 |_,_,0,_=>.nil
 |_,_,_+1,.nil=>.nil
 |_,_,n+1,.cons r t=>.cons r (Vals.take n t)
theorem Vals.drop:∀{xs:List V}{us:List ε}(n:Nat),Vals xs us->Vals (xs.drop n) (us.drop n)
 |_,_,0,r=>r
 |_,_,_+1,.nil=>.nil
 |_,_,n+1,.cons _ t=>Vals.drop n t
def bz:Option V->Option ε->Prop
 |some v,some u=>RelV v u
 |none,none=>True
 |_,_=>False
def KV{κ:Type}:List (κ×V)->List (κ×ε)->Prop:=Paired λ(p:κ×V)(q:κ×ε)=>p.1=q.1/\RelV p.2 q.2
def kV:Key->V
 |.inl i=>.int i
 |.inr x=>.str x
inductive HO where
 |lst (xs:List V)
 |tup (xs:List V)
 |dK (Ϸ:List (Key×V))|dT (Ϸ:List (List Key×V))
 |set (S:Int->Bool) (n:Nat)
 |ins (C dx:δ) (fs:List (Str×V))
 |own (x:δ)
 |xd (fs:List (Str×V))
 |met (f x:δ)
 |rng (lo hi:Int)
 |frz (o:Obj) (u:HO)
 |tbl (ps:Array ε)
 |ext (φ:ϫ->Prop)
abbrev Hp:=δ->Option HO
def upd(H:Hp)(a:δ)(o:HO):Hp:=λb=>if b=a then some o else H b
theorem ρ{H:Hp}{a:δ}{o:HO}:upd H a o a=some o:=by unfold upd;rw[if_pos rfl]
theorem ι{H:Hp}{a b:δ}{o:HO}(h:b≠a):upd H a o b=H b:=by unfold upd;rw[if_neg h]
theorem T6{H:Hp}{a b:δ}{o u:HO}(h:H a=some o)(h':H b=some u)(d:o≠u):a≠b:=by
 intro e;subst e;rw[h]at h';exact d (Option.some.inj h')
theorem Θ{H:Hp}{a b:δ}{o:HO}(h:H a=some o)(h':H b=none):a≠b:=by
 intro e;subst e;rw[h]at h';cases h'
section
variable(P:ϯ)(w:Ϭ)
def ϐ(H:Hp)(h:ϫ)(a:δ):HO->Prop
 |.lst xs=>xs.length<=Ϫ/\∃(ϸ:List ε)(n:Nat),Vals xs ϸ/\h.get? a=some {cls:=.type "list",data:=.seq ϸ.toArray n}
 |.tup xs=>xs.length<=Ϫ/\∃ϸ:List ε,Vals xs ϸ/\IsTup h a ϸ.toArray
 |.dK Ϸ=>Ϸ.length<=Ϫ/\(a==sysModules)=false/\∃vs,KV Ϸ vs/\h.DictOf (aZ P w) a vs
 |.dT Ϸ=>Ϸ.length<=Ϫ/\(a==sysModules)=false/\∃xs:List (List Key×δ×ε),
   Paired (λ(p:List Key×V)(q:List Key×δ×ε)=>p.1=q.1/\H q.2.1=some (.tup (p.1.map kV))/\RelV p.2 q.2.2) Ϸ xs/\
   ∃o es ep,h.get? a=some o/\o.ExactDict/\o.data=.dict es ep/\es.toList=xs.map (entryOfKey (tupleKind (aZ P w)))/\(xs.map (·.1)).Nodup
 |.set S n=>h.SetOf (intKind P w) a S n
 |.ins C dx fs=>H dx=some (.own a)/\fs.length<=1000/\dx≠a/\h.get? a=some (anI C dx)/\
   ∃mA,h.Ns1 dx mA/\(∀f,bz (fs.lookup f) (mA f))/\PySem.Within mA (fs.map (·.1))
 |.own _=>∃o,h.get? a=some o
 |.xd fs=>∃mA,h.Ns1 a mA/\∀f,bz (fs.lookup f) (mA f)
 |.rng lo hi=>∃t u v,h.get? a=some {cls:=.type "range",data:=.fields #[.int lo t,.int hi u,.int 1 v]}
 |.frz o u=>h.get? a=some o/\ϐ H h a u
 |.tbl ps=>∃qs:Array ε,h.get? a=some {cls:=.none,data:=.fields qs}/\TriplesOk qs.toList/\∀(p:Pos)(cv:ε),codeAmong p qs.toList=some cv->∃c oc u q t vs t',cv=.ref c/\codeAmong p ps.toList=some (.str q t)/\H c=some (.frz oc u)/\oc.data=.fields vs/\vs[1]?=some (.str q t')
 |.met f x=>h.get? a=some (an7 (.ref f) (.ref x))
 |.ext φ=>φ h/\(∃o,h.get? a=some o)/\∀h1 h2:ϫ,φ h1->(∀o,h1.get? a=some o->h2.get? a=some o)->φ h2
def Ϡ(H:Hp)(h:ϫ):=∀a o,H a=some o->ϐ P w H h a o
end
section
variable{P:ϯ}{w:Ϭ}{H H':Hp}{h h':ϫ}{a:δ}{o:HO}
theorem ϐ.lt(x:ϐ P w H h a o):a<h.objs.size:=by
 cases o with
 |lst xs=>obtain⟨_,_,_,_,e⟩:=x;exact ϴ e
 |tup xs=>obtain⟨_,_,_,p⟩:=x;exact p.lt
 |dK Ϸ=>obtain⟨_,_,_,_,o,_,_,e,_⟩:=x;exact ϴ e
 |dT Ϸ=>obtain⟨_,_,_,_,o,_,_,e,_⟩:=x;exact ϴ e
 |set S n=>obtain⟨o,_,_,_,e,_⟩:=x;exact ϴ e
 |ins C dx fs=>obtain⟨_,_,_,e,_⟩:=x;exact ϴ e
 |own y=>obtain⟨_,e⟩:=x;exact ϴ e
 |xd fs=>obtain⟨_,⟨_,_,_,e,_⟩,_⟩:=x;exact ϴ e
 |rng lo hi=>obtain⟨_,_,_,e⟩:=x;exact ϴ e
 |frz ob u=>obtain⟨e,_⟩:=x;exact ϴ e
 |tbl ps=>obtain⟨_,e,_⟩:=x;exact ϴ e
 |met f y=>exact ϴ (show h.get? a=some _ from x)
 |ext φ=>obtain⟨_,⟨_,e⟩,_⟩:=x;exact ϴ e
theorem Paired.mapP{α β:Type}{F G:α->β->Prop}:∀{l₁:List α}{l₂:List β},Paired F l₁ l₂->(∀a b,F a b->G a b)->Paired G l₁ l₂
 |_,_,.nil,_=>.nil
 |_,_,.cons r t,f=>.cons (f _ _ r) (Paired.mapP t f)
theorem ϐ.stay(x:ϐ P w H h a o)(k:∀b u,(b=a\/H b=some (.own a))->h.get? b=some u->h'.get? b=some u)(ho:∀b,H b=some (.own a)->H' b=some (.own a))(ht:∀b xs,H b=some (.tup xs)->H' b=some (.tup xs))(hz:∀b ob u,H b=some (.frz ob u)->H' b=some (.frz ob u):=by exact λ_ _ _ q=>q):ϐ P w H' h' a o:=by
 induction o with
 |lst xs=>obtain⟨z,ϸ,n,r,e⟩:=x;exact⟨z,ϸ,n,r,k _ _ (.inl rfl) e⟩
 |tup xs=>obtain⟨z,ϸ,r,ob,e,c⟩:=x;exact⟨z,ϸ,r,ob,k _ _ (.inl rfl) e,c⟩
 |dK Ϸ=>obtain⟨z,y,vs,r,ob,es,ep,e,c⟩:=x;exact⟨z,y,vs,r,ob,es,ep,k _ _ (.inl rfl) e,c⟩
 |dT Ϸ=>
  obtain⟨z,y,xs,r,ob,es,ep,e,c⟩:=x;exact⟨z,y,xs,Paired.mapP r λp q z=>⟨z.1,ht _ _ z.2.1,z.2.2⟩,ob,es,ep,k _ _ (.inl rfl) e,c⟩
 |set S n=>obtain⟨ob,es,ep,t,e,c⟩:=x;exact⟨ob,es,ep,t,k _ _ (.inl rfl) e,c⟩
 |ins C dx fs=>
  obtain⟨d,z,ne,e,mA,⟨od,es,ep,e2,c⟩,r⟩:=x;exact⟨ho _ d,z,ne,k _ _ (.inl rfl) e,mA,⟨od,es,ep,k _ _ (.inr d) e2,c⟩,r⟩
 |own y=>obtain⟨ob,e⟩:=x;exact⟨ob,k _ _ (.inl rfl) e⟩
 |xd fs=>obtain⟨mA,⟨od,es,ep,e,c⟩,r⟩:=x;exact⟨mA,⟨od,es,ep,k _ _ (.inl rfl) e,c⟩,r⟩
 |rng lo hi=>obtain⟨t,u,v,e⟩:=x;exact⟨t,u,v,k _ _ (.inl rfl) e⟩
 |frz ob u ih=>obtain⟨e,q⟩:=x;exact⟨k _ _ (.inl rfl) e,ih q⟩
 |tbl ps=>
  obtain⟨qs,e,tr,z⟩:=x;refine⟨qs,k _ _ (.inl rfl) e,tr,λp cv hc=>?_⟩;obtain⟨c,oc,u,q,t,vs,t',e1,e2,e3,e4⟩:=z p cv hc;exact⟨c,oc,u,q,t,vs,t',e1,e2,hz _ _ _ e3,e4⟩
 |met f y=>
  have e:h.get? a=some (an7 (.ref f) (.ref y)):=x;show h'.get? a=some (an7 (.ref f) (.ref y));exact k a _ (.inl rfl) e
 |ext φ=>obtain⟨p,⟨o,e⟩,st⟩:=x;exact⟨st _ _ p λo q=>k _ _ (.inl rfl) q,⟨o,k _ _ (.inl rfl) e⟩,st⟩
theorem Ϡ.lt(x:Ϡ P w H h)(e:H a=some o):a<h.objs.size:=(x a o e).lt
theorem Ϡ.fresh(x:Ϡ P w H h)(e:h.objs.size<=a):H a=none:=by
 cases q:H a with
 |none=>rfl
 |some u=>exact absurd (adz (x.lt q) e) (akD _)
theorem Ϡ.kept(x:Ϡ P w H h)(k:∀b u,h.get? b=some u->h'.get? b=some u):Ϡ P w H h':=λa o e=>
 (x a o e).stay (λb u _ q=>k b u q) (λ_ q=>q) λ_ _ q=>q
theorem Ϡ.laid(x:Ϡ P w H h)(k:∀b u,h.get? b=some u->h'.get? b=some u)(hp:h.objs.size<=a)(new:ϐ P w (upd H a o) h' a o):Ϡ P w (upd H a o) h':=λb u e=>by
 have hn:=x.fresh hp;by_cases hb:b=a
 .subst hb;rw[ρ]at e;cases e;exact new
 .rw[ι hb]at e;exact(x b u e).stay (λc v _ q=>k c v q) (λc q=>by rw[ι (Θ q hn)];exact q) (λc xs q=>by rw[ι (Θ q hn)];exact q) λc ob v q=>by rw[ι (Θ q hn)];exact q
end
def Rd(H:Hp)(a:δ)(u:HO):Prop:=H a=some u\/∃o,H a=some (.frz o u)
theorem Rd.ok{P:ϯ}{w:Ϭ}{H:Hp}{h:ϫ}{a:δ}{u:HO}(r:Rd H a u)(x:Ϡ P w H h):ϐ P w H h a u:=by
 obtain r|⟨o,r⟩:=r
 .exact x a u r
 .obtain⟨_,q⟩:=x a _ r;exact q
def qx:Option HO->Prop
 |some (.lst _)=>True
 |some (.dK _)=>True
 |some (.dT _)=>True
 |some (.set _ _)=>True
 |some (.ins _ _ _)=>True
 |some (.ext _)=>True
 |_=>False
section
variable{P:ϯ}{w:Ϭ}{H:Hp}{h h':ϫ}{x e:δ}{o':HO}
theorem Ϡ.write(ok:Ϡ P w H h)(mu:qx (H x))(he:e=x\/H e=some (.own x))(k:∀b u,b≠e->h.get? b=some u->h'.get? b=some u)(heo:∃u,h'.get? e=some u)(new:ϐ P w (upd H x o') h' x o'):Ϡ P w (upd H x o') h':=λb u q=>by
 have nown:∀c y,H c=some (.own y)->c≠x:=λc y r z=>by subst z;rw[r]at mu;exact mu
 have ntup:∀c xs,H c=some (.tup xs)->c≠x:=λc xs r z=>by subst z;rw[r]at mu;exact mu
 by_cases hb:b=x
 .subst hb;rw[ρ]at q;cases q;exact new
 .rw[ι hb]at q;by_cases hbe:b=e
  .have q':H b=some (.own x):=by
    obtain z|z:=he
    .exact absurd (hbe.trans z) hb
    .rw[hbe];exact z
   rw[q]at q';cases q';obtain⟨v,hv⟩:=heo;exact⟨v,by rw[hbe];exact hv⟩
  .refine(ok b u q).stay (λc v hc r=>k c v ?_ r) (λc r=>by rw[ι (nown c b r)];exact r) (λc xs r=>by rw[ι (ntup c xs r)];exact r) λc ob v r=>by rw[ι (λz=>by subst z;rw[r]at mu;exact mu)];exact r
   obtain rfl|hc:=hc
   .exact hbe
   .rintro rfl
    obtain z|z:=he
    .exact nown c b hc z
    .rw[hc]at z;cases z;exact hb rfl
end
structure Un(fs ex:List δ)(H H':Hp)(h h':ϫ):Prop where
 keep:∀b o,h.get? b=some o->H b=none->b∉fs->b∉ex->h'.get? b=some o
 slot:∀b o,h.get? b=some o->H b=none->b∈fs->b∉ex->∃sl,h'.get? b=some {o with slots:=sl}
 free:∀b o,h.get? b=some o->H b=none->b∉ex->H' b=none
 there:∀b o,h.get? b=some o->b∉ex->∃o',h'.get? b=some o'
 tups:∀b xs,H b=some (.tup xs)->H' b=some (.tup xs)
 frzs:∀b o u,H b=some (.frz o u)->H' b=some (.frz o u)
 tbls:∀b ps,H b=some (.tbl ps)->∃more,H' b=some (.tbl (ps++more))
section
variable{fs fs' ex ex':List δ}{H H1 H2:Hp}{h h1 h2 h':ϫ}{a x e:δ}{o:HO}
theorem Un.any(u:Un fs ex H H1 h h1){b:δ}{ob:Obj}(q:h.get? b=some ob)(n:H b=none)(hx:b∉ex):∃sl,h1.get? b=some {ob with slots:=sl}:=by
 by_cases hb:b∈fs
 .exact u.slot b ob q n hb hx
 .exact⟨ob.slots,u.keep b ob q n hb hx⟩
theorem Un.kept(k:∀b u,h.get? b=some u->h'.get? b=some u):Un fs ex H H h h':=
 ⟨λb ob q _ _ _=>k b ob q,λb ob q _ _ _=>⟨ob.slots,k b ob q⟩,λ_ _ _ n _=>n,λb ob q _=>⟨ob,k b ob q⟩,λ_ _ q=>q,λ_ _ _ q=>q,λ_ ps q=>⟨#[],by rw[q];simp⟩⟩
theorem Un.refl:Un fs ex H H h h:=Un.kept λ_ _ q=>q
theorem Un.laid(k:∀b u,h.get? b=some u->h'.get? b=some u)(hp:h.objs.size<=a)(hn:H a=none):Un fs ex H (upd H a o) h h' where
 keep:=λb u q _ _ _=>k b u q
 slot:=λb u q _ _ _=>⟨u.slots,k b u q⟩
 free:=λb u q n _=>by rw[ι (acT (adz (ϴ q) hp))];exact n
 there:=λb u q _=>⟨u,k b u q⟩
 tups:=λb xs q=>by rw[ι (Θ q hn)];exact q
 frzs:=λb u xs q=>by rw[ι (Θ q hn)];exact q
 tbls:=λb ps q=>⟨#[],by rw[ι (Θ q hn),q];simp⟩
theorem Un.write(mu:qx (H x))(he:e=x\/H e=some (.own x))(k:∀b u,b≠e->h.get? b=some u->h'.get? b=some u)(heo:∃u,h'.get? e=some u):Un fs ex H (upd H x o) h h':=by
 have hx:∀b,H b=none->b≠x:=λb n z=>by subst z;rw[n]at mu;exact mu
 have hb:∀b,H b=none->b≠e:=λb n z=>by
  subst z;obtain r|r:=he
  .exact hx b n r
  .rw[n]at r;cases r
 have hm:∀b u,H b=some u->¬qx (some u)->b≠x:=λb u q nm z=>by subst z;rw[q]at mu;exact nm mu
 refine⟨λb u q n _ _=>k b u (hb b n) q,λb u q n _ _=>⟨u.slots,k b u (hb b n) q⟩,λb u q n _=>by rw[ι (hx b n)];exact n,λb u q _=>?_,
  λb xs q=>by rw[ι (hm b _ q λz=>z)];exact q,λb u xs q=>by rw[ι (hm b _ q λz=>z)];exact q,λb ps q=>⟨#[],by rw[ι (hm b _ q λz=>z),q];simp⟩⟩
 by_cases hbe:b=e
 .subst hbe;exact heo
 .exact⟨u,k b u hbe q⟩
end
def ik(h:ϫ)(H:Hp):List δ:=(ad6 h.objs.size).filter λa=>(H a).isSome
def iI(h:ϫ)(H:Hp):ϫ:=W.hideAll h (ik h H)
theorem ag8(h:ϫ)(H:Hp):(iI h H).objs.size=h.objs.size:=W.hideAll_size _ _
theorem YS{h:ϫ}{H:Hp}{b:δ}{o:Obj}(e:h.get? b=some o)(n:H b=none):(iI h H).get? b=some o:=
 W.hideAll_get _ e λhm=>by
  have q:(H b).isSome=true:=(akL.mp hm).2;rw[n]at q;simp at q
theorem ahv{h:ϫ}{H:Hp}{b:δ}{o:Obj}(e:(iI h H).get? b=some o):h.get? b=some o/\H b=none:=by
 have e':h.get? b=some o:=W.of_hideAll (ik h H) e;refine⟨e',?_⟩;cases q:H b with
 |none=>rfl
 |some x=>
  have hm:b∈ik h H:=akL.mpr ⟨alD.mpr (ϴ e'),by simp[q]⟩;have z:(iI h H).get? b=none:=W.hideAll_none (ik h H) hm;rw[z]at e;cases e
def Wx(g h:ϫ)(L:δ):List (δ×Obj):=(ad6 h.objs.size).filterMap λa=>if a=L\/(g.get? a).isSome=true then none else(h.get? a).map λo=>(a,o)
def rest(g h:ϫ)(L d:δ):List (δ×Obj):=(Wx g h L).filter λp=>decide (p.1≠d)
structure Mod(K:ϩ)(mg:Str->Option ε)(base:ϫ):Prop where
 kin:K.In base
 glob:base.Ns mainGlobals mg
 blt:∃mb,base.Ns builtinsNs mb/\∀x:Str,x≠"__name__"->mb x=bootBuiltins x
 nolimit:base.NoLimit
structure Cx where
 prog:ϯ
 w:Ϭ
 K:ϩ
 mg:Str->Option ε
 base:ϫ
 A:ϲ
 N:List Str
 s₀:μ
 H₀:Hp
 env:Env
 outer:List Env
 stack:List Env
 ex:List δ
 fn:Str->Bool
 calm:Bool
 pn:List (δ×Obj)
 xe:ε->μ->Prop
def bY(l:List Env):List δ:=l.filterMap (·.frame)
abbrev Cx.fs(X:Cx):List δ:=bY X.outer
def pL(sc:ai8)(x:Str):Prop:=sc.names.lookup x=some .local\/sc.names.lookup x=some .cell\/sc.names.lookup x=some .free
def Loc(sc:ai8)(x:Str):Prop:=sc.names.lookup x=some .local\/sc.names.lookup x=some .cell
def Look(env:Env)(h:ϫ)(m:Str->Option ε)(x:Str)(u:ε):Prop:=
 (env.kindOf x=some .local/\m x=some u)\/((env.kindOf x=some .cell\/env.kindOf x=some .free)/\∃c,env.cells.lookup x=some c/\h.IsCell c (some u))
structure Cx.Ok(X:Cx):Prop where
 mod:Mod X.K X.mg X.base
 kind:X.env.scope.kind=.function
 glob:X.env.globals=mainGlobals
 blt:X.env.builtins=builtinsNs
 above:X.s₀.heap.objs.size<=X.env.locals
 inj:∀x y c,X.env.cells.lookup x=some c->X.env.cells.lookup y=some c->x=y
 has:∀x,(X.env.kindOf x=some .cell\/X.env.kindOf x=some .free)->∃c,X.env.cells.lookup x=some c
 cab:∀x c,X.fn x=true->X.env.cells.lookup x=some c->X.s₀.heap.objs.size<=c
 hd:X.calm=true->X.A.handled=none
 frames:X.A.frames=some X.stack
 stk:X.stack=X.outer\/(X.stack=X.env::X.outer/\X.env.frame=some X.env.locals)
 exf:∀b∈X.ex,b≠X.env.locals/\∀x c,X.env.cells.lookup x=some c->c≠b
 bs:∀b o,X.base.get? b=some o->X.s₀.heap.get? b=some o/\X.H₀ b=none
 bsz:X.base.objs.size<=X.s₀.heap.objs.size
 noex:∀b o,X.base.get? b=some o->b∉X.ex
 exfs:∀b∈X.ex,b∉X.fs
 funs:X.s₀.heap.FunFrames X.base X.outer
 frf:∀b∈X.fs,X.H₀ b=none
structure Inv(X:Cx)(ϵ:List (δ×Obj))(σ:List (Option V))(H:Hp)(s:μ):Prop where
 ok:X.Ok
 os:s.os=X.s₀.os
 bare:AllBare s.gens
 base:Un X.fs X.ex X.H₀ H X.s₀.heap s.heap
 loc:∃m,s.heap.Ns X.env.locals m/\∀(i:Nat)(x:Str)(v:V),X.N[i]?=some x->σ[i]?=some (some v)->pL X.env.scope x->∃u,RelV v u/\Look X.env s.heap m x u
 cell:∀x c,X.env.cells.lookup x=some c->∃v,s.heap.IsCell c v
 free:H X.env.locals=none
 freeC:∀x c,X.env.cells.lookup x=some c->H c=none
 pin:∀p∈X.pn++ϵ,s.heap.get? p.1=some p.2/\H p.1=none/\p.1≠X.env.locals/\p.1∉X.fs/\∀v,p.2.data≠.cell v
 hok:Ϡ X.prog X.w H s.heap
 len:σ.length=X.N.length
section
variable{X:Cx}{ϵ:List (δ×Obj)}{σ:List (Option V)}{H H':Hp}{s:μ}{h':ϫ}
theorem Cx.Ok.nofr(ok:X.Ok){b:δ}{o:Obj}(e:X.base.get? b=some o):b∉X.fs:=λhb=>by
 have:=(ok.funs.mem hb).1;rw[e]at this;cases this
theorem Inv.bs(I:Inv X ϵ σ H s):∀b o,X.base.get? b=some o->s.heap.get? b=some o/\H b=none:=λb o e=>
 ⟨I.base.keep b o (I.ok.bs b o e).1 (I.ok.bs b o e).2 (I.ok.nofr e) (I.ok.noex b o e),I.base.free b o (I.ok.bs b o e).1 (I.ok.bs b o e).2 (I.ok.noex b o e)⟩
theorem Inv.bk(I:Inv X ϵ σ H s):∀b o,X.base.get? b=some o->s.heap.get? b=some o:=λb o e=>(I.bs b o e).1
theorem Inv.mod(I:Inv X ϵ σ H s):Mod X.K X.mg X.base:=I.ok.mod
theorem Inv.kIn(I:Inv X ϵ σ H s):X.K.In s.heap:=I.ok.mod.kin.keeps I.bk
theorem Inv.lt(I:Inv X ϵ σ H s):X.env.locals<s.heap.objs.size:=let⟨_,hn,_⟩:=I.loc;hn.lt
theorem Inv.sz(I:Inv X ϵ σ H s):X.s₀.heap.objs.size<=s.heap.objs.size:=ah6 I.ok.above (anT I.lt)
theorem Inv.nofs(I:Inv X ϵ σ H s){a:δ}(h:s.heap.objs.size<=a):a∉X.fs:=λhb=>by
 obtain⟨_,o,ho,_⟩:=I.ok.funs.mem hb;exact absurd (adz (ϴ ho) (ah6 I.sz h)) (akD _)
theorem Inv.cne(I:Inv X ϵ σ H s):∀x c,X.env.cells.lookup x=some c->c≠X.env.locals:=λx c e z=>by
 obtain⟨v,o,ho,hd⟩:=I.cell x c e;obtain⟨m,⟨o',es,ep,ho',hd',_⟩,_⟩:=I.loc;rw[z,ho']at ho;cases ho;rw[hd']at hd;cases hd
theorem Inv.funs(I:Inv X ϵ σ H s):s.heap.FunFrames X.base X.outer:=by
 have all:∀(l:List Env),(∀b∈bY l,b∈X.fs)->X.s₀.heap.FunFrames X.base l->s.heap.FunFrames X.base l:=by
  intro l;induction l with
  |nil=>intro _ _;trivial
  |cons env r ih=>
   intro hs hl;obtain⟨hk,⟨L,o,hf,hn,ho,hd⟩,hr⟩:=hl;have hL:L∈X.fs:=hs L (by unfold bY;rw[List.filterMap_cons,hf];exact acB);obtain⟨sl,e⟩:=I.base.slot L o ho (I.ok.frf L hL) hL λz=>I.ok.exfs L z hL
   exact⟨hk,⟨L,_,hf,hn,e,hd⟩,ih (λb hb=>hs b (by unfold bY;rw[List.filterMap_cons,hf];exact abN _ hb)) hr⟩
 exact all X.outer (λ_ hb=>hb) I.ok.funs
theorem Inv.stack(I:Inv X ϵ σ H s):s.heap.FunFrames X.base X.stack:=by
 obtain e|⟨e,hf⟩:=I.ok.stk
 .rw[e];exact I.funs
 .rw[e];obtain⟨m,hn,_⟩:=I.loc;refine .cons (by rw[I.ok.kind];decide) hf hn ?_ I.funs;exact ak4 (ah6 I.ok.bsz I.ok.above)
theorem Inv.stkSub(I:Inv X ϵ σ H s):∀b∈bY X.stack,b∈X.env.locals::X.fs:=λb hb=>by
 obtain e|⟨e,hf⟩:=I.ok.stk
 .rw[e]at hb;exact abN _ hb
 .rw[e]at hb;unfold bY at hb;rw[List.filterMap_cons,hf]at hb;exact hb
theorem Inv.stkFree(I:Inv X ϵ σ H s):∀b∈bY X.stack,H b=none:=λb hb=>by
 rcases acG.mp (I.stkSub b hb)with e|hb
 .rw[e];exact I.free
 .obtain⟨_,o,ho,_⟩:=I.ok.funs.mem hb;exact I.base.free b o ho (I.ok.frf b hb) λz=>I.ok.exfs b z hb
theorem Inv.step{g':Array GenState}{t':Nat}{d':Drawn}{ch:List δ}(I:Inv X ϵ σ H s)(hch:∀b∈ch,(b∈X.ex\/X.s₀.heap.get? b=none)/\b≠X.env.locals/\(∀x c,X.env.cells.lookup x=some c->c≠b)/\∀p∈X.pn++ϵ,p.1≠b)(keep:∀b o,b≠X.env.locals->b∉X.fs->b∉ch->s.heap.get? b=some o->H b=none->h'.get? b=some o)(slot:∀b o,b≠X.env.locals->b∈X.fs->b∉ch->s.heap.get? b=some o->H b=none->∃sl,h'.get? b=some {o with slots:=sl})(free:∀b o,b∉ch->s.heap.get? b=some o->H b=none->H' b=none)(there:∀b o,b∉ch->s.heap.get? b=some o->∃o',h'.get? b=some o')(tups:∀b xs,H b=some (.tup xs)->H' b=some (.tup xs))(frzs:∀b o u,H b=some (.frz o u)->H' b=some (.frz o u))(tbls:∀b ps,H b=some (.tbl ps)->∃more,H' b=some (.tbl (ps++more)))(ns:∀m,s.heap.Ns X.env.locals m->h'.Ns X.env.locals m)(hok:Ϡ X.prog X.w H' h')(hg:AllBare g'):Inv X ϵ σ H' {s with heap:=h',gens:=g',drawn:=d',toks:=t'}:=by
 have neL:∀b o,X.s₀.heap.get? b=some o->b≠X.env.locals:=λb o e=>acT (adz (ϴ e) I.ok.above)
 have neC:∀b o,X.s₀.heap.get? b=some o->b∉X.ex->b∉ch:=λb o e hx hb=>by
  rcases(hch b hb).1 with z|z
  .exact hx z
  .rw[e]at z;cases z
 have cellK:∀x c,X.env.cells.lookup x=some c->∀v,s.heap.IsCell c v->h'.IsCell c v:=λx c e v ⟨o,ho,hd⟩=>by
  have nch:c∉ch:=λz=>(hch c z).2.2.1 x c e rfl
  by_cases hc:c∈X.fs
  .obtain⟨sl,q⟩:=slot c o (I.cne x c e) hc nch ho (I.freeC x c e);exact⟨_,q,hd⟩
  .exact⟨o,keep c o (I.cne x c e) hc nch ho (I.freeC x c e),hd⟩
 refine⟨I.ok,I.os,hg,⟨λb o e n hb hx=>?_,λb o e n hb hx=>?_,λb o e n hx=>?_,λb o e hx=>?_,λb xs e=>tups b xs (I.base.tups b xs e),λb o xs e=>frzs b o xs (I.base.frzs b o xs e),λb ps e=>?_⟩,?_,λx c e=>?_,?_,λx c e=>?_,λp hp=>?_,hok,I.len⟩
 .exact keep b o (neL b o e) hb (neC b o e hx) (I.base.keep b o e n hb hx) (I.base.free b o e n hx)
 .obtain⟨sl,e1⟩:=I.base.slot b o e n hb hx;obtain⟨sl',e2⟩:=slot b _ (neL b o e) hb (neC b o e hx) e1 (I.base.free b o e n hx);exact⟨sl',e2⟩
 .obtain⟨o',e1⟩:=I.base.there b o e hx;exact free b o' (neC b o e hx) e1 (I.base.free b o e n hx)
 .obtain⟨o',e1⟩:=I.base.there b o e hx;exact there b o' (neC b o e hx) e1
 .obtain⟨m1,e1⟩:=I.base.tbls b ps e;obtain⟨m2,e2⟩:=tbls b _ e1;exact⟨m1++m2,by rw[e2,Array.append_assoc]⟩
 .obtain⟨m,hn,hl⟩:=I.loc;refine⟨m,ns m hn,λi x v e1 e2 e3=>?_⟩;obtain⟨u,r,l⟩:=hl i x v e1 e2 e3;refine⟨u,r,?_⟩;obtain l|⟨k,c,e,z⟩:=l
  .exact .inl l
  .exact .inr ⟨k,c,e,cellK x c e _ z⟩
 .obtain⟨v,z⟩:=I.cell x c e;exact⟨v,cellK x c e v z⟩
 .obtain⟨m,⟨o,_,_,ho,_⟩,_⟩:=I.loc;exact free _ o (λz=>(hch _ z).2.1 rfl) ho I.free
 .obtain⟨v,o,ho,hd⟩:=I.cell x c e;exact free c o (λz=>(hch c z).2.2.1 x c e rfl) ho (I.freeC x c e)
 .obtain⟨e,n,ne,nf,d⟩:=I.pin p hp;have nch:p.1∉ch:=λz=>(hch p.1 z).2.2.2 p hp rfl
  exact⟨keep p.1 p.2 ne nf nch e n,free p.1 p.2 nch e n,ne,nf,d⟩
theorem Inv.un{t':Nat}(I:Inv X ϵ σ H s)(u:Un X.fs [] H H' s.heap h')(hok:Ϡ X.prog X.w H' h'):Inv X ϵ σ H' {s with heap:=h',toks:=t'}:=by
 obtain⟨m,⟨o,es,ep,ho,r⟩,_⟩:=id I.loc;obtain⟨sl,hL⟩:=u.any ho I.free (by simp);exact I.step (g':=s.gens) (d':=s.drawn) (ch:=[]) (λ_ z=>nomatch z) (λb o _ hb _ e n=>u.keep b o e n hb (by simp)) (λb o _ hb _ e n=>u.slot b o e n hb (by simp)) (λb o _ e n=>u.free b o e n (by simp)) (λb o _ e=>u.there b o e (by simp)) u.tups u.frzs u.tbls (λm' hm=>by
  obtain⟨o',es',ep',ho',r'⟩:=hm;rw[ho]at ho';cases ho';exact⟨_,es',ep',hL,r'⟩) hok I.bare
theorem Inv.call{g':Array GenState}{t':Nat}{d':Drawn}{ch:List δ}(I:Inv X ϵ σ H s)(u:Un (bY X.stack) ch H H' s.heap h')(hok:Ϡ X.prog X.w H' h')(hg:AllBare g')(hch:∀b∈ch,(b∈X.ex\/X.s₀.heap.get? b=none)/\b≠X.env.locals/\(∀x c,X.env.cells.lookup x=some c->c≠b)/\∀p∈X.pn++ϵ,p.1≠b):Inv X ϵ σ H' {s with heap:=h',gens:=g',drawn:=d',toks:=t'}:=by
 obtain⟨m,⟨o,es,ep,ho,r⟩,_⟩:=id I.loc;obtain⟨sl,hL⟩:=u.any ho I.free λz=>(hch _ z).2.1 rfl
 exact I.step (ch:=ch) hch (λb o hL hb hc e n=>u.keep b o e n (λz=>(acG.mp (I.stkSub b z)).elim hL hb) hc) (λb o _ _ hc e n=>u.any e n hc) (λb o hc e n=>u.free b o e n hc) (λb o hc e=>u.there b o e hc) u.tups u.frzs u.tbls (λm' hm=>by
  obtain⟨o',es',ep',ho',r'⟩:=hm;rw[ho]at ho';cases ho';exact⟨_,es',ep',hL,r'⟩) hok hg
theorem Inv.turned{t':Nat}{it:δ}(I:Inv X ϵ σ H s)(k:∀b o,b≠it->s.heap.get? b=some o->h'.get? b=some o)(hn:H it=none)(hL:it≠X.env.locals)(h1:it∈X.ex\/X.s₀.heap.get? it=none)(h2:∀x c,X.env.cells.lookup x=some c->c≠it)(h3:∀p∈X.pn++ϵ,p.1≠it):Inv X ϵ σ H {s with heap:=h',toks:=t'}:=by
 have nit:∀b u,H b=some u->b≠it:=λb u e z=>by rw[z,hn]at e;cases e
 refine I.step (g':=s.gens) (d':=s.drawn) (ch:=[it]) (λb hb=>?_) (λb o _ _ hc e _=>k b o (λz=>hc (by simp[z])) e) (λb o _ _ hc e _=>⟨o.slots,k b o (λz=>hc (by simp[z])) e⟩) (λ_ _ _ _ n=>n)
  (λb o hc e=>⟨o,k b o (λz=>hc (by simp[z])) e⟩) (λ_ _ e=>e) (λ_ _ _ e=>e) (λb ps e=>⟨#[],by rw[e];simp⟩) (λm hm=>?_) (λb u e=>?_) I.bare
 .have e:b=it:=by simpa using hb
  subst e;exact⟨h1,hL,h2,h3⟩
 .obtain⟨o,es,ep,ho,r⟩:=hm;exact⟨o,es,ep,k _ o (Ne.symm hL) ho,r⟩
 .refine(I.hok b u e).stay (λc v hc q=>k c v ?_ q) (λ_ q=>q) λ_ _ q=>q
  obtain z|z:=hc
  .rw[z];exact nit b u e
  .exact nit c _ z
theorem Inv.tok(I:Inv X ϵ σ H s)(t:Nat):Inv X ϵ σ H {s with toks:=t}:=I.un (h':=s.heap) (t':=t) Un.refl I.hok
theorem Inv.kept{t':Nat}(I:Inv X ϵ σ H s)(k:∀b u,s.heap.get? b=some u->h'.get? b=some u):Inv X ϵ σ H {s with heap:=h',toks:=t'}:=I.un (Un.kept k) (I.hok.kept k)
theorem Inv.laid{a:δ}{o:HO}{t':Nat}(I:Inv X ϵ σ H s)(k:∀b u,s.heap.get? b=some u->h'.get? b=some u)(hp:s.heap.objs.size<=a)(new:ϐ X.prog X.w (upd H a o) h' a o):Inv X ϵ σ (upd H a o) {s with heap:=h',toks:=t'}:=I.un (Un.laid k hp (I.hok.fresh hp)) (I.hok.laid k hp new)
theorem Inv.write{x e:δ}{o:HO}{t':Nat}(I:Inv X ϵ σ H s)(mu:qx (H x))(he:e=x\/H e=some (.own x))(k:∀b u,b≠e->s.heap.get? b=some u->h'.get? b=some u)(heo:∃u,h'.get? e=some u)(new:ϐ X.prog X.w (upd H x o) h' x o):Inv X ϵ σ (upd H x o) {s with heap:=h',toks:=t'}:=I.un (Un.write mu he k heo) (I.hok.write mu he k heo new)
theorem Inv.weak{σ':List (Option V)}(I:Inv X ϵ σ H s)(hl:σ'.length=σ.length)(w:∀(i:Nat) v,σ'[i]?=some (some v)->σ[i]?=some (some v)):Inv X ϵ σ' H s:=
 ⟨I.ok,I.os,I.bare,I.base,let⟨m,hn,hl'⟩:=I.loc;⟨m,hn,λi x v e1 e2 e3=>hl' i x v e1 (w i v e2) e3⟩,I.cell,I.free,I.freeC,I.pin,I.hok,hl.trans I.len⟩
theorem Inv.pins_of{pins':List (δ×Obj)}(I:Inv X ϵ σ H s)(h:∀p∈pins',s.heap.get? p.1=some p.2/\H p.1=none/\p.1≠X.env.locals/\p.1∉X.fs/\∀v,p.2.data≠.cell v):Inv X pins' σ H s:=
 ⟨I.ok,I.os,I.bare,I.base,I.loc,I.cell,I.free,I.freeC,λp hp=>(aei.mp hp).elim (λz=>I.pin p (alQ _ z)) (h p),I.hok,I.len⟩
theorem zy{N:List Str}(hN:N.Nodup){i j:Nat}{x:Str}(a:N[i]?=some x)(b:N[j]?=some x):i=j:=by
 obtain⟨h1,e1⟩:=aaF.mp a;obtain⟨h2,e2⟩:=aaF.mp b;exact(aoc hN).mp (e1.trans e2.symm)
theorem wz{M:Model}{A:ϲ}{E:ε->μ->Prop}{i:Nat}{x:Str}{v:V}{u:ε}{Q:Unit->μ->Prop}(I:Inv X ϵ σ H s)(hN:X.N.Nodup)(hi:X.N[i]?=some x)(hx:Loc X.env.scope x)(r:RelV v u)(h:∀s',Inv X ϵ (σ.set i (some v)) H s'->(∃a,akS a s.heap s'.heap/\(a=X.env.locals\/X.env.cells.lookup x=some a))->Q () s')(hf:X.fn x=true\/X.env.scope.names.lookup x=some .local:=by first|exact .inl rfl|exact .inr rfl|assumption):ν M A (storeName X.env x u) Q E s:=by
 obtain⟨m,hn,hl⟩:=id I.loc;have hcls:(X.env.scope.kind==.class||(X.env.scope.kind==.module&&X.env.locals !=X.env.globals))=false:=by rw[I.ok.kind];rfl
 have hiσ:i<σ.length:=by rw[I.len];exact(aaF.mp hi).1
 have cne:=I.cne;have tracked:∀{a:δ}{h':ϫ},(∃o,s.heap.get? a=some o/\H a=none)->akS a s.heap h'->Ϡ X.prog X.w H h':=λ{a h'} ha hs b ob e=>by
  obtain⟨_,_,hfree⟩:=ha;refine(I.hok b ob e).stay (λc w' hc q=>(hs.2 c ?_).trans q) (λ_ q=>q) λ_ _ q=>q
  rintro rfl
  obtain rfl|hc:=hc
  .rw[hfree]at e;cases e
  .rw[hfree]at hc;cases hc
 obtain hk|hk:=hx
 .refine wpAny_storeName_local hk hn (λh' hn' hs=>?_) hcls;obtain⟨oL,_,_,hoL,_⟩:=id hn;refine h _ ⟨I.ok,I.os,I.bare,⟨λb o e n hb hx=>?_,λb o e n hb hx=>?_,I.base.free,λb o e hx=>?_,I.base.tups,I.base.frzs,I.base.tbls⟩,⟨_,hn',λj y v' e1 e2 e3=>?_⟩,λy c e=>?_,I.free,I.freeC,λp hp=>?_,tracked ⟨oL,hoL,I.free⟩ hs,by simpa using I.len⟩ ⟨_,hs,.inl rfl⟩
  .exact(hs.2 b (acT (adz (ϴ e) I.ok.above))).trans (I.base.keep b o e n hb hx)
  .obtain⟨sl,e1⟩:=I.base.slot b o e n hb hx;exact⟨sl,(hs.2 b (acT (adz (ϴ e) I.ok.above))).trans e1⟩
  .obtain⟨o',e1⟩:=I.base.there b o e hx;exact⟨o',(hs.2 b (acT (adz (ϴ e) I.ok.above))).trans e1⟩
  .by_cases hj:j=i
   .subst hj;rw[hi]at e1;cases e1;rw[amd hiσ]at e2;cases e2;exact⟨u,r,.inl ⟨hk,by simp⟩⟩
   .rw[anL (Ne.symm hj)]at e2;obtain⟨u',r',q⟩:=hl j y v' e1 e2 e3;refine⟨u',r',?_⟩;obtain⟨k,e⟩|⟨k,c,e,z⟩:=q
    .refine .inl ⟨k,?_⟩;have:y≠x:=λe=>hj (zy hN e1 (e▸hi))
     simp[this,e]
    .exact .inr ⟨k,c,e,z.sameBut hs (cne y c e)⟩
  .obtain⟨w',z⟩:=I.cell y c e;exact⟨w',z.sameBut hs (cne y c e)⟩
  .obtain⟨e,n,ne,nf,d⟩:=I.pin p hp;exact⟨(hs.2 p.1 ne).trans e,n,ne,nf,d⟩
 .have hfn:X.fn x=true:=by
   obtain z|z:=hf
   .exact z
   .rw[z]at hk;cases hk
  obtain⟨c,hc⟩:=I.ok.has x (.inl hk);obtain⟨w',z⟩:=I.cell x c hc;refine wpAny_storeName_cell I.ok.kind hk hc z (λh' hc' hs=>?_);obtain⟨oc,hoc,hocd⟩:=id z;refine h {s with heap:=h'} ⟨I.ok,I.os,I.bare,⟨λb o e n hb hx=>?_,λb o e n hb hx=>?_,I.base.free,λb o e hx=>?_,I.base.tups,I.base.frzs,I.base.tbls⟩,⟨m,hn.sameBut hs (Ne.symm (cne x c hc)),λj y v' e1 e2 e3=>?_⟩,λy c' e=>?_,I.free,I.freeC,λp hp=>?_,tracked ⟨oc,hoc,I.freeC x c hc⟩ hs,by simpa using I.len⟩ ⟨c,hs,.inr hc⟩
  .exact(hs.2 b (acT (adz (ϴ e) (I.ok.cab x c hfn hc)))).trans (I.base.keep b o e n hb hx)
  .obtain⟨sl,e1⟩:=I.base.slot b o e n hb hx;exact⟨sl,(hs.2 b (acT (adz (ϴ e) (I.ok.cab x c hfn hc)))).trans e1⟩
  .obtain⟨o',e1⟩:=I.base.there b o e hx;exact⟨o',(hs.2 b (acT (adz (ϴ e) (I.ok.cab x c hfn hc)))).trans e1⟩
  .by_cases hj:j=i
   .subst hj;rw[hi]at e1;cases e1;rw[amd hiσ]at e2;cases e2;exact⟨u,r,.inr ⟨.inl hk,c,hc,hc'⟩⟩
   .rw[anL (Ne.symm hj)]at e2;obtain⟨u',r',q⟩:=hl j y v' e1 e2 e3;refine⟨u',r',?_⟩;obtain q|⟨k,c',e,z'⟩:=q
    .exact .inl q
    .refine .inr ⟨k,c',e,z'.sameBut hs ?_⟩
     rintro rfl
     exact hj (zy hN e1 (I.ok.inj _ _ _ e hc▸hi))
  .by_cases hcc:c'=c
   .subst hcc;exact⟨_,hc'⟩
   .obtain⟨w2,z2⟩:=I.cell y c' e;exact⟨w2,z2.sameBut hs hcc⟩
  .obtain⟨e,n,ne,nf,d⟩:=I.pin p hp;refine⟨(hs.2 p.1 ?_).trans e,n,ne,nf,d⟩;intro q;rw[q,hoc]at e;have q':oc=p.2:=Option.some.inj e;exact d w' (by rw[<-q'];exact hocd)
theorem Hv{M:Model}{A:ϲ}{E:ε->μ->Prop}{i:Nat}{x:Str}{v:V}{u:ε}{Q:Unit->μ->Prop}(I:Inv X ϵ σ H s)(hN:X.N.Nodup)(hi:X.N[i]?=some x)(hx:Loc X.env.scope x)(r:RelV v u)(h:∀s',Inv X ϵ (σ.set i (some v)) H s'->Q () s')(hf:X.fn x=true\/X.env.scope.names.lookup x=some .local:=by first|exact .inl rfl|exact .inr rfl|assumption):ν M A (storeName X.env x u) Q E s:=
 wz I hN hi hx r (λs' I' _=>h s' I') hf
theorem Inv.call'{s':μ}{ch:List δ}(I:Inv X ϵ σ H s)(ho:s'.os=s.os)(u:Un (bY X.stack) ch H H' s.heap s'.heap)(hok:Ϡ X.prog X.w H' s'.heap)(hg:AllBare s'.gens)(hch:∀b∈ch,(b∈X.ex\/X.s₀.heap.get? b=none)/\b≠X.env.locals/\(∀x c,X.env.cells.lookup x=some c->c≠b)/\∀p∈X.pn++ϵ,p.1≠b):Inv X ϵ σ H' s':=by
 obtain⟨h',g',d',t',o'⟩:=s';have e:o'=s.os:=ho;subst e;exact I.call (g':=g') (t':=t') (d':=d') u hok hg hch
end
abbrev XK:=ε->Option δ×Bool->Hp->Prop
abbrev St:=List (Option V)
abbrev VK:=V->Hp->Prop
abbrev TE:=St->Hp->VK->Prop
abbrev TT:=St->Hp->(Bool->Hp->Prop)->Prop
abbrev TA:=St->Hp->(List V->Hp->Prop)->Prop
structure Ends where
 nx:St->Hp->Prop
 rt:VK
 bk:St->Hp->Prop:=λ_ _=>False
 ct:St->Hp->Prop:=λ_ _=>False
abbrev TS:=Ends->St->Hp->Prop
def EP(X:Cx)(ϵ:List (δ×Obj))(σ:St)(Q:VK)(u:ε)(s':μ):=∃v H',Inv X ϵ σ H' s'/\RelV v u/\Q v H'
def TP(X:Cx)(ϵ:List (δ×Obj))(σ:St)(Q:Bool->Hp->Prop)(b:Bool)(s':μ):=∃H',Inv X ϵ σ H' s'/\Q b H'
def AP(X:Cx)(ϵ:List (δ×Obj))(σ:St)(Q:List V->Hp->Prop)(us:List ε)(s':μ):=∃vs H',Inv X ϵ σ H' s'/\Vals vs us/\Q vs H'
def SP(X:Cx)(ϵ:List (δ×Obj))(D:Ends)(f:Flow)(s':μ):Prop:=
 match f with
 |.next=>∃σ' H',Inv X ϵ σ' H' s'/\D.nx σ' H'
 |.brk=>∃σ' H',Inv X ϵ σ' H' s'/\D.bk σ' H'
 |.cont=>∃σ' H',Inv X ϵ σ' H' s'/\D.ct σ' H'
 |.ret u=>∃v σ' H',Inv X ϵ σ' H' s'/\RelV v u/\D.rt v H'
def PE(X:Cx)(e:π)(t:TE):Prop:=
 ∀(ϵ:List (δ×Obj))(s:μ)(σ:St)(H:Hp)(Q:VK),Inv X ϵ σ H s->t σ H Q->ν (Ϧ X.prog X.w) X.A (eval e X.env) (EP X ϵ σ Q) X.xe s
def PT(X:Cx)(e:π)(t:TT):Prop:=
 ∀(ϵ:List (δ×Obj))(s:μ)(σ:St)(H:Hp)(Q:Bool->Hp->Prop),Inv X ϵ σ H s->t σ H Q->ν (Ϧ X.prog X.w) X.A (isTrue e X.env (eval e X.env)) (TP X ϵ σ Q) X.xe s
def PW(X:Cx)(e:π)(t:TT):Prop:=
 ∀(whole:Sem ε)(ϵ:List (δ×Obj))(s:μ)(σ:St)(H:Hp)(Q:Bool->Hp->Prop),Inv X ϵ σ H s->t σ H Q->ν (Ϧ X.prog X.w) X.A (isTrue e X.env whole) (TP X ϵ σ Q) X.xe s
theorem PW.pt{X:Cx}{e:π}{t:TT}(h:PW X e t):PT X e t:=h _
def PA(X:Cx)(es:List π)(t:TA):Prop:=
 ∀(pos:Pos)(ϵ:List (δ×Obj))(s:μ)(σ:St)(H:Hp)(Q:List V->Hp->Prop),Inv X ϵ σ H s->t σ H Q->ν (Ϧ X.prog X.w) X.A (spliced (backTo pos (ϰ es X.env))) (AP X ϵ σ Q) X.xe s
def PS(X:Cx)(st:Ϩ)(t:TS):Prop:=
 ∀(ϵ:List (δ×Obj))(s:μ)(σ:St)(H:Hp)(D:Ends),Inv X ϵ σ H s->t D σ H->ν (Ϧ X.prog X.w) X.A (exec st X.env) (SP X ϵ D) X.xe s
def gm(X:Cx)(st:List Ϩ)(t:TS):Prop:=
 ∀(ϵ:List (δ×Obj))(s:μ)(σ:St)(H:Hp)(D:Ends),Inv X ϵ σ H s->t D σ H->ν (Ϧ X.prog X.w) X.A (execs st X.env) (SP X ϵ D) X.xe s
theorem χ{α:Type}{t:Sem α}{Q Q':α->μ->Prop}{M:Model}{A:ϲ}{E:ε->μ->Prop}{s:μ}(h:ν M A t Q E s)(hQ:∀a s,Q a s->Q' a s):ν M A t Q' E s:=adL h hQ λ_ _ x=>x
section
variable{X:Cx}
def agT(i:Nat):TE:=λσ H Q=>∃v,σ[i]?=some (some v)/\Q v H
def tC(v:V):TE:=λ_ H Q=>Q v H
theorem aiZ{i:Nat}{x:Str}{pos:Pos}(hN:X.N[i]?=some x)(hv:pL X.env.scope x)(hd:(x==("__debug__":Str))=false:=by decide)(hcd:(x==("__classdict__":Str))=false:=by decide):PE X (.Name x pos) (agT i):=by
 intro ϵ s σ H Q I h;obtain⟨v,e,h⟩:=h;obtain⟨m,hn,hl⟩:=I.loc;obtain⟨u,r,l⟩:=hl i x v hN e hv;have fin:EP X ϵ σ Q u s:=⟨v,H,I,r,h⟩;obtain⟨hk,hm⟩|⟨hk,c,hc,hcell⟩:=l
 .exact wpAny_Name (wpAny_loadName_local I.ok.kind hk hn hm fin) hd
 .obtain hk|hk:=hk
  .exact wpAny_Name (wpAny_loadName_cell I.ok.kind hk hc hcell fin) hd
  .exact wpAny_Name (wpAny_loadName_free I.ok.kind hk hc hcell fin hcd) hd
theorem aaW{i j pos}:PE X (.Constant (.int i) j pos) (tC (.int i)):=λ_ _ _ H _ I h=>wpAny_Constant_int ⟨.int i,H,I.tok _,⟨_,rfl⟩,h⟩
theorem agl{b j pos}:PE X (.Constant (.bool b) j pos) (tC (.bl b)):=λ_ _ _ H _ I h=>Constant_bool ⟨.bl b,H,I,rfl,h⟩
theorem akd{j pos}:PE X (.Constant .none j pos) (tC .non):=λ_ _ _ H _ I h=>Constant_none ⟨.non,H,I,rfl,h⟩
theorem aeF{x j pos}:PE X (.Constant (.str x) j pos) (tC (.str x)):=λ_ _ _ H _ I h=>Calls.Constant_str ⟨.str x,H,I.tok _,⟨_,rfl⟩,h⟩
def Gl(X:Cx)(x:Str):Prop:=X.env.kindOf x=some .globalImplicit
theorem jF{E:ε->μ->Prop}{ϵ:List (δ×Obj)}{s:μ}{σ:St}{H:Hp}{x:Str}{u:ε}{pos:Pos}{Q:ε->μ->Prop}(I:Inv X ϵ σ H s)(hg:Gl X x)(hm:X.mg x=some u)(h:Q u s)(hd:(x==("__debug__":Str))=false:=by decide):ν (Ϧ X.prog X.w) X.A (eval (.Name x pos) X.env) Q E s:=
 Calls.Name_function_global I.ok.kind hg (Calls.loadGlobal_global (by rw[I.ok.glob];exact I.mod.glob.keeps I.bk) hm h) hd
theorem mC{E:ε->μ->Prop}{ϵ:List (δ×Obj)}{s:μ}{σ:St}{H:Hp}{x:Str}{u:ε}{pos:Pos}{Q:ε->μ->Prop}(I:Inv X ϵ σ H s)(hg:Gl X x)(hm:X.mg x=none)(hv:bootBuiltins x=some u)(h:Q u s)(hn:x≠"__name__":=by decide)(hd:(x==("__debug__":Str))=false:=by decide):ν (Ϧ X.prog X.w) X.A (eval (.Name x pos) X.env) Q E s:=by
 obtain⟨mb,h1,h2⟩:=I.mod.blt;exact Calls.Name_function_global I.ok.kind hg (Calls.loadGlobal_builtin (by rw[I.ok.glob];exact I.mod.glob.keeps I.bk) hm (by rw[I.ok.blt];exact h1.keeps I.bk) ((h2 x hn).trans hv) h) hd
theorem Yh{x:Str}{v:V}{u:ε}{pos:Pos}(hg:Gl X x)(hm:X.mg x=some u)(r:RelV v u)(hd:(x==("__debug__":Str))=false:=by decide):PE X (.Name x pos) (tC v):=
 λ_ _ _ H _ I h=>jF I hg hm ⟨v,H,I,r,h⟩ hd
theorem aeY{x:Str}{v:V}{u:ε}{pos:Pos}(hg:Gl X x)(hm:X.mg x=none)(hv:bootBuiltins x=some u)(r:RelV v u)(hn:x≠"__name__":=by decide)(hd:(x==("__debug__":Str))=false:=by decide):PE X (.Name x pos) (tC v):=
 λ_ _ _ H _ I h=>mC I hg hm hv ⟨v,H,I,r,h⟩ hn hd
variable{a b:π}{ta tb:TE}{pos:Pos}
variable{tA tB':TT}{rest:List π}
def Zc(t u:TT):TT:=λσ H Q=>t σ H λc H1=>if c=true then u σ H1 Q else Q false H1
def tOr(t u:TT):TT:=λσ H Q=>t σ H λc H1=>if c=true then Q true H1 else u σ H1 Q
def Za(t:TT):TT:=λσ H Q=>t σ H λc H1=>Q (!c) H1
theorem afW(ha:PT X a tA):PW X (.BoolOp .And [a] pos) tA:=by
 intro wh ϵ s σ H Q I h;refine isTrue_and (χ (ha ϵ s σ H Q I h) λc s1 e=>?_);cases c with
 |true=>exact isTrue_and_nil e
 |false=>exact e
theorem aeH(ha:PT X a tA):PW X (.BoolOp .Or [a] pos) tA:=by
 intro wh ϵ s σ H Q I h;refine isTrue_or (χ (ha ϵ s σ H Q I h) λc s1 e=>?_);cases c with
 |false=>exact isTrue_or_nil e
 |true=>exact e
theorem akg(ha:PT X a tA)(hb:PW X (.BoolOp .And (b::rest) pos) tB'):PW X (.BoolOp .And (a::b::rest) pos) (Zc tA tB'):=by
 intro wh ϵ s σ H Q I h;refine isTrue_and (χ (ha ϵ s σ H _ I h) λc s1 hZ=>?_);obtain⟨H1,I1,q1⟩:=hZ;cases c with
 |true=>exact hb wh ϵ s1 σ H1 Q I1 q1
 |false=>exact⟨H1,I1,q1⟩
theorem aet(ha:PT X a tA)(hb:PW X (.BoolOp .Or (b::rest) pos) tB'):PW X (.BoolOp .Or (a::b::rest) pos) (tOr tA tB'):=by
 intro wh ϵ s σ H Q I h;refine isTrue_or (χ (ha ϵ s σ H _ I h) λc s1 hZ=>?_);obtain⟨H1,I1,q1⟩:=hZ;cases c with
 |true=>exact⟨H1,I1,q1⟩
 |false=>exact hb wh ϵ s1 σ H1 Q I1 q1
theorem Zm(ha:PT X a tA):PT X (.UnaryOp .Not a pos) (Za tA):=by
 intro ϵ s σ H Q I h;exact isTrue_not (ha ϵ s σ H (λc H1=>Q (!c) H1) I h)
def YZ(ta tb:TE):TE:=λσ H Q=>ta σ H λx H1=>∃c,x=.bl c/\if c=true then tb σ H1 Q else Q (.bl false) H1
def ajo(ta tb:TE):TE:=λσ H Q=>ta σ H λx H1=>∃c,x=.bl c/\if c=true then Q (.bl true) H1 else tb σ H1 Q
def YB(ta:TE):TE:=λσ H Q=>ta σ H λx H1=>∃c,x=.bl c/\Q (.bl (!c)) H1
theorem agI{op}{t:TE}(h:PE X a t):PE X (.BoolOp op [a] pos) t:=λϵ s σ H Q I hw=>BoolOp_one (h ϵ s σ H Q I hw)
theorem ajH(ha:PE X a ta)(hb:PE X (.BoolOp .And (b::rest) pos) tb):PE X (.BoolOp .And (a::b::rest) pos) (YZ ta tb):=by
 intro ϵ s σ H Q I h;refine BoolOp_and (χ (ha ϵ s σ H _ I h) λv s1 hZ=>?_);obtain⟨x,H1,I1,r1,q1⟩:=hZ;obtain⟨c,rfl,q1⟩:=q1;cases r1;refine ah9 ?_;cases c with
 |true=>exact hb ϵ s1 σ H1 Q I1 q1
 |false=>exact⟨.bl false,H1,I1,rfl,q1⟩
theorem V5(ha:PE X a ta)(hb:PE X (.BoolOp .Or (b::rest) pos) tb):PE X (.BoolOp .Or (a::b::rest) pos) (ajo ta tb):=by
 intro ϵ s σ H Q I h;refine BoolOp_or (χ (ha ϵ s σ H _ I h) λv s1 hZ=>?_);obtain⟨x,H1,I1,r1,q1⟩:=hZ;obtain⟨c,rfl,q1⟩:=q1;cases r1;refine ah9 ?_;cases c with
 |false=>exact hb ϵ s1 σ H1 Q I1 q1
 |true=>exact⟨.bl true,H1,I1,rfl,q1⟩
theorem acC(ha:PE X a ta):PE X (.UnaryOp .Not a pos) (YB ta):=by
 intro ϵ s σ H Q I h;refine UnaryOp_ (χ (ha ϵ s σ H _ I h) λv s1 hZ=>?_);obtain⟨x,H1,I1,r1,q1⟩:=hZ;obtain⟨c,rfl,q1⟩:=q1;cases r1;exact not_of (ah9 ⟨.bl (!c),H1,I1,rfl,q1⟩)
def tIf(t:TT)(ta tb:TE):TE:=λσ H Q=>t σ H λc H1=>if c=true then ta σ H1 Q else tb σ H1 Q
theorem Z9{c:π}(hc:PT X c tA)(ha:PE X a ta)(hb:PE X b tb):PE X (.IfExp c a b pos) (tIf tA ta tb):=by
 intro ϵ s σ H Q I h;refine wpAny_IfExp (χ (hc ϵ s σ H _ I h) λd s1 hZ=>?_);obtain⟨H1,I1,q1⟩:=hZ;cases d with
 |true=>exact ha ϵ s1 σ H1 Q I1 q1
 |false=>exact hb ϵ s1 σ H1 Q I1 q1
end
def θ(K:ϩ)(H:Hp)(a:δ)(xs:List V):Prop:=
 Rd H a (.lst xs)\/
  ∃(o:Obj)(ϸ:Array ε)(n:Nat),K.lookup a=some o/\o.cls=.type "list"/\o.dict=none/\o.data=.seq ϸ n/\ϸ.size<=Ϫ/\Vals xs ϸ.toList
def ω(K:ϩ)(H:Hp)(a:δ)(xs:List V):Prop:=
 Rd H a (.tup xs)\/
  ∃(o:Obj)(ϸ:Array ε)(n:Nat),K.lookup a=some o/\o.cls=.type "tuple"/\o.data=.seq ϸ n/\ϸ.size<=Ϫ/\Vals xs ϸ.toList
def VN:ε->Option V
 |.none=>some .non
 |.bool b=>some (.bl b)
 |.int i _=>some (.int i)
 |.str x _=>some (.str x)
 |.bytes b _=>some (.byt b)
 |.float b _=>some (.flt b)
 |.ref a=>some (.ref a)
 |.type n=>some (.ty n)
 |_=>none
theorem RelV.abs{x:V}{u:ε}(r:RelV x u):VN u=some x:=by
 cases x with
 |non=>cases r;rfl
 |bl _=>cases r;rfl
 |int _=>obtain⟨t,rfl⟩:=r;rfl
 |str _=>obtain⟨t,rfl⟩:=r;rfl
 |byt _=>obtain⟨t,rfl⟩:=r;rfl
 |flt _=>obtain⟨t,rfl⟩:=r;rfl
 |ref _=>cases r;rfl
 |ty _=>cases r;rfl
theorem RelV.inj{x y:V}{u:ε}(r:RelV x u)(q:RelV y u):x=y:=Option.some.inj (r.abs.symm.trans q.abs)
theorem Vals.inj{xs ys:List V}{us:List ε}(h:Vals xs us)(g:Vals ys us):xs=ys:=by
 induction h generalizing ys with
 |nil=>cases g;rfl
 |cons r t ih=>cases g with|cons r' t'=>rw[r.inj r',ih t']
section
variable{X:Cx}{ϵ:List (δ×Obj)}{σ:St}{H:Hp}{s:μ}{a:δ}{xs ys:List V}
theorem θ.of{K:ϩ}(h:H a=some (.lst xs)):θ K H a xs:=.inl (.inl h)
theorem ω.of{K:ϩ}(h:H a=some (.tup xs)):ω K H a xs:=.inl (.inl h)
theorem Inv.list(I:Inv X ϵ σ H s)(h:θ X.K H a xs):∃ϸ:List ε,Vals xs ϸ/\PlainL s.heap a ϸ.toArray/\xs.length<=Ϫ:=by
 obtain h|⟨o,ϸ,n,hk,hc,hd,hs,hz,r⟩:=h
 .obtain⟨z,ϸ,n,r,e⟩:=h.ok I.hok;exact⟨ϸ,r,⟨_,n,e,rfl,rfl,rfl⟩,z⟩
 .refine⟨ϸ.toList,r,⟨o,n,I.kIn a o hk,hc,hd,by simpa using hs⟩,?_⟩;have e:=r.length;simp only[alS]at e;omega
theorem Inv.tuple(I:Inv X ϵ σ H s)(h:ω X.K H a xs):∃ϸ:List ε,Vals xs ϸ/\IsTup s.heap a ϸ.toArray/\xs.length<=Ϫ:=by
 obtain h|⟨o,ϸ,n,hk,hc,hs,hz,r⟩:=h
 .obtain⟨z,ϸ,r,p⟩:=h.ok I.hok;exact⟨ϸ,r,p,z⟩
 .refine⟨ϸ.toList,r,⟨o,I.kIn a o hk,hc,n,by simpa using hs⟩,?_⟩;have e:=r.length;simp only[alS]at e;omega
theorem Inv.list_inj(I:Inv X ϵ σ H s)(h:θ X.K H a xs)(h':θ X.K H a ys):xs=ys:=by
 obtain⟨ϸ,r,⟨o,n,e,_,_,d⟩,_⟩:=I.list h;obtain⟨its',r',⟨o',n',e',_,_,d'⟩,_⟩:=I.list h';rw[e]at e';cases e';rw[d]at d';injection d' with d1 _
 have:ϸ=its':=by simpa using congrArg Array.toList d1
 subst this;exact r.inj r'
end
section
variable{X:Cx}{ϵ:List (δ×Obj)}{σ:St}{H:Hp}{s:μ}{E:ε->μ->Prop}
end
section
variable{X:Cx}{st:Ϩ}{rest:List Ϩ}{t u:TS}{e:π}{te:TE}{pos:Pos}
def aac:TS:=λD σ H=>D.nx σ H
def aik(t u:TS):TS:=λD σ H=>t {D with nx:=u D} σ H
theorem ah7:gm X [] aac:=λ_ _ σ H _ I h=>wpAny_execs_nil ⟨σ,H,I,h⟩
theorem ai4(h1:PS X st t)(h2:gm X rest u):gm X (st::rest) (aik t u):=by
 intro ϵ s σ H D I h;refine wpAny_execs_cons (χ (h1 ϵ s σ H {D with nx:=u D} I h) λf s1 q=>?_);cases f with
 |next=>
  obtain⟨σ',H',I',q⟩:=q;exact h2 ϵ s1 σ' H' D I' q
 |ret v=>exact q
 |brk=>exact q
 |cont=>exact q
theorem Ug(h1:PS X st t):gm X [st] t:=by
 intro ϵ s σ H D I h;refine wpAny_execs_cons (χ (h1 ϵ s σ H D I h) λf s1 q=>?_);cases f with
 |next=>exact wpAny_execs_nil q
 |ret v=>exact q
 |brk=>exact q
 |cont=>exact q
theorem Inv.quiet{ϵ:List (δ×Obj)}{σ:St}{H:Hp}{s:μ}(I:Inv X ϵ σ H s):interactive X.env=false:=by simp[interactive,I.ok.kind]
def afL(te:TE):TS:=λD σ H=>te σ H λ_ H1=>D.nx σ H1
theorem aiC(he:PE X e te)(hs:alk e none pos.line X.env=pure false:=by rfl):PS X (.Expr e pos) (afL te):=by
 intro ϵ s σ H D I h;exact wpAny_Expr_any (χ (he ϵ s σ H _ I h) λv s1 ⟨x,H1,I1,r1,q1⟩=>⟨σ,H1,I1,q1⟩) I.quiet hs
def Ws(te:TE):TS:=λD σ H=>te σ H D.rt
theorem abg(he:PE X e te):PS X (.Return (some e) pos) (Ws te):=by
 intro ϵ s σ H D I h;exact wpAny_Return_some (χ (he ϵ s σ H _ I h) λv s1 ⟨x,H1,I1,r1,q1⟩=>⟨x,σ,H1,I1,r1,q1⟩)
def ab1(c:TT)(t u:TS):TS:=λD σ H=>c σ H λb H1=>if b=true then t D σ H1 else u D σ H1
theorem ail{c:π}{a b:List Ϩ}{tc:TT}(hc:PT X c tc)(ha:gm X a t)(hb:gm X b u):PS X (.If c a b pos) (ab1 tc t u):=by
 intro ϵ s σ H D I h;refine wpAny_If (χ (hc ϵ s σ H _ I h) λd s1 hZ=>?_);obtain⟨H1,I1,q1⟩:=hZ;cases d with
 |true=>exact ha ϵ s1 σ H1 D I1 q1
 |false=>exact hb ϵ s1 σ H1 D I1 q1
end
abbrev TG:=V->St->Hp->(St->Hp->Prop)->Prop
abbrev je:=List V->St->Hp->(St->Hp->Prop)->Prop
def PG(X:Cx)(target:π)(t:TG):Prop:=
 ∀(ϵ:List (δ×Obj))(s:μ)(σ:St)(H:Hp)(v:V)(u:ε)(Q:St->Hp->Prop),Inv X ϵ σ H s->RelV v u->t v σ H Q->
  ν (Ϧ X.prog X.w) X.A (assign target X.env u) (λ_ s'=>∃σ' H',Inv X ϵ σ' H' s'/\Q σ' H') X.xe s
def mU(X:Cx)(ts:List π)(t:je):Prop:=
 ∀(ϵ:List (δ×Obj))(s:μ)(σ:St)(H:Hp)(vs:List V)(us:List ε)(Q:St->Hp->Prop),Inv X ϵ σ H s->Vals vs us->t vs σ H Q->
  ν (Ϧ X.prog X.w) X.A (assignInOrder ((alX ts X.env).map (·.2)) us) (λ_ s'=>∃σ' H',Inv X ϵ σ' H' s'/\Q σ' H') X.xe s
section
variable{X:Cx}{pos:Pos}
def R8(i:Nat):TG:=λv σ H Q=>Q (σ.set i (some v)) H
theorem afk{i:Nat}{x:Str}(hN:X.N.Nodup)(hi:X.N[i]?=some x)(hx:Loc X.env.scope x)(hf:X.fn x=true\/X.env.scope.names.lookup x=some .local:=by first|exact .inl rfl|exact .inr rfl|assumption):PG X (.Name x pos) (R8 i):=by
 intro ϵ s σ H v u Q I r h;exact wpAny_assign_Name (Hv I hN hi hx r (λs' I'=>⟨_,H,I',h⟩) hf)
def ae7:je:=λvs σ H Q=>vs=[]/\Q σ H
def ajm(t:TG)(u:je):je:=λvs σ H Q=>∃v r,vs=v::r/\t v σ H λσ' H'=>u r σ' H' Q
theorem afx:mU X [] ae7:=by
 intro ϵ s σ H vs us Q I r h;obtain⟨e,h⟩:=h;subst e;cases r;exact assignInOrder_nil ⟨σ,H,I,h⟩
theorem UL{e:π}{es:List π}{t:TG}{u:je}(h1:PG X e t)(h2:mU X es u)(hs:(alX (e::es) X.env).map (·.2)=assign e X.env::(alX es X.env).map (·.2):=by rfl):mU X (e::es) (ajm t u):=by
 intro ϵ s σ H vs us Q I r h;obtain⟨v,vr,e1,h⟩:=h;subst e1;cases r with
 |cons r rr=>
  rw[hs];refine assignInOrder_cons (χ (h1 ϵ s σ H _ _ _ I r h) λ_ s1 hZ=>?_);obtain⟨σ1,H1,I1,q1⟩:=hZ;exact h2 ϵ s1 σ1 H1 _ _ Q I1 rr q1
def adq(K:ϩ)(n:Nat)(t:je):TG:=λv σ H Q=>∃a xs,v=.ref a/\ω K H a xs/\xs.length=n/\t xs σ H Q
theorem ahK{es:List π}{k:Nat}{t:je}{n:Nat}(hc:X.calm=true)(h:mU X es t)(hn:(alX es X.env).length=n:=by rfl)(hst:(alX es X.env).findIdx? (·.1)=none:=by rfl):PG X (.Tuple es k pos) (adq X.K n t):=by
 intro ϵ s σ H v u Q I r hw;obtain⟨a,xs,e1,hq,hl,hw⟩:=hw;subst e1;cases r;obtain⟨ϸ,rv,ht,hz⟩:=I.tuple hq;refine assign_Tuple_tuple (I.ok.hd hc) ht (by simp[hn, <-hl,rv.length]) hst λh' hx=>?_
 have I1:Inv X ϵ σ H {s with heap:=h'}:=I.kept (t':=s.toks) λb o e=>hx b o (acT (ϴ e)) e
 exact h ϵ _ σ H xs _ Q I1 (by simpa using rv) hw
def Zz(te:TE)(g:TG):TS:=λD σ H=>te σ H λx H1=>g x σ H1 D.nx
theorem Y4{i:Nat}{x:Str}{e:π}{te:TE}{pos':Pos}(hN:X.N.Nodup)(hi:X.N[i]?=some x)(hx:Loc X.env.scope x)(he:PE X e te)(hs:alk e (some (.Name x pos')) pos.line X.env=pure false:=by rfl)(hf:X.fn x=true\/X.env.scope.names.lookup x=some .local:=by first|exact .inl rfl|exact .inr rfl|assumption):PS X (.Assign [.Name x pos'] e pos) (Zz te (R8 i)):=by
 intro ϵ s σ H D I h;refine wpAny_Assign_Name (χ (he ϵ s σ H _ I h) λv s1 hZ=>?_) hs;obtain⟨y,H1,I1,r1,q1⟩:=hZ;exact Hv I1 hN hi hx r1 (λs2 I2=>⟨_,H1,I2,q1⟩) hf
end
section
variable{X:Cx}{pos:Pos}
end
structure It where
 go:Nat->Hp->Prop
 yld:Nat->Hp->V->Hp->Prop
 stop:Nat->Hp->Prop
def aY(X:Cx)(ϵ:List (δ×Obj))(H:Hp)(b:δ):Prop:=
 H b=none/\b≠X.env.locals/\b∉X.fs/\(b∈X.ex\/X.s₀.heap.get? b=none)/\(∀x c,X.env.cells.lookup x=some c->c≠b)/\∀p∈X.pn++ϵ,p.1≠b
theorem Inv.fpOk{X:Cx}{ϵ:List (δ×Obj)}{σ:St}{H H':Hp}{s:μ}{b:δ}(I:Inv X ϵ σ H s)(hb:s.heap.objs.size<=b)(hn:H' b=none):aY X ϵ H' b:=by
 refine⟨hn,aoQ (adz I.lt hb),I.nofs hb,.inr (ak4 (ah6 I.sz hb)),λx c e z=>?_,λp hp z=>?_⟩
 .obtain⟨v,q⟩:=I.cell x c e;exact absurd (adz q.lt (by rw[z];exact hb)) (akD _)
 .exact absurd (adz (ϴ (I.pin p hp).1) (by rw[z];exact hb)) (akD _)
structure Turn(P:ϯ)(w:Ϭ)(K:ϩ)(tg:π)(J:It)(fp:List δ)(it:δ)(tn:Nat->ϫ->Prop):Prop where
 mem:it∈fp
 obj:∀i h,tn i h->∀b∈fp,∃o,h.get? b=some o/\∀v,o.data≠.cell v
 keep:∀i h h',tn i h->(∀b∈fp,∀o,h.get? b=some o->h'.get? b=some o)->tn i h'
 item:∀(X:Cx),X.prog=P->X.w=w->X.K=K->X.calm=true->∀(i:Nat)(ϵ:List (δ×Obj))(s:μ)(σ:St)(H:Hp)(E:ε->μ->Prop),Inv X ϵ σ H s->(∀b∈fp,aY X ϵ H b)->tn i s.heap->J.go i H->
  ν (Ϧ P w) X.A (pyNext (.ref it)) (λr s1=>∃u,r=some u/\
   ν (Ϧ P w) X.A (letOwnedTupleGo tg (.ref it) u) (λ_ s2=>∃x H',Inv X ϵ σ H' s2/\RelV x u/\J.yld i H x H'/\tn (i+1) s2.heap/\∀b∈fp,H' b=none) E s1) E s
 done:∀(X:Cx),X.prog=P->X.w=w->X.K=K->X.calm=true->∀(i:Nat)(ϵ:List (δ×Obj))(s:μ)(σ:St)(H:Hp)(E:ε->μ->Prop),Inv X ϵ σ H s->(∀b∈fp,aY X ϵ H b)->tn i s.heap->J.stop i H->
  ν (Ϧ P w) X.A (pyNext (.ref it)) (λr s1=>r=none/\Inv X ϵ σ H s1) E s
 self:∀(A:ϲ)(i:Nat)(s:μ)(Q:ε->μ->Prop)(E:ε->μ->Prop),tn i s.heap->Q (.ref it) s->ν (Ϧ P w) A (pyIter (.ref it)) Q E s
abbrev TI:=St->Hp->(It->Hp->Prop)->Prop
def yu(X:Cx)(ϵ:List (δ×Obj))(σ:St)(tg:π)(R:It->Hp->Prop)(itv:ε)(s2:μ):Prop:=
 ∃(it:δ)(fp:List δ)(tn:Nat->ϫ->Prop)(J:It)(H':Hp),itv=.ref it/\Inv X ϵ σ H' s2/\Turn X.prog X.w X.K tg J fp it tn/\tn 0 s2.heap/\(∀b∈fp,aY X ϵ H' b)/\R J H'
def PI(X:Cx)(tg iter:π)(wi:TI):Prop:=
 ∀(ϵ:List (δ×Obj))(s:μ)(σ:St)(H:Hp)(R:It->Hp->Prop),Inv X ϵ σ H s->wi σ H R->
  ν (Ϧ X.prog X.w) X.A (eval iter X.env) (λv s1=>ν (Ϧ X.prog X.w) X.A (pyIter v) (yu X ϵ σ tg R) X.xe s1) X.xe s
theorem qQ{M:Model}{A:ϲ}{E:ε->μ->Prop}{s:μ}{tg:π}{it:δ}{u:ε}{o:Obj}{n:String}{vs:Array ε}{Q:Unit->μ->Prop}(ho:s.heap.get? it=some o)(hc:o.cls=.type n)(hd:o.data=.fields vs)(hn:["enumerate","zip","dict_itemiterator","dict_reverseitemiterator","odict_iterator","itertools.zip_longest","itertools.pairwise"].contains n=false)(hQ:Q () s):ν M A (letOwnedTupleGo tg (.ref it) u) Q E s:=by
 unfold letOwnedTupleGo;cases tg<;>first
  |exact ϭ hQ
  |(cases u<;>first
   |exact ϭ hQ
   |(refine ϧ (wpAny_load ho ?_)
     rw[hc,hd];show ν M A (if(["enumerate","zip","dict_itemiterator","dict_reverseitemiterator","odict_iterator","itertools.zip_longest","itertools.pairwise"].contains n&&vs[0]?==some (rawInt _))=true then _ else _) Q E s;rw[if_neg (by intro h;rw[hn,ama]at h;cases h)];exact ϭ hQ))
def iy(K:ϩ)(a:δ):It:=
 ⟨λi H=>∃xs x,θ K H a xs/\xs[i]?=some x,λi H x H'=>H'=H/\∀xs,θ K H a xs->xs[i]?=some x,λi H=>∃xs,θ K H a xs/\xs.length<=i⟩
def jT(lo:Int)(n:Nat):It:=⟨λi _=>i<n,λi H x H'=>H'=H/\x=.int (lo+i),λi _=>n<=i⟩
theorem afQ{P:ϯ}{w:Ϭ}{K:ϩ}{tg:π}(a it:δ):Turn P w K tg (iy K a) [it] it (λi h=>h.IsListIter it a i)where
 mem:=by simp
 obj:=λi h st b hb=>by
  have e:b=it:=by simpa using hb
  subst e;obtain⟨o,e,c,d⟩:=st;exact⟨o,e,λv z=>by rw[d]at z;cases z⟩
 keep:=λi h h' st k=>st.at λo e=>k it (by simp) o e
 item:=by
  intro X hP hw hK hc i ϵ s σ H E I hf st hg;subst hP hw hK;obtain⟨xs,x,hq,hx⟩:=hg;obtain⟨ϸ,rv,p,hz⟩:=I.list hq;obtain⟨u,hu,ru⟩:=rv.get hx;obtain⟨f0,f1,f2,f3,f4,f5⟩:=hf it (by simp);refine wpAny_pyNext_list_item st p.isList (x:=u) (by simpa using hu) λh' st' sb=>?_
  have I1:Inv X ϵ σ H {s with heap:=h'}:=I.turned (t':=s.toks) (λb o hb e=>(sb.2 b hb).trans e) f0 f1 f3 f4 f5;obtain⟨o,e,c,d⟩:=id st';exact⟨u,rfl,qQ (s:={s with heap:=h'}) e c d (by decide) ⟨x,H,I1,ru,⟨rfl,λys hy=>by rw[I.list_inj hy hq];exact hx⟩,st',λb hb=>(hf b hb).1⟩⟩
 done:=by
  intro X hP hw hK hc i ϵ s σ H E I hf st hg;subst hP hw hK;obtain⟨xs,hq,hx⟩:=hg;obtain⟨ϸ,rv,p,hz⟩:=I.list hq;obtain⟨f0,f1,f2,f3,f4,f5⟩:=hf it (by simp);have hl:=rv.length;exact wpAny_pyNext_list_end (I.ok.hd hc) st p.isList (by simp;omega) λh' eb=>⟨rfl,I.turned (t':=s.toks) (λb o hb e=>eb b o hb e) f0 f1 f3 f4 f5⟩
 self:=λ_ _ _ _ _ st h=>wpAny_pyIter_listiter st h
theorem aa8{P:ϯ}{w:Ϭ}{K:PySem.W.Frag}{tg:π}(it:δ)(lo:Int)(n:Nat):Turn P w K tg (jT lo n) [it] it (λi h=>IsRangeIter h it (lo+(i:Nat)*1) ((n:Int)-(i:Nat)) 1)where
 mem:=by simp
 obj:=λi h st b hb=>by
  have e:b=it:=by simpa using hb
  subst e;exact⟨_,st,λv z=>by
   have z':Data.fields _=Data.cell v:=z;cases z'⟩
 keep:=λi h h' st k=>k it (by simp) _ st
 item:=by
  intro X hP hw hK hc i ϵ s σ H E I hf st hg;subst hP hw hK;obtain⟨f0,f1,f2,f3,f4,f5⟩:=hf it (by simp);have W:=Walks.range (prog:=X.prog) (w:=X.w) (I.ok.hd hc) it lo 1 n;refine W.item i s _ _ hg st λv h' tk hv st' kk=>?_
  obtain⟨t,rfl⟩:=hv;have I1:Inv X ϵ σ H {s with heap:=h',toks:=tk}:=I.turned (λb o hb e=>kk b o (by simpa using hb) e) f0 f1 f3 f4 f5;refine⟨_,rfl,qQ (s:={s with heap:=h',toks:=tk}) (n:="range_iterator") st' rfl rfl (by decide) ⟨.int (lo+i),H,I1,⟨t,?_⟩,⟨rfl,rfl⟩,st',λb hb=>(hf b hb).1⟩⟩;rw[Int.mul_one]
 done:=by
  intro X hP hw hK hc i ϵ s σ H E I hf st hg;subst hP hw hK;obtain⟨f0,f1,f2,f3,f4,f5⟩:=hf it (by simp);exact wpAny_pyNext_range_end (I.ok.hd hc) st (by have:n<=i:=hg;omega) λh' eb=>⟨rfl,I.turned (t':=s.toks) (λb o hb e=>eb b o hb e) f0 f1 f3 f4 f5⟩
 self:=λ_ _ _ _ _ st h=>wpAny_pyIter_rangeiter st h
section
variable{X:Cx}{tg:π}
def WT(K:ϩ)(tl:TE):TI:=λσ H R=>tl σ H λx H1=>∃a,x=.ref a/\(∃xs,θ K H1 a xs)/\R (iy K a) H1
theorem adG{l:π}{tl:TE}(hl:PE X l tl):PI X tg l (WT X.K tl):=by
 intro ϵ s σ H R I h;refine χ (hl ϵ s σ H _ I h) λv s1 hZ=>?_
 obtain⟨x,H1,I1,r1,q1⟩:=hZ;obtain⟨a,e,⟨xs,hq⟩,q⟩:=q1;subst e;cases r1;obtain⟨ϸ,rv,p,hz⟩:=I1.list hq;refine anB p.isList ?_;refine⟨s1.heap.objs.size,[s1.heap.objs.size],_,_,H1,rfl,I1.kept (t':=s1.toks) λb o e=>Heap.get?_push_of_some _ e,afQ a _,⟨_,acM _ rfl,rfl,rfl⟩,λb hb=>?_,q⟩;have e:b=s1.heap.objs.size:=by simpa using hb
 subst e;exact I1.fpOk (Ϯ _) (I1.hok.fresh (Ϯ _))
theorem abC{ϵ:List (δ×Obj)}{σ:St}{H:Hp}{s:μ}{R:It->Hp->Prop}{E:ε->μ->Prop}{lo hi:Int}{t u v:Tok}{tk:Nat}(I:Inv X ϵ σ H s)(h1: -(2^62)<=lo)(h2:lo<2^62)(h3: -(2^62)<=hi)(h4:hi<2^62)(q:R (jT lo (hi-lo).toNat) H):ν (Ϧ X.prog X.w) X.A (pyIter (.ref s.heap.objs.size)) (yu X ϵ σ tg R) E {s with heap:=s.heap.push {cls:=.type "range",data:=.fields #[.int lo t,.int hi u,.int 1 v]},toks:=tk}:=by
 refine wpAny_pyIter_range (IsRange.new ..) (small_one h1 h2 h3 h4) ?_;have I1:Inv X ϵ σ H {s with heap:=s.heap.push {cls:=.type "range",data:=.fields #[.int lo t,.int hi u,.int 1 v]},toks:=tk}:=I.kept λb o e=>Heap.get?_push_of_some _ e
 refine⟨(s.heap.push {cls:=.type "range",data:=.fields #[.int lo t,.int hi u,.int 1 v]}).objs.size,[(s.heap.push {cls:=.type "range",data:=.fields #[.int lo t,.int hi u,.int 1 v]}).objs.size],_,_,H,rfl,
  I1.kept (t':=tk) λb o e=>Heap.get?_push_of_some _ e,aa8 _ lo (hi-lo).toNat,?_,λb hb=>?_,q⟩
 .have e1:lo+((0:Nat):Int)*1=lo:=by simp
  have e2:(((hi-lo).toNat:Nat):Int)-((0:Nat):Int)=Builtin.Range.rangeSize lo hi 1:=by rw[rangeSize_one];split <;>omega
  show IsRangeIter _ _ (lo+((0:Nat):Int)*1) ((((hi-lo).toNat:Nat):Int)-((0:Nat):Int)) 1;rw[e1,e2];exact acM _ rfl
 .have e:b=(s.heap.push {cls:=.type "range",data:=.fields #[.int lo t,.int hi u,.int 1 v]}).objs.size:=by simpa using hb
  subst e;exact I1.fpOk (Ϯ _) (I1.hok.fresh (Ϯ _))
def ah3(ta:TA):TI:=λσ H R=>ta σ H λvs H1=>∃j:Int,vs=[.int j]/\ -(2^62)<=j/\j<2^62/\R (jT 0 j.toNat) H1
theorem ahV{a:π}{ta:TA}{p pos:Pos}(hg:Gl X "range")(hm:X.mg "range"=none)(ha:PA X [a] ta)(hs:ϰ [a] X.env=[(false,eval a X.env)]:=by rfl):PI X tg (.Call (.Name "range" p) [a] [] pos) (ah3 ta):=by
 intro ϵ s σ H R I h;refine Call_ (mC I hg hm boot_range (PyProof.Rows.callWith_type1 (χ (ha pos ϵ s σ H _ I h) λus s1 hZ=>?_) hs rfl));obtain⟨vs,H1,I1,r1,q1⟩:=hZ;obtain⟨j,e,q1,q2,q⟩:=q1;subst e;cases r1 with
 |cons r rr=>
  cases rr;obtain⟨t,rfl⟩:=r;exact call_range_1 (abC I1 (by omega) (by omega) q1 q2 (by simpa using q))
def ahH(wi:TI)(g:TG)(tb:TS):TS:=λD σ H=>wi σ H λJ H1=>∃W:Nat->Nat->St->Hp->Prop,(∃m,W 0 m σ H1)/\∀i m σ H,W i m σ H->
 (J.stop i H/\D.nx σ H)\/(J.go i H/\∃N:St->Hp->Prop,(∀σ' H',N σ' H'->∃m',m'<m/\W (i+1) m' σ' H')/\∀x H',J.yld i H x H'->g x σ H' λσ2 H2=>tb {D with nx:=N,ct:=N,bk:=D.nx} σ2 H2)
def mY(fp:List δ)(h:ϫ):List (δ×Obj):=fp.filterMap λb=>(h.get? b).map λo=>(b,o)
theorem nW{fp:List δ}{h:ϫ}{b:δ}{o:Obj}(hb:b∈fp)(e:h.get? b=some o):(b,o)∈mY fp h:=anw.mpr ⟨b,hb,by rw[e];rfl⟩
theorem ZV{fp:List δ}{h:ϫ}{p:δ×Obj}(hp:p∈mY fp h):p.1∈fp/\h.get? p.1=some p.2:=by
 obtain⟨b,hb,e⟩:=anw.mp hp;cases q:h.get? b with
 |none=>rw[q]at e;cases e
 |some o=>
  rw[q]at e;have e':(b,o)=p:=Option.some.inj e;subst e';exact⟨hb,q⟩
theorem Inv.pinned{ϵ:List (δ×Obj)}{σ:St}{H:Hp}{s:μ}{fp:List δ}(I:Inv X ϵ σ H s)(hf:∀b∈fp,aY X ϵ H b)(ho:∀b∈fp,∃o,s.heap.get? b=some o/\∀v,o.data≠.cell v):Inv X (ϵ++mY fp s.heap) σ H s:=
 I.pins_of λp hp=>(aei.mp hp).elim (λz=>I.pin p (ad2 _ z)) λz=>by
  obtain⟨hb,e⟩:=ZV z;obtain⟨f0,f1,f2,_⟩:=hf p.1 hb;obtain⟨o,e',d⟩:=ho p.1 hb;rw[e]at e';cases e';exact⟨e,f0,f1,f2,d⟩
theorem Inv.unpinned{ϵ pl:List (δ×Obj)}{σ:St}{H:Hp}{s:μ}(I:Inv X (ϵ++pl) σ H s):Inv X ϵ σ H s:=I.pins_of λp hp=>I.pin p (ad2 _ (alQ _ hp))
theorem ago{iter:π}{body:List Ϩ}{wi:TI}{g:TG}{tb:TS}{pos:Pos}(hp:anv (Ϧ X.prog X.w) X.A X.env X.xe)(hc:X.calm=true)(hi:PI X tg iter wi)(hg:PG X tg g)(hb:gm X body tb)(hs:∀x,foldedSetIterable iter X.env x=pure x:=by intro _;rfl):PS X (.For tg iter body [] pos) (ahH wi g tb):=by
 intro ϵ s σ H D I h;refine wpAny_For (χ (hi ϵ s σ H _ I h) λv s1 h1=>χ h1 λitv s2 h2=>?_) hs;obtain⟨it,fp,tn,J,H2,e,I2,T,st2,f2,W,⟨m0,w0⟩,turn⟩:=h2;subst e;have stat:∀{H':Hp},(∀b∈fp,H' b=none)->∀b∈fp,aY X ϵ H' b:=λhn b hb=>⟨hn b hb,(f2 b hb).2⟩
 refine codeAny_forLoop_any (λn s'=>∃i σ' H',Inv X ϵ σ' H' s'/\tn i s'.heap/\(∀b∈fp,H' b=none)/\W i n σ' H') ?_ m0 ⟨0,σ,H2,I2,st2,λb hb=>(f2 b hb).1,w0⟩
 rintro n s3 ⟨i,σ3,H3,I3,st3,fr3,w3⟩
 obtain⟨stop,qn⟩|⟨go,N,hN,step⟩:=turn i n σ3 H3 w3
 .refine ano hp (χ (T.done X rfl rfl rfl hc i ϵ s3 σ3 H3 X.xe I3 (stat fr3) st3 stop) λr s4 hZ=>?_);obtain⟨hr,I4⟩:=hZ;subst hr;exact wpAny_execs_nil ⟨σ3,H3,I4,qn⟩
 .refine ano hp (χ (T.item X rfl rfl rfl hc i ϵ s3 σ3 H3 X.xe I3 (stat fr3) st3 go) λr s4 hZ=>?_);obtain⟨u,hr,h4⟩:=hZ;subst hr;refine ano hp (χ h4 λ_ s5 hZ=>?_);obtain⟨x,H5,I5,r5,y5,st5,fr5⟩:=hZ;have I5':=I5.pinned (stat fr5) (T.obj _ _ st5);refine ano hp (χ (hg _ s5 σ3 H5 x u _ I5' r5 (step x H5 y5)) λ_ s6 hZ=>?_);obtain⟨σ6,H6,I6,q6⟩:=hZ;refine ano hp (χ (hb _ s6 σ6 H6 _ I6 q6) λf s7 q7=>?_);have again:∀{σ7:St}{H7:Hp},Inv X (ϵ++mY fp s5.heap) σ7 H7 s7->N σ7 H7->∃m,m<n/\∃i σ' H',Inv X ϵ σ' H' s7/\tn i s7.heap/\(∀b∈fp,H' b=none)/\W i m σ' H':=λ{σ7 H7} I7 n7=>by
   obtain⟨m',hm,w7⟩:=hN σ7 H7 n7;refine⟨m',hm,i+1,σ7,H7,I7.unpinned,T.keep _ _ _ st5 λb hb o e=>(I7.pin (b,o) (ad2 _ (ad2 _ (nW hb e)))).1,λb hb=>?_,w7⟩;obtain⟨o,e,d⟩:=T.obj _ _ st5 b hb;exact(I7.pin (b,o) (ad2 _ (ad2 _ (nW hb e)))).2.1
  cases f with
  |next=>obtain⟨σ7,H7,I7,n7⟩:=q7;exact again I7 n7
  |cont=>obtain⟨σ7,H7,I7,n7⟩:=q7;exact again I7 n7
  |brk=>obtain⟨σ7,H7,I7,q7⟩:=q7;exact⟨σ7,H7,I7.unpinned,q7⟩
  |ret v=>obtain⟨x7,σ7,H7,I7,r7,q7⟩:=q7;exact⟨x7,σ7,H7,I7.unpinned,r7,q7⟩
end
theorem aiD{K:PySem.W.Frag}{a:δ}{xs:List V}{g:TG}{tb:TS}{D:Ends}{σ:St}{H:Hp}(Pv:Nat->St->Hp->Prop)(h0:Pv 0 σ H)(hl:∀i σ H,i<=xs.length->Pv i σ H->θ K H a xs)(hs:∀i x σ H,xs[i]?=some x->Pv i σ H->g x σ H λσ2 H2=>tb {D with nx:=Pv (i+1),ct:=Pv (i+1),bk:=D.nx} σ2 H2)(hd:∀σ H,Pv xs.length σ H->D.nx σ H):∃W:Nat->Nat->St->Hp->Prop,(∃m,W 0 m σ H)/\∀i m σ H,W i m σ H->
   ((iy K a).stop i H/\D.nx σ H)\/((iy K a).go i H/\∃N:St->Hp->Prop,(∀σ' H',N σ' H'->∃m',m'<m/\W (i+1) m' σ' H')/\∀x H',(iy K a).yld i H x H'->g x σ H' λσ2 H2=>tb {D with nx:=N,ct:=N,bk:=D.nx} σ2 H2):=by
 refine⟨λi m σ H=>m=xs.length-i/\i<=xs.length/\Pv i σ H,⟨xs.length,by simp,ajg _,h0⟩,?_⟩
 rintro i m σ H ⟨rfl,hi,p⟩
 have q:=hl i σ H hi p;by_cases hlt:i<xs.length
 .refine .inr ⟨⟨xs,xs[i],q,by simp[hlt]⟩,Pv (i+1),λσ' H' p'=>⟨xs.length-(i+1),by omega,rfl,hlt,p'⟩,λx H' y=>?_⟩;obtain⟨e,y⟩:=y;subst e;exact hs i x σ _ (y xs q) p
 .have e:i=xs.length:=by omega
  subst e;exact .inl ⟨⟨xs,q,Ϯ _⟩,hd σ H p⟩
theorem Uy{lo:Int}{n:Nat}{g:TG}{tb:TS}{D:Ends}{σ:St}{H:Hp}(Pv:Nat->St->Hp->Prop)(h0:Pv 0 σ H)(hs:∀i σ H,i<n->Pv i σ H->g (.int (lo+i)) σ H λσ2 H2=>tb {D with nx:=Pv (i+1),ct:=Pv (i+1),bk:=D.nx} σ2 H2)(hd:∀σ H,Pv n σ H->D.nx σ H):∃W:Nat->Nat->St->Hp->Prop,(∃m,W 0 m σ H)/\∀i m σ H,W i m σ H->
   ((jT lo n).stop i H/\D.nx σ H)\/((jT lo n).go i H/\∃N:St->Hp->Prop,(∀σ' H',N σ' H'->∃m',m'<m/\W (i+1) m' σ' H')/\∀x H',(jT lo n).yld i H x H'->g x σ H' λσ2 H2=>tb {D with nx:=N,ct:=N,bk:=D.nx} σ2 H2):=by
 refine⟨λi m σ H=>m=n-i/\i<=n/\Pv i σ H,⟨n,by simp,ajg _,h0⟩,?_⟩
 rintro i m σ H ⟨rfl,hi,p⟩
 by_cases hlt:i<n
 .refine .inr ⟨hlt,Pv (i+1),λσ' H' p'=>⟨n-(i+1),by omega,rfl,hlt,p'⟩,λx H' y=>?_⟩;obtain⟨e,y⟩:=y;subst e y;exact hs i σ _ hlt p
 .have e:i=n:=by omega
  subst e;exact .inl ⟨Ϯ _,hd σ H p⟩
abbrev R2:=V->V->Hp->VK->Prop
def Ϥ(X:Cx)(f:ε->ε->Sem ε)(r:R2):Prop:=
 ∀(ϵ:List (δ×Obj))(s:μ)(σ:St)(H:Hp)(x y:V)(v u:ε)(Q:VK),Inv X ϵ σ H s->RelV x v->RelV y u->r x y H Q->
  ν (Ϧ X.prog X.w) X.A (f v u) (EP X ϵ σ Q) X.xe s
def qO(X:Cx)(f:ε->Sem ε)(r:V->Hp->VK->Prop):Prop:=
 ∀(ϵ:List (δ×Obj))(s:μ)(σ:St)(H:Hp)(x:V)(v:ε)(Q:VK),Inv X ϵ σ H s->RelV x v->r x H Q->
  ν (Ϧ X.prog X.w) X.A (f v) (EP X ϵ σ Q) X.xe s
def fZ(X:Cx)(f:ε)(r:List V->Hp->VK->Prop):Prop:=
 ∀(ϵ:List (δ×Obj))(s:μ)(σ:St)(H:Hp)(xs:List V)(us:List ε)(Q:VK),Inv X ϵ σ H s->Vals xs us->r xs H Q->
  ν (Ϧ X.prog X.w) X.A (call f us) (EP X ϵ σ Q) X.xe s
def afj(X:Cx)(r:V->Hp->(Bool->Hp->Prop)->Prop):Prop:=
 ∀(ϵ:List (δ×Obj))(s:μ)(σ:St)(H:Hp)(x:V)(v:ε)(Q:Bool->Hp->Prop),Inv X ϵ σ H s->RelV x v->r x H Q->
  ν (Ϧ X.prog X.w) X.A (truthy v) (TP X ϵ σ Q) X.xe s
def vX(r:R2)(ta tb:TE):TE:=λσ H Q=>ta σ H λx H1=>tb σ H1 λy H2=>r x y H2 Q
def tUn(r:V->Hp->VK->Prop)(ta:TE):TE:=λσ H Q=>ta σ H λx H1=>r x H1 Q
def rI(C:Int->Int->Prop)(g:Int->Int->V):R2:=λx y H Q=>∃i j,x=.int i/\y=.int j/\C i j/\Q (g i j) H
def jx(g:Int->Int->V):R2:=λx y H Q=>∃i j,x=.int i/\y=.int j/\Q (g i j) H
def rU(g:Int->V):V->Hp->VK->Prop:=λx H Q=>∃i,x=.int i/\Q (g i) H
section
variable{X:Cx}{a b c:π}{ta tb tc:TE}{pos:Pos}
theorem Ax(ha:PE X a ta)(hb:PE X b tb){ϵ:List (δ×Obj)}{s:μ}{σ:St}{H:Hp}{R:V->V->Hp->Prop}(I:Inv X ϵ σ H s)(h:ta σ H λx H1=>tb σ H1 λy H2=>R x y H2){Q:ε->μ->Prop}{f:ε->ε->Sem ε}(hf:∀v u s2 x y H2,Inv X ϵ σ H2 s2->RelV x v->RelV y u->R x y H2->ν (Ϧ X.prog X.w) X.A (f v u) Q X.xe s2):ν (Ϧ X.prog X.w) X.A (eval a X.env) (λv s₁=>ν (Ϧ X.prog X.w) X.A (eval b X.env) (λu s₂=>ν (Ϧ X.prog X.w) X.A (f v u) Q X.xe s₂) X.xe s₁) X.xe s:=by
 refine χ (ha ϵ s σ H _ I h) λv s1 hZ=>?_
 obtain⟨x,H1,I1,r1,q1⟩:=hZ;refine χ (hb ϵ s1 σ H1 _ I1 q1) λu s2 hZ=>?_
 obtain⟨y,H2,I2,r2,q2⟩:=hZ;exact hf v u s2 x y H2 I2 r1 r2 q2
theorem ajp{op:Operator}{r:R2}(ho:Ϥ X (binaryOp op) r)(ha:PE X a ta)(hb:PE X b tb):PE X (.BinOp a op b pos) (vX r ta tb):=by
 intro ϵ s σ H Q I h;exact wpAny_BinOp (Ax ha hb I h λv u s2 x y H2 I2 rx ry q=>ho ϵ s2 σ H2 x y v u Q I2 rx ry q)
theorem ahc{op:UnaryOp}{r:V->Hp->VK->Prop}(ho:qO X (unaryOp op) r)(ha:PE X a ta):PE X (.UnaryOp op a pos) (tUn r ta):=by
 intro ϵ s σ H Q I h;exact UnaryOp_ (χ (ha ϵ s σ H _ I h) λv s1 ⟨x,H1,I1,r1,q1⟩=>ho ϵ s1 σ H1 x v Q I1 r1 q1)
theorem Gw{f:ε->ε->Sem ε}{C:Int->Int->Prop}{g:Int->Int->Int}(rule:∀(i j:Int)(t u:Tok)(s:μ)(Q:ε->μ->Prop)(E:ε->μ->Prop),C i j->Q (.int (g i j) s.toks) {s with toks:=s.toks+1}->ν (Ϧ X.prog X.w) X.A (f (.int i t) (.int j u)) Q E s):Ϥ X f (rI C λi j=>.int (g i j)):=by
 intro ϵ s σ H x y v u Q I rx ry h;obtain⟨i,j,rfl,rfl,hc,q⟩:=h;obtain⟨t,rfl⟩:=rx;obtain⟨t',rfl⟩:=ry;exact rule i j t t' s _ _ hc ⟨.int (g i j),H,I.tok _,⟨_,rfl⟩,q⟩
theorem Pz{f:ε->ε->Sem ε}{g:Int->Int->Int}(rule:∀(i j:Int)(t u:Tok)(s:μ)(Q:ε->μ->Prop)(E:ε->μ->Prop),Q (.int (g i j) s.toks) {s with toks:=s.toks+1}->ν (Ϧ X.prog X.w) X.A (f (.int i t) (.int j u)) Q E s):Ϥ X f (jx λi j=>.int (g i j)):=by
 intro ϵ s σ H x y v u Q I rx ry h;obtain⟨i,j,rfl,rfl,q⟩:=h;obtain⟨t,rfl⟩:=rx;obtain⟨t',rfl⟩:=ry;exact rule i j t t' s _ _ ⟨.int (g i j),H,I.tok _,⟨_,rfl⟩,q⟩
theorem vW{f:ε->ε->Sem ε}{g:Int->Int->Bool}(rule:∀(i j:Int)(t u:Tok)(s:μ)(Q:ε->μ->Prop)(E:ε->μ->Prop),Q (.bool (g i j)) s->ν (Ϧ X.prog X.w) X.A (f (.int i t) (.int j u)) Q E s):Ϥ X f (jx λi j=>.bl (g i j)):=by
 intro ϵ s σ H x y v u Q I rx ry h;obtain⟨i,j,rfl,rfl,q⟩:=h;obtain⟨t,rfl⟩:=rx;obtain⟨t',rfl⟩:=ry;exact rule i j t t' s _ _ ⟨.bl (g i j),H,I,rfl,q⟩
def Ht(i j:Int):Prop:=0<=j/\j<=1000000/\i.natAbs<2^64
def xM(i j:Int):Prop:=(-(2^64)<i/\i<2^64)\/(-(2^64)<j/\j<2^64)
theorem xM.ok{i j:Int}(h:xM i j):IntMulOk i j:=by
 obtain⟨h1,h2⟩|⟨h1,h2⟩:=h
 .exact .of_left (intBits_le_64 h1 h2)
 .exact .of_right (intBits_le_64 h1 h2)
theorem Y9:Ϥ X (binaryOp .Add) (jx λi j=>.int (i+j)):=Pz λ_ _ _ _ _ _ _ q=>add_int q
theorem agU:Ϥ X (binaryOp .Sub) (jx λi j=>.int (i-j)):=Pz λ_ _ _ _ _ _ _ q=>sub_int q
theorem aiN:Ϥ X (binaryOp .Mult) (rI xM λi j=>.int (i*j)):=Gw λ_ _ _ _ _ _ _ hc q=>mul_int q hc.ok
theorem ac3:Ϥ X (binaryOp .Mod) (rI (λ_ j=>0<j) λi j=>.int (i % j)):=Gw λi j _ _ _ _ _ hc q=>by
 have h1:(0:Int)<j:=hc;exact mod_int' (by omega) (by rw[Int.fmod_eq_emod_of_nonneg i (by omega)];exact q)
theorem abA:Ϥ X (binaryOp .Pow) (rI Ht λi j=>.int (i^j.toNat)):=Gw λ_ _ _ _ _ _ _ hc q=>pow_int_small hc.1 hc.2.1 hc.2.2 q
theorem Zv{f:ε->Sem ε}{g:Int->Int}(rule:∀(i:Int)(t:Tok)(s:μ)(Q:ε->μ->Prop)(E:ε->μ->Prop),Q (.int (g i) s.toks) {s with toks:=s.toks+1}->ν (Ϧ X.prog X.w) X.A (f (.int i t)) Q E s):qO X f (rU λi=>.int (g i)):=by
 intro ϵ s σ H x v Q I rx h;obtain⟨i,rfl,q⟩:=h;obtain⟨t,rfl⟩:=rx;exact rule i t s _ _ ⟨.int (g i),H,I.tok _,⟨_,rfl⟩,q⟩
theorem ai7:qO X (unaryOp .USub) (rU λi=>.int (-i)):=Zv λ_ _ _ _ _ q=>neg_int q
end
def tM:V->V->Bool
 |.non,.non=>true|.non,.int _=>true|.int _,.non=>true|.non,.bl _=>true|.bl _,.non=>true|.non,.str _=>true|.str _,.non=>true
 |.int _,.int _=>true|.bl _,.bl _=>true|.str _,.str _=>true|.byt _,.byt _=>true
 |.int _,.str _=>true|.str _,.int _=>true|.bl _,.str _=>true|.str _,.bl _=>true
 |_,_=>false
def rEq:R2:=λx y H Q=>tM x y=true/\Q (.bl (decide (x=y))) H
def Xq:R2:=λx y H Q=>tM x y=true/\Q (.bl (!decide (x=y))) H
theorem Lr{i j:Int}:decide (V.int i=V.int j)=(i==j):=by
 rw[agp];simp
theorem Mj{i j:Bool}:decide (V.bl i=V.bl j)=(i==j):=by
 rw[agp];simp
theorem J7{i j:Str}:decide (V.str i=V.str j)=(i==j):=by
 rw[agp];simp
theorem QJ{i j:Array UInt8}:decide (V.byt i=V.byt j)=(i.toList==j.toList):=by
 rw[agp];cases i;cases j;simp
section
variable{X:Cx}{a b c:π}{ta tb tc:TE}{pos:Pos}
theorem Ϝ{ϵ:List (δ×Obj)}{σ:St}{H:Hp}{s:μ}{Q:VK}{k k':Bool}(I:Inv X ϵ σ H s)(q:Q (.bl k) H)(e:k=k'):EP X ϵ σ Q (.bool k') s:=by
 subst e;exact⟨.bl k,H,I,rfl,q⟩
theorem aav:Ϥ X (adJ .Eq) rEq:=by
 intro ϵ s σ H x y v u Q I rx ry h;obtain⟨hs,q⟩:=h;cases x with
 |non=>
  cases rx;cases y with
  |non=>cases ry;exact PySem.EqNone.eq_none_none (Ϝ I q (by simp))
  |bl j=>cases ry;exact PySem.EqNone.eq_none_bool (Ϝ I q (by simp))
  |int j=>obtain⟨t',rfl⟩:=ry;exact PySem.EqNone.eq_none_int (Ϝ I q (by simp))
  |str j=>obtain⟨t',rfl⟩:=ry;exact PySem.EqNone.eq_none_str (Ϝ I q (by simp))
  |_=>exact absurd (show false=true from hs) abe
 |bl i=>
  cases rx;cases y with
  |non=>cases ry;exact PySem.EqNone.eq_bool_none (Ϝ I q (by simp))
  |bl j=>cases ry;exact eq_bool (Ϝ I q Mj)
  |str j=>obtain⟨t',rfl⟩:=ry;exact PySem.EqMixed.eq_bool_str (Ϝ I q (by simp))
  |_=>exact absurd (show false=true from hs) abe
 |int i=>
  obtain⟨t,rfl⟩:=rx;cases y with
  |non=>cases ry;exact PySem.EqNone.eq_int_none (Ϝ I q (by simp))
  |int j=>obtain⟨t',rfl⟩:=ry;exact eq_int (Ϝ I q Lr)
  |str j=>obtain⟨t',rfl⟩:=ry;exact PySem.EqMixed.eq_int_str (Ϝ I q (by simp))
  |_=>exact absurd (show false=true from hs) abe
 |str i=>
  obtain⟨t,rfl⟩:=rx;cases y with
  |non=>cases ry;exact PySem.EqNone.eq_str_none (Ϝ I q (by simp))
  |bl j=>cases ry;exact PySem.EqMixed.eq_str_bool (Ϝ I q (by simp))
  |int j=>obtain⟨t',rfl⟩:=ry;exact PySem.EqMixed.eq_str_int (Ϝ I q (by simp))
  |str j=>obtain⟨t',rfl⟩:=ry;exact eq_str (Ϝ I q J7)
  |_=>exact absurd (show false=true from hs) abe
 |byt i=>
  obtain⟨t,rfl⟩:=rx;cases y with
  |byt j=>obtain⟨t',rfl⟩:=ry;exact W.eq_bytes (Ϝ I q QJ)
  |_=>exact absurd (show false=true from hs) abe
 |_=>cases y<;>exact absurd (show false=true from hs) abe
theorem adZ:Ϥ X (adJ .NotEq) Xq:=by
 intro ϵ s σ H x y v u Q I rx ry h;obtain⟨hs,q⟩:=h;cases x with
 |non=>
  cases rx;cases y with
  |non=>cases ry;exact PySem.EqNone.ne_none_none (Ϝ I q (by simp))
  |bl j=>cases ry;exact PySem.EqNone.ne_none_bool (Ϝ I q (by simp))
  |int j=>obtain⟨t',rfl⟩:=ry;exact PySem.EqNone.ne_none_int (Ϝ I q (by simp))
  |str j=>obtain⟨t',rfl⟩:=ry;exact PySem.EqNone.ne_none_str (Ϝ I q (by simp))
  |_=>exact absurd (show false=true from hs) abe
 |bl i=>
  cases rx;cases y with
  |non=>cases ry;exact PySem.EqNone.ne_bool_none (Ϝ I q (by simp))
  |bl j=>cases ry;exact ne_bool (Ϝ I q (congrArg not Mj))
  |str j=>obtain⟨t',rfl⟩:=ry;exact PySem.EqMixed.ne_bool_str (Ϝ I q (by simp))
  |_=>exact absurd (show false=true from hs) abe
 |int i=>
  obtain⟨t,rfl⟩:=rx;cases y with
  |non=>cases ry;exact PySem.EqNone.ne_int_none (Ϝ I q (by simp))
  |int j=>obtain⟨t',rfl⟩:=ry;exact ne_int (Ϝ I q (congrArg not Lr))
  |str j=>obtain⟨t',rfl⟩:=ry;exact PySem.EqMixed.ne_int_str (Ϝ I q (by simp))
  |_=>exact absurd (show false=true from hs) abe
 |str i=>
  obtain⟨t,rfl⟩:=rx;cases y with
  |non=>cases ry;exact PySem.EqNone.ne_str_none (Ϝ I q (by simp))
  |bl j=>cases ry;exact PySem.EqMixed.ne_str_bool (Ϝ I q (by simp))
  |int j=>obtain⟨t',rfl⟩:=ry;exact PySem.EqMixed.ne_str_int (Ϝ I q (by simp))
  |str j=>obtain⟨t',rfl⟩:=ry;exact ne_str (Ϝ I q (congrArg not J7))
  |_=>exact absurd (show false=true from hs) abe
 |byt i=>
  obtain⟨t,rfl⟩:=rx;cases y with
  |byt j=>obtain⟨t',rfl⟩:=ry;exact W.ne_bytes (Ϝ I q (congrArg not QJ))
  |_=>exact absurd (show false=true from hs) abe
 |_=>cases y<;>exact absurd (show false=true from hs) abe
theorem aic:Ϥ X (adJ .Lt) (jx λi j=>.bl (decide (i<j))):=vW λ_ _ _ _ _ _ _ q=>lt_int q
theorem aim:Ϥ X (adJ .LtE) (jx λi j=>.bl (decide (i<=j))):=vW λ_ _ _ _ _ _ _ q=>le_int q
theorem acF:Ϥ X (adJ .Gt) (jx λi j=>.bl (decide (j<i))):=vW λ_ _ _ _ _ _ _ q=>gt_int q
theorem agm:Ϥ X (adJ .GtE) (jx λi j=>.bl (decide (j<=i))):=vW λ_ _ _ _ _ _ _ q=>ge_int q
theorem ah4:Ϥ X (adJ .Lt) (λx y H Q=>∃i j,x=.str i/\y=.str j/\Q (.bl (decide (i.cps.toList<j.cps.toList))) H):=by
 intro ϵ s σ H x y v u Q I rx ry h;obtain⟨i,j,rfl,rfl,q⟩:=h;obtain⟨t,rfl⟩:=rx;obtain⟨t',rfl⟩:=ry;exact lt_str (Ϝ I q rfl)
theorem afb:Ϥ X (adJ .In) (λx y H Q=>∃i j,x=.str i/\y=.str j/\Q (.bl (!(Builtin.Str.occurrences j i 0 j.length 1).isEmpty)) H):=by
 intro ϵ s σ H x y v u Q I rx ry h;obtain⟨i,j,rfl,rfl,q⟩:=h;obtain⟨t,rfl⟩:=rx;obtain⟨t',rfl⟩:=ry;exact in_str (Ϝ I q rfl)
theorem afT:Ϥ X (adJ .Is) (λx y H Q=>y=.non/\Q (.bl (decide (x=.non))) H):=by
 intro ϵ s σ H x y v u Q I rx ry h;obtain⟨rfl,q⟩:=h;cases ry;refine is_none_gen (Ϝ I q ?_);cases x<;>first
  |(cases rx;rfl)
  |(obtain⟨t,rfl⟩:=rx;rfl)
theorem afM:Ϥ X (adJ .IsNot) (λx y H Q=>y=.non/\Q (.bl (!decide (x=.non))) H):=by
 intro ϵ s σ H x y v u Q I rx ry h;obtain⟨rfl,q⟩:=h;cases ry;refine isnot_none_gen (Ϝ I q ?_);cases x<;>first
  |(cases rx;rfl)
  |(obtain⟨t,rfl⟩:=rx;rfl)
theorem SM(b:π){op:CmpOp}(h:op≠ .In:=by decide)(h2:op≠ .NotIn:=by decide):behindInMarks op b=false:=by
 have e1:(op==CmpOp.In)=false:=by cases op<;>first|rfl|exact absurd rfl h
 have e2:(op==CmpOp.NotIn)=false:=by cases op<;>first|rfl|exact absurd rfl h2
 cases b<;>simp[behindInMarks,e1,e2]
theorem Wy{op:CmpOp}{r:R2}(ho:Ϥ X (adJ op) r)(ha:PE X a ta)(hb:PE X b tb)(hm:behindInMarks op b=false):PE X (.Compare a [op] [b] pos) (vX r ta tb):=by
 intro ϵ s σ H Q I h;exact wpAny_Compare1 (Ax ha hb I h λv u s2 x y H2 I2 rx ry q=>ho ϵ s2 σ H2 x y v u Q I2 rx ry q) hm
def Hy(t:TE):TT:=λσ H Q=>t σ H λx H'=>∃k,x=.bl k/\Q k H'
theorem aaA{op:CmpOp}{r:R2}(ho:Ϥ X (adJ op) r)(ha:PE X a ta)(hb:PE X b tb)(hm:behindInMarks op b=false):PT X (.Compare a [op] [b] pos) (Hy (vX r ta tb)):=by
 intro ϵ s σ H Q I h;refine wpAny_isTrue_Compare1 (χ (ha ϵ s σ H _ I h) λv s1 ⟨x,H1,I1,r1,q1⟩=>χ (hb ϵ s1 σ H1 _ I1 q1) λu s2 ⟨y,H2,I2,r2,q2⟩=>
  χ (ho ϵ s2 σ H2 x y v u _ I2 r1 r2 q2) λc s3 ⟨z,H3,I3,r3,k,e,q3⟩=>?_) hm
 subst e;cases r3;exact ah9 ⟨H3,I3,q3⟩
def O7(r r':R2)(ta tb tc:TE):TE:=λσ H Q=>ta σ H λx H1=>tb σ H1 λy H2=>r x y H2 λz H3=>∃k,z=.bl k/\
 (if k=true then tc σ H3 λw' H4=>r' y w' H4 Q else Q (.bl false) H3)
theorem ab0{op op':CmpOp}{r r':R2}(ho:Ϥ X (adJ op) r)(ho':Ϥ X (adJ op') r')(ha:PE X a ta)(hb:PE X b tb)(hc:PE X c tc)(hm:lastMarks [op,op'] [b,c]=false:=by with_unfolding_all rfl):PE X (.Compare a [op,op'] [b,c] pos) (O7 r r' ta tb tc):=by
 intro ϵ s σ H Q I h;refine Compare_chain (χ (ha ϵ s σ H _ I h) λv s1 ⟨x,H1,I1,r1,q1⟩=>chain_link (χ (hb ϵ s1 σ H1 _ I1 q1) λu s2 ⟨y,H2,I2,r2,q2⟩=>
  χ (ho ϵ s2 σ H2 x y v u _ I2 r1 r2 q2) λd s3 ⟨z,H3,I3,r3,k,e,q3⟩=>?_)) hm
 subst e;cases r3;refine ah9 ?_;cases k with
 |false=>exact ite_ff ⟨.bl false,H3,I3,rfl,q3⟩
 |true=>exact ite_tt (chain_last (χ (hc ϵ s3 σ H3 _ I3 q3) λw' s4 ⟨z',H4,I4,r4,q4⟩=>ho' ϵ s4 σ H4 y z' u w' Q I4 r2 r4 q4))
theorem abo{op op':CmpOp}{r r':R2}(ho:Ϥ X (adJ op) r)(ho':Ϥ X (adJ op') r')(ha:PE X a ta)(hb:PE X b tb)(hc:PE X c tc)(hm:lastMarks [op,op'] [b,c]=false:=by with_unfolding_all rfl):PT X (.Compare a [op,op'] [b,c] pos) (Hy (O7 r r' ta tb tc)):=by
 intro ϵ s σ H Q I h;refine isTrue_chain (χ (ha ϵ s σ H _ I h) λv s1 ⟨x,H1,I1,r1,q1⟩=>test_link (χ (hb ϵ s1 σ H1 _ I1 q1) λu s2 ⟨y,H2,I2,r2,q2⟩=>
  χ (ho ϵ s2 σ H2 x y v u _ I2 r1 r2 q2) λd s3 ⟨z,H3,I3,r3,k,e,q3⟩=>?_)) hm
 subst e;cases r3;refine ah9 ?_;cases k with
 |false=>
  obtain⟨k',e',q'⟩:=q3;cases e';exact ite_ff ⟨H3,I3,q'⟩
 |true=>
  refine ite_tt (test_last (χ (hc ϵ s3 σ H3 _ I3 q3) λw' s4 ⟨z',H4,I4,r4,q4⟩=>χ (ho' ϵ s4 σ H4 y z' u w' _ I4 r2 r4 q4) λd' s5 hZ=>?_));obtain⟨z2,H5,I5,r5,k2,e2,q5⟩:=hZ;subst e2;cases r5;exact ah9 ⟨H5,I5,q5⟩
def vK(K:ϩ)(x:V)(H:Hp)(k:Bool):Prop:=
 match x with
 |.non=>k=false
 |.bl b=>k=b
 |.int i=>k=(i !=0)
 |.str y=>y.length<=Ϫ/\k=((y.length:Int) !=0)
 |.byt y=>y.size<=Ϫ/\k=((y.size:Int) !=0)
 |.ref p=>(∃xs,θ K H p xs/\k= !xs.isEmpty)\/(∃xs,ω K H p xs/\k= !xs.isEmpty)\/∃Ϸ,H p=some (.dK Ϸ)/\k= !Ϸ.isEmpty
 |_=>False
theorem WL{κ:Type}{Ϸ:List (κ×V)}{vs:List (κ×ε)}(r:KV Ϸ vs):(!vs.isEmpty)= !Ϸ.isEmpty:=by
 cases r<;>rfl
theorem Ib{xs:List V}{ϸ:List ε}(r:Vals xs ϸ):(!ϸ.toArray.isEmpty)= !xs.isEmpty:=by
 cases r<;>simp
theorem pN:(Ϫ:Nat)<2^63:=by rw[ϳ];decide
theorem ajj:afj X (λx H Q=>∃k,vK X.K x H k/\Q k H):=by
 intro ϵ s σ H x v Q I rx h;obtain⟨k,e,q⟩:=h;have hl:=pN;have hs:Ϫ=16777216:=ϳ;cases x with
 |non=>
  cases rx;have e':k=false:=e;subst e';exact truthy_none ⟨H,I,q⟩
 |bl b=>
  cases rx;have e':k=b:=e;subst e';exact ah9 ⟨H,I,q⟩
 |int i=>
  obtain⟨t,rfl⟩:=rx;have e':k=(i !=0):=e;subst e';exact PySem.P.truthy_int ⟨H,I,q⟩
 |str y=>
  obtain⟨t,rfl⟩:=rx;obtain⟨hy,e'⟩:y.length<=Ϫ/\k=((y.length:Int) !=0):=e;subst e';exact PySem.P.truthy_str (by omega) ⟨H,I.tok _,q⟩
 |byt y=>
  obtain⟨t,rfl⟩:=rx;obtain⟨hy,e'⟩:y.size<=Ϫ/\k=((y.size:Int) !=0):=e;subst e';exact W.truthy_bytes (by omega) ⟨H,I.tok _,q⟩
 |ref p=>
  cases rx;have e':(∃xs,θ X.K H p xs/\k= !xs.isEmpty)\/(∃xs,ω X.K H p xs/\k= !xs.isEmpty)\/∃Ϸ,H p=some (.dK Ϸ)/\k= !Ϸ.isEmpty:=e;obtain⟨xs,hx,e'⟩|⟨xs,hx,e'⟩|⟨Ϸ,hx,e'⟩:=e'
  .subst e';obtain⟨ϸ,r,pl,hz⟩:=I.list hx;have hlen:=r.length;exact wpAny_truthy_list pl.isList (by simp only[adi];omega) ⟨H,I.tok _,by rw[Ib r];exact q⟩
  .subst e';obtain⟨ϸ,r,pl,hz⟩:=I.tuple hx;have hlen:=r.length;exact truthy_tuple pl (by simp only[adi];omega) ⟨H,I.tok _,by rw[Ib r];exact q⟩
  .subst e';obtain⟨hz,hS,vs,r,m⟩:Ϸ.length<=Ϫ/\(p==sysModules)=false/\∃vs,KV Ϸ vs/\s.heap.DictOf (aZ X.prog X.w) p vs:=I.hok p _ hx;have hlen:Ϸ.length=vs.length:=Paired.length r;exact wpAny_truthy_dict hS m (by omega) ⟨H,I.tok _,by rw[WL r];exact q⟩
 |_=>exact(show False from e).elim
theorem W3(ha:PE X a ta)(he:∀whole,isTrue a X.env whole=(do let v<-whole;standAt a.pos;holding [v] (truthy v))):PT X a (λσ H Q=>ta σ H λx H'=>∃k,vK X.K x H' k/\Q k H'):=by
 intro ϵ s σ H Q I h;exact isTrue_plain (χ (ha ϵ s σ H _ I h) λv s1 ⟨x,H1,I1,r1,q1⟩=>ajj ϵ s1 σ H1 x v Q I1 r1 q1) (he _)
theorem afG:Ϥ X (binaryOp .Add) (λx y H Q=>∃i j,x=.str i/\y=.str j/\i.length+j.length<=Ϫ/\Q (.str (i++j)) H):=by
 intro ϵ s σ H x y v u Q I rx ry h;obtain⟨i,j,rfl,rfl,hz,q⟩:=h;obtain⟨t,rfl⟩:=rx;obtain⟨t',rfl⟩:=ry;exact add_str (λt' tk=>⟨.str (i++j),H,I.tok _,⟨_,rfl⟩,q⟩) hz
theorem vals1{x:V}{us:List ε}(r:Vals [x] us):∃u,us=[u]/\RelV x u:=by
 cases r with
 |cons r1 r2=>cases r2;exact⟨_,rfl,r1⟩
theorem vals2{x y:V}{us:List ε}(r:Vals [x,y] us):∃u w',us=[u,w']/\RelV x u/\RelV y w':=by
 cases r with
 |cons r1 r2=>
  cases r2 with
  |cons r3 r4=>cases r4;exact⟨_,_,rfl,r1,r3⟩
theorem ah1(hc:X.calm=true):fZ X (.builtin "min") (λxs H Q=>∃i j,xs=[.int i,.int j]/\Q (.int (if j<i then j else i)) H):=by
 intro ϵ s σ H xs us Q I r h;obtain⟨i,j,rfl,q⟩:=h;obtain⟨u,w',rfl,⟨t,rfl⟩,⟨t',rfl⟩⟩:=vals2 r;refine min_two_ints (I.ok.hd hc) λh' tk k=>⟨_,H,I.kept k,?_,q⟩
 by_cases hj:j<i
 .rw[if_pos hj,if_pos hj];exact⟨_,rfl⟩
 .rw[if_neg hj,if_neg hj];exact⟨_,rfl⟩
theorem abT:fZ X (.type "str") (λxs H Q=>∃i,xs=[.int i]/\i.natAbs.log2<1920/\Q (.str (toString i)) H):=by
 intro ϵ s σ H xs us Q I r h;obtain⟨i,rfl,hz,q⟩:=h;obtain⟨u,rfl,t,rfl⟩:=vals1 r;exact PySem.P.str_of_int hz ⟨.str _,H,I.tok _,⟨_,rfl⟩,q⟩
end
structure mJ(h:ϫ)(x dx C:δ)(mA:Str->Option ε):Prop where
 obj:h.get? x=some (anI C dx)
 ns:h.Ns1 dx mA
 ne:dx≠x
theorem Pg{h:ϫ}{dx:δ}{mA:Str->Option ε}(n:h.Ns1 dx mA):∃od,h.get? dx=some od/\∀name,aoY name od=some (mA name):=by
 obtain⟨o,es,ep,ho,hd,hk,_,hm⟩:=n;refine⟨o,ho,λname=>?_⟩;have e:=hm name;unfold nsFind findBy at e;rw[<-aoz]at e;unfold aoY;rw[hd];dsimp only;split
 .rename_i y q;rw[q]at e;exact congrArg some e
 .rename_i q;rw[q]at e;have a:es.toList.any (·.refKey)=false:=by
   rw[List.any_eq_false];intro y hy;obtain⟨z,t,hkey⟩:=hk y (Array.mem_toList_iff.mp hy);simp[DictEntry.refKey,hkey]
  have a':¬es.toList.any (·.refKey)=true:=by rw[a];exact abe
  rw[if_neg a'];exact congrArg some e
theorem mJ.look{h:ϫ}{x dx C:δ}{mA:Str->Option ε}(I:mJ h x dx C mA):∃od,aoZ h x (anI C dx) C (some od)/\∀name,aoY name od=some (mA name):=
 let⟨od,ho,hl⟩:=Pg I.ns
 ⟨od,⟨I.obj,rfl,rfl,ho⟩,hl⟩
section
variable{prog:ϯ}{w:Ϭ}{A:ϲ}{E:ε->μ->Prop}{s:μ}{K:ϩ}{x dx C f:δ}{mA:Str->Option ε}{name:Str}{v:ε}
theorem get_map{expr:Bool}{Q:ε->μ->Prop}(X:K.In s.heap)(I:mJ s.heap x dx C mA)(hg:anN K C name=true)(hh:amG K C=true)(ha:aeB K (.ref C) name=some none)(hv:mA name=some v)(hv':ao5 v=true)(h:Q v {s with toks:=s.toks+1}):ν (Ϧ prog w) A (getAttr (.ref x) name expr) Q E s:=by
 obtain⟨od,J,hl⟩:=I.look;exact W.get_value X J (aoA hg).1 (ao7 hh ha rfl (by rw[hl,hv])) hv' h
theorem ahu{pl:Sem Bool}{Q:ε×List ε->μ->Prop}(X:K.In s.heap)(I:mJ s.heap x dx C mA)(hg:anN K C name=true)(hf:aeB K (.ref C) name=some (some (.ref f)))(ht:aoB K (.ref f)=true)(hv:mA name=none)(h:Q (.ref f,[.ref x]) s):ν (Ϧ prog w) A (getMethod (.ref x) name pl) Q E s:=by
 obtain⟨od,J,hl⟩:=I.look;exact W.method_fn X J (aoA hg).1 (aoA hg).2 hf (beq_iff_eq.mp ht) (by show(aoY name od).map (·.isSome)=some false;rw[hl,hv];rfl) h
theorem aa4{ns:List Str}{Q:Unit->μ->Prop}(X:K.In s.heap)(I:mJ s.heap x dx C mA)(hs:aeB K (.ref C) "__setattr__"=some (some (.builtin "object.__setattr__")))(hp:an8 K C=true)(ht:anP K C name=some none)(hh:amG K C=true)(hw:PySem.Within mA ns)(hsz:ns.length<=Ϫ)(h:∀h',mJ h' x dx C (λy=>if y=name then some v else mA y)->akS dx s.heap h'->Q () {s with heap:=h',toks:=s.toks+2}):ν (Ϧ prog w) A (setAttr (.ref x) name v) Q E s:=by
 obtain⟨od,J,hl⟩:=I.look;refine W.set_plain X J hs (W.osa_open (s:={s with toks:=s.toks+1}) (r:=none) X J hp ht λb=>?_);obtain⟨cd,hc,hd'⟩:=W.any_some hh;have hx:s.heap.get? x=some ⟨.ref C,some dx,.plain, #[]⟩:=I.obj;refine ϧ (ϭ (ϧ (ϧ (wpAny_loadPart hx (ϧ (W.Looks.here (s:={s with toks:=s.toks+1}) (aoC X hc) ?_))))));rw[hd'];refine ϭ (a:=some dx) (ϧ (ϭ (ϧ ?_)));refine wpAny_nsSet1 (s:={s with toks:=s.toks+1}) I.ns λh' hn2 hs2=>?_
 obtain⟨oD,esD,epD,hoD,hdD,hcD⟩:=hn2.count (PySem.Within.cons name v hw);refine ϧ (wpAny_lookBehind hoD (by rw[hdD];exact pastItsLine_dict (ah6 hcD (by rw[List.length_cons];omega))) ?_);exact ϭ (h _ ⟨(hs2.2 _ (Ne.symm I.ne)).trans I.obj,hn2,I.ne⟩ hs2)
theorem acJ{R:Result->μ->Prop}{vs:List ε}{kw:List (Str×ε)}(X:K.In s.heap)(hm:ao0 K C=true)(hi:aeB K (.ref C) "__init__"=some (some (.ref f)))(hf:anM K (.ref f)=some (.type "function"))(h:codeAny (Ϧ prog w) (A.under (.builtin "type.__call__" ⟨.ref C::vs,kw⟩)) (.call (.ref f) ⟨.ref (s.heap.objs.size+1)::vs,kw⟩) (W.InitBack (s.heap.objs.size+1) R)
   {s with heap:=(s.heap.push alT).push (anI C s.heap.objs.size)}):codeAny (Ϧ prog w) A (.call (.ref C) ⟨vs,kw⟩) R s:=by
 obtain⟨hh,g,d,t,os⟩:=s;exact W.make_core (W.makes_of X hm) (anV X hi) (λself=>W.bind_fn X self hf) (.inl rfl) h
end
def Ϟ(f:Str)(v:V):List (Str×V)->List (Str×V)
 |[]=>[(f,v)]
 |(g,x)::r=>if g=f then(g,v)::r else(g,x)::Ϟ f v r
theorem O1(f g:Str)(v:V):∀fs:List (Str×V),(Ϟ f v fs).lookup g=if g=f then some v else fs.lookup g
 |[]=>by
  show alm g [(f,v)]=_;by_cases h:g=f
  .have hb:(g==f)=true:=beq_iff_eq.mpr h;simp only[alm,hb,if_pos h]
  .have hb:(g==f)=false:=beq_eq_false_iff_ne.mpr h;simp only[alm,hb,if_neg h]
 |(k,x)::r=>by
  have ih:=O1 f g v r;rw[show Ϟ f v ((k,x)::r)=(if k=f then(k,v)::r else(k,x)::Ϟ f v r)from rfl];by_cases hk:k=f
  .rw[if_pos hk];by_cases h:g=k
   .have hb:(g==k)=true:=beq_iff_eq.mpr h;simp only[alm,hb,if_pos (h.trans hk)]
   .have hb:(g==k)=false:=beq_eq_false_iff_ne.mpr h;simp only[alm,hb,if_neg (λe:g=f=>h (e.trans hk.symm))]
  .rw[if_neg hk];by_cases h:g=k
   .have hb:(g==k)=true:=beq_iff_eq.mpr h;simp only[alm,hb,if_neg (λe:g=f=>hk (h.symm.trans e))]
   .have hb:(g==k)=false:=beq_eq_false_iff_ne.mpr h;simp only[alm,hb];exact ih
theorem Eo(f:Str)(v:V):∀fs:List (Str×V),f∈(Ϟ f v fs).map (·.1)/\∀g,g∈fs.map (·.1)->g∈(Ϟ f v fs).map (·.1)
 |[]=>⟨by simp[Ϟ],λg h=>by simp at h⟩
 |(k,x)::r=>by
  obtain⟨i1,i2⟩:=Eo f v r;rw[show Ϟ f v ((k,x)::r)=(if k=f then(k,v)::r else(k,x)::Ϟ f v r)from rfl];by_cases hk:k=f
  .rw[if_pos hk];subst hk;exact⟨by simp,λg h=>by simpa using h⟩
  .rw[if_neg hk];refine⟨?_,λg h=>?_⟩
   .rw[List.map_cons];exact abN _ i1
   .rw[List.map_cons]at h⊢;obtain e|e:=acG.mp h
    .exact acG.mpr (.inl e)
    .exact abN _ (i2 g e)
theorem iY(f:Str)(v:V):∀fs:List (Str×V),(Ϟ f v fs).length<=fs.length+1
 |[]=>by simp[Ϟ]
 |(k,x)::r=>by
  have ih:=iY f v r;rw[show Ϟ f v ((k,x)::r)=(if k=f then(k,v)::r else(k,x)::Ϟ f v r)from rfl];by_cases hk:k=f
  .rw[if_pos hk,List.length_cons,List.length_cons];omega
  .rw[if_neg hk,List.length_cons,List.length_cons];omega
theorem bz.some_of{v:V}{o:Option ε}(r:bz (some v) o):∃u,o=some u/\RelV v u:=by
 cases o with
 |none=>exact(show False from r).elim
 |some u=>exact⟨u,rfl,r⟩
theorem bz.none_of{o:Option ε}(r:bz none o):o=none:=by
 cases o with
 |none=>rfl
 |some u=>exact(show False from r).elim
theorem af8{v:V}{u:ε}(r:RelV v u):ao5 u=true:=by
 cases v with
 |non=>cases(show u=Value.none from r);rfl
 |bl b=>cases(show u=Value.bool b from r);rfl
 |int i=>obtain⟨t,e⟩:=(show ∃t,u=Value.int i t from r);cases e;rfl
 |str x=>obtain⟨t,e⟩:=(show ∃t,u=Value.str x t from r);cases e;rfl
 |byt b=>obtain⟨t,e⟩:=(show ∃t,u=Value.bytes b t from r);cases e;rfl
 |flt b=>obtain⟨t,e⟩:=(show ∃t,u=Value.float b t from r);cases e;rfl
 |ref a=>cases(show u=Value.ref a from r);rfl
 |ty n=>cases(show u=Value.type n from r);rfl
section
variable{P:ϯ}{w:Ϭ}{H H':Hp}{h h':ϫ}{a C dx:δ}{fs fs':List (Str×V)}
theorem wg(hok:Ϡ P w H h)(e:H a=some (.ins C dx fs)):∃mA,mJ h a dx C mA/\(∀f,bz (fs.lookup f) (mA f))/\PySem.Within mA (fs.map (·.1))/\fs.length<=1000/\H dx=some (.own a):=by
 obtain⟨d,z,ne,ob,mA,n,r,q⟩:=(show ϐ P w H h a (.ins C dx fs)from hok a _ e);exact⟨mA,⟨ob,n,ne⟩,r,q,z,d⟩
end
structure ϗ(K:ϩ)(C:δ):Prop where
 pg:anN K C Str.empty=true
 hd:amG K C=true
 po:an8 K C=true
 sa:aeB K (.ref C) "__setattr__"=some (some (.builtin "object.__setattr__"))
theorem ϗ.get{K:ϩ}{C:δ}(c:ϗ K C)(f:Str):anN K C f=true:=c.pg
def Ρ(K:ϩ)(C:δ)(f:Str):Prop:=aeB K (.ref C) f=some none
theorem Ρ.taker{K:ϩ}{C:δ}{f:Str}(n:Ρ K C f):anP K C f=some none:=by
 unfold anP;rw[show aeB K (.ref C) f=some none from n];rfl
structure Meth(K:ϩ)(C:δ)(m:Str)(f:δ):Prop where
 at_:aeB K (.ref C) m=some (some (.ref f))
 fn:aoB K (.ref f)=true
 kp:anl K (.ref f)=true
section
variable{X:Cx}{ϵ:List (δ×Obj)}{σ:St}{H:Hp}{s:μ}{a C dx:δ}{fs:List (Str×V)}{f:Str}{v:V}{A:ϲ}{E:ε->μ->Prop}
theorem Q9{b:Bool}{Q:ε->μ->Prop}(I:Inv X ϵ σ H s)(e:H a=some (.ins C dx fs))(c:ϗ X.K C)(n:Ρ X.K C f)(l:fs.lookup f=some v)(h:∀u s',Inv X ϵ σ H s'->RelV v u->Q u s'):ν (Ϧ X.prog X.w) A (getAttr (.ref a) f b) Q E s:=by
 obtain⟨mA,O,r,_,_,_⟩:=wg I.hok e;obtain⟨u,hu,ru⟩:=bz.some_of (v:=v) (o:=mA f) (by rw[<-l];exact r f);exact get_map I.kIn O (c.get f) c.hd n hu (af8 ru) (h u _ (I.tok _) ru)
theorem Mt{m:Str}{g:δ}{pl:Sem Bool}{Q:ε×List ε->μ->Prop}(I:Inv X ϵ σ H s)(e:H a=some (.ins C dx fs))(c:ϗ X.K C)(k:Meth X.K C m g)(l:fs.lookup m=none)(h:Q (.ref g,[.ref a]) s):ν (Ϧ X.prog X.w) A (getMethod (.ref a) m pl) Q E s:=by
 obtain⟨mA,O,r,_,_,_⟩:=wg I.hok e;have hn:mA m=none:=bz.none_of (by rw[<-l];exact r m);exact ahu I.kIn O (c.get m) k.at_ k.fn hn h
theorem Oj{y:V}{u:ε}{Q:Unit->μ->Prop}(I:Inv X ϵ σ H s)(e:H a=some (.ins C dx fs))(c:ϗ X.K C)(n:Ρ X.K C f)(hl:fs.length<1000)(ry:RelV y u)(h:∀s',Inv X ϵ σ (upd H a (.ins C dx (Ϟ f y fs))) s'->Q () s'):ν (Ϧ X.prog X.w) A (setAttr (.ref a) f u) Q E s:=by
 obtain⟨mA,O,r,wi,_,ho⟩:=wg I.hok e;have hz:(fs.map (·.1)).length<=Ϫ:=by rw[ϱ,ϳ];omega
 refine aa4 I.kIn O c.sa c.po n.taker c.hd wi hz λh' O' sb=>h _ ?_
 have hd:∃o,h'.get? dx=some o:=let⟨o,_,_,e',_⟩:=O'.ns;⟨o,e'⟩;refine I.write (x:=a) (e:=dx) (by rw[e];exact True.intro) (.inr ho) (λb q hb z=>(sb.2 b hb).trans z) hd ?_;refine⟨by rw[ι O.ne];exact ho,?_,O.ne,O'.obj,_,O'.ns,λg=>?_,λg hg=>?_⟩
 .have :=iY f y fs;omega
 .show bz ((Ϟ f y fs).lookup g) (if g=f then some u else mA g);rw[O1];by_cases q:g=f
  .rw[if_pos q,if_pos q];exact ry
  .rw[if_neg q,if_neg q];exact r g
 .by_cases q:g=f
  .rw[q];exact(Eo f y fs).1
  .refine(Eo f y fs).2 g (wi g λz=>hg ?_);show(if g=f then some u else mA g)=none;rw[if_neg q];exact z
theorem Inv.made(I:Inv X ϵ σ H s):Inv X ϵ σ (upd (upd H s.heap.objs.size (.own (s.heap.objs.size+1))) (s.heap.objs.size+1) (.ins C s.heap.objs.size []))
  {s with heap:=(s.heap.push alT).push (anI C s.heap.objs.size)}:=by
 have e1:(s.heap.push alT).get? s.heap.objs.size=some alT:=acM s.heap rfl;have e2:((s.heap.push alT).push (anI C s.heap.objs.size)).get? (s.heap.objs.size+1)=some (anI C s.heap.objs.size):=by
  have:=acM (s.heap.push alT) (o:=anI C s.heap.objs.size) rfl
  rwa [anH]at this
 have e3:(s.heap.push alT).Ns s.heap.objs.size (λ_=>none):=⟨alT, #[],_,e1,rfl,(λe he=>absurd he (by simp)),λ_=>rfl⟩;have I1:=I.laid (a:=s.heap.objs.size) (o:=.own (s.heap.objs.size+1)) (h':=s.heap.push alT) (t':=s.toks) (λb u q=>Heap.get?_push_of_some _ q) (Ϯ _) ⟨_,e1⟩;refine I1.laid (a:=s.heap.objs.size+1) (o:=.ins C s.heap.objs.size []) (t':=s.toks) (λb u q=>Heap.get?_push_of_some _ q) (aoR (anH _ _)) ?_;have ne:s.heap.objs.size≠s.heap.objs.size+1:=acT (aoT _);refine⟨by rw[ι ne,ρ],ajg _,ne,e2,λ_=>none,(Heap.Ns1.of_empty e3).at λo q=>Heap.get?_push_of_some _ q,λ_=>True.intro,λy hy=>absurd rfl hy⟩
theorem Jh{prog:ϯ}{w:Ϭ}{env:Env}{e:π}{f:Str}{pos:Pos}{s:μ}{Q:ε->μ->Prop}(hb:attributeBase e f env (eval e env)=eval e env)(h:ν (Ϧ prog w) A (eval e env) (λo s₁=>ν (Ϧ prog w) A (getAttr o f true) Q E s₁) E s):ν (Ϧ prog w) A (eval (.Attribute e f pos) env) Q E s:=
 Attribute_any_ h (by rw[arm_eval_Attribute,hb])
end
def aeM(K:ϩ)(ta:TE)(f:Str):TE:=λσ H Q=>ta σ H λx H1=>∃a C dx fs v,x=.ref a/\H1 a=some (.ins C dx fs)/\ϗ K C/\ Ρ K C f/\fs.lookup f=some v/\Q v H1
def aba(K:ϩ)(ta tv:TE)(f:Str):TS:=λD σ H=>tv σ H λy H1=>ta σ H1 λx H2=>∃a C dx fs,x=.ref a/\H2 a=some (.ins C dx fs)/\ϗ K C/\ Ρ K C f/\fs.length<1000/\
 D.nx σ (upd H2 a (.ins C dx (Ϟ f y fs)))
def Ky(X:Cx)(op:Operator)(rd:V->V->Hp->VK->Prop):Prop:=
 ∀(ϵ:List (δ×Obj))(s:μ)(σ:St)(H:Hp)(x y:V)(u v:ε)(Q:VK),Inv X ϵ σ H s->RelV x u->RelV y v->rd x y H Q->ν (Ϧ X.prog X.w) X.A (inplaceOp op u v) (EP X ϵ σ Q) X.xe s
def agY(K:ϩ)(ta tv:TE)(rd:V->V->Hp->VK->Prop)(f:Str):TS:=λD σ H=>ta σ H λx H1=>∃a C dx fs v,x=.ref a/\H1 a=some (.ins C dx fs)/\ϗ K C/\ Ρ K C f/\fs.lookup f=some v/\
 tv σ H1 λy H2=>rd v y H2 λz H3=>∃dx' fs',H3 a=some (.ins C dx' fs')/\fs'.length<1000/\D.nx σ (upd H3 a (.ins C dx' (Ϟ f z fs')))
section
variable{X:Cx}{o e value:π}{f:Str}{pos pos' tpos:Pos}{ta tv:TE}
theorem W7(he:PE X e ta)(hb:attributeBase e f X.env (eval e X.env)=eval e X.env):PE X (.Attribute e f pos) (aeM X.K ta f):=by
 intro ϵ s σ H Q I h;refine Jh hb (χ (he ϵ s σ H _ I h) λu s1 hZ=>?_);obtain⟨x,H1,I1,rx,a,C,dx,fs,v,ex,ea,c,n,l,q⟩:=hZ;subst ex;obtain rfl:u=Value.ref a:=rx;exact Q9 I1 ea c n l λu' s2 I2 ru=>⟨v,H1,I2,ru,q⟩
theorem aij(ha:PE X o ta)(hv:PE X value tv)(hs:alk value (some (.Attribute o f pos')) pos.line X.env=pure false):PS X (.Assign [.Attribute o f pos'] value pos) (aba X.K ta tv f):=by
 intro ϵ s σ H D I h;refine plainObj_wpAny_Assign_Attribute (χ (hv ϵ s σ H _ I h) λu s1 ⟨y,H1,I1,ry,q⟩=>χ (ha ϵ s1 σ H1 _ I1 q) λov s2 hZ=>?_) hs;obtain⟨x,H2,I2,rx,a,C,dx,fs,ex,ea,c,n,l,q2⟩:=hZ;subst ex;obtain rfl:ov=Value.ref a:=rx;exact Oj I2 ea c n l ry λs3 I3=>⟨σ,_,I3,q2⟩
theorem adB{op:Operator}{rd:V->V->Hp->VK->Prop}(ha:PE X o ta)(hv:PE X value tv)(hop:Ky X op rd):PS X (.AugAssign (.Attribute o f tpos) op value pos) (agY X.K ta tv rd f):=by
 intro ϵ s σ H D I h;refine wpAny_AugAssign_AttributeAny (χ (ha ϵ s σ H _ I h) λov s1 hZ=>?_);obtain⟨x,H1,I1,rx,a,C,dx,fs,v,ex,ea,c,n,l,q⟩:=hZ;subst ex;obtain rfl:ov=Value.ref a:=rx;refine Q9 I1 ea c n l λu s2 I2 ru=>χ (hv ϵ s2 σ H1 _ I2 q) λw3 s3 ⟨y,H2,I3,ry,q3⟩=>χ (hop ϵ s3 σ H2 v y u w3 _ I3 ru ry q3) λw4 s4 hZ=>?_
 obtain⟨z,H3,I4,rz,dx',fs',ea',l',q4⟩:=hZ;exact Oj I4 ea' c n l' rz λs5 I5=>⟨σ,_,I5,q4⟩
def Oh:V->V->Hp->VK->Prop:=λx y H Q=>∃i j,x=.int i/\y=.int j/\Q (.int (i+j)) H
theorem ajZ:Ky X .Add Oh:=by
 rintro ϵ s σ H x y u v Q I rx ry ⟨i,j,rfl,rfl,q⟩
 obtain⟨t,rfl⟩:=(show ∃t,u=Value.int i t from rx);obtain⟨t',rfl⟩:=(show ∃t',v=Value.int j t' from ry);exact PyProof.Rows.iadd_int ⟨.int (i+j),H,I.tok _,⟨_,rfl⟩,q⟩
end
section
variable{X:Cx}{ϵ:List (δ×Obj)}{σ:St}{H:Hp}{s:μ}{A:ϲ}{E:ε->μ->Prop}{Q:ε->μ->Prop}{c:ε}{b:Bool}
inductive cG (K:ϩ) (H:Hp):V->ε->Prop where
 |non:cG K H .non (.type "NoneType")
 |bl (x:Bool):cG K H (.bl x) (.type "bool")
 |int (i:Int):cG K H (.int i) (.type "int")
 |str (x:Str):cG K H (.str x) (.type "str")
 |flt (x:UInt64):cG K H (.flt x) (.type "float")
 |lst {a:δ} {xs:List V} (e:H a=some (.lst xs)):cG K H (.ref a) (.type "list")
 |frz {a:δ} {o:Obj} {xs:List V} (e:H a=some (.frz o (.lst xs))):cG K H (.ref a) (.type "list")
 |tup {a:δ} {xs:List V} (e:H a=some (.tup xs)):cG K H (.ref a) (.type "tuple")
 |dK {a:δ} {Ϸ:List (Key×V)} (e:H a=some (.dK Ϸ)):cG K H (.ref a) (.type "dict")
 |dT {a:δ} {Ϸ:List (List Key×V)} (e:H a=some (.dT Ϸ)):cG K H (.ref a) (.type "dict")
 |ins {a C dx:δ} {fs:List (Str×V)} (e:H a=some (.ins C dx fs)) (cl:ϗ K C) (ha:aeB K (.ref C) "__class__"=some (some (.builtin "object.__class__")))
  (hn:aks K (.builtin "object.__class__") "__get__"=some (some (.builtin "getset_descriptor.__get__"))) (htk:aoi K (.builtin "object.__class__")=some true)
  (hm:amQ K C (.type "object")=some true):cG K H (.ref a) (.ref C)
theorem U9{x:V}{u t:ε}(I:Inv X ϵ σ H s)(rx:RelV x u)(ty:cG X.K H x t)(e:aoD X.K t c=some b)(h:∀tk,Q (.bool b) {s with toks:=tk}):ν (Ϧ X.prog X.w) A (call (.builtin "isinstance") [u,c]) Q E s:=by
 cases ty with
 |non=>cases(show u=Value.none from rx);exact ank W.kitx_none I.kIn True.intro e (λz=>nomatch z) h
 |bl y=>cases(show u=Value.bool y from rx);exact ank W.kitx_bool I.kIn True.intro e (λz=>nomatch z) h
 |int i=>obtain⟨t,q⟩:=(show ∃t,u=Value.int i t from rx);cases q;exact ank W.kitx_int I.kIn True.intro e (λz=>nomatch z) h
 |str y=>obtain⟨t,q⟩:=(show ∃t,u=Value.str y t from rx);cases q;exact ank W.kitx_str I.kIn True.intro e (λz=>nomatch z) h
 |flt y=>obtain⟨t,q⟩:=(show ∃t,u=Value.float y t from rx);cases q;exact ank W.kitx_float I.kIn True.intro e (λz=>nomatch z) h
 | @lst a xs ea=>
   cases(show u=Value.ref a from rx);obtain⟨_,_,n,_,h1⟩:=(show ϐ X.prog X.w H s.heap a (.lst xs)from I.hok a _ ea);exact ank W.kitx_list I.kIn ⟨_,h1,rfl⟩ e (λz=>nomatch z) h
 | @frz a ob xs ea=>
   cases(show u=Value.ref a from rx);obtain⟨_,_,_,n,_,h1⟩:=(show ϐ X.prog X.w H s.heap a (.frz ob (.lst xs))from I.hok a _ ea);exact ank W.kitx_list I.kIn ⟨_,h1,rfl⟩ e (λz=>nomatch z) h
 | @tup a xs ea=>
   cases(show u=Value.ref a from rx);obtain⟨_,_,_,p⟩:=(show ϐ X.prog X.w H s.heap a (.tup xs)from I.hok a _ ea);obtain⟨o,h1,h2,_⟩:=p;exact ank W.kitx_tuple I.kIn ⟨o,h1,h2⟩ e (λz=>nomatch z) h
 | @dK a Ϸ ea=>
   cases(show u=Value.ref a from rx);obtain⟨_,_,vs,_,p⟩:=(show ϐ X.prog X.w H s.heap a (.dK Ϸ)from I.hok a _ ea);obtain⟨o,es,ep,h1,h2,_⟩:=p;exact ank W.kitx_dict I.kIn ⟨o,h1,h2.1⟩ e (λz=>nomatch z) h
 | @dT a Ϸ ea=>
   cases(show u=Value.ref a from rx);obtain⟨_,_,xs,_,o,es,ep,h1,h2,_⟩:=(show ϐ X.prog X.w H s.heap a (.dT Ϸ)from I.hok a _ ea);exact ank W.kitx_dict I.kIn ⟨o,h1,h2.1⟩ e (λz=>nomatch z) h
 | @ins a C dx fs ea cl ha hn htk hm=>
   cases(show u=Value.ref a from rx);obtain⟨mA,O,_⟩:=wg I.hok ea;obtain⟨od,J,_⟩:=O.look;exact ank (W.kitx_own (cl.get _) cl.hd ha hn htk hm) I.kIn J e (λz=>nomatch z) h
end
structure ϙ(cc:Bool)(k:Nat)(A:ϲ):Prop where
 hd:cc=true->A.handled=none
 dp:A.depth+3*k+5<recursionLimit
 un:A.units+16*k+200<cLine
theorem ϙ.mono{j k:Nat}{A:ϲ}(r:ϙ cc k A)(h:j<=k):ϙ cc j A:=⟨r.hd,by have:=r.dp;omega,by have:=r.un;omega⟩
theorem ϙ.deeper{k:Nat}{A:ϲ}(r:ϙ cc (k+1) A)(env:Env):ϙ cc k (A.deeper env):=
 ⟨r.hd,by have:=r.dp;show A.depth+1+3*k+5<_;omega,by have:=r.un;show A.units+3+16*k+200<_;omega⟩
theorem afF{A:ϲ}{C:δ}{us:List ε}{kw:List (Str×ε)}:(A.under (.builtin "type.__call__" ⟨.ref C::us,kw⟩)).depth=A.depth+1:=by
 first|rfl|simp[Around.under,Code.weight,Code.isCreation,Code.isGuard,Code.isCaller,Code.frames,Code.isFrame,guardIds]
theorem ad3{A:ϲ}{C:δ}{us:List ε}{kw:List (Str×ε)}:(A.under (.builtin "type.__call__" ⟨.ref C::us,kw⟩)).units=A.units+1:=by
 first|rfl|simp[Around.under,Code.cUnits,Code.frames,Code.isFrame]
theorem ϙ.make{k:Nat}{A:ϲ}(r:ϙ cc (k+1) A)(C:δ)(us:List ε)(kw:List (Str×ε)):ϙ cc k (A.under (.builtin "type.__call__" ⟨.ref C::us,kw⟩)):=
 ⟨r.hd,by have:=r.dp;rw[afF];omega,by have:=r.un;rw[ad3];omega⟩
theorem ϙ.depth{k:Nat}{A:ϲ}(r:ϙ cc k A):A.depth<recursionLimit:=by have:=r.dp;omega
theorem ϙ.units{k:Nat}{A:ϲ}(r:ϙ cc k A):A.units+64<cLine:=by have:=r.un;omega
def abS:TA:=λ_ H Q=>Q [] H
def agW(ta:TE)(tr:TA):TA:=λσ H Q=>ta σ H λx H1=>tr σ H1 λxs H2=>Q (x::xs) H2
section
variable{X:Cx}{e:π}{es:List π}{te:TE}{t:TA}{pos:Pos}
theorem TX:PA X [] abS:=λ_ _ _ _ H Q I h=>Calls.spliced_nil ⟨[],H,I,.nil,h⟩
theorem aeQ(ha:PE X e te)(hr:PA X es t)(hs:ϰ (e::es) X.env=(false,eval e X.env)::ϰ es X.env:=by rfl):PA X (e::es) (agW te t):=by
 intro pos ϵ s σ H Q I h;rw[hs];show ν _ _ (spliced ((false,eval e X.env)::backTo pos (ϰ es X.env))) _ _ s;refine Calls.spliced_cons (χ (ha ϵ s σ H _ I h) λu s1 hZ=>?_);obtain⟨x,H1,I1,r1,q1⟩:=hZ;exact χ (hr pos ϵ s1 σ H1 _ I1 q1) λus s2 ⟨xs,H2,I2,r2,q2⟩=>⟨x::xs,H2,I2,.cons r1 r2,q2⟩
def Yr(t:TA):TE:=λσ H Q=>t σ H λxs H1=>xs.length<=Ϫ/\∀p,H1 p=none->Q (.ref p) (upd H1 p (.tup xs))
def ait(t:TA):TE:=λσ H Q=>t σ H λxs H1=>xs.length<=Ϫ/\∀p,H1 p=none->Q (.ref p) (upd H1 p (.lst xs))
theorem aap{x1}(h:PA X es t):PE X (.Tuple es x1 pos) (Yr t):=by
 intro ϵ s σ H Q I hq;refine wpAny_Tuple_spliced (χ (h pos ϵ s σ H _ I hq) λus s1 ⟨xs,H1,I1,r,z,q⟩=>⟨by rw[<-r.length];exact z,?_⟩);have hf:H1 s1.heap.objs.size=none:=I1.hok.fresh (Ϯ _);refine⟨.ref s1.heap.objs.size,upd H1 s1.heap.objs.size (.tup xs),I1.laid (t':=s1.toks) (λb u e=>Heap.get?_push_of_some _ e) (Ϯ _) ?_,rfl,q _ hf⟩;exact⟨z,us,r,⟨_,acM _ rfl,rfl,_,rfl⟩⟩
theorem Vs(h:PA X es t):PE X (.List es pos) (ait t):=by
 intro ϵ s σ H Q I hq;refine wpAny_List_spliced (χ (h pos ϵ s σ H _ I hq) λus s1 ⟨xs,H1,I1,r,z,q⟩=>⟨by rw[<-r.length];exact z,?_⟩);have hf:H1 s1.heap.objs.size=none:=I1.hok.fresh (Ϯ _);refine⟨.ref s1.heap.objs.size,upd H1 s1.heap.objs.size (.lst xs),I1.laid (t':=s1.toks) (λb u e=>Heap.get?_push_of_some _ e) (Ϯ _) ?_,rfl,q _ hf⟩;exact⟨z,us,0,r,acM _ rfl⟩
end
abbrev Sp:=List V->Hp->VK->XK->Prop
abbrev d9:=List Env->Hp->μ->XK->ε->μ->Prop
structure lW(P:ϯ)(w:Ϭ)(K:ϩ)(mg:Str->Option ε)(base:ϫ)(A:ϲ)(outer:List Env)(s:μ)(H:Hp):Prop where
 frames:A.frames=some outer
 mod:Mod K mg base
 bs:∀b o,base.get? b=some o->s.heap.get? b=some o/\H b=none
 bsz:base.objs.size<=s.heap.objs.size
 funs:s.heap.FunFrames base outer
 frf:∀b∈bY outer,H b=none
 hok:Ϡ P w H s.heap
 bare:AllBare s.gens
def CE(outer:List Env)(P:ϯ)(w:Ϭ)(H:Hp)(s:μ)(Q:VK)(u:ε)(s':μ):Prop:=
 ∃v H',s'.os=s.os/\AllBare s'.gens/\Un (bY outer) [] H H' s.heap s'.heap/\Ϡ P w H' s'.heap/\RelV v u/\Q v H'
def CR(CX:d9)(outer:List Env)(P:ϯ)(w:Ϭ)(H:Hp)(s:μ)(Q:VK)(E:XK)(r:Result)(s':μ):Prop:=
 match r with
 |.ok (.ret u)=>CE outer P w H s Q u s'
 |.ok _=>False
 |.error e=>CX outer H s E e s'
structure cO(P:ϯ)(w:Ϭ)(K:ϩ)(mg:Str->Option ε)(base:ϫ)(CX:d9)(cc:Bool)(k:Nat)(f:δ)(fd:akn)(ps:List Str)(sp:Sp):Prop where
 len:∀vs H Q E,sp vs H Q E->vs.length=ps.length
 run:∀(A:ϲ)(outer:List Env)(s:μ)(H:Hp)(args:Args)(us:List ε)(vs:List V)(Q:VK)(E:XK),ϙ cc k A->lW P w K mg base A outer s H->BindsTo s fd args (ps.zip us)->Vals vs us->sp vs H Q E->
  codeAny (Ϧ P w) A (.call (.ref f) args) (CR CX outer P w H s Q E) s
theorem cO.mono{P:ϯ}{w:Ϭ}{K:ϩ}{mg:Str->Option ε}{base:ϫ}{CX:d9}{j k:Nat}{f:δ}{fd:akn}{ps:List Str}{sp:Sp}(F:cO P w K mg base CX cc j f fd ps sp)(h:j<=k):cO P w K mg base CX cc k f fd ps sp:=⟨F.len,λA outer s H args us vs Q E hr=>F.run A outer s H args us vs Q E (hr.mono h)⟩
theorem lW.make{P:ϯ}{w:Ϭ}{K:ϩ}{mg:Str->Option ε}{base:ϫ}{A:ϲ}{outer:List Env}{s:μ}{H:Hp}(e:lW P w K mg base A outer s H)(C:δ)(us:List ε)(kw:List (Str×ε)):lW P w K mg base (A.under (.builtin "type.__call__" ⟨.ref C::us,kw⟩)) outer s H:=⟨by first|exact e.frames|(simpa [Around.under,Code.envs,Code.isFrame,pushEnvs]using e.frames),e.mod,e.bs,e.bsz,e.funs,e.frf,e.hok,e.bare⟩
section
variable{X:Cx}{ϵ:List (δ×Obj)}{σ:St}{H:Hp}{s s':μ}
theorem Inv.env0(I:Inv X ϵ σ H s):lW X.prog X.w X.K X.mg X.base X.A X.stack s H:=
 ⟨I.ok.frames,I.ok.mod,I.bs,ah6 I.ok.bsz I.sz,I.stack,I.stkFree,I.hok,I.bare⟩
theorem Inv.after{Q:VK}{u:ε}(I:Inv X ϵ σ H s)(h:CE X.stack X.prog X.w H s Q u s'):EP X ϵ σ Q u s':=by
 obtain⟨v,H',os,bare,un,hok,r,q⟩:=h;obtain⟨hh,g,d,t,os'⟩:=s';obtain rfl:os'=s.os:=os;exact⟨v,H',I.call (h':=hh) (g':=g) (d':=d) (t':=t) (ch:=[]) un hok bare (λb z=>absurd z (by simp)),r,q⟩
end
def Binds(K:ϩ)(fd:akn)(ps:List Str)(ds:List ε):Prop:=
 ∀(s:μ)(us:List ε),K.In s.heap->(us++ds).length=ps.length->BindsTo s fd ⟨us,[]⟩ (ps.zip (us++ds))
theorem Binds.all{K:ϩ}{fd:akn}{ps:List Str}(h:∀us:List ε,us.length=ps.length->bindArgs fd ⟨us,[]⟩=pure (ps.zip us)):Binds K fd ps []:=λs us _ hl=>by
 rw[List.append_nil]at hl⊢;exact .of_eq (h us hl)
section
variable{X:Cx}{CX:d9}{k:Nat}{f C:δ}{fd:akn}{ps:List Str}{sp:Sp}{dvs:List V}{ds:List ε}{E:XK}{x m:Str}{p pos apos:Pos}{e o:π}{es:List π}{ta:TE}{t:TA}
structure Mk(K:ϩ)(C f:δ):Prop where
 makes:ao0 K C=true
 init:aeB K (.ref C) "__init__"=some (some (.ref f))
 fn:aoB K (.ref f)=true
 kp:anl K (.ref C)=true
end
section
variable{X:Cx}{CX:d9}{k:Nat}{f C:δ}{fd:akn}{ps ks:List Str}{sp:Sp}{E:XK}{x m:Str}{p pos apos kpos:Pos}{e o:π}{es:List π}{kws:List Keyword}{te ta:TE}{t tk:TA}{nm:Option Str}
variable{g:List ε->List ε->List ε}{gV:List V->List V->List V}
end
structure Γ(N P:List Str)(sc:ai8):Prop where
 kind:sc.kind=.function
 co:sc.isCoroutine=false
 gen:sc.isGenerator=false
 nd:N.Nodup
 pre:N.take P.length=P
 par:∀x∈P,sc.names.lookup x=some .local\/sc.names.lookup x=some .cell
 nofree:∀y∈sc.names,y.2≠.free
theorem RL{kindOf:Str->Option anC}{x:Str}:∀{binds:List (Str×ε)}{m:Str->Option ε},(∀v,(x,v)∉binds)->bindL kindOf binds m x=m x
 |[],_,_=>rfl
 |(n,v)::r,m,h=>by
  unfold bindL;rw[RL λw hw=>h w (abN _ hw)];split
  .have :x≠n:=by rintro rfl;exact h v acB
   simp[this]
  .rfl
theorem Ig{kindOf:Str->Option anC}{x:Str}:∀{binds:List (Str×ε)}{m:Str->Option ε},(∀v,(x,v)∉binds)->bindC kindOf binds m x=m x
 |[],_,_=>rfl
 |(n,v)::r,m,h=>by
  unfold bindC;rw[Ig λw hw=>h w (abN _ hw)];split
  .rfl
  .have :x≠n:=by rintro rfl;exact h v acB
   simp[this]
theorem N8{kindOf:Str->Option anC}{x:Str}{v:ε}:∀{P:List Str}{vs:List ε}{i:Nat}{m:Str->Option ε},P.Nodup->P[i]?=some x->vs[i]?=some v->kindOf x=some .local->
  bindL kindOf (P.zip vs) m x=some v
 |[],_,_,_,_,h,_,_=>by simp at h
 |_::_,[],_,_,_,_,h,_=>by simp at h
 |p::P,w::vs,0,m,nd,h1,h2,hk=>by
  simp at h1 h2;subst h1;subst h2;show bindL kindOf ((p,w)::P.zip vs) m p=_;unfold bindL;rw[RL λv hv=>(aiU.mp nd).1 (aoj hv).1,if_pos hk];simp
 |p::P,w::vs,i+1,m,nd,h1,h2,hk=>by
  show bindL kindOf ((p,w)::P.zip vs) m x=_;unfold bindL;exact N8 (i:=i) (aiU.mp nd).2 (by simpa using h1) (by simpa using h2) hk
theorem Qw{kindOf:Str->Option anC}{x:Str}{v:ε}:∀{P:List Str}{vs:List ε}{i:Nat}{m:Str->Option ε},P.Nodup->P[i]?=some x->vs[i]?=some v->kindOf x≠some .local->
  bindC kindOf (P.zip vs) m x=some v
 |[],_,_,_,_,h,_,_=>by simp at h
 |_::_,[],_,_,_,_,h,_=>by simp at h
 |p::P,w::vs,0,m,nd,h1,h2,hk=>by
  simp at h1 h2;subst h1;subst h2;show bindC kindOf ((p,w)::P.zip vs) m p=_;unfold bindC;rw[Ig λv hv=>(aiU.mp nd).1 (aoj hv).1,if_neg hk];simp
 |p::P,w::vs,i+1,m,nd,h1,h2,hk=>by
  show bindC kindOf ((p,w)::P.zip vs) m x=_;unfold bindC;exact Qw (i:=i) (aiU.mp nd).2 (by simpa using h1) (by simpa using h2) hk
def start(N:List Str)(vs:List V):St:=vs.map some++ajq (N.length-vs.length) none
def jk(cc:Bool)(CX:d9)(P:ϯ)(w:Ϭ)(K:ϩ)(mg:Str->Option ε)(base:ϫ)(N:List Str)(qual:Str)(scope:ai8)(f:δ)(cd:ε)(A:ϲ)(outer:List Env)(s:μ)(H:Hp)(E:XK):Cx where
 prog:=P
 w:=w
 K:=K
 mg:=mg
 base:=base
 A:=A.deeper (envOfC qual scope s.heap.objs.size f cd)
 N:=N
 s₀:=s
 H₀:=H
 env:=envOfC qual scope s.heap.objs.size f cd
 outer:=outer
 stack:=envOfC qual scope s.heap.objs.size f cd::outer
 ex:=[]
 calm:=cc
 fn:=λ_=>true
 pn:=[]
 xe:=λe s'=>ν (Ϧ P w) (A.deeper (envOfC qual scope s.heap.objs.size f cd)) (leaving (envOfC qual scope s.heap.objs.size f cd) e) (λ_ s''=>CX outer H s E e s'') (λe' s''=>CX outer H s E e' s'') s'
theorem KH{sc:ai8}{n:Nat}{x:Str}(h:sc.names.lookup x=some .cell):∃c,(cellsFrom n sc.names []).lookup x=some c:=by
 have q:=W.cellsFrom_some sc.names n [] (.inl h);exact Option.isSome_iff_exists.mp q
theorem ajc{CX:d9}{P:ϯ}{w:Ϭ}{K:ϩ}{mg:Str->Option ε}{base:ϫ}{N ps:List Str}{qual:Str}{scope:ai8}{f:δ}{cd:ε}{A:ϲ}{outer:List Env}{s s1:μ}{H:Hp}{E:XK}{us:List ε}{vs:List V}(S:Γ N ps scope)(hd:cc=true->A.handled=none)(e0:lW P w K mg base A outer s H)(hl:vs.length=ps.length)(r:Vals vs us)(x:InCallC s s.heap.objs.size (bindL (envOfC qual scope s.heap.objs.size f cd).kindOf (ps.zip us) λ_=>none) (cellsFrom (s.heap.objs.size+1) scope.names []) (bindC (envOfC qual scope s.heap.objs.size f cd).kindOf (ps.zip us) λ_=>none) s1):Inv (jk cc CX P w K mg base N qual scope f cd A outer s H E) [] (start N vs) H s1:=by
 have hpl:ps.length<=N.length:=by have:=congrArg anE S.pre;rw[afr]at this;omega
 obtain⟨h1,tk,rfl,hk⟩:=x.done;have noA:∀b:δ,b∉(jk cc CX P w K mg base N qual scope f cd A outer s H E).ex:=λb z=>absurd (show b∈([]:List δ)from z) (by simp)
 refine⟨⟨e0.mod,S.kind,rfl,rfl,Ϯ _,λy z c h1 h2=>?_,λy hy=>?_,λy c _ h=>?_,hd,Around.frames_deeper e0.frames,.inr ⟨rfl,rfl⟩,λb z=>absurd z (noA b),e0.bs,e0.bsz,λb _ _=>noA b,λb z=>absurd z (noA b),e0.funs,e0.frf⟩,
  rfl,e0.bare,Un.kept hk,⟨_,x.toInCall.ns,λi y v h1 h2 h3=>?_⟩,λy c h=>⟨_,x.cell y c h⟩,e0.hok.fresh (Ϯ _),λy c h=>?_,λp hp=>absurd (show p∈([]:List (δ×Obj))from hp) (by simp),e0.hok.kept hk,?_⟩
 .exact name_of_addr x.apart (PySem.mem_of_lookup h1) (PySem.mem_of_lookup h2)
 .have hy:scope.names.lookup y=some .cell\/scope.names.lookup y=some .free:=hy;obtain hy|hy:=hy
  .exact KH hy
  .exact absurd rfl (S.nofree _ (PySem.mem_of_lookup hy))
 .exact anT (x.above y c (PySem.mem_of_lookup h))
 .have hi:i<vs.length:=by
   unfold start at h2;by_cases hi:i<vs.length
   .exact hi
   .rw[anS (by simpa using hi)]at h2;rw[List.getElem?_replicate]at h2;split at h2<;>cases h2
  have ha:vs[i]?=some v:=by
   unfold start at h2;rw[akE (by simpa using hi),acy]at h2;cases e:vs[i]? with
   |none=>rw[e]at h2;cases h2
   |some a=>rw[e]at h2;cases h2;rfl
  obtain⟨u,hu,rv⟩:=r.get ha;have hp:ps[i]?=some y:=by
   rw[<-S.pre,List.getElem?_take_of_lt (by omega)];exact h1
  have ndP:ps.Nodup:=by rw[<-S.pre];exact S.nd.sublist (List.take_sublist _ _)
  refine⟨u,rv,?_⟩;rcases S.par y (abG hp)with k|k
  .exact .inl ⟨k,N8 ndP hp hu k⟩
  .obtain⟨c,e⟩:=KH (n:=s.heap.objs.size+1) k;refine .inr ⟨.inl k,c,e,?_⟩;have q:=x.cell y c e;rw[Qw ndP hp hu (by show scope.names.lookup y≠_;rw[k];decide)]at q;exact q
 .exact e0.hok.fresh (anT (x.above y c (PySem.mem_of_lookup h)))
 .unfold start;show _=N.length;rw[adI,ϱ,aok];omega
theorem VP{CX:d9}{P:ϯ}{w:Ϭ}{K:ϩ}{mg:Str->Option ε}{base:ϫ}{k:Nat}{f:δ}{name qual:Str}{params:Arguments}{body:List Ϩ}{scope:ai8}{dV kV doc pm Ϲ ct oc:ε}{an od:Option δ}{osl:Array (Option ε)}{N ps:List Str}{sp:Sp}(lk:K.lookup f=some ⟨oc,od,.func (aoE name qual params body scope dV kV doc pm an Ϲ ct),osl⟩)(hcd:an9 K Ϲ qual=true)(S:Γ N ps scope)(len:∀vs H Q E,sp vs H Q E->vs.length=ps.length)(hbody:∀(A:ϲ)(outer:List Env)(s:μ)(H:Hp)(vs:List V)(Q:VK)(E:XK),ϙ cc k (A.deeper (envOfC qual scope s.heap.objs.size f Ϲ))->sp vs H Q E->
   ∃t,gm (jk cc CX P w K mg base N qual scope f Ϲ A outer s H E) body t/\t {nx:=λ_ H'=>Q .non H',rt:=Q} (start N vs) H):cO P w K mg base CX cc (k+1) f (aoE name qual params body scope dV kV doc pm an Ϲ ct) ps sp:=by
 refine⟨len,λA outer s H args us vs Q E hr e0 hb r hsp=>?_⟩;have hl:=len _ _ _ _ hsp;have KX:K.In s.heap:=e0.mod.kin.keeps λb o e=>(e0.bs b o e).1
 have lim:s.heap.NoLimit:=e0.mod.nolimit.keeps λb o e=>(e0.bs b o e).1
 have hkind:∀y∈ps.zip us,scope.names.lookup y.1=some .local\/(scope.names.lookup y.1=some .cell/\((cellsFrom (s.heap.objs.size+1) scope.names []).lookup y.1).isSome=true):=λ⟨n,v⟩ hy=>by
  obtain q|q:=S.par n (aoj hy).1
  .exact .inl q
  .exact .inr ⟨q,W.cellsFrom_some _ _ _ (.inl q)⟩
 refine codeAny_call_function hr.depth (KX _ _ lk) rfl S.co S.gen rfl (W.codeRec_of KX hcd) (hb _ _ _ _ ?_);refine wpAny_newFunctionEnv_cells S.kind hkind λenv he s1 x=>?_
 subst he;refine⟨lim.keeps x.toInCall.keep,codeAny_func ?_⟩;obtain⟨t,ht,hq⟩:=hbody A outer s H vs Q E (hr.deeper _) hsp;have I:Inv (jk cc CX P w K mg base N qual scope f Ϲ A outer s H E) [] (start N vs) H s1:=ajc S hr.hd e0 hl r x;refine adL (ht [] s1 (start N vs) H _ I hq) (λfl s' hs=>?_) λe s' hs=>hs
 have fin:∀{σ':St}{H':Hp}{v:V}{u:ε},Inv (jk cc CX P w K mg base N qual scope f Ϲ A outer s H E) [] σ' H' s'->RelV v u->Q v H'->CE outer P w H s Q u s':=
  λ{σ' H' v u} J rv q=>⟨v,H',J.os,J.bare,J.base,J.hok,rv,q⟩
 cases fl with
 |ret u=>
  obtain⟨v,σ',H',J,rv,q⟩:=hs;exact fin J rv q
 |next=>
  obtain⟨σ',H',J,q⟩:=hs;exact fin (v:=V.non) (u:=Value.none) J rfl q
 |brk=>
  obtain⟨_,_,_,q⟩:=hs;exact False.elim q
 |cont=>
  obtain⟨_,_,_,q⟩:=hs;exact False.elim q
section
variable{X:Cx}{x:Str}{p pos:Pos}{e:π}{es:List π}{t:TA}{id T:String}{r:List V->Hp->VK->Prop}
def S7(r:List V->Hp->VK->Prop)(t:TA):TE:=λσ H Q=>t σ H λvs H1=>r vs H1 Q
theorem adT(hc:fZ X (.builtin id) r)(hg:Gl X x)(hm:X.mg x=none)(hv:bootBuiltins x=some (.builtin id))(ha:PA X (e::es) t)(hn:x≠"__name__":=by decide)(hdb:(x==("__debug__":Str))=false:=by decide)(he:ϰ (e::es) X.env=(false,eval e X.env)::ϰ es X.env:=by rfl)(hpl:(backTo pos (ϰ es X.env)).any (·.1)=false:=by rfl):PE X (.Call (.Name x p) (e::es) [] pos) (S7 r t):=by
 intro ϵ s σ H Q I h;refine ant (mC I hg hm hv ?_ hn hdb);exact PyProof.Rows.callWith_builtin1 (χ (ha pos ϵ s σ H _ I h) λus s1 ⟨vs,H1,I1,r1,q1⟩=>hc ϵ s1 σ H1 vs us Q I1 r1 q1) he hpl
theorem afs(hc:fZ X (.type T) r)(hg:Gl X x)(hm:X.mg x=none)(hv:bootBuiltins x=some (.type T))(ha:PA X (e::es) t)(hn:x≠"__name__":=by decide)(hdb:(x==("__debug__":Str))=false:=by decide)(he:ϰ (e::es) X.env=(false,eval e X.env)::ϰ es X.env:=by rfl)(hpl:(backTo pos (ϰ es X.env)).any (·.1)=false:=by rfl):PE X (.Call (.Name x p) (e::es) [] pos) (S7 r t):=by
 intro ϵ s σ H Q I h;refine ant (mC I hg hm hv ?_ hn hdb);exact PyProof.Rows.callWith_type1 (χ (ha pos ϵ s σ H _ I h) λus s1 ⟨vs,H1,I1,r1,q1⟩=>hc ϵ s1 σ H1 vs us Q I1 r1 q1) he hpl
end
end L2
namespace HT
open PySem PyProof.Rows
section
open PySem.SeqAt
open PySem.AutoSeq1 (wpAny_loadPart')
open PySem.MeetsSeq PySem.MeetsSeq2 PySem.MeetsSeq3
end
section
variable{prog:ϯ}{w:Ϭ}{A:ϲ}{E:ε->μ->Prop}{s:μ}
def ϋ(n d:Nat):Option Int->Nat
 |none=>d
 |some v=>if v<0 then(v+(n:Int)).toNat else min v.toNat n
theorem FZ(n d:Nat):ϋ n d none=d:=rfl
theorem sH(n d k:Nat):ϋ n d (some (k:Int))=min k n:=by
 show(if(k:Int)<0 then((k:Int)+(n:Int)).toNat else min (k:Int).toNat n)=min k n;rw[if_neg (by omega),anF]
theorem RK(n d:Nat)(hd:d<=n)(o:Option Int):ϋ n d o<=n:=by
 cases o with
 |none=>exact hd
 |some v=>
  show(if v<0 then(v+(n:Int)).toNat else min v.toNat n)<=n;by_cases hv:v<0
  .rw[if_pos hv];omega
  .rw[if_neg hv];exact Nat.min_le_right _ _
theorem adH(v:Int)(n d:Nat):(if v<0 then max (v+(n:Int)) 0 else min v (n:Int))=((ϋ n d (some v):Nat):Int):=by
 show(if v<0 then max (v+(n:Int)) 0 else min v (n:Int))=(((if v<0 then(v+(n:Int)).toNat else min v.toNat n):Nat):Int);by_cases hv:v<0
 .simp only[if_pos hv];omega
 .simp only[if_neg hv];omega
end
end HT
namespace L2
open PySem PySem.Spec PyProof.Rows
abbrev TO:=St->Hp->(Option Int->Hp->Prop)->Prop
def PO(X:Cx)(e:Option π)(t:TO):Prop:=
 ∀(ϵ:List (δ×Obj))(s:μ)(σ:St)(H:Hp)(Q:Option Int->Hp->Prop),Inv X ϵ σ H s->t σ H Q->
  ν (Ϧ X.prog X.w) X.A (evalPart e X.env) (λu s'=>∃o H',Inv X ϵ σ H' s'/\IsPart u o/\Q o H') X.xe s
def Zy:TO:=λ_ H Q=>Q none H
def aex(t:TE):TO:=λσ H Q=>t σ H λx H1=>∃i,x=.int i/\Q (some i) H1
section
variable{X:Cx}{e:π}{te:TE}{lo hi:Option π}{tl th:TO}{pos p2:Pos}
theorem acZ:PO X none Zy:=by
 intro ϵ s σ H Q I h;rw[evalPart_none];exact ϭ ⟨none,H,I,.none,h⟩
theorem adP(h:PE X e te):PO X (some e) (aex te):=by
 intro ϵ s σ H Q I hw;rw[evalPart_some];refine χ (h ϵ s σ H _ I hw) λu s1 hZ=>?_
 obtain⟨x,H1,I1,r1,q1⟩:=hZ;obtain⟨i,rfl,q⟩:=q1;obtain⟨t,rfl⟩:=r1;exact⟨some i,H1,I1,.int i t,q⟩
def qR(X:Cx)(r:V->Option Int->Option Int->Hp->VK->Prop):Prop:=
 ∀(ϵ:List (δ×Obj))(s:μ)(σ:St)(H:Hp)(x:V)(v vl vu:ε)(lo hi:Option Int)(sl:δ)(Q:VK),Inv X ϵ σ H s->RelV x v->s.heap.IsSliceOf sl vl vu .none->IsPart vl lo->IsPart vu hi->r x lo hi H Q->
  ∃T id,typeLookup (.type T) "__getitem__"=pure (some (.builtin id))/\s.TypeIs v T/\ν (Ϧ X.prog X.w) X.A (getItem v (.ref sl)) (EP X ϵ σ Q) X.xe s
def tSl(r:V->Option Int->Option Int->Hp->VK->Prop)(te:TE)(tl th:TO):TE:=λσ H Q=>te σ H λx H1=>tl σ H1 λl H2=>th σ H2 λu H3=>r x l u H3 Q
theorem abv{r:V->Option Int->Option Int->Hp->VK->Prop}(hr:qR X r)(he:PE X e te)(hl:PO X lo tl)(hu:PO X hi th):PE X (.Subscript e (.Slice lo hi none p2) pos) (tSl r te tl th):=by
 intro ϵ s σ H Q I h;refine Subscript_ (χ (he ϵ s σ H _ I h) λv s1 hZ=>?_);obtain⟨x,H1,I1,r1,q1⟩:=hZ;refine wpAny_Slice (χ (hl ϵ s1 σ H1 _ I1 q1) λvl s2 ⟨l,H2,I2,pl,q2⟩=>χ (hu ϵ s2 σ H2 _ I2 q2) λvu s3 hZ=>?_);obtain⟨u,H3,I3,pu,q3⟩:=hZ;rw[evalPart_none];refine ϭ ?_;have I4:Inv X ϵ σ H3 {s3 with heap:=s3.heap.push {cls:=.type "slice",data:=.fields #[vl,vu,.none]}}:=I3.kept (t':=s3.toks) λb ob q=>Heap.get?_push_of_some _ q
 obtain⟨T,id,hT,ht,hg⟩:=hr ϵ {s3 with heap:=s3.heap.push {cls:=.type "slice",data:=.fields #[vl,vu,.none]}} σ H3 x v vl vu l u s3.heap.objs.size Q I4 r1 (Heap.IsSliceOf.new ..) pl pu q3;show ν (Ϧ X.prog X.w) X.A (subscriptTail e (.Slice lo hi none p2) v (.ref s3.heap.objs.size)) (EP X ϵ σ Q) X.xe {s3 with heap:=s3.heap.push {cls:=.type "slice",data:=.fields #[vl,vu,.none]}};exact tail_any (ops:=[.ref s3.heap.objs.size,v]) ht hT hg (by with_unfolding_all rfl)
def fH(xs:List V)(lo hi:Option Int):List V:=(xs.drop (HT.ϋ xs.length 0 lo)).take (HT.ϋ xs.length xs.length hi-HT.ϋ xs.length 0 lo)
theorem af2(xs:List V)(lo hi:Option Int):(fH xs lo hi).length<=xs.length:=by
 unfold fH;rw[afr,afz];omega
end
def lF(n:Nat)(i:Int):Option Nat:=if 0<=i then(if i<n then some i.toNat else none)else if -(n:Int)<=i then some (i+n).toNat else none
def ό{α:Type}(xs:List α)(i:Int):Option α:=(lF xs.length i).bind λj=>xs[j]?
theorem adg{n:Nat}{i:Int}{j:Nat}(h:lF n i=some j):seqIndex? i n=some j/\j<n/\ -(n:Int)<=i/\i<n:=by
 unfold lF at h;by_cases h0:0<=i
 .rw[if_pos h0]at h;by_cases h1:i<n
  .rw[if_pos h1]at h;have e:i.toNat=j:=Option.some.inj h;exact⟨by rw[seqIndex_of h0 h1,e],by omega,by omega,h1⟩
  .rw[if_neg h1]at h;cases h
 .rw[if_neg h0]at h;by_cases h1: -(n:Int)<=i
  .rw[if_pos h1]at h;have e:(i+n).toNat=j:=Option.some.inj h;exact⟨by rw[seqIndex_neg (by omega) h1,e],by omega,h1,by omega⟩
  .rw[if_neg h1]at h;cases h
theorem Dm{α:Type}{xs:List α}{i:Int}{v:α}(h:ό xs i=some v):∃j,seqIndex? i xs.length=some j/\xs[j]?=some v/\j<xs.length/\ -(xs.length:Int)<=i/\i<xs.length:=by
 unfold ό at h;cases e:lF xs.length i with
 |none=>rw[e]at h;cases h
 |some j=>
  rw[e]at h;obtain⟨h1,h2,h3,h4⟩:=adg e;exact⟨j,h1,h,h2,h3,h4⟩
theorem ϔ{α:Type}{xs:List α}{j:Nat}{v:α}(h:xs[j]?=some v):ό xs (j:Int)=some v:=by
 have hj:j<xs.length:=(aaF.mp h).1;have e:lF xs.length (j:Int)=some j:=by
  unfold lF;rw[if_pos (by omega),if_pos (by omega)];simp
 unfold ό;rw[e];exact h
def NK(b:π):=∀o i,subscripted b false o i=operate [o,i] (getItem o i)
def mD(X:Cx)(r:R2):Prop:=
 ∀(value slice:π)(ϵ:List (δ×Obj))(s:μ)(σ:St)(H:Hp)(x y:V)(v u:ε)(Q:VK),Inv X ϵ σ H s->RelV x v->RelV y u->r x y H Q->
  subscripted slice false v u=operate [v,u] (getItem v u)->ν (Ϧ X.prog X.w) X.A (subscriptTail value slice v u) (EP X ϵ σ Q) X.xe s
def uF(X:Cx)(id:String)(r:V->List V->Hp->VK->Prop):Prop:=
 ∀(ϵ:List (δ×Obj))(s:μ)(σ:St)(H:Hp)(x:V)(xs:List V)(v:ε)(us:List ε)(Q:VK),Inv X ϵ σ H s->RelV x v->Vals xs us->r x xs H Q->
  ν (Ϧ X.prog X.w) X.A (call (.builtin id) (v::us)) (EP X ϵ σ Q) X.xe s
section
variable{X:Cx}{a b:π}{ta tb:TE}{pos:Pos}
theorem ZD{r:R2}(hr:mD X r)(ha:PE X a ta)(hb:PE X b tb)(hs:NK b):PE X (.Subscript a b pos) (vX r ta tb):=by
 intro ϵ s σ H Q I h;exact Subscript_ (Ax ha hb I h λv u s2 x y H2 I2 rx ry q=>hr a b ϵ s2 σ H2 x y v u Q I2 rx ry q (hs _ _))
def HN(K:ϩ):R2:=λx y H Q=>∃p xs i v,x=.ref p/\y=.int i/\θ K H p xs/\ό xs i=some v/\Q v H
def Hx(K:ϩ):R2:=λx y H Q=>∃p xs i v,x=.ref p/\y=.int i/\ω K H p xs/\ό xs i=some v/\Q v H
def HY:R2:=λx y H Q=>∃z i c,x=.str z/\y=.int i/\z.length<=Ϫ/\ό z.cps.toList i=some c/\Q (.str ⟨#[c]⟩) H
theorem ajA:mD X (HN X.K):=by
 intro value slice ϵ s σ H x y v u Q I rx ry h hs;obtain⟨p,xs,i,z,rfl,rfl,hq,he,q⟩:=h;cases rx;obtain⟨t,rfl⟩:=ry;obtain⟨ϸ,r,pl,hz⟩:=I.list hq;obtain⟨j,h1,h2,h3,h4,h5⟩:=Dm he;obtain⟨w,ew,rw'⟩:=r.get h2;have hl:=r.length;have hn:=pN;have fin:EP X ϵ σ Q w s:=⟨z,H,I,rw',q⟩;by_cases h0:0<=i
 .have hj:i.toNat=j:=by
   rw[seqIndex_of h0 h5]at h1;exact Option.some.inj h1
  exact item_listR pl.isList h0 (by omega) (by rw[hj];simpa using ew) fin hs
 .have hj:(i+(ϸ.toArray.size:Int)).toNat=j:=by
   rw[seqIndex_neg (by omega) h4]at h1;rw[adi, <-hl];exact Option.some.inj h1
  exact subscriptTail_builtinR (x:=w) pl.isList.typeIs slot_list_getitem.lookup
   (wpAny_getItem_list_neg (Q:=λr s'=>r=w/\EP X ϵ σ Q r s') pl.isList (by omega) (by rw[adi]<;>omega) (by omega) (by rw[hj];simpa using ew) ⟨rfl,fin⟩) hs
theorem adx:mD X (Hx X.K):=by
 intro value slice ϵ s σ H x y v u Q I rx ry h hs;obtain⟨p,xs,i,z,rfl,rfl,hq,he,q⟩:=h;cases rx;obtain⟨t,rfl⟩:=ry;obtain⟨ϸ,r,pl,hz⟩:=I.tuple hq;obtain⟨j,h1,h2,h3,h4,h5⟩:=Dm he;obtain⟨w,ew,rw'⟩:=r.get h2;have hl:=r.length;have hn:=pN;have fin:EP X ϵ σ Q w s:=⟨z,H,I,rw',q⟩;exact subscriptTail_builtinR (x:=w) pl.typeIs slot_tuple_getitem.lookup
  (getItem_tuple (j:=j) (Q:=λr s'=>r=w/\EP X ϵ σ Q r s') pl (by omega) (by omega) (by rw[adi, <-hl];exact h1) (by simpa using ew) ⟨rfl,fin⟩) hs
theorem afv:mD X HY:=by
 intro value slice ϵ s σ H x y v u Q I rx ry h hs;obtain⟨z,i,c,rfl,rfl,hz,he,q⟩:=h;obtain⟨t,rfl⟩:=rx;obtain⟨t',rfl⟩:=ry;obtain⟨j,h1,h2,h3,h4,h5⟩:=Dm he;have hl:z.cps.toList.length=z.length:=by simp[Str.length]
 rw[hl]at h1 h4 h5;have hn:=pN;exact tail_any (typeIs_str s z t) slot_str_getitem.lookup (getItem_str (c:=c) (by
  have e1:decide (i< -(2^63:Int))=false:=decide_eq_false (by omega);have e2:decide (i≥2^63)=false:=decide_eq_false (by omega);rw[e1,e2,aoF]) (by rw[h1];simpa using h2) ⟨.str ⟨#[c]⟩,H,I.tok _,⟨_,rfl⟩,q⟩) hs
theorem ai2(lo hi:Option Int)(n:Nat):(sliceBounds lo hi none n).1=((HT.ϋ n 0 lo:Nat):Int)/\(sliceBounds lo hi none n).2.1=((HT.ϋ n n hi:Nat):Int)/\(sliceBounds lo hi none n).2.2=1:=by
 refine⟨?_,?_,rfl⟩
 .cases lo with
  |none=>simp[sliceBounds,HT.ϋ]
  |some i=>
   simp only[sliceBounds,HT.ϋ,Option.getD_none,show(1:Int)>0 by decide,if_true];by_cases h:i<0
   .simp only[h,if_true]<;>omega
   .simp only[h,if_false]<;>omega
 .cases hi with
  |none=>simp[sliceBounds,HT.ϋ]
  |some i=>
   simp only[sliceBounds,HT.ϋ,Option.getD_none,show(1:Int)>0 by decide,if_true];by_cases h:i<0
   .simp only[h,if_true]<;>omega
   .simp only[h,if_false]<;>omega
theorem aiM(ϸ:List ε)(lo hi:Option Int):slicePick ϸ.toArray lo hi none=((ϸ.drop (HT.ϋ ϸ.length 0 lo)).take (HT.ϋ ϸ.length ϸ.length hi-HT.ϋ ϸ.length 0 lo)).toArray:=by
 obtain⟨h1,h2,h3⟩:=ai2 lo hi ϸ.toArray.size;unfold slicePick;rw[h1,h2,h3];simp only[sliceRange_one,pick_run,adi]<;>rfl
def Ww(K:ϩ):V->Option Int->Option Int->Hp->VK->Prop:=λx lo hi H Q=>∃a xs,x=.ref a/\θ K H a xs/\∀p,H p=none->Q (.ref p) (upd H p (.lst (fH xs lo hi)))
theorem ahE:qR X (Ww X.K):=by
 intro ϵ s σ H x v vl vu lo hi sl Q I rx hs pl pu h;obtain⟨a,xs,rfl,hx,q⟩:=h;cases rx;obtain⟨ϸ,r,ht,hz⟩:=I.list hx;have hlen:=r.length;refine⟨"list",_,slot_list_getitem.lookup,ht.isList.typeIs,?_⟩;refine wpAny_getItem_list_slice ht.isList hs pl pu .none (by simp) ?_ (by rw[adi]<;>omega);rw[aiM, <-hlen];refine⟨.ref s.heap.objs.size,_,I.laid (t':=s.toks) (o:=.lst (fH xs lo hi)) (λb ob q=>Heap.get?_push_of_some _ q) (Ϯ _) ?_,rfl,q _ (I.hok.fresh (Ϯ _))⟩;exact⟨ah6 (af2 xs lo hi) hz,_,0,(r.drop (HT.ϋ xs.length 0 lo)).take (HT.ϋ xs.length xs.length hi-HT.ϋ xs.length 0 lo),acM _ rfl⟩
def eO:V->Bool
 |.non=>true
 |.bl _=>true
 |.int _=>true
 |.str _=>true
 |_=>false
def dR:V->V->Bool
 |.non,.non=>true
 |.bl a,.bl b=>a==b
 |.bl a,.int b=>(if a then 1 else 0)==b
 |.int a,.bl b=>a==(if b then 1 else 0)
 |.int a,.int b=>a==b
 |.str a,.str b=>a==b
 |_,_=>false
theorem ae9{A:ϲ}{s:μ}{y x:V}{u v:ε}(ry:RelV y u)(rx:RelV x v)(fy:eO y=true)(fx:eO x=true):SeqAt.EqAt A s u v (dR y x):=by
 cases y with
 |non=>
  cases ry;cases x with
  |non=>cases rx;exact SeqAt.EqAt.same _
  |bl b=>cases rx;exact SeqAt.EqAt.none_bool b
  |int b=>obtain⟨t,rfl⟩:=rx;exact SeqAt.EqAt.none_int b t
  |str b=>obtain⟨t,rfl⟩:=rx;exact SeqAt.EqAt.none_str b t
  |_=>exact absurd (show false=true from fx) abe
 |bl a=>
  cases ry;cases x with
  |non=>cases rx;exact SeqAt.EqAt.bool_none a
  |bl b=>cases rx;exact SeqAt.EqAt.bool_bool a b
  |int b=>obtain⟨t,rfl⟩:=rx;exact SeqAt.EqAt.bool_int a b t
  |str b=>obtain⟨t,rfl⟩:=rx;exact SeqAt.EqAt.bool_str a b t
  |_=>exact absurd (show false=true from fx) abe
 |int a=>
  obtain⟨t',rfl⟩:=ry;cases x with
  |non=>cases rx;exact SeqAt.EqAt.int_none a t'
  |bl b=>cases rx;exact SeqAt.EqAt.int_bool a t' b
  |int b=>obtain⟨t,rfl⟩:=rx;exact SeqAt.EqAt.int_int a t' b t
  |str b=>obtain⟨t,rfl⟩:=rx;exact SeqAt.EqAt.int_str a t' b t
  |_=>exact absurd (show false=true from fx) abe
 |str a=>
  obtain⟨t',rfl⟩:=ry;cases x with
  |non=>cases rx;exact SeqAt.EqAt.str_none a t'
  |bl b=>cases rx;exact SeqAt.EqAt.str_bool a t' b
  |int b=>obtain⟨t,rfl⟩:=rx;exact SeqAt.EqAt.str_int a t' b t
  |str b=>obtain⟨t,rfl⟩:=rx;exact SeqAt.EqAt.str_str a t' b t
  |_=>exact absurd (show false=true from fx) abe
 |_=>exact absurd (show false=true from fy) abe
def dj(x:V)(u:ε):Bool:=match u with
 |.none=>dR .non x
 |.bool b=>dR (.bl b) x
 |.int i _=>dR (.int i) x
 |.str z _=>dR (.str z) x
 |_=>false
theorem Ji{x y:V}{u:ε}(r:RelV y u)(f:eO y=true):dj x u=dR y x:=by
 cases y with
 |non=>cases r;rfl
 |bl b=>cases r;rfl
 |int i=>obtain⟨t,rfl⟩:=r;rfl
 |str z=>obtain⟨t,rfl⟩:=r;rfl
 |_=>exact absurd (show false=true from f) abe
theorem qL{x:V}:∀{xs:List V}{us:List ε},Vals xs us->xs.all eO=true->us.any (dj x)=xs.any λy=>dR y x
 |_,_,.nil,_=>rfl
 |y::xs,u::us,.cons r t,f=>by
  rw[List.all_cons,aaV]at f;rw[List.any_cons,List.any_cons,Ji r f.1,qL t f.2]
theorem sE{A:ϲ}{s:μ}{x:V}{v:ε}(rx:RelV x v)(fx:eO x=true):∀{xs:List V}{us:List ε},Vals xs us->xs.all eO=true->∀u∈us,SeqAt.EqAt A s u v (dj x u)
 |_,_,.nil,_=>λu hu=>by cases hu
 |y::xs,u::us,.cons r t,f=>λu' hu=>by
  rw[List.all_cons,aaV]at f;obtain rfl|hu:=acG.mp hu
  .rw[Ji r f.1];exact ae9 r rx f.1 fx
  .exact sE rx fx t f.2 u' hu
def gM(x:V)(xs:List V):Bool:=xs.any λy=>dR y x
def Mx(K:ϩ)(neg:Bool):R2:=λx y H Q=>∃p xs,y=.ref p/\(θ K H p xs\/ω K H p xs)/\eO x=true/\xs.all eO=true/\Q (.bl (if neg then !gM x xs else gM x xs)) H
theorem abO:Ϥ X (adJ .In) (Mx X.K false):=by
 intro ϵ s σ H x y v u Q I rx ry h;obtain⟨p,xs,rfl,hq,fx,fs,q⟩:=h;cases ry;obtain hq|hq:=hq
 .obtain⟨ϸ,r,pl,hz⟩:=I.list hq;refine SeqAt.in_listAt (dj x) pl.isList (λw hw=>sE rx fx r fs w (by simpa using hw)) ⟨.bl _,H,I,rfl,?_⟩;rw[show ϸ.toArray.any (dj x)=ϸ.any (dj x)by simp,qL r fs];exact q
 .obtain⟨ϸ,r,pl,hz⟩:=I.tuple hq;refine SeqAt.in_tupleAt (dj x) pl (λw hw=>sE rx fx r fs w (by simpa using hw)) ⟨.bl _,H,I,rfl,?_⟩;rw[show ϸ.toArray.any (dj x)=ϸ.any (dj x)by simp,qL r fs];exact q
theorem abM:Ϥ X (adJ .NotIn) (Mx X.K true):=by
 intro ϵ s σ H x y v u Q I rx ry h;obtain⟨p,xs,rfl,hq,fx,fs,q⟩:=h;cases ry;obtain hq|hq:=hq
 .obtain⟨ϸ,r,pl,hz⟩:=I.list hq;refine SeqAt.notIn_listAt (dj x) pl.isList (λw hw=>sE rx fx r fs w (by simpa using hw)) ⟨.bl _,H,I,rfl,?_⟩;rw[show ϸ.toArray.any (dj x)=ϸ.any (dj x)by simp,qL r fs];exact q
 .obtain⟨ϸ,r,pl,hz⟩:=I.tuple hq;refine SeqAt.notIn_tupleAt (dj x) pl (λw hw=>sE rx fx r fs w (by simpa using hw)) ⟨.bl _,H,I,rfl,?_⟩;rw[show ϸ.toArray.any (dj x)=ϸ.any (dj x)by simp,qL r fs];exact q
theorem agk:fZ X (.builtin "len") (λxs H Q=>∃p ys,xs=[.ref p]/\(θ X.K H p ys\/ω X.K H p ys)/\Q (.int ys.length) H):=by
 intro ϵ s σ H xs us Q I r h;obtain⟨p,ys,rfl,hq,q⟩:=h;obtain⟨u,rfl,rx⟩:=vals1 r;cases rx;have hn:=pN;obtain hq|hq:=hq
 .obtain⟨ϸ,r',pl,hz⟩:=I.list hq;have hlen:=r'.length;exact Calls.call_len_list pl.isList (by simp only[adi]<;>omega) ⟨.int ys.length,H,I.tok _,⟨s.toks+1,by rw[adi,hlen]⟩,q⟩
 .obtain⟨ϸ,r',pl,hz⟩:=I.tuple hq;have hlen:=r'.length;exact len_tuple pl (by simp only[adi]<;>omega) ⟨.int ys.length,H,I.tok _,⟨s.toks+1,by rw[adi,hlen]⟩,q⟩
theorem adk:fZ X (.builtin "len") (λxs H Q=>∃z,xs=[.str z]/\z.length<=Ϫ/\Q (.int z.length) H):=by
 intro ϵ s σ H xs us Q I r h;obtain⟨z,rfl,hz,q⟩:=h;obtain⟨u,rfl,t,rfl⟩:=vals1 r;have hn:=pN;exact len_str (by omega) ⟨.int z.length,H,I.tok _,⟨_,rfl⟩,q⟩
theorem ZX:fZ X (.type "list") (λxs H Q=>∃p ys,xs=[.ref p]/\(θ X.K H p ys\/ω X.K H p ys)/\∀l,H l=none->Q (.ref l) (upd H l (.lst ys))):=by
 intro ϵ s σ H xs us Q I r h;obtain⟨p,ys,rfl,hq,q⟩:=h;obtain⟨u,rfl,rx⟩:=vals1 r;cases rx
 have fin:∀(ϸ:List ε),Vals ys ϸ->ys.length<=Ϫ->∀(h':ϫ)(c':Nat),(∀b o',s.heap.get? b=some o'->h'.get? b=some o')->
   h'.get? s.heap.objs.size=some {cls:=.type "list",dict:=none,data:=.seq ϸ.toArray c',slots:= #[]}->EP X ϵ σ Q (.ref s.heap.objs.size) {s with heap:=h'}:=λϸ r' hz h' c' kp e=>
  ⟨.ref s.heap.objs.size,_,I.laid (t':=s.toks) kp (Ϯ _) (show ϐ X.prog X.w _ h' _ (.lst ys)from⟨hz,ϸ,c',r',e⟩),rfl,q _ (I.hok.fresh (Ϯ _))⟩
 obtain hq|hq:=hq
 .obtain⟨ϸ,r',pl,hz⟩:=I.list hq;have hlen:=r'.length;obtain⟨o,ho,hc,n,hd⟩:=pl.isList;exact call_list_seq p (.inl rfl) ho hc hd (λh' c' kp e=>fin ϸ r' hz h' c' kp e) (by simp only[adi]<;>omega)
 .obtain⟨ϸ,r',pl,hz⟩:=I.tuple hq;have hlen:=r'.length;obtain⟨o,ho,hc,n,hd⟩:=pl;exact call_list_seq p (.inr rfl) ho hc hd (λh' c' kp e=>fin ϸ r' hz h' c' kp e) (by simp only[adi]<;>omega)
theorem agj:fZ X (.type "tuple") (λxs H Q=>∃p ys,xs=[.ref p]/\((θ X.K H p ys/\∀l,H l=none->Q (.ref l) (upd H l (.tup ys)))\/(ω X.K H p ys/\Q (.ref p) H))):=by
 intro ϵ s σ H xs us Q I r h;obtain⟨p,ys,rfl,h⟩:=h;obtain⟨u,rfl,rx⟩:=vals1 r;cases rx;obtain⟨hq,q⟩|⟨hq,q⟩:=h
 .obtain⟨ϸ,r',pl,hz⟩:=I.list hq;have hlen:=r'.length;refine call_tuple_list pl.isList (λh' kp=>?_) (by simp only[adi]<;>omega);have I1:Inv X ϵ σ H {s with heap:=h'}:=I.kept (t':=s.toks) kp;have I2:Inv X ϵ σ (upd H h'.objs.size (.tup ys)) {s with heap:=h'.push {cls:=.type "tuple",data:=.seq ϸ.toArray}}:=
   I1.laid (t':=s.toks) (λb o e=>Heap.get?_push_of_some _ e) (Ϯ _) (show ϐ X.prog X.w _ _ _ (.tup ys)from⟨hz,ϸ,r',IsTup.new _ _⟩)
  exact⟨.ref h'.objs.size,_,I2,rfl,q _ (I1.hok.fresh (Ϯ _))⟩
 .obtain⟨ϸ,r',pl,hz⟩:=I.tuple hq;exact call_tuple_same pl ⟨.ref p,H,I,rfl,q⟩
def oh(K:ϩ)(T:String)(x:V)(H:Hp):Prop:=match x with
 |.str _=>T="str"
 |.int _=>T="int"
 |.ref p=>(T="list"/\∃xs,θ K H p xs)\/(T="tuple"/\∃o,K.lookup p=some o/\o.cls=.type "tuple"/\o.dict=none)\/
   (T="dict"/\((∃Ϸ,H p=some (.dK Ϸ))\/∃Ϸ,H p=some (.dT Ϸ)))\/(T="set"/\∃S n,H p=some (.set S n))
 |_=>False
theorem R3{ϵ:List (δ×Obj)}{σ:St}{H:Hp}{s:μ}{T:String}{x:V}{v:ε}(I:Inv X ϵ σ H s)(r:RelV x v)(ty:oh X.K T x H):s.TypeIs v T/\∀a,v=.ref a->∃ob,s.heap.get? a=some ob/\ob.dict=none:=by
 cases x with
 |str z=>
  obtain⟨t,rfl⟩:=r;cases(show T="str" from ty);exact⟨typeIs_str s z t,λ_ e=>nomatch e⟩
 |int i=>
  obtain⟨t,rfl⟩:=r;cases(show T="int" from ty);exact⟨typeIs_int s i t,λ_ e=>nomatch e⟩
 |ref p=>
  cases r;obtain⟨rfl,xs,hq⟩|⟨rfl,o,hk,hc,hd⟩|⟨rfl,hk⟩|⟨rfl,S,n,hk⟩:=ty
  .obtain⟨ϸ,_,pl,_⟩:=I.list hq;refine⟨pl.isList.typeIs,λa e=>?_⟩;cases e;obtain⟨o,n,e,c,hd,_⟩:=pl;exact⟨o,e,hd⟩
  .refine⟨⟨o,I.kIn p o hk,hc⟩,λa e=>?_⟩;cases e;exact⟨o,I.kIn _ o hk,hd⟩
  .have z:∃o,s.heap.get? p=some o/\o.ExactDict:=by
    obtain⟨Ϸ,hk⟩|⟨Ϸ,hk⟩:=hk
    .obtain⟨_,_,_,_,o,_,_,e,ex,_⟩:=I.hok p _ hk;exact⟨o,e,ex⟩
    .obtain⟨_,_,_,_,o,_,_,e,ex,_⟩:=I.hok p _ hk;exact⟨o,e,ex⟩
   obtain⟨o,e,ex⟩:=z;refine⟨⟨o,e,ex.1⟩,λa e2=>?_⟩;cases e2;exact⟨o,e,ex.2.1⟩
  .obtain⟨o,_,_,_,e,ex,_⟩:=I.hok p _ hk;refine⟨⟨o,e,ex.1⟩,λa e2=>?_⟩;cases e2;exact⟨o,e,ex.2.1⟩
 |_=>exact False.elim ty
def YH(K:ϩ)(T:String)(r:V->List V->Hp->VK->Prop)(to:TE):TE:=λσ H Q=>to σ H λx H1=>oh K T x H1/\r x [] H1 Q
def tBM(K:ϩ)(T:String)(r:V->List V->Hp->VK->Prop)(to:TE)(t:TA):TE:=λσ H Q=>to σ H λx H1=>oh K T x H1/\t σ H1 λxs H2=>r x xs H2 Q
variable{o e:π}{es:List π}{to:TE}{t:TA}{name:Str}{apos ϻ:Pos}{T id:String}{r:V->List V->Hp->VK->Prop}
theorem ajf(pa:PlainAttrs T)(slot:Slot T name id)(hty:typeOf (.builtin id)=pure (.type "method_descriptor"))(hm:uF X id r)(ho:PE X o to)(hbase:attributeBase o name X.env (eval o X.env)=eval o X.env:=by rfl)(hline:(apos.endLine==ϻ.line)=true:=by rfl):PE X (.Call (.Attribute o name apos) [] [] ϻ) (YH X.K T r to):=by
 intro ϵ s σ H Q I h;refine wpAny_Call_method0_late hbase hline (χ (ho ϵ s σ H _ I h) λv s1 hZ=>?_);obtain⟨x,H1,I1,r1,ty,q1⟩:=hZ;obtain⟨h1,h2⟩:=R3 I1 r1 ty;exact⟨T,id,pa,slot,hty,h1,h2,Calls.callWith_builtin rfl (PySem.evalArgs_none (hm ϵ s1 σ H1 x [] v [] Q I1 r1 .nil q1))⟩
theorem abX(pa:PlainAttrs T)(slot:Slot T name id)(hty:typeOf (.builtin id)=pure (.type "method_descriptor"))(hm:uF X id r)(ho:PE X o to)(ha:PA X (e::es) t)(hbase:attributeBase o name X.env (eval o X.env)=eval o X.env:=by rfl)(hfew:((backTo ϻ (ϰ (e::es) X.env)).all (λx=> !x.1)&&(backToKw ϻ (keywordEach [] X.env)).all (λx=>x.1.isSome)
   &&decide ((e::es).length+([]:List Keyword).length+(if([]:List Keyword).isEmpty then 0 else 1)<30))=true:=by rfl)(hline:(apos.endLine==ϻ.line)=true:=by rfl)(hs:ϰ (e::es) X.env=(false,eval e X.env)::ϰ es X.env:=by rfl)(hplain:(backTo ϻ (ϰ es X.env)).any (·.1)=false:=by rfl):PE X (.Call (.Attribute o name apos) (e::es) [] ϻ) (tBM X.K T r to t):=by
 intro ϵ s σ H Q I h;refine wpAny_Call_method_late hbase hfew hline rfl (χ (ho ϵ s σ H _ I h) λv s1 hZ=>?_);obtain⟨x,H1,I1,r1,ty,q1⟩:=hZ;obtain⟨h1,h2⟩:=R3 I1 r1 ty;refine⟨T,id,pa,slot,hty,h1,h2,?_⟩;have hA:=ha ϻ ϵ s1 σ H1 _ I1 q1;rw[hs]at hA⊢;refine Calls.callWith_builtin (by show(false||(backTo ϻ (ϰ es X.env)).any (·.1))=false;rw[hplain]<;>rfl) (Calls.evalArgs_plain ?_);exact χ hA λus s2 ⟨vs,H2,I2,r2,q2⟩=>hm ϵ s2 σ H2 x vs v us Q I2 r1 r2 q2
end
def RQ(X:Cx)(id:String)(r:V->List V->Hp->VK->Prop):Prop:=
 ∀(ϵ:List (δ×Obj))(s:μ)(σ:St)(H:Hp)(x:V)(xs:List V)(v:ε)(us:List ε)(Q:VK),Inv X ϵ σ H s->RelV x v->Vals xs us->r x xs H Q->
  ν (Ϧ X.prog X.w) X.A (call (.builtin id) (v::us)) (EP X ϵ σ Q) X.xe s
theorem Vals.one{x:V}{us:List ε}(h:Vals [x] us):∃u,us=[u]/\RelV x u:=vals1 h
theorem Vals.zero:∀{us:List ε},Vals [] us->us=[]
 |_,.nil=>rfl
theorem Vals.reverse{xs:List V}{us:List ε}(h:Vals xs us):Vals xs.reverse us.reverse:=by
 induction h with
 |nil=>exact .nil
 |cons r t ih=>rw[List.reverse_cons,List.reverse_cons];exact Vals.append ih (.cons r .nil)
section
variable{X:Cx}{ϵ:List (δ×Obj)}{σ:St}{H:Hp}{s:μ}{l b:δ}{xs ys zs:List V}
theorem Inv.lset{ϸ its':List ε}{n:Nat}{f:Array ε->Array ε}{t':Nat}(I:Inv X ϵ σ H s)(hH:H l=some (.lst xs))(e:s.heap.get? l=some {cls:=.type "list",data:=.seq ϸ.toArray n})(hf:f ϸ.toArray=its'.toArray)(hv:Vals ys its')(hz:ys.length<=Ϫ):Inv X ϵ σ (upd H l (.lst ys)) {s with heap:=s.heap.update l (Obj.mapSeq f),toks:=t'}:=by
 have q:=PySem.IsL.update e f;rw[hf]at q;refine I.write (x:=l) (e:=l) (by rw[hH];exact trivial) (.inl rfl) (λb' u hb hu=>(adv s.heap (Obj.mapSeq f) (Ne.symm hb)).trans hu) ⟨_,q⟩ ?_;exact⟨hz,its',_,hv,q⟩
theorem Inv.lstM(I:Inv X ϵ σ H s)(hH:H l=some (.lst xs)):xs.length<=Ϫ/\∃(ϸ:List ε)(n:Nat),Vals xs ϸ/\xs.length=ϸ.length/\s.heap.get? l=some {cls:=.type "list",data:=.seq ϸ.toArray n}:=by
 obtain⟨z,ϸ,n,r,e⟩:=I.hok l _ hH;exact⟨z,ϸ,n,r,r.length,e⟩
end
section
variable{X:Cx}
def aej:V->List V->Hp->VK->Prop:=λx vs H Q=>∃l xs y,x=.ref l/\vs=[y]/\H l=some (.lst xs)/\xs.length<Ϫ/\Q .non (upd H l (.lst (xs++[y])))
theorem fX:RQ X "list.append" aej:=by
 intro ϵ s σ H x vs v us Q I rx rv h;obtain⟨l,xs,y,rfl,rfl,hH,hz,q⟩:=h;cases rx;obtain⟨u,rfl,ru⟩:=rv.one;obtain⟨z,ϸ,n,r,hl,e⟩:=I.lstM hH;refine call_meets F.slot_list_append ⟨_,e,rfl⟩ F.entry_list_append (F.args_list_append_2 _ _) (PySem.list_append l ϸ.toArray n u (by rw[adi];omega)) ⟨e,?_⟩;refine⟨.non,_,I.lset (its':=ϸ++[u]) hH e (by simp) (r.append (.cons ru .nil)) ?_,rfl,q⟩;rw[adI,aec];omega
def ZQ:V->List V->Hp->VK->Prop:=λx vs H Q=>∃l xs,x=.ref l/\vs=[]/\H l=some (.lst xs)/\Q .non (upd H l (.lst xs.reverse))
theorem ag0:RQ X "list.reverse" ZQ:=by
 intro ϵ s σ H x vs v us Q I rx rv h;obtain⟨l,xs,rfl,rfl,hH,q⟩:=h;cases rx;have hus:=rv.zero;subst hus;obtain⟨z,ϸ,n,r,hl,e⟩:=I.lstM hH;refine call_meets F.slot_list_reverse ⟨_,e,rfl⟩ F.entry_list_reverse (F.args_list_reverse_1 _) (AutoSeq1.list_reverse_list_0 l ϸ.toArray n (by rw[adi];omega)) ⟨e,?_⟩;refine⟨.non,_,I.lset (its':=ϸ.reverse) hH e (by simp) r.reverse ?_,rfl,q⟩;rw[aov];omega
end
section
variable{prog:ϯ}{w:Ϭ}{A:ϲ}{E:ε->μ->Prop}{s:μ}
end
section
variable{X:Cx}
end
section
variable{κ:Type} [DecidableEq κ]
def ϓ(Ϸ:List (κ×V))(k:κ):Option V:=(Ϸ.find? λkv=>decide (kv.1=k)).map (·.2)
def putK(Ϸ:List (κ×V))(k:κ)(v:V):List (κ×V):=
 if(Ϸ.any λkv=>decide (kv.1=k))=true then Ϸ.map (λkv=>if kv.1=k then(kv.1,v)else kv)else Ϸ++[(k,v)]
def dH(Ϸ:List (κ×V))(k:κ):List (κ×V):=Ϸ.filter λkv=>decide (kv.1≠k)
theorem nY{p:κ×V}{r:List (κ×V)}{k:κ}(e:p.1=k):ϓ (p::r) k=some p.2:=by simp[ϓ,List.find?_cons,e]
theorem oZ{p:κ×V}{r:List (κ×V)}{k:κ}(e:¬p.1=k):ϓ (p::r) k=ϓ r k:=by simp[ϓ,List.find?_cons,e]
theorem HR(k:κ):∀Ϸ:List (κ×V),(Ϸ.any λkv=>decide (kv.1=k))=(ϓ Ϸ k).isSome
 |[]=>rfl
 |p::r=>by
  rw[List.any_cons];by_cases e:p.1=k
  .simp only[nY e,decide_eq_true e,apc,Option.isSome_some]
  .rw[oZ e,decide_eq_false e,aoa];exact HR k r
theorem Bo(Ϸ:List (κ×V))(k:κ)(v:V):(putK Ϸ k v).length<=Ϸ.length+1:=by
 unfold putK;split
 .rw[ϱ];omega
 .rw[adI,List.length_cons,List.length_nil];omega
theorem bz.isSome_eq{o:Option V}{u:Option ε}(r:bz o u):o.isSome=u.isSome:=by
 cases o with
 |none=>cases u with
  |none=>rfl
  |some _=>exact(show False from r).elim
 |some _=>cases u with
  |none=>exact(show False from r).elim
  |some _=>rfl
theorem bz.getD{o:Option V}{u:Option ε}{d:V}{d':ε}(r:bz o u)(rd:RelV d d'):RelV (o.getD d) (u.getD d'):=by
 cases o with
 |none=>cases u with
  |none=>exact rd
  |some _=>exact(show False from r).elim
 |some _=>cases u with
  |none=>exact(show False from r).elim
  |some _=>exact r
theorem KV.val{Ϸ:List (κ×V)}{vs:List (κ×ε)}(r:KV Ϸ vs)(k:κ):bz (ϓ Ϸ k) (valueAt vs k):=by
 unfold KV at r;induction r with
 |nil=>exact True.intro
 | @cons p q ps qs h t ih=>
   obtain⟨h1,h2⟩:=h;by_cases e:p.1=k
   .have e':q.1=k:=h1.symm.trans e;have b:valueAt (q::qs) k=some q.2:=by simp[valueAt,List.find?_cons,e']
    rw[nY e,b];exact h2
   .have e':¬q.1=k:=λz=>e (h1.trans z)
    have b:valueAt (q::qs) k=valueAt qs k:=by simp[valueAt,List.find?_cons,e']
    rw[oZ e,b];exact ih
theorem KV.any{Ϸ:List (κ×V)}{vs:List (κ×ε)}(r:KV Ϸ vs)(k:κ):(Ϸ.any λkv=>decide (kv.1=k))=vs.any λkv=>decide (kv.1=k):=by
 unfold KV at r;induction r with
 |nil=>rfl
 |cons h t ih=>rw[List.any_cons,List.any_cons,ih,h.1]
theorem KV.repl{Ϸ:List (κ×V)}{vs:List (κ×ε)}(r:KV Ϸ vs)(k:κ){y:V}{u:ε}(ry:RelV y u):KV (Ϸ.map λkv=>if kv.1=k then(kv.1,y)else kv) (vs.map λkv=>if kv.1=k then(kv.1,u)else kv):=by
 unfold KV at r⊢;induction r with
 |nil=>exact .nil
 | @cons p q ps qs h t ih=>
   rw[List.map_cons,List.map_cons];refine .cons ?_ ih;obtain⟨h1,h2⟩:=h;by_cases e:p.1=k
   .rw[if_pos e,if_pos (h1.symm.trans e)];exact⟨h1,ry⟩
   .rw[if_neg e,if_neg (λz=>e (h1.trans z))];exact⟨h1,h2⟩
theorem KV.put{Ϸ:List (κ×V)}{vs:List (κ×ε)}(r:KV Ϸ vs)(k:κ){y:V}{u:ε}(ry:RelV y u):KV (putK Ϸ k y) (stored vs k u):=by
 unfold putK stored;rw[r.any k];by_cases e:(vs.any λkv=>decide (kv.1=k))=true
 .rw[if_pos e,if_pos e];exact r.repl k ry
 .rw[if_neg e,if_neg e];exact Paired.snoc r ⟨rfl,ry⟩
theorem KV.drop{Ϸ:List (κ×V)}{vs:List (κ×ε)}(r:KV Ϸ vs)(k:κ):KV (dH Ϸ k) (without vs k):=by
 unfold KV at r⊢;unfold dH without;induction r with
 |nil=>exact .nil
 | @cons p q ps qs h t ih=>
   obtain⟨h1,h2⟩:=h;rw[List.filter_cons,List.filter_cons];by_cases e:p.1=k
   .have a:¬decide (p.1≠k)=true:=by simp[e]
    have b:¬decide (q.1≠k)=true:=by simp[h1.symm.trans e]
    rw[if_neg a,if_neg b];exact ih
   .have e':¬q.1=k:=λz=>e (h1.trans z)
    have a:decide (p.1≠k)=true:=by simp[e]
    have b:decide (q.1≠k)=true:=by simp[e']
    rw[if_pos a,if_pos b];exact .cons ⟨h1,h2⟩ ih
theorem KV.keys{Ϸ:List (κ×V)}{vs:List (κ×ε)}(r:KV Ϸ vs):Ϸ.map (·.1)=vs.map (·.1):=by
 unfold KV at r;induction r with
 |nil=>rfl
 |cons h t ih=>rw[List.map_cons,List.map_cons,ih,h.1]
theorem KV.length{Ϸ:List (κ×V)}{vs:List (κ×ε)}(r:KV Ϸ vs):Ϸ.length=vs.length:=Paired.length r
theorem Ud(Ϸ:List (κ×V))(k:κ):(dH Ϸ k).length<=Ϸ.length:=ajl _ _
end
theorem iu{P:ϯ}{w:Ϭ}{k:Key}{u:ε}(r:RelV (kV k) u):(aZ P w).is k u=true:=by
 cases k with
 |inl i=>obtain⟨t,e⟩:=(show ∃t,u=Value.int i t from r);subst e;exact Xv P w i t
 |inr x=>obtain⟨t,e⟩:=(show ∃t,u=Value.str x t from r);subst e;exact Uc P w x t
theorem JK{P:ϯ}{w:Ϭ}:∀{ks:List Key}{us:List ε},Vals (ks.map kV) us->ItemsAre (aZ P w) ks us
 |[],_,r=>by rw[List.map_nil]at r;cases r;exact .nil
 |k::ks,_,r=>by
  rw[List.map_cons]at r;cases r with
  |cons h t=>exact .cons (iu h) (JK t)
abbrev KT(H:Hp):List (List Key×V)->List (List Key×δ×ε)->Prop:=Paired λp q=>p.1=q.1/\H q.2.1=some (.tup (p.1.map kV))/\RelV p.2 q.2.2
theorem KT.val{H:Hp}{Ϸ:List (List Key×V)}{xs:List (List Key×δ×ε)}(r:KT H Ϸ xs)(k:List Key):bz (ϓ Ϸ k) ((atKey xs k).map (·.2)):=by
 induction r with
 |nil=>exact True.intro
 | @cons p q ps qs h t ih=>
   obtain⟨h1,_,h2⟩:=h;by_cases e:p.1=k
   .have e':q.1=k:=h1.symm.trans e;have b:atKey (q::qs) k=some q.2:=by simp[atKey,List.find?_cons,e']
    rw[nY e,b];exact h2
   .have e':¬q.1=k:=λz=>e (h1.trans z)
    have b:atKey (q::qs) k=atKey qs k:=by simp[atKey,List.find?_cons,e']
    rw[oZ e,b];exact ih
theorem KT.repl{H:Hp}{Ϸ:List (List Key×V)}{xs:List (List Key×δ×ε)}(r:KT H Ϸ xs)(k:List Key){y:V}{u:ε}(ry:RelV y u):KT H (Ϸ.map λkv=>if kv.1=k then(kv.1,y)else kv) (xs.map (putAt k u)):=by
 induction r with
 |nil=>exact .nil
 | @cons p q ps qs h t ih=>
   rw[List.map_cons,List.map_cons];refine .cons ?_ ih;obtain⟨h1,h2,h3⟩:=h;unfold putAt;by_cases e:p.1=k
   .rw[if_pos e,if_pos (h1.symm.trans e)];exact⟨h1,h2,ry⟩
   .rw[if_neg e,if_neg (λz=>e (h1.trans z))];exact⟨h1,h2,h3⟩
theorem KT.put{H:Hp}{Ϸ:List (List Key×V)}{xs:List (List Key×δ×ε)}(r:KT H Ϸ xs)(k:List Key){b:δ}{y:V}{u:ε}(hb:H b=some (.tup (k.map kV)))(ry:RelV y u):KT H (putK Ϸ k y) (storedH xs k b u):=by
 have e:(Ϸ.any λkv=>decide (kv.1=k))=(atKey xs k).isSome:=by
  rw[HR,(r.val k).isSome_eq,anW]
 unfold putK storedH;rw[e];by_cases q:(atKey xs k).isSome=true
 .rw[if_pos q,if_pos q];exact r.repl k ry
 .rw[if_neg q,if_neg q];exact Paired.snoc r ⟨rfl,hb,ry⟩
theorem KT.keeps{H H':Hp}{Ϸ:List (List Key×V)}{xs:List (List Key×δ×ε)}(r:KT H Ϸ xs)(ht:∀b ys,H b=some (.tup ys)->H' b=some (.tup ys)):KT H' Ϸ xs:=
 Paired.mapP r λ_ _ z=>⟨z.1,ht _ _ z.2.1,z.2.2⟩
section
variable{P:ϯ}{w:Ϭ}{H:Hp}{h:ϫ}{a:δ}
theorem Ma{u:HO}(ok:Ϡ P w H h)(e:Rd H a u):ϐ P w H h a u:=e.ok ok
theorem gB{Ϸ:List (Key×V)}(ok:Ϡ P w H h)(e:Rd H a (.dK Ϸ)):Ϸ.length<=Ϫ/\(a==sysModules)=false/\∃vs,KV Ϸ vs/\h.DictOf (aZ P w) a vs:=
 show ϐ P w H h a (.dK Ϸ)from Ma ok e
theorem rH{Ϸ:List (Key×V)}(ok:Ϡ P w H h)(e:H a=some (.dK Ϸ)):Ϸ.length<=Ϫ/\(a==sysModules)=false/\∃vs,KV Ϸ vs/\h.DictOf (aZ P w) a vs:=gB ok (.inl e)
theorem j4{ks:List Key}(ok:Ϡ P w H h)(e:H a=some (.tup (ks.map kV))):(tupleKind (aZ P w)).is h ks a:=by
 obtain⟨_,ϸ,r,o,h1,h2,n,h3⟩:=(show ϐ P w H h a (.tup (ks.map kV))from ok a _ e);exact⟨o,ϸ.toArray,n,h1,h2,h3,by simpa using JK r⟩
theorem jN{Ϸ:List (List Key×V)}(ok:Ϡ P w H h)(e:Rd H a (.dT Ϸ)):Ϸ.length<=Ϫ/\(a==sysModules)=false/\
  ∃xs,KT H Ϸ xs/\h.DictOfH (tupleKind (aZ P w)) a xs:=by
 obtain⟨z,y,xs,r,o,es,ep,h1,h2,h3,h4,h5⟩:=(show ϐ P w H h a (.dT Ϸ)from Ma ok e);refine⟨z,y,xs,r,o,es,ep,h1,h2,h3,h4,λx hx=>?_,h5⟩;have all:∀{l:List (List Key×V)}{m:List (List Key×δ×ε)},KT H l m->∀x∈m,(tupleKind (aZ P w)).is h x.1 x.2.1:=by
  intro l m q;induction q with
  |nil=>intro x hx;exact nomatch hx
  | @cons p q ps qs hq t ih=>
    intro x hx;obtain e|hx:=acG.mp hx
    .subst e;exact j4 ok (by rw[<-hq.1];exact hq.2.1)
    .exact ih x hx
 exact all r x hx
theorem Zq{Ϸ:List (List Key×V)}(ok:Ϡ P w H h)(e:H a=some (.dT Ϸ)):Ϸ.length<=Ϫ/\(a==sysModules)=false/\
  ∃xs,KT H Ϸ xs/\h.DictOfH (tupleKind (aZ P w)) a xs:=jN ok (.inl e)
end
def ώ(H:Hp)(a:δ)(y:V)(r:Option V):Prop:=
 (∃Ϸ k,Rd H a (.dK Ϸ)/\y=kV k/\r=ϓ Ϸ k)\/∃Ϸ k b,Rd H a (.dT Ϸ)/\y=.ref b/\H b=some (.tup (k.map kV))/\r=ϓ Ϸ k
def cJ(H:Hp)(a:δ)(y v:V)(H':Hp):Prop:=
 (∃Ϸ k,H a=some (.dK Ϸ)/\y=kV k/\Ϸ.length<Ϫ/\H'=upd H a (.dK (putK Ϸ k v)))\/
 ∃Ϸ k b,H a=some (.dT Ϸ)/\y=.ref b/\H b=some (.tup (k.map kV))/\Ϸ.length<Ϫ/\H'=upd H a (.dT (putK Ϸ k v))
theorem ώ.k{H:Hp}{a:δ}{Ϸ:List (Key×V)}{k:Key}(e:H a=some (.dK Ϸ)):ώ H a (kV k) (ϓ Ϸ k):=.inl ⟨Ϸ,k,.inl e,rfl,rfl⟩
theorem cJ.k{H:Hp}{a:δ}{Ϸ:List (Key×V)}{k:Key}{v:V}(e:H a=some (.dK Ϸ))(hl:Ϸ.length<Ϫ):cJ H a (kV k) v (upd H a (.dK (putK Ϸ k v))):=.inl ⟨Ϸ,k,e,rfl,hl,rfl⟩
section
variable{X:Cx}{ϵ:List (δ×Obj)}{σ:St}{H:Hp}{s:μ}{a:δ}{y v:V}{u r:ε}{o:Option V}{A:ϲ}{E:ε->μ->Prop}
theorem Inv.big(I:Inv X ϵ σ H s):sysModules<s.heap.objs.size:=by
 have h:mainGlobals<s.heap.objs.size:=(I.mod.glob.keeps I.bk).lt;exact Nat.lt_trans (by decide) h
theorem acX{Q:ε->μ->Prop}(hu:A.units+1<cLine)(I:Inv X ϵ σ H s)(g:ώ H a y (some v))(ry:RelV y u)(h:∀w' s',Inv X ϵ σ H s'->RelV v w'->Q w' s'):ν (Ϧ X.prog X.w) A (getItem (.ref a) u) Q E s:=by
 obtain⟨Ϸ,k,e,ey,l⟩|⟨Ϸ,k,b,e,ey,eb,l⟩:=g
 .subst ey;obtain⟨z,hd,vs,rel,dd⟩:=gB I.hok e;obtain⟨w',hw,rw'⟩:=bz.some_of (v:=v) (o:=valueAt vs k) (by rw[l];exact rel.val k);exact wpAny_getItem_of (iu ry) dd.mapOf hw (h w' _ (I.tok _) rw')
 .subst ey;cases(show u=Value.ref b from ry);obtain⟨z,hd,xs,rel,dd⟩:=jN I.hok e;obtain⟨w',hw,rw'⟩:=bz.some_of (v:=v) (o:=(atKey xs k).map (·.2)) (by rw[l];exact rel.val k);obtain⟨p,hp,hp2⟩:=afi.mp hw;refine wpAny_getItem_heap (alo hu) (j4 I.hok eb) dd hp ?_;rw[hp2];exact h w' _ (I.tok _) rw'
theorem aaQ{Q:ε->μ->Prop}(hu:A.units+1<cLine)(I:Inv X ϵ σ H s)(g:ώ H a y o)(ry:RelV y u)(h:∀s',Inv X ϵ σ H s'->Q (.bool o.isSome) s'):ν (Ϧ X.prog X.w) A (adJ .In u (.ref a)) Q E s:=by
 obtain⟨Ϸ,k,e,ey,l⟩|⟨Ϸ,k,b,e,ey,eb,l⟩:=g
 .subst ey;obtain⟨z,hd,vs,rel,dd⟩:=gB I.hok e;refine wpAny_in_of (iu ry) hd dd.mapOf ?_;rw[<-(rel.val k).isSome_eq, <-l];exact h _ (I.tok _)
 .subst ey;cases(show u=Value.ref b from ry);obtain⟨z,hd,xs,rel,dd⟩:=jN I.hok e;refine wpAny_in_heap (alo hu) (j4 I.hok eb) hd dd ?_;have q:=(rel.val k).isSome_eq;rw[anW]at q;rw[<-q, <-l];exact h _ (I.tok _)
theorem agL{Q:ε->μ->Prop}(hu:A.units+1<cLine)(I:Inv X ϵ σ H s)(g:ώ H a y o)(ry:RelV y u)(h:∀s',Inv X ϵ σ H s'->Q (.bool (!o.isSome)) s'):ν (Ϧ X.prog X.w) A (adJ .NotIn u (.ref a)) Q E s:=by
 obtain⟨Ϸ,k,e,ey,l⟩|⟨Ϸ,k,b,e,ey,eb,l⟩:=g
 .subst ey;obtain⟨z,hd,vs,rel,dd⟩:=gB I.hok e;refine wpAny_notIn_of (iu ry) hd dd.mapOf ?_;rw[<-(rel.val k).isSome_eq, <-l];exact h _ (I.tok _)
 .subst ey;cases(show u=Value.ref b from ry);obtain⟨z,hd,xs,rel,dd⟩:=jN I.hok e;refine wpAny_notIn_heap (alo hu) (j4 I.hok eb) hd dd ?_;have q:=(rel.val k).isSome_eq;rw[anW]at q;rw[<-q, <-l];exact h _ (I.tok _)
theorem uZ{h':ϫ}{t':Nat}{ob:HO}(I:Inv X ϵ σ H s)(mu:qx (H a))(hs:akS a s.heap h')(he:∃q,h'.get? a=some q)(new:ϐ X.prog X.w (upd H a ob) h' a ob):Inv X ϵ σ (upd H a ob) {s with heap:=h',toks:=t'}:=
 I.write (x:=a) (e:=a) mu (.inl rfl) (λb q hb z=>(hs.2 b hb).trans z) he new
theorem wW{P:ϯ}{w:Ϭ}{H':Hp}{h':ϫ}{Ϸ:List (Key×V)}{vs:List (Key×ε)}(z:Ϸ.length<=Ϫ)(hd:(a==sysModules)=false)(rel:KV Ϸ vs)(dd:h'.DictOf (aZ P w) a vs):ϐ P w H' h' a (.dK Ϸ):=⟨z,hd,vs,rel,dd⟩
theorem aeO{H':Hp}{Q:Unit->μ->Prop}(hu:A.units+1<cLine)(I:Inv X ϵ σ H s)(g:cJ H a y v H')(ry:RelV y u)(rv:RelV v r)(h:∀s',Inv X ϵ σ H' s'->Q () s'):ν (Ϧ X.prog X.w) A (setItem (.ref a) u r) Q E s:=by
 obtain⟨Ϸ,k,e,ey,l,eH⟩|⟨Ϸ,k,b,e,ey,eb,l,eH⟩:=g
 .subst ey eH;obtain⟨z,hd,vs,rel,dd⟩:=rH I.hok e;have hz:vs.length<=Ϫ:=by rw[<-rel.length];exact z
  have hl:(putK Ϸ k v).length<=Ϫ:=by have:=Bo Ϸ k v;omega
  refine wpAny_setItem_pairs (hsz:=hz) (iu ry) dd λh' dd' hs=>h _ ?_
  have he:∃q,h'.get? a=some q:=let⟨q,_,_,hq,_⟩:=dd';⟨q,hq⟩;exact uZ I (by rw[e];exact True.intro) hs he (wW hl hd (rel.put k rv) dd')
 .subst ey eH;cases(show u=Value.ref b from ry);obtain⟨z,hd,xs,rel,dd⟩:=Zq I.hok e;have hz:xs.length<=Ϫ:=by rw[<-Paired.length rel];exact z
  have hl:(putK Ϸ k v).length<=Ϫ:=by have:=Bo Ϸ k v;omega
  refine wpAny_setItem_heap (hsz:=hz) (alo hu) (j4 I.hok eb) dd λh' dd' hs=>h _ ?_
  obtain⟨q,es,ep,hq,h2,h3,h4,_,h5⟩:=dd';refine uZ I (by rw[e];exact True.intro) hs ⟨q,hq⟩ ⟨hl,hd,_,(rel.put k eb rv).keeps λc ys ec=>?_,q,es,ep,hq,h2,h3,h4,h5⟩;rw[ι (T6 ec e (λz=>nomatch z))];exact ec
end
section
variable{X:Cx}{ϵ:List (δ×Obj)}{σ:St}{H:Hp}{s:μ}{a:δ}{Ϸ:List (Key×V)}{k:Key}{u:ε}{A:ϲ}{E:ε->μ->Prop}
theorem acw{v:V}{more:List ε}{Q:ε->μ->Prop}(I:Inv X ϵ σ H s)(e:H a=some (.dK Ϸ))(ry:RelV (kV k) u)(l:ϓ Ϸ k=some v)(hm:more=[]\/∃x,more=[x])(h:∀w' s',Inv X ϵ σ (upd H a (.dK (dH Ϸ k))) s'->RelV v w'->Q w' s'):ν (Ϧ X.prog X.w) A (call (.builtin "dict.pop") (.ref a::u::more)) Q E s:=by
 obtain⟨z,hd,vs,rel,dd⟩:=rH I.hok e;obtain⟨w',hw,rw'⟩:=bz.some_of (v:=v) (o:=valueAt vs k) (by rw[<-l];exact rel.val k);have hp:(keyPart u).isSome=true:=by
  cases k with
  |inl i=>obtain⟨t,q⟩:=(show ∃t,u=Value.int i t from ry);subst q;rfl
  |inr x=>obtain⟨t,q⟩:=(show ∃t,u=Value.str x t from ry);subst q;rfl
 have ha:argsOk "dict.pop" ⟨.ref a::u::more,[]⟩:=by
  obtain q|⟨x,q⟩:=hm
  .subst q;exact F.args_dict_pop_2 _ _
  .subst q;exact F.args_dict_pop_3 _ _ _
 refine call_meetsIn F.slot_dict_pop dd.typeIs F.entry_dict_pop ha (meets_dict_pop_there (aZ X.prog X.w) a (iu ry) more hm hp)
  ⟨vs,w',dd,by rw[<-rel.length];exact z,hw,λh' dd' hs=>h w' _ ?_ rw'⟩
 have he:∃q,h'.get? a=some q:=let⟨q,_,_,hq,_⟩:=dd';⟨q,hq⟩;exact uZ I (by rw[e];exact True.intro) hs he (wW (ah6 (Ud Ϸ k) z) hd (rel.drop k) dd')
end
theorem agK{X:Cx}{ϵ:List (δ×Obj)}{σ:St}{H:Hp}{s:μ}{a:δ}{y:V}{o:Option V}(I:Inv X ϵ σ H s)(g:ώ H a y o):s.TypeIs (.ref a) "dict":=by
 obtain⟨Ϸ,k,e,_,_⟩|⟨Ϸ,k,b,e,_,_,_⟩:=g
 .obtain⟨_,_,vs,_,dd⟩:=gB I.hok e;exact dd.typeIs
 .obtain⟨_,_,xs,_,dd⟩:=jN I.hok e;exact dd.typeIs
def Y6(td ty tv:TE):TS:=λD σ H=>tv σ H λv H1=>td σ H1 λx H2=>ty σ H2 λy H3=>∃a H4,x=.ref a/\cJ H3 a y v H4/\D.nx σ H4
section
variable{X:Cx}{o i e value:π}{pos pos' tpos:Pos}{td ty tv:TE}
theorem aah(hu:X.A.units+1<cLine)(ho:PE X o td)(hi:PE X i ty)(hv:PE X value tv)(hs:alk value (some (.Subscript o i pos')) pos.line X.env=pure false):PS X (.Assign [.Subscript o i pos'] value pos) (Y6 td ty tv):=by
 intro ϵ s σ H D I h;refine wpAny_Assign_Subscript (χ (hv ϵ s σ H _ I h) λr s1 ⟨v,H1,I1,rv,q1⟩=>χ (ho ϵ s1 σ H1 _ I1 q1) λu s2 ⟨x,H2,I2,rx,q2⟩=>χ (hi ϵ s2 σ H2 _ I2 q2) λiv s3 hZ=>?_) hs;obtain⟨y,H3,I3,ry,a,H4,ex,g,q3⟩:=hZ;subst ex;obtain rfl:u=Value.ref a:=rx;exact aeO hu I3 g ry rv λs4 I4=>⟨σ,H4,I4,q3⟩
end
theorem Pr{P:ϯ}{w:Ϭ}{H:Hp}(h:ϫ)(hb:sysModules<h.objs.size):ϐ P w H (h.push {cls:=.type "dict",data:=.dict #[]}) h.objs.size (.dK []):=
 ⟨ajg _,beq_eq_false_iff_ne.mpr (Ne.symm (acT hb)),[],.nil,Heap.DictOf.new h⟩
def aa2:TE:=λ_ H Q=>∀p,H p=none->Q (.ref p) (upd H p (.dK []))
section
variable{X:Cx}{pos:Pos}
theorem ajn:PE X (.Dict [] [] pos) aa2:=λϵ s σ H Q I h=>
 wpAny_Dict_empty ⟨.ref s.heap.objs.size,_,I.laid (a:=s.heap.objs.size) (o:=.dK []) (t':=s.toks) (λ_ _ q=>Heap.get?_push_of_some _ q) (Ϯ _) (Pr s.heap I.big),rfl,h _ (I.hok.fresh (Ϯ _))⟩
end
def CQ:List (TE×TE)->St->Hp->(List (V×V)->Hp->Prop)->Prop
 |[],_,H,Q=>Q [] H
 |(tk,tv)::r,σ,H,Q=>tk σ H λx H1=>tv σ H1 λy H2=>CQ r σ H2 λps H3=>Q ((x,y)::ps) H3
abbrev VV:List (V×V)->List (ε×ε)->Prop:=Paired λp q=>RelV p.1 q.1/\RelV p.2 q.2
def vJ(X:Cx)(pos:Pos)(keys:List (Option π))(values:List π)(trs:List (TE×TE)):Prop:=
 ∀(ϵ:List (δ×Obj))(s:μ)(σ:St)(H:Hp)(Q:List (V×V)->Hp->Prop),Inv X ϵ σ H s->CQ trs σ H Q->
  ν (Ϧ X.prog X.w) X.A (evalPairs (pairTrees keys values X.env pos)) (λvs s'=>∃ps H',Inv X ϵ σ H' s'/\VV ps vs/\Q ps H') X.xe s
theorem aiK{X:Cx}{pos:Pos}:vJ X pos [] [] []:=λϵ s σ H Q I h=>pairTrees_nil_walk ⟨[],H,I,.nil,h⟩
theorem zx{X:Cx}{pos:Pos}{k v:π}{ks:List (Option π)}{vs:List π}{tk tv:TE}{trs:List (TE×TE)}(hk:PE X k tk)(hv:PE X v tv)(hr:vJ X pos ks vs trs):vJ X pos (some k::ks) (v::vs) ((tk,tv)::trs):=λϵ s σ H Q I h=>
 pairTrees_cons_walk (χ (hk ϵ s σ H _ I h) λu s1 ⟨x,H1,I1,rx,q1⟩=>χ (hv ϵ s1 σ H1 _ I1 q1) λw2 s2 ⟨y,H2,I2,ry,q2⟩=>
  χ (hr ϵ s2 σ H2 _ I2 q2) λws s3 ⟨ps,H3,I3,rel,q3⟩=>⟨(x,y)::ps,H3,I3,.cons ⟨rx,ry⟩ rel,q3⟩)
def iW(Ϸ more:List (Key×V)):List (Key×V):=more.foldl (λacc kv=>putK acc kv.1 kv.2) Ϸ
theorem KV.merge:∀{more:List (Key×V)}{rs:List (Key×ε)}{Ϸ:List (Key×V)}{vs:List (Key×ε)},KV more rs->KV Ϸ vs->KV (iW Ϸ more) (merged vs rs):=by
 intro more rs Ϸ vs r;unfold KV at r;induction r generalizing Ϸ vs with
 |nil=>intro q;exact q
 | @cons p q ps qs h t ih=>
   intro r0;have e:KV (putK Ϸ p.1 p.2) (stored vs q.1 q.2):=by
    have:=r0.put p.1 h.2;rw[<-h.1];exact this
   exact ih e
theorem JW:∀(more Ϸ:List (Key×V)),(iW Ϸ more).length<=Ϸ.length+more.length
 |[],Ϸ=>by show Ϸ.length<=Ϸ.length+0;omega
 |p::r,Ϸ=>by
  have h1:=JW r (putK Ϸ p.1 p.2);have h2:=Bo Ϸ p.1 p.2;show(iW (putK Ϸ p.1 p.2) r).length<=_;rw[List.length_cons];omega
theorem Ry{P:ϯ}{w:Ϭ}:∀{Ϸ:List (Key×V)}{ws:List (ε×ε)},VV (Ϸ.map λkv=>(kV kv.1,kv.2)) ws->∃rs,Carries (aZ P w) ws rs/\KV Ϸ rs
 |[],_,r=>by rw[List.map_nil]at r;cases r;exact⟨[],True.intro,.nil⟩
 |p::Ϸ,_,r=>by
  rw[List.map_cons]at r;cases r with
  | @cons a b as bs h t=>
    obtain⟨rs,c,q⟩:=Ry (P:=P) (w:=w) t;obtain⟨b1,b2⟩:=b;exact⟨(p.1,b2)::rs,⟨iu h.1,rfl,c⟩,.cons ⟨rfl,h.2⟩ q⟩
def Z0(trs:List (TE×TE)):TE:=λσ H Q=>∀p,H p=none->CQ trs σ (upd H p (.dK [])) λps H2=>H2 p=some (.dK [])/\∃Ϸ:List (Key×V),ps=Ϸ.map (λkv=>(kV kv.1,kv.2))/\Ϸ.length<=15/\Q (.ref p) (upd H2 p (.dK (iW [] Ϸ)))
theorem aem{X:Cx}{pos:Pos}{keys:List (Option π)}{values:List π}{trs:List (TE×TE)}(h:vJ X pos keys values trs)(hall:keys.all (·.isSome)=true)(hl:keys.length=values.length)(h0:keys≠[])(h15:keys.length<=15):PE X (.Dict keys values pos) (Z0 trs):=by
 intro ϵ s σ H Q I q;have hn:=I.hok.fresh (Ϯ s.heap.objs.size);have I1:=I.laid (a:=s.heap.objs.size) (o:=.dK []) (h':=s.heap.push {cls:=.type "dict",data:=.dict #[]}) (t':=s.toks) (λ_ _ q=>Heap.get?_push_of_some _ q) (Ϯ _) (Pr s.heap I.big);refine wpAny_Dict_walk (knd:=aZ X.prog X.w) hall hl h0 h15 (χ (h ϵ _ σ _ _ I1 (q _ hn)) λws s2 hZ=>?_);obtain⟨ps,H2,I2,rel,e,Ϸ,ep,lk,q2⟩:=hZ;subst ep;obtain⟨rs,c,rk⟩:=Ry (P:=X.prog) (w:=X.w) rel;obtain⟨z,hd,vs0,r0,dd⟩:=rH I2.hok e;cases r0;refine⟨rs,c,dd,λh' dd' hs=>⟨.ref s.heap.objs.size,_,?_,rfl,q2⟩⟩;have hz:(iW [] Ϸ).length<=Ϫ:=by
  have h1:=JW Ϸ [];rw[List.length_nil]at h1;rw[ϳ];omega
 have he:∃q,h'.get? s.heap.objs.size=some q:=let⟨q,_,_,hq,_⟩:=dd';⟨q,hq⟩;exact uZ I2 (by rw[e];exact True.intro) hs he (wW hz hd (rk.merge .nil) dd')
structure M1(X:Cx)(o:π)(m:Str)(apos:Pos)(e:π)(ϻ:Pos):Prop where
 base:attributeBase o m X.env (eval o X.env)=eval o X.env
 few:((backTo ϻ (ϰ [e] X.env)).all (λx=> !x.1)&&(backToKw ϻ (keywordEach [] X.env)).all (λx=>x.1.isSome)
  &&decide (([e]:List π).length+([]:List Keyword).length+(if([]:List Keyword).isEmpty then 0 else 1)<30))=true
 line:(apos.endLine==ϻ.line)=true
 trees:backTo ϻ (ϰ [e] X.env)=[(false,eval e X.env)]
structure M2(X:Cx)(o:π)(m:Str)(apos:Pos)(e f:π)(ϻ:Pos):Prop where
 base:attributeBase o m X.env (eval o X.env)=eval o X.env
 few:((backTo ϻ (ϰ [e,f] X.env)).all (λx=> !x.1)&&(backToKw ϻ (keywordEach [] X.env)).all (λx=>x.1.isSome)
  &&decide (([e,f]:List π).length+([]:List Keyword).length+(if([]:List Keyword).isEmpty then 0 else 1)<30))=true
 line:(apos.endLine==ϻ.line)=true
 trees:backTo ϻ (ϰ [e,f] X.env)=[(false,eval e X.env),(false,eval f X.env)]
def jM(H:Hp)(a:δ):Prop:=(∃Ϸ,Rd H a (.dK Ϸ))\/∃Ϸ,Rd H a (.dT Ϸ)
theorem FQ{X:Cx}{ϵ:List (δ×Obj)}{σ:St}{H:Hp}{s:μ}{a:δ}(I:Inv X ϵ σ H s)(d:jM H a):s.TypeIs (.ref a) "dict"/\(∀b,Value.ref a=.ref b->∃ob,s.heap.get? b=some ob/\ob.dict=none)/\(a==sysModules)=false:=by
 obtain⟨Ϸ,e⟩|⟨Ϸ,e⟩:=d
 .obtain⟨_,hd,vs,_,dd⟩:=gB I.hok e;refine⟨dd.typeIs,λb q=>?_,hd⟩;cases q;obtain⟨ob,_,_,h1,h2,_⟩:=dd;exact⟨ob,h1,h2.2.1⟩
 .obtain⟨_,hd,xs,_,dd⟩:=jN I.hok e;refine⟨dd.typeIs,λb q=>?_,hd⟩;cases q;obtain⟨ob,_,_,h1,h2,_⟩:=dd;exact⟨ob,h1,h2.2.1⟩
section
variable{X:Cx}{ϵ:List (δ×Obj)}{σ:St}{H:Hp}{s:μ}{a:δ}{y d:V}{u r:ε}{o:Option V}{A:ϲ}{E:ε->μ->Prop}
theorem adO{Q:ε->μ->Prop}(hu:A.units+1<cLine)(I:Inv X ϵ σ H s)(g:ώ H a y o)(ry:RelV y u)(h:∀w' s',Inv X ϵ σ H s'->RelV (o.getD .non) w'->Q w' s'):ν (Ϧ X.prog X.w) A (call (.builtin "dict.get") [.ref a,u]) Q E s:=by
 obtain⟨Ϸ,k,e,ey,l⟩|⟨Ϸ,k,b,e,ey,eb,l⟩:=g
 .subst ey;obtain⟨z,hd,vs,rel,dd⟩:=gB I.hok e;refine call_meetsIn F.slot_dict_get dd.typeIs F.entry_dict_get (F.args_dict_get_2 _ _) (meets_dict_get (aZ X.prog X.w) a (iu ry) hd) ⟨_,dd.mapOf,h _ _ (I.tok _) ?_⟩;rw[l];exact(rel.val k).getD rfl
 .subst ey;cases(show u=Value.ref b from ry);obtain⟨z,hd,xs,rel,dd⟩:=jN I.hok e;refine call_meetsIn F.slot_dict_get dd.typeIs F.entry_dict_get (F.args_dict_get_2 _ _) (meetsH_dict_get (tupleKind (aZ X.prog X.w)) a b hd) ⟨alo hu,k,xs,j4 I.hok eb,dd,h _ _ (I.tok _) ?_⟩;rw[l];exact(rel.val k).getD rfl
theorem aaD{Q:ε->μ->Prop}(hu:A.units+1<cLine)(I:Inv X ϵ σ H s)(g:ώ H a y o)(ry:RelV y u)(rd:RelV d r)(h:∀w' s',Inv X ϵ σ H s'->RelV (o.getD d) w'->Q w' s'):ν (Ϧ X.prog X.w) A (call (.builtin "dict.get") [.ref a,u,r]) Q E s:=by
 obtain⟨Ϸ,k,e,ey,l⟩|⟨Ϸ,k,b,e,ey,eb,l⟩:=g
 .subst ey;obtain⟨z,hd,vs,rel,dd⟩:=gB I.hok e;refine call_meetsIn F.slot_dict_get dd.typeIs F.entry_dict_get (F.args_dict_get_3 _ _ _) (meets_dict_get_default (aZ X.prog X.w) a (iu ry) hd r) ⟨_,dd.mapOf,h _ _ (I.tok _) ?_⟩;rw[l];exact(rel.val k).getD rd
 .subst ey;cases(show u=Value.ref b from ry);obtain⟨z,hd,xs,rel,dd⟩:=jN I.hok e;refine call_meetsIn F.slot_dict_get dd.typeIs F.entry_dict_get (F.args_dict_get_3 _ _ _) (meetsH_dict_get_default (tupleKind (aZ X.prog X.w)) a b hd r) ⟨alo hu,k,xs,j4 I.hok eb,dd,h _ _ (I.tok _) ?_⟩;rw[l];exact(rel.val k).getD rd
end
def ahZ(td ty:TE):TE:=λσ H Q=>td σ H λx H1=>∃a,x=.ref a/\jM H1 a/\ty σ H1 λy H2=>∃o,ώ H2 a y o/\Q (o.getD .non) H2
def Wt(td ty tx:TE):TE:=λσ H Q=>td σ H λx H1=>∃a,x=.ref a/\jM H1 a/\ty σ H1 λy H2=>tx σ H2 λz H3=>∃o,ώ H3 a y o/\Q (o.getD z) H3
def agq(td ty:TE):TE:=λσ H Q=>td σ H λx H1=>∃a,x=.ref a/\jM H1 a/\ty σ H1 λy H2=>∃Ϸ k v,H2 a=some (.dK Ϸ)/\y=kV k/\ϓ Ϸ k=some v/\Q v (upd H2 a (.dK (dH Ϸ k)))
section
variable{X:Cx}{o e f:π}{apos ϻ:Pos}{td ty tx:TE}
theorem ahq(hu:X.A.units+1<cLine)(ho:PE X o td)(he:PE X e ty)(m:M1 X o "get" apos e ϻ):PE X (.Call (.Attribute o "get" apos) [e] [] ϻ) (ahZ td ty):=by
 intro ϵ s σ H Q I h;refine wpAny_Call_method m.base m.few m.line F.plainAttrs_dict F.slot_dict_get F.type_dict_get (χ (ho ϵ s σ H _ I h) λu s1 hZ=>?_);obtain⟨x,H1,I1,rx,a,ex,d,q1⟩:=hZ;subst ex;obtain rfl:u=Value.ref a:=rx;obtain⟨t1,t2,_⟩:=FQ I1 d;refine⟨t1,t2,?_⟩;rw[m.trees];refine Calls.callWith_builtin rfl (Calls.evalArgs_plain (Calls.spliced_cons (χ (he ϵ s1 σ H1 _ I1 q1) λiv s2 ⟨y,H2,I2,ry,ov,g,q2⟩=>Calls.spliced_nil ?_)));exact adO hu I2 g ry λw' s3 I3 rw'=>⟨_,H2,I3,rw',q2⟩
theorem aaX(hu:X.A.units+1<cLine)(ho:PE X o td)(he:PE X e ty)(hf:PE X f tx)(m:M2 X o "get" apos e f ϻ):PE X (.Call (.Attribute o "get" apos) [e,f] [] ϻ) (Wt td ty tx):=by
 intro ϵ s σ H Q I h;refine wpAny_Call_method m.base m.few m.line F.plainAttrs_dict F.slot_dict_get F.type_dict_get (χ (ho ϵ s σ H _ I h) λu s1 hZ=>?_);obtain⟨x,H1,I1,rx,a,ex,d,q1⟩:=hZ;subst ex;obtain rfl:u=Value.ref a:=rx;obtain⟨t1,t2,_⟩:=FQ I1 d;refine⟨t1,t2,?_⟩;rw[m.trees];refine Calls.callWith_builtin rfl (Calls.evalArgs_plain (Calls.spliced_cons (χ (he ϵ s1 σ H1 _ I1 q1) λiv s2 ⟨y,H2,I2,ry,q2⟩=>
  Calls.spliced_cons (χ (hf ϵ s2 σ H2 _ I2 q2) λfv s3 ⟨z,H3,I3,rz,ov,g,q3⟩=>Calls.spliced_nil ?_))))
 exact aaD hu I3 g ry rz λw' s4 I4 rw'=>⟨_,H3,I4,rw',q3⟩
theorem aa0(ho:PE X o td)(he:PE X e ty)(m:M1 X o "pop" apos e ϻ):PE X (.Call (.Attribute o "pop" apos) [e] [] ϻ) (agq td ty):=by
 intro ϵ s σ H Q I h;refine wpAny_Call_method m.base m.few m.line F.plainAttrs_dict F.slot_dict_pop F.type_dict_pop (χ (ho ϵ s σ H _ I h) λu s1 hZ=>?_);obtain⟨x,H1,I1,rx,a,ex,d,q1⟩:=hZ;subst ex;obtain rfl:u=Value.ref a:=rx;obtain⟨t1,t2,_⟩:=FQ I1 d;refine⟨t1,t2,?_⟩;rw[m.trees];refine Calls.callWith_builtin rfl (Calls.evalArgs_plain (Calls.spliced_cons (χ (he ϵ s1 σ H1 _ I1 q1) λiv s2 ⟨y,H2,I2,ry,Ϸ,k,v,ea,ey,l,q2⟩=>Calls.spliced_nil ?_)));subst ey;exact acw I2 ea ry l (.inl rfl) λw' s3 I3 rw'=>⟨v,_,I3,rw',q2⟩
end
section
variable{X:Cx}{ϵ:List (δ×Obj)}{σ:St}{H:Hp}{s:μ}{a:δ}{Ϸ:List (Key×V)}{A:ϲ}{E:ε->μ->Prop}
theorem aaC{Q:ε->μ->Prop}(I:Inv X ϵ σ H s)(e:Rd H a (.dK Ϸ))(h:∀p s',H p=none->Inv X ϵ σ (upd H p (.dK Ϸ)) s'->Q (.ref p) s'):ν (Ϧ X.prog X.w) A (call (.type "dict") [.ref a]) Q E s:=by
 obtain⟨z,hd,vs,rel,dd⟩:=gB I.hok e;refine kt_call_dict hd dd (by rw[<-rel.length];exact z) λh' dd' hs=>?_
 refine h _ _ (I.hok.fresh (Ϯ _)) (I.laid (a:=s.heap.objs.size) (o:=.dK Ϸ) (t':=s.toks) (λb q hq=>?_) (Ϯ _) (wW z (beq_eq_false_iff_ne.mpr (Ne.symm (acT I.big))) rel dd'));exact(hs.2 b (acT (ϴ hq))).trans (Heap.get?_push_of_some _ hq)
end
section
variable{X:Cx}{ϵ:List (δ×Obj)}{σ:St}{H:Hp}{s:μ}{a:δ}{y:V}{u:ε}{A:ϲ}{E:ε->μ->Prop}
end
end L2
namespace Att
open PySem PySem.W PySem.Calls PyProof.Rows
theorem Yz{P:Params}{h:ϫ}:∀(ns:List Int)(vs:List ε),WellAll P h vs (ns.map WData.int)->IntsAre vs ns:=by
 intro ns;induction ns with
 |nil=>
  intro vs w;rw[List.map_nil]at w;cases w;exact .nil
 |cons n ns ih=>
  intro vs w;rw[List.map_cons]at w;cases w with
  |cons a b=>
   cases a;exact .cons _ _ (ih _ b)
theorem acb{l:OpenLaw}{n:Nat}(hn:l.most=some n){P:Params}{h:ϫ}{args:List WData}{vals:List ε}(hpre:l.row.toRowW.claim.pre args=true)(hwl:WellAll P h vals args):∃a vs ns,vals=[Value.ref a]/\args=[WData.list (ns.map WData.int)]/\h.get? a=some {cls:=.type "list",data:=.seq vs.toArray}/\IntsAre vs ns/\ns.length<=n:=by
 have hsh:WShape.hasAll [] args [.list .int]=true:=(pre_splitW hpre).1;have hc:l.pre.holds [] {args:=args}=true:=(pre_splitW hpre).2;obtain⟨d,r,rfl,h1,h2⟩:=hasAllW_cons hsh;obtain rfl:=hasAllW_nil h2;obtain⟨xs,rfl,h3⟩:=hasW_list h1;obtain⟨ns,rfl⟩:=items_int h3;have hlen:ns.length<=n:=by
  unfold OpenLaw.pre at hc;have h4:(WTm.not (.lt (.lit (.int (n:Int))) (.len (.arg 0)))).holds [] {args:=[.list (ns.map .int)]}=true:=by
   have h4:=(holds_andW hc).1;rw[hn]at h4;exact h4
  have h5:=condW_of h4 (w_not (w_lt w_lit (w_len_list (w_arg rfl))));rw[ϱ]at h5;refine Nat.le_of_not_lt λq=>?_
  have q':(n:Int)<((ns.length:Nat):Int):=by omega
  first
   |(rw[decide_eq_true q']at h5;exact absurd h5 (by decide))
   |(simp at h5;omega)
 cases hwl with
 |cons w1 w2=>
  cases w2;cases w1 with
  |list ho hall=>exact⟨_,_,ns,rfl,rfl,ho,Yz ns _ hall,hlen⟩
theorem Xw(l:OpenLaw)(args:List WData):l.row.toRowW.claim.post args (.bool true) args=true:=
 postW_of (r:=l.row.toRowW) (X:=(true==true))
  (show WShape.has [] (.bool true) .bool=true by first|rfl|decide|simp[WShape.has,WShape.arms,WShape.armsAll])
  (show(WTm.eq .res (.lit (.bool true))).value [] {args:=args,res:=some (.bool true),after:=args}=some (.bool (true==true))from w_eq_bool (w_res rfl) w_lit) rfl
theorem aev{l:OpenLaw}{n:Nat}{q:ϯ}{loose:List Str}{XP:(Str->Option ε)->ϫ->Prop}{YP:Ϭ->ϫ->Prop}{d:DefRec}(hn:l.most=some n)(hdf:d.params.defaults=[])(call:∀(w:Ϭ)(s₀ s₁:μ)(mg mb:Str->Option ε)(fa:δ)(o:Obj)(pm cd doc:ε)(a:δ)(vs:List ε)(ns:List Int),
   Ground q loose [] XP w s₀ mg mb s₁.heap->YP w s₁.heap->
   s₁.heap.get? fa=some o->o.data=.func (docDef d.name d.params d.body d.scope pm cd doc)->s₁.heap.CodeRec cd d.name->mg d.name=some (.ref fa)->
   s₁.heap.get? a=some {cls:=.type "list",data:=.seq vs.toArray}->IntsAre vs ns->ns.length<=n->s₁.gens= #[]->
   codeAny (Ϧ l.prog w) callerA (.call (.ref fa) ⟨[.ref a],[]⟩) (λr s'=>r=.ok (.ret (.bool true))/\OldK s₁.heap s'.heap/\s'.os=s₁.os/\AllBare s'.gens) s₁):WalkO q loose XP YP l.row.toRowW d [] (λf vs=>PySem.call f vs):=by
 intro w s₀ s₁ mg mb G Y fa o pm cd doc dV kV ho hd hcd hD hmg hg args vals as hpre hlay hrd hwl hlo;obtain rfl:dV=.none:=Dflts.none hD hdf;obtain rfl:kV=.none:=Dflts.noKw hD;obtain⟨a,vs,ns,rfl,rfl,hobj,hints,hlen⟩:=acb hn hpre hwl;refine enter_call (akK (call w s₀ s₁ mg mb fa o pm cd doc a vs ns G Y ho (fd_plain hd) hcd hmg hobj hints hlen hg) λr s' hq=>?_);obtain⟨rfl,h2,h3,h4⟩:=hq;exact⟨.inl ⟨.bool true,.bool true,[],rfl,λ_=>rfl,.bool true,Xw l _,λ_=>⟨List.Pairwise.nil,λ_ hm=>(nomatch hm)⟩⟩,h2,h3,h4⟩
section
variable{prog:ϯ}{w:Ϭ}{A:ϲ}{E:ε->μ->Prop}{s:μ}{K:Frag}
end
end Att
namespace L2
open PySem PySem.Spec PyProof.Rows
theorem PX:∀{vs:List ε}{ns:List Int},IntsAre vs ns->Vals (ns.map V.int) vs
 |_,_,.nil=>.nil
 |_,_,.cons n t h=>.cons ⟨t,rfl⟩ (PX h)
def yP(H:Hp):=∀b,H b=none\/∃o xs,H b=some (.frz o (.lst xs))
theorem ac6{P:ϯ}{w:Ϭ}{K:ϩ}{mg mb:Str->Option ε}{CX:d9}{k:Nat}{fa a:δ}{fd:akn}{x:Str}{sp:Sp}{s₁:μ}{vs:List ε}{ns:List Int}(KX:K.In s₁.heap)(hns:s₁.heap.Ns mainGlobals mg)(hb:s₁.heap.Ns builtinsNs mb)(hbb:∀x:Str,x≠"__name__"->mb x=bootBuiltins x)(hlim:s₁.heap.NoLimit)(hg:s₁.gens= #[])(ha:s₁.heap.get? a=some {cls:=.type "list",data:=.seq vs.toArray})(hi:IntsAre vs ns)(hl:ns.length<=Ϫ)(hr:ϙ cc k callerA)(F:∀base:ϫ,K.In base->base.Ns mainGlobals mg->cO P w K mg base CX cc k fa fd [x] sp)(hbind:∀(s:μ)(u:ε),BindsTo s fd ⟨[u],[]⟩ [(x,u)])(hsp:∀H:Hp,yP H->θ K H a (ns.map V.int)->sp [.ref a] H (λv _=>v=.bl true) λ_ _ _=>False)(hCX:∀H e s',CX [] H s₁ (λ_ _ _=>False) e s'->False):codeAny (Ϧ P w) callerA (.call (.ref fa) ⟨[.ref a],[]⟩) (λr s'=>r=.ok (.ret (.bool true))/\OldK s₁.heap s'.heap/\s'.os=s₁.os/\AllBare s'.gens) s₁:=by
 have rv:=PX hi;have lenV:=hi.length
 have core:∀H:Hp,yP H->θ K H a (ns.map V.int)->Ϡ P w H s₁.heap->(∀b,H b≠none->b=a)->(H a≠none->K.lookup a=none)->
   codeAny (Ϧ P w) callerA (.call (.ref fa) ⟨[.ref a],[]⟩) (λr s'=>r=.ok (.ret (.bool true))/\OldK s₁.heap s'.heap/\s'.os=s₁.os/\AllBare s'.gens) s₁:=by
  intro H hO hS hok hA hK;have base_of:∀{b:δ}{o:Obj},s₁.heap.get? b=some o->H b=none->(iI s₁.heap H).get? b=some o:=λe n=>YS e n
  have noA:∀{b:δ}{o:Obj}{es:Array DictEntry}{ep:Nat},s₁.heap.get? b=some o->o.data=.dict es ep->H b=none:=λ{b o es ep} e d=>by
   cases q:H b with
   |none=>rfl
   |some u=>
    have e':b=a:=hA b (by rw[q];simp);subst e';rw[ha]at e;cases e;have d':Data.seq vs.toArray _=Data.dict es ep:=d;cases d'
  have nsK:∀{b:δ}{m:Str->Option ε},s₁.heap.Ns b m->(iI s₁.heap H).Ns b m:=λ{b m} ⟨o,es,ep,e,d,r⟩=>⟨o,es,ep,base_of e (noA e d),d,r⟩;have hKb:K.In (iI s₁.heap H):=λb o e=>base_of (KX b o e) (by
   cases q:H b with
   |none=>rfl
   |some u=>
    have e':b=a:=hA b (by rw[q];simp);subst e';rw[hK (by rw[q];simp)]at e;cases e)
  have hM:Mod K mg (iI s₁.heap H):=⟨hKb,nsK hns,⟨mb,nsK hb,hbb⟩,let⟨mc,h1,h2⟩:=hlim;⟨mc,nsK h1,h2⟩⟩;have e0:lW P w K mg (iI s₁.heap H) callerA [] s₁ H:=⟨rfl,hM,λb o e=>ahv e,aoR (ag8 _ _),trivial,λb hb=>absurd (show b∈([]:List δ)from hb) (by simp),hok,.of_eq hg⟩;refine akK ((F _ hKb (nsK hns)).run callerA [] s₁ H ⟨[.ref a],[]⟩ [.ref a] [.ref a] _ _ hr e0 (hbind s₁ (.ref a)) (.cons rfl .nil) (hsp H hO hS)) λr s' h=>?_
  cases r with
  |error e=>exact(hCX H e s' h).elim
  |ok fl=>
   cases fl with
   |next=>exact False.elim h
   |brk=>exact False.elim h
   |cont=>exact False.elim h
   |ret u=>
    obtain⟨v,H',os,bare,un,hok',r',q⟩:=h;have q':v=.bl true:=q;subst q';obtain rfl:u=Value.bool true:=r';refine⟨rfl,OldK.of_keep λb o e=>?_,os,bare⟩;cases q:H b with
    |none=>exact un.keep b o e q (by intro z;exact absurd (show b∈([]:List δ)from z) (by simp)) (by simp)
    |some u=>
     obtain z|⟨ob,xs,z⟩:=hO b
     .rw[q]at z;cases z
     .have z2:=un.frzs b ob _ z;obtain⟨e1,_⟩:=hok b _ z;obtain⟨e2,_⟩:=hok' b _ z2;rw[e]at e1;cases e1;exact e2
 cases hk:K.lookup a with
 |some o=>
  have e:=KX a o hk;rw[ha]at e;cases e;refine core (λ_=>none) (λ_=>.inl rfl) (.inr ⟨_,vs.toArray,_,hk,rfl,rfl,rfl,by rw[adi,lenV];exact hl,by simpa using rv⟩) (λb u z=>by have z':(none:Option HO)=some u:=z;cases z') (λb z=>absurd rfl z) λz=>absurd rfl z
 |none=>
  refine core (λb=>if b=a then some (.frz {cls:=.type "list",data:=.seq vs.toArray} (.lst (ns.map V.int)))else none) (λb=>?_) (.inl (.inr ⟨{cls:=.type "list",data:=.seq vs.toArray},if_pos rfl⟩)) (λb u z=>?_) (λb z=>?_) λ_=>hk
  .by_cases hb:b=a
   .exact .inr ⟨_,_,if_pos hb⟩
   .exact .inl (if_neg hb)
  .by_cases hb:b=a
   .have z':=(if_pos hb).symm.trans z;cases z';subst hb;exact⟨ha,by rw[ϱ];exact hl,vs,_,rv,ha⟩
   .have z':=(if_neg hb).symm.trans z;cases z'
  .by_cases hb:b=a
   .exact hb
   .exact absurd (if_neg hb) z
abbrev HX{K:ϩ}{h:ϫ}(_:K.In h):ϩ:=K
theorem akf{l:W.OpenLaw}{n k:Nat}{q:ϯ}{loose:List Str}{XP:(Str->Option ε)->ϫ->Prop}{YP:Ϭ->ϫ->Prop}{d:DefRec}{K:Params->ϩ}{CX:Ϭ->d9}{sp:Ϭ->Sp}{x:Str}(hn:l.most=some n)(hn2:n<=Ϫ)(hdf:d.params.defaults=[])(hr:ϙ cc k callerA)(hY:∀(w:Ϭ)(h:ϫ),YP w h->(K w.params).In h)(F:∀(w:Ϭ)(mg:Str->Option ε)(fa:δ)(h:ϫ),(K w.params).In h->h.Ns mainGlobals mg->mg d.name=some (.ref fa)->
   ∃fd:akn,(∀(s:μ)(u:ε),BindsTo s fd ⟨[u],[]⟩ [(x,u)])/\
    ∀base:ϫ,(K w.params).In base->base.Ns mainGlobals mg->cO l.prog w (K w.params) mg base (CX w) cc k fa fd [x] (sp w))(hsp:∀(w:Ϭ)(H:Hp)(a:δ)(ns:List Int),ns.length<=n->yP H->θ (K w.params) H a (ns.map V.int)->sp w [.ref a] H (λv _=>v=.bl true) λ_ _ _=>False)(hCX:∀(w:Ϭ)(H:Hp)(s:μ)(e:ε)(s':μ),CX w [] H s (λ_ _ _=>False) e s'->False):W.WalkO q loose XP YP l.row.toRowW d [] (λf vs=>PySem.call f vs):=by
 refine Att.aev hn hdf λw s₀ s₁ mg mb fa o pm cd doc a vs ns G Y ho hd hcd hmg hobj hints hlen hg=>?_
 have KX:=hY w _ Y;obtain⟨fd,hb,hF⟩:=F w mg fa _ KX G.T.g hmg;exact ac6 KX G.T.g G.T.b G.T.builtins G.T.nolimit hg hobj hints (ah6 hlen hn2) hr hF hb (λH hO hS=>hsp w H a ns hlen hO hS) λH e s'=>hCX w H s₁ e s'
def inClass(s:Ϩ)(j:Nat):Ϩ:=match s with
 |.ClassDef _ _ _ body _ _ _ _ _ _ _=>body.getD j (.Pass ⟨0,0,0,0⟩)
 |_=>.Pass ⟨0,0,0,0⟩
def jl(s:Ϩ):Arguments:=match s with
 |.FunctionDef _ a _ _ _ _ _ _ _ _=>a
 |_=>{posonlyargs:=[],args:=[],vararg:=none,kwonlyargs:=[],kw_defaults:=[],kwarg:=none,defaults:=[]}
def ϝ(s:Ϩ):List Ϩ:=match s with
 |.FunctionDef _ _ b _ _ _ _ _ _ _=>b
 |_=>[]
def υ(s:Ϩ):ai8:=match s with
 |.FunctionDef _ _ _ _ _ _ sc _ _ _=>sc
 |_=>{kind:=.function,names:=[],isGenerator:=false,isCoroutine:=false}
structure cN(K:ϩ)(x qual:Str)(st:Ϩ)(f:δ)(fd:akn):Prop where
 ex:∃(oc:ε)(od:Option δ)(kV doc pm:ε)(an:Option δ)(Ϲ ct:ε)(osl:Array (Option ε)),
  fd=aoE x qual (jl st) (ϝ st) (υ st) .none kV doc pm an Ϲ ct/\K.lookup f=some ⟨oc,od,.func fd,osl⟩/\an9 K Ϲ qual=true
 kp:anl K (.ref f)=true
section
variable{P:ϯ}{w:Ϭ}{K:ϩ}{mg:Str->Option ε}{base:ϫ}
theorem cN.binds{x qual:Str}{st:Ϩ}{f:δ}{fd:akn}{ps:List Str}(F:cN K x qual st f fd)(h:∀(kV doc pm:ε)(an:Option δ)(Ϲ ct:ε)(us:List ε),us.length=ps.length->bindArgs (aoE x qual (jl st) (ϝ st) (υ st) .none kV doc pm an Ϲ ct) ⟨us,[]⟩=pure (ps.zip us)):Binds K fd ps []:=by
 obtain⟨oc,od,kV,doc,pm,an,Ϲ,ct,osl,rfl,lk,hcd⟩:=F.ex;exact .all (h kV doc pm an Ϲ ct)
theorem qY{x qual:Str}{st:Ϩ}{f:δ}{oc:ε}{od an:Option δ}{osl:Array (Option ε)}{kV doc pm Ϲ ct:ε}(l:K.lookup f=some ⟨oc,od,.func (aoE x qual (jl st) (ϝ st) (υ st) .none kV doc pm an Ϲ ct),osl⟩)(c:an9 K Ϲ qual=true)(k:anl K (.ref f)=true):cN K x qual st f (aoE x qual (jl st) (ϝ st) (υ st) .none kV doc pm an Ϲ ct):=⟨⟨oc,od,kV,doc,pm,an,Ϲ,ct,osl,rfl,l,c⟩,k⟩
end
section
variable{X:Cx}
end
theorem T3{A B:Prop}(h:B):if false=true then A else B:=by
 rw[if_neg abe];exact h
theorem afp{A B:Prop}(h:A):if true=true then A else B:=by
 rw[if_pos rfl];exact h
def ζ(H H':Hp):=∀b o,H b=some o->H' b=some o
theorem ζ.refl(H:Hp):ζ H H:=λ_ _ h=>h
theorem ζ.trans{H H1 H2:Hp}(a:ζ H H1)(b:ζ H1 H2):ζ H H2:=λc o h=>b c o (a c o h)
theorem ζ.free{H H':Hp}(e:ζ H H'){l:δ}(h:H' l=Option.none):H l=Option.none:=by
 cases q:H l with
 |none=>rfl
 |some o=>
  rw[e l o q]at h;cases h
theorem ζ.seq{K:ϩ}{H H':Hp}{a:δ}{xs:List V}(e:ζ H H')(h:θ K H a xs):θ K H' a xs:=by
 rcases h with(h|⟨o,h⟩)|h
 .exact .inl (.inl (e _ _ h))
 .exact .inl (.inr ⟨o,e _ _ h⟩)
 .exact .inr h
section
variable{X:Cx}
end
section
variable{κ:Type} [DecidableEq κ]
end
def ni(h:ϫ):Option ε->List δ->Prop
 |c,[]=>c=some .none
 |c,a::r=>c=some (.ref a)/\∃o vs,h.get? a=some o/\o.data=.fields vs/\ni h vs[2]? r
theorem ni.stay{h h':ϫ}{e:δ}(k:∀v o ws,v≠e->h.get? v=some o->o.data=.fields ws->∃o' ws',h'.get? v=some o'/\o'.data=.fields ws'/\ws'[2]?=ws[2]?):∀{l:List δ}{c:Option ε},ni h c l->e∉l->ni h' c l
 |[],_,q,_=>q
 |a::r,c,⟨q1,o,vs,q2,q3,q4⟩,n=>by
  obtain⟨o',ws',k1,k2,k3⟩:=k a o vs (λz=>n (by simp[z])) q2 q3;refine⟨q1,o',ws',k1,k2,?_⟩;rw[k3];exact ni.stay k q4 λz=>n (by simp[z])
def Ctx(h:ϫ)(e:δ)(b:Bool)(c:Option ε):Prop:=(b=true->c=some .none)/\∃l,ni h c l/\e∉l/\l.Nodup
theorem Ctx.yes{h:ϫ}{e:δ}{c:Option ε}(q:c=some .none):Ctx h e true c:=⟨λ_=>q,[],q,by simp,.nil⟩
theorem Ctx.stay{h h':ϫ}{e:δ}{b:Bool}{c:Option ε}(q:Ctx h e b c)(k:∀v o ws,v≠e->h.get? v=some o->o.data=.fields ws->∃o' ws',h'.get? v=some o'/\o'.data=.fields ws'/\ws'[2]?=ws[2]?):Ctx h' e b c:=by
 obtain⟨q1,l,q2,q3,q4⟩:=q;exact⟨q1,l,q2.stay k q3,q3,q4⟩
def aR(h:ϫ)(e:δ)(cls:ε)(d:Option δ×Bool)(tb:Option δ)(fl:ε):Prop:=
 ∃oe vs,h.get? e=some oe/\oe.cls=cls/\oe.dict=d.1/\oe.data=.fields vs/\vs[1]?=some (tb.elim Value.none Value.ref)/\2<vs.size/\Ctx h e d.2 vs[2]? /\
  ∀T,tb=some T->T≠e/\∃oT ws,h.get? T=some oT/\oT.data=.fields ws/\ws[3]?=some fl
theorem ϐ.there{P:ϯ}{w:Ϭ}{H:Hp}{h:ϫ}{a:δ}{o:HO}(x:ϐ P w H h a o):∃ob,h.get? a=some ob:=by
 cases o with
 |lst xs=>obtain⟨_,_,_,_,e⟩:=x;exact⟨_,e⟩
 |tup xs=>obtain⟨_,_,_,ob,e,_⟩:=x;exact⟨_,e⟩
 |dK Ϸ=>obtain⟨_,_,_,_,o,_,_,e,_⟩:=x;exact⟨_,e⟩
 |dT Ϸ=>obtain⟨_,_,_,_,o,_,_,e,_⟩:=x;exact⟨_,e⟩
 |set S n=>obtain⟨o,_,_,_,e,_⟩:=x;exact⟨_,e⟩
 |ins C dx fs=>obtain⟨_,_,_,e,_⟩:=x;exact⟨_,e⟩
 |own y=>obtain⟨_,e⟩:=x;exact⟨_,e⟩
 |xd fs=>obtain⟨_,⟨_,_,_,e,_⟩,_⟩:=x;exact⟨_,e⟩
 |rng lo hi=>obtain⟨_,_,_,e⟩:=x;exact⟨_,e⟩
 |frz ob u=>obtain⟨e,_⟩:=x;exact⟨_,e⟩
 |tbl ps=>obtain⟨_,e,_⟩:=x;exact⟨_,e⟩
 |met f y=>exact⟨_,(show h.get? a=some _ from x)⟩
 |ext φ=>obtain⟨_,⟨_,e⟩,_⟩:=x;exact⟨_,e⟩
theorem Ϡ.free{P:ϯ}{w:Ϭ}{H:Hp}{h:ϫ}{a:δ}(x:Ϡ P w H h)(e:h.get? a=none):H a=none:=by
 cases q:H a with
 |none=>rfl
 |some u=>
  obtain⟨ob,z⟩:=(x a u q).there;rw[e]at z;cases z
def bL(P:ϯ)(w:Ϭ):d9:=λouter H s E x s'=>∃e tb cls d H',x=.ref e/\s'.os=s.os/\AllBare s'.gens/\Un (bY outer) [] H H' s.heap s'.heap/\Ϡ P w H' s'.heap/\aR s'.heap e cls d tb .none/\
 (∀b∈e::tb.toList,H' b=none/\s.heap.get? b=none)/\E cls d H'
theorem bL.never{P:ϯ}{w:Ϭ}{outer:List Env}{H:Hp}{s s':μ}{e:ε}(h:bL P w outer H s (λ_ _ _=>False) e s'):False:=by
 obtain⟨_,_,_,_,_,_,_,_,_,_,_,_,z⟩:=h;exact z
section
variable{M:Model}{A:ϲ}{E:ε->μ->Prop}{s:μ}
theorem Ih{base:ϫ}{env:Env}{outer:List Env}{L e:δ}{oe:Obj}{vs:Array ε}{head:ε}{hadNext:Bool}{Q:Unit->μ->Prop}(hfr:A.frames=some (env::outer))(hl:s.heap.FunFrames base (env::outer))(hf:env.frame=some L)(he:s.heap.get? e=some oe)(hd:oe.data=.fields vs)(hsz:1<vs.size)(k:∀(h':ϫ)(T:δ)(oT:Obj)(ws:Array ε),s.heap.objs.size<=h'.objs.size->(∀b o,s.heap.get? b=some o->b≠e->b∉bY (env::outer)->h'.get? b=some o)->
   (∀b o,s.heap.get? b=some o->b≠e->∃sl,h'.get? b=some {o with slots:=sl})->s.heap.objs.size<=T->h'.get? e=some (oe.mapFields (·.setIfInBounds 1 (.ref T)))->
   h'.get? T=some oT->oT.data=.fields ws->ws[3]?=some (rawInt L)->Q () {s with heap:=h'}):ν M A (do
   let a<-frameOf env;let pl<-entryPlaceOf L hadNext;let b<-EntryCells.newEntry head a .none (rawInt L) .none pl
   setField (.ref e) 1 b) Q E s:=by
 have Ϻ:e∉(env::outer).filterMap (·.frame):=λm=>by
  obtain⟨_,o,ho,nf⟩:=hl.mem m;rw[he]at ho;cases ho;exact nf vs hd
 refine ϧ (wpAny_frameOf_fun hfr hl hf λh1 so=>ϧ (wpAny_entryPlaceOf λpl hp=>?_));unfold EntryCells.newEntry newFields;refine ϧ (ak3 ?_ (hp.sizeOk5 _ _ _ _ _));have e1:h1.get? e=some oe:=(so.2.1 e Ϻ).trans he;have hTe:e≠h1.objs.size:=acT (ϴ e1);refine am0 (Heap.get?_push_of_some _ e1) hd hsz (k _ h1.objs.size {cls:=.type "traceback",dict:=none,data:=.fields (([head,.ref L,.none,rawInt L,.none]:List ε)++(if pl.isEmpty then ajq 6 Value.none else pl)).toArray} (([head,.ref L,.none,rawInt L,.none]:List ε)++(if pl.isEmpty then ajq 6 Value.none else pl)).toArray ?_ (λb o hb hbe hbf=>?_) (λb o hb hbe=>?_) (aoR so.1.symm) ?_ ?_ ?_ ?_)
 .rw[aoe,anH,so.1];exact alE _
 .rw[adv _ _ (Ne.symm hbe)];exact Heap.get?_push_of_some _ ((so.2.1 b hbf).trans hb)
 .obtain⟨sl,q⟩:=so.2.2 b o hb;exact⟨sl,by rw[adv _ _ (Ne.symm hbe)];exact Heap.get?_push_of_some _ q⟩
 .exact ad5 _ (Heap.get?_push_of_some _ e1) (Obj.isFreed_of_fields (Obj.data_mapFields hd _))
 .rw[adv _ _ hTe];exact acM h1 rfl
 .exact rfl
 .first
   |(simp;done)
   |(obtain rfl|⟨_,_,_,_,_,_,_,rfl⟩:=hp<;>simp)
structure sY(h h':ϫ)(ch fs:List δ):Prop where
 keep:∀b o,h.get? b=some o->b∉fs->b∉ch->h'.get? b=some o
 slot:∀b o,h.get? b=some o->b∉ch->∃sl,h'.get? b=some {o with slots:=sl}
 there:∀b o,h.get? b=some o->∃o',h'.get? b=some o'
theorem Ke{base:ϫ}{env:Env}{outer:List Env}{L e:δ}{cls:ε}{d:Option δ×Bool}{tb:Option δ}{fl:ε}{Q:Unit->μ->Prop}(hfr:A.frames=some (env::outer))(hl:s.heap.FunFrames base (env::outer))(hf:env.frame=some L)(F:aR s.heap e cls d tb fl)(hfl:(fl==rawInt L)=false)(k:∀(h':ϫ)(T:δ),sY s.heap h' (e::tb.toList) (bY (env::outer))->s.heap.objs.size<=T->aR h' e cls d (some T) (rawInt L)->Q () {s with heap:=h'}):ν M A (noteFrame (.ref e) env) Q E s:=by
 obtain⟨oe,vs,he,hc,hdx,hd,h1,hz,h2,ht⟩:=F
 have fin:∀{hp:ϫ}{h':ϫ}{T:δ}{oT:Obj}{ws:Array ε},(∀v o ws,v≠e->s.heap.get? v=some o->o.data=.fields ws->∃o' ws',h'.get? v=some o'/\o'.data=.fields ws'/\ws'[2]?=ws[2]?)->hp.get? e=some oe->hp.objs.size<=T->h'.get? e=some (oe.mapFields (·.setIfInBounds 1 (.ref T)))->h'.get? T=some oT->oT.data=.fields ws->
   ws[3]?=some (rawInt L)->aR h' e cls d (some T) (rawInt L):=λ{hp h' T oT ws} kk e0 hT q1 q2 q3 q4=>by
  have hd':=Obj.data_mapFields hd (·.setIfInBounds 1 (Value.ref T));refine⟨_,_,q1,(Obj.cls_mapFields _ _).trans hc,?_,hd',?_,by simpa using hz,?_,λT' eT=>?_⟩
  .obtain⟨c0,d0,dt,sl⟩:=oe;cases hd;exact hdx
  .have :1<vs.size:=by omega
   simp[this]
  .rw[akz (by decide)];exact h2.stay kk
  .cases eT;exact⟨λz=>akD _ (adz (ϴ e0) (z▸hT)),oT,ws,q2,q3,q4⟩
 unfold noteFrame;simp only[hf];cases tb with
 |none=>
  have h1':vs[1]?=some Value.none:=h1;refine ϧ (wpAny_field he hd h1' ?_);rw[if_neg (by decide)];refine Ih hfr hl hf he hd (by omega) λh' T oT ws a1 a2 a3 a4 a5 a6 a7 a8=>k h' T ⟨λb o q1 q2 q3=>a2 b o q1 (λz=>q3 (by simp[z])) q2,λb o q1 q3=>a3 b o q1 λz=>q3 (by simp[z]),λb o q1=>?_⟩ a4 (fin (λv o ws hv q1 q2=>by obtain⟨sl,q⟩:=a3 v o q1 hv;exact⟨_,ws,q,q2,rfl⟩) he a4 a5 a6 a7 a8)
  by_cases z:b=e
  .subst z;exact⟨_,a5⟩
  .obtain⟨sl,q⟩:=a3 b o q1 z;exact⟨_,q⟩
 |some T0=>
  obtain⟨Ϻ,oT0,ws0,t1,t2,t3⟩:=ht T0 rfl;have h1':vs[1]?=some (Value.ref T0):=h1;refine ϧ (wpAny_field he hd h1' ?_);rw[if_pos (show(Value.ref T0 !=Value.none)=true from by simp)];refine ϧ (wpAny_field t1 t2 t3 ?_);rw[if_neg (by rw[hfl];exact abe)];refine ϧ (am0 t1 t2 (alp.mp t3).1 ?_);have oth:∀b,b≠T0->(s.heap.update T0 (Obj.mapFields (·.setIfInBounds 3 Value.none))).get? b=s.heap.get? b:=λb hb=>adv _ _ (Ne.symm hb)
  have Js:=ad5 (Obj.mapFields (·.setIfInBounds 3 Value.none)) t1 (Obj.isFreed_of_fields (Obj.data_mapFields t2 _));have hsz:(s.heap.update T0 (Obj.mapFields (·.setIfInBounds 3 Value.none))).objs.size=s.heap.objs.size:=aoe ..;have hl':(s.heap.update T0 (Obj.mapFields (·.setIfInBounds 3 Value.none))).FunFrames base (env::outer):=hl.of_keeps λb o hb nf=>⟨o,(oth b λz=>by
   subst z;rw[t1]at hb;cases hb;exact nf ws0 t2).trans hb,rfl⟩
  refine Ih (s:={s with heap:=s.heap.update T0 (Obj.mapFields (·.setIfInBounds 3 Value.none))}) hfr hl' hf ((oth e (Ne.symm Ϻ)).trans he) hd (by omega) λh' T oT ws a1 a2 a3 a4 a5 a6 a7 a8=>
   k h' T ⟨λb o q1 q2 q3=>a2 b o ((oth b λz=>q3 (by simp[z])).trans q1) (λz=>q3 (by simp[z])) q2,λb o q1 q3=>a3 b o ((oth b λz=>q3 (by simp[z])).trans q1) λz=>q3 (by simp[z]),λb o q1=>?_⟩ (hsz▸a4) (fin (λv o ws hv q1 q2=>by
     by_cases z2:v=T0
     .subst z2;obtain⟨sl,q⟩:=a3 v _ Js hv;rw[t1]at q1;cases q1;exact⟨_,_,q,Obj.data_mapFields q2 _,by rw[akz (by decide)]⟩
     .obtain⟨sl,q⟩:=a3 v o ((oth v z2).trans q1) hv;exact⟨_,ws,q,q2,rfl⟩) ((oth e (Ne.symm Ϻ)).trans he) a4 a5 a6 a7 a8)
  by_cases z:b=e
  .subst z;exact⟨_,a5⟩
  .by_cases z2:b=T0
   .subst z2;obtain⟨sl,q⟩:=a3 b _ Js z;exact⟨_,q⟩
   .obtain⟨sl,q⟩:=a3 b o ((oth b z2).trans q1) z;exact⟨_,q⟩
theorem Xz{base:ϫ}{env:Env}{outer:List Env}{L e:δ}{cls:ε}{d:Option δ×Bool}{tb:Option δ}{Q:Unit->μ->Prop}(hfr:A.frames=some (env::outer))(hl:s.heap.FunFrames base (env::outer))(hf:env.frame=some L)(F:aR s.heap e cls d tb .none)(k:∀(h':ϫ)(T:δ),sY s.heap h' (e::tb.toList) (bY (env::outer))->s.heap.objs.size<=T->aR h' e cls d (some T) (rawInt L)->Q () {s with heap:=h'}):ν M A (noteFrame (.ref e) env) Q E s:=
 Ke hfr hl hf F (by simp[rawInt]) k
theorem agn{env:Env}{L e:δ}{cls:ε}{d:Option δ×Bool}{tb:Option δ}{Q:Unit->μ->Prop}(hf:env.frame=some L)(F:aR s.heap e cls d tb (rawInt L))(ht:tb.isSome=true)(k:Q () s):ν M A (noteFrame (.ref e) env) Q E s:=by
 obtain⟨oe,vs,he,hc,hdx,hd,h1,hz,h2,hT⟩:=F;cases tb with
 |none=>cases ht
 |some T=>
  obtain⟨_,oT,ws,t1,t2,t3⟩:=hT T rfl;exact wpAny_noteFrame_inFlight hf he hd h1 t1 t2 t3 k
theorem ae6{e T:δ}{cls:ε}{d:Option δ×Bool}{fl:ε}{Q:Unit->μ->Prop}(F:aR s.heap e cls d (some T) fl)(k:∀h',sY s.heap h' [T] []->aR h' e cls d (some T) .none->Q () {s with heap:=h'}):ν M A (setFlight (.ref e) none) Q E s:=by
 obtain⟨oe,vs,he,hc,hdx,hd,h1,hz,h2,hT⟩:=F;obtain⟨Ϻ,oT,ws,t1,t2,t3⟩:=hT T rfl;have h3:3<ws.size:=(alp.mp t3).1;refine wpAny_setFlight_none he hd h1 t1 t2 h3 (k _ ⟨λb o q _ n=>?_,λb o q n=>⟨o.slots,?_⟩,λb o q=>?_⟩ ?_)
 .rw[adv _ _ (λz=>n (by simp[z]))];exact q
 .rw[adv _ _ (λz=>n (by simp[z]))];exact q
 .by_cases z:b=T
  .subst z;exact⟨_,ad5 _ t1 (Obj.isFreed_of_fields (Obj.data_mapFields t2 _))⟩
  .exact⟨o,by rw[adv _ _ (Ne.symm z)];exact q⟩
 .refine⟨oe,vs,?_,hc,hdx,hd,h1,hz,h2.stay λv o ws hv q1 q2=>?_,λT' eT=>?_⟩
  .rw[adv _ _ Ϻ];exact he
  .by_cases z:v=T
   .subst z;rw[t1]at q1;cases q1;exact⟨_,_,ad5 _ t1 (Obj.isFreed_of_fields (Obj.data_mapFields t2 _)),Obj.data_mapFields q2 _,by rw[akz (by decide)]⟩
   .exact⟨o,ws,by rw[adv _ _ (Ne.symm z)];exact q1,q2,rfl⟩
  .cases eT;exact⟨Ϻ,_,_,ad5 _ t1 (Obj.isFreed_of_fields (Obj.data_mapFields t2 _)),Obj.data_mapFields t2 _,by simp[h3]⟩
end
section
variable{X:Cx}{ϵ:List (δ×Obj)}{σ:St}{H H':Hp}{s s':μ}
def Ch(X:Cx)(ϵ:List (δ×Obj))(b:δ):Prop:=(b∈X.ex\/X.s₀.heap.get? b=none)/\b≠X.env.locals/\(∀x c,X.env.cells.lookup x=some c->c≠b)/\∀p∈X.pn++ϵ,p.1≠b
theorem Inv.ch(I:Inv X ϵ σ H s){b:δ}(h:s.heap.get? b=none):Ch X ϵ b:=by
 refine⟨?_,λz=>?_,λx c q z=>?_,λp hp z=>?_⟩
 .by_cases hx:b∈X.ex
  .exact .inl hx
  .refine .inr ?_;cases q:X.s₀.heap.get? b with
   |none=>rfl
   |some o=>
    obtain⟨o',q'⟩:=I.base.there b o q hx;rw[h]at q';cases q'
 .obtain⟨_,⟨o,_,_,ho,_⟩,_⟩:=I.loc;rw[<-z,h]at ho;cases ho
 .obtain⟨_,o,ho,_⟩:=I.cell x c q;rw[z,h]at ho;cases ho
 .have :=(I.pin p hp).1;rw[z,h]at this;cases this
theorem Inv.noted{ch:List δ}{h':ϫ}(I:Inv X ϵ σ H s)(N:sY s.heap h' ch (bY X.stack))(hc:∀b∈ch,H b=none/\Ch X ϵ b):Inv X ϵ σ H {s with heap:=h'}:=by
 have ik:∀b u,H b=some u->b∉bY X.stack/\b∉ch:=λb u e=>⟨(λz=>by rw[I.stkFree b z]at e;cases e),(λz=>by rw[(hc b z).1]at e;cases e)⟩
 refine I.call (g':=s.gens) (d':=s.drawn) (t':=s.toks) (ch:=ch) (h':=h') ⟨λb o e _ hb hx=>N.keep b o e hb hx,λb o e _ _ hx=>N.slot b o e hx,λ_ _ _ n _=>n,λb o e _=>N.there b o e,λ_ _ e=>e,λ_ _ _ e=>e,λb ps e=>⟨#[],by rw[e];simp⟩⟩ ?_ I.bare λb hb=>(hc b hb).2
 intro b u e;refine(I.hok b u e).stay (λc v hcv q=>?_) (λ_ q=>q) λ_ _ q=>q
 obtain z|z:=hcv
 .subst z;exact N.keep c v q (ik c u e).1 (ik c u e).2
 .exact N.keep c v q (ik c _ z).1 (ik c _ z).2
def qy(X:Cx)(ϵ:List (δ×Obj))(σ:St)(H:Hp)(s:μ)(e:δ)(cls:ε)(d:Option δ×Bool):Prop:=
 Inv X ϵ σ H s/\∃tb fl,aR s.heap e cls d tb fl/\(fl=.none\/(fl=rawInt X.env.locals/\tb.isSome=true))/\∀b∈e::tb.toList,H b=none/\Ch X ϵ b
def bj(X:Cx)(Kx:St->XK):=∀(ϵ:List (δ×Obj))(σ:St)(H:Hp)(s:μ)(e:δ)(cls:ε)(d:Option δ×Bool),qy X ϵ σ H s e cls d->Kx σ cls d H->X.xe (.ref e) s
theorem Inv.flown{E:XK}{x:ε}(I:Inv X ϵ σ H s)(c:bL X.prog X.w X.stack H s E x s'):∃e cls d H',x=.ref e/\qy X ϵ σ H' s' e cls d/\E cls d H':=by
 obtain⟨e,tb,cls,d,H',rfl,os,bare,un,hok,F,ch,q⟩:=c;have I':Inv X ϵ σ H' s':=I.call' (ch:=[]) os un hok bare λb z=>absurd z (by simp)
 exact⟨e,cls,d,H',rfl,⟨I',tb,.none,F,.inl rfl,λb hb=>⟨(ch b hb).1,I.ch (ch b hb).2⟩⟩,q⟩
theorem aai(h:X.xe=λ_ _=>False):bj X (λ_ _ _ _=>False):=λ_ _ _ _ _ _ _ _ z=>z.elim
theorem qy.note{M:Model}{E:ε->μ->Prop}{e:δ}{cls:ε}{d:Option δ×Bool}{Q:Unit->μ->Prop}(x:qy X ϵ σ H s e cls d)(hst:X.stack=X.env::X.outer)(hf:X.env.frame=some X.env.locals)(k:∀s' T,Inv X ϵ σ H s'->aR s'.heap e cls d (some T) (rawInt X.env.locals)->(∀b∈[e,T],H b=none/\Ch X ϵ b)->Q () s'):ν M X.A (noteFrame (.ref e) X.env) Q E s:=by
 obtain⟨I,tb,fl,F,hfl,ch⟩:=x;obtain z|⟨z,ht⟩:=hfl
 .subst z;have hl:=I.stack;rw[hst]at hl;refine Xz (base:=X.base) (I.ok.frames.trans (by rw[hst])) hl hf F λh' T N hT F'=>k _ T (I.noted (by rw[hst];exact N) ch) F' λb hb=>?_
  obtain z|z:=acG.mp hb
  .subst z;exact ch _ acB
  .have z':b=T:=by simpa using z
   subst z';exact⟨I.hok.fresh hT,I.ch (ak4 hT)⟩
 .subst z;cases tb with
  |none=>cases ht
  |some T=>exact agn hf F rfl (k s T I F ch)
theorem Inv.off{M:Model}{E:ε->μ->Prop}{e T:δ}{cls:ε}{d:Option δ×Bool}{fl:ε}{Q:Unit->μ->Prop}(I:Inv X ϵ σ H s)(F:aR s.heap e cls d (some T) fl)(hc:∀b∈[e,T],H b=none/\Ch X ϵ b)(k:∀s',Inv X ϵ σ H s'->aR s'.heap e cls d (some T) .none->Q () s'){A:ϲ}:ν M A (setFlight (.ref e) none) Q E s:=by
 refine ae6 F λh' N F'=>k _ (I.noted (ch:=[T]) ⟨λb o q _ n=>N.keep b o q (by simp) n,N.slot,N.there⟩ λb hb=>?_) F'
 have z:b=T:=by simpa using hb
 subst z;exact hc b (by simp)
end
theorem Ν{cc:Bool}{P:ϯ}{w:Ϭ}{K:ϩ}{mg:Str->Option ε}{base:ϫ}{N:List Str}{qual:Str}{scope:ai8}{f:δ}{cd:ε}{A:ϲ}{outer:List Env}{s₀:μ}{H₀:Hp}{E:XK}:bj (jk cc (bL P w) P w K mg base N qual scope f cd A outer s₀ H₀ E) (λ_=>E):=by
 intro ϵ σ H s e cls d x q;show ν _ _ (leaving _ _) _ _ s;unfold leaving;refine ϧ (x.note rfl rfl λs1 T I1 F1 c1=>?_);refine I1.off F1 c1 λs2 I2 F2=>?_
 refine⟨e,some T,cls,d,H,rfl,I2.os,I2.bare,I2.base,I2.hok,F2,λb hb=>?_,q⟩;have z:=c1 b (by simpa using hb);refine⟨z.1,?_⟩;obtain y|y:=z.2.1
 .exact absurd (show b∈([]:List δ)from y) (by simp)
 .exact y
theorem agO{cc:Bool}{P:ϯ}{w:Ϭ}{K:ϩ}{mg:Str->Option ε}{base:ϫ}{N:List Str}{qual:Str}{scope:ai8}{f:δ}{cd:ε}{A:ϲ}{outer:List Env}{s₀:μ}{H₀:Hp}{E:XK}:anv (Ϧ P w) (A.deeper (envOfC qual scope s₀.heap.objs.size f cd)) (envOfC qual scope s₀.heap.objs.size f cd) (jk cc (bL P w) P w K mg base N qual scope f cd A outer s₀ H₀ E).xe:=PassesOwn.leaving
section
variable{X:Cx}{Kx:St->XK}{cc:Bool}{k k':Nat}{f C:δ}{fd:akn}{ps:List Str}{sp:Sp}{x m:Str}{p pos apos:Pos}{e o:π}{es:List π}{σ:St}{H:Hp}{Q:VK}
theorem uM{ϵ:List (δ×Obj)}{s:μ}{us:List ε}{vs:List V}(F:cO X.prog X.w X.K X.mg X.base (bL X.prog X.w) cc k f fd ps sp)(hr:ϙ cc k X.A)(hb:Binds X.K fd ps [])(hx:bj X Kx)(I:Inv X ϵ σ H s)(r:Vals vs us)(h:sp vs H Q (Kx σ)):ν (Ϧ X.prog X.w) X.A (call (.ref f) us) (EP X ϵ σ Q) X.xe s:=by
 have hl:us.length=ps.length:=by rw[<-r.length];exact F.len _ _ _ _ h
 have hb':=hb s us I.kIn (by simpa using hl);rw[List.append_nil]at hb';refine anu (akK (F.run X.A X.stack s H ⟨us,[]⟩ us vs Q (Kx σ) hr I.env0 hb' r h) λr s' hq=>?_);cases r with
 |error e=>
  obtain⟨a,cls,d,H',rfl,xa,q⟩:=I.flown hq;exact hx ϵ σ H' s' a cls d xa q
 |ok fl=>
  cases fl with
  |ret u=>exact I.after hq
  |next=>exact False.elim hq
  |brk=>exact False.elim hq
  |cont=>exact False.elim hq
end
def EV(X:Cx)(e:π)(σ:St)(H:Hp)(Q:VK):Prop:=
 ∀(ϵ:List (δ×Obj))(s:μ),Inv X ϵ σ H s->ν (Ϧ X.prog X.w) X.A (eval e X.env) (EP X ϵ σ Q) X.xe s
def ET(X:Cx)(e:π)(σ:St)(H:Hp)(Q:Bool->Hp->Prop):Prop:=
 ∀(ϵ:List (δ×Obj))(s:μ),Inv X ϵ σ H s->ν (Ϧ X.prog X.w) X.A (isTrue e X.env (eval e X.env)) (TP X ϵ σ Q) X.xe s
def EW(X:Cx)(e:π)(σ:St)(H:Hp)(Q:Bool->Hp->Prop):Prop:=
 ∀(whole:Sem ε)(ϵ:List (δ×Obj))(s:μ),Inv X ϵ σ H s->ν (Ϧ X.prog X.w) X.A (isTrue e X.env whole) (TP X ϵ σ Q) X.xe s
def EA(X:Cx)(es:List π)(σ:St)(H:Hp)(Q:List V->Hp->Prop):Prop:=
 ∀(pos:Pos)(ϵ:List (δ×Obj))(s:μ),Inv X ϵ σ H s->ν (Ϧ X.prog X.w) X.A (spliced (backTo pos (ϰ es X.env))) (AP X ϵ σ Q) X.xe s
def EO(X:Cx)(e:Option π)(σ:St)(H:Hp)(Q:Option Int->Hp->Prop):=∃t,PO X e t/\t σ H Q
def SX(X:Cx)(st:Ϩ)(D:Ends)(σ:St)(H:Hp):Prop:=
 ∀(ϵ:List (δ×Obj))(s:μ),Inv X ϵ σ H s->ν (Ϧ X.prog X.w) X.A (exec st X.env) (SP X ϵ D) X.xe s
def Κ(X:Cx)(st:List Ϩ)(D:Ends)(σ:St)(H:Hp):Prop:=
 ∀(ϵ:List (δ×Obj))(s:μ),Inv X ϵ σ H s->ν (Ϧ X.prog X.w) X.A (execs st X.env) (SP X ϵ D) X.xe s
def EG(X:Cx)(tg:π)(v:V)(σ:St)(H:Hp)(Q:St->Hp->Prop):Prop:=
 ∀(ϵ:List (δ×Obj))(s:μ)(u:ε),Inv X ϵ σ H s->RelV v u->ν (Ϧ X.prog X.w) X.A (assign tg X.env u) (λ_ s'=>∃σ' H',Inv X ϵ σ' H' s'/\Q σ' H') X.xe s
def lQ(X:Cx)(ts:List π)(vs:List V)(σ:St)(H:Hp)(Q:St->Hp->Prop):Prop:=
 ∀(ϵ:List (δ×Obj))(s:μ)(us:List ε),Inv X ϵ σ H s->Vals vs us->ν (Ϧ X.prog X.w) X.A (assignInOrder ((alX ts X.env).map (·.2)) us) (λ_ s'=>∃σ' H',Inv X ϵ σ' H' s'/\Q σ' H') X.xe s
def EI(X:Cx)(tg iter:π)(σ:St)(H:Hp)(R:It->Hp->Prop):Prop:=
 ∀(ϵ:List (δ×Obj))(s:μ),Inv X ϵ σ H s->
  ν (Ϧ X.prog X.w) X.A (eval iter X.env) (λv s1=>ν (Ϧ X.prog X.w) X.A (pyIter v) (yu X ϵ σ tg R) X.xe s1) X.xe s
def OP(X:Cx)(f:ε->ε->Sem ε)(x y:V)(H:Hp)(Q:VK):=∃r,Ϥ X f r/\r x y H Q
def UN(X:Cx)(f:ε->Sem ε)(x:V)(H:Hp)(Q:VK):=∃r,qO X f r/\r x H Q
def CL(X:Cx)(f:ε)(xs:List V)(H:Hp)(Q:VK):=∃r,fZ X f r/\r xs H Q
def IX(X:Cx)(x y:V)(H:Hp)(Q:VK):=∃r,mD X r/\r x y H Q
def SL(X:Cx)(x:V)(lo hi:Option Int)(H:Hp)(Q:VK):=∃r,qR X r/\r x lo hi H Q
def MT(X:Cx)(id:String)(x:V)(xs:List V)(H:Hp)(Q:VK):=∃r,uF X id r/\r x xs H Q
section
variable{X:Cx}{a b c e:π}{es:List π}{σ:St}{H:Hp}{Q:VK}{QT:Bool->Hp->Prop}{QA:List V->Hp->Prop}{D:Ends}{pos p apos:Pos}{x:Str}{v:V}
theorem Υ:PE X e (EV X e):=λϵ s _ _ _ I h=>h ϵ s I
theorem lG:PT X e (ET X e):=λϵ s _ _ _ I h=>h ϵ s I
theorem Dv:PW X e (EW X e):=λwhole ϵ s _ _ _ I h=>h whole ϵ s I
theorem lK:PA X es (EA X es):=λpos ϵ s _ _ _ I h=>h pos ϵ s I
theorem QL{o:Option π}:PO X o (EO X o):=λϵ s σ H Q I ⟨_,h,q⟩=>h ϵ s σ H Q I q
theorem Qz{st:Ϩ}:PS X st (SX X st):=λϵ s _ _ _ I h=>h ϵ s I
theorem uo{st:List Ϩ}:gm X st (Κ X st):=λϵ s _ _ _ I h=>h ϵ s I
theorem PQ{tg:π}:PG X tg (EG X tg):=λϵ s _ _ _ u _ I r h=>h ϵ s u I r
theorem N7{ts:List π}:mU X ts (lQ X ts):=λϵ s _ _ _ us _ I r h=>h ϵ s us I r
theorem Ui{tg iter:π}:PI X tg iter (EI X tg iter):=λϵ s _ _ _ I h=>h ϵ s I
theorem kJ{f:ε->ε->Sem ε}:Ϥ X f (OP X f):=λϵ s σ H x y v u Q I rx ry ⟨_,h,q⟩=>h ϵ s σ H x y v u Q I rx ry q
theorem abI{f:ε->Sem ε}:qO X f (UN X f):=λϵ s σ H x v Q I rx ⟨_,h,q⟩=>h ϵ s σ H x v Q I rx q
theorem Li{f:ε}:fZ X f (CL X f):=λϵ s σ H xs us Q I rx ⟨_,h,q⟩=>h ϵ s σ H xs us Q I rx q
theorem ahP:mD X (IX X):=λva sl ϵ s σ H x y v u Q I rx ry ⟨_,h,q⟩ hs=>h va sl ϵ s σ H x y v u Q I rx ry q hs
theorem aaM:qR X (SL X):=λϵ s σ H x v vl vu lo hi sl Q I rx hs pl pu ⟨_,h,q⟩=>h ϵ s σ H x v vl vu lo hi sl Q I rx hs pl pu q
theorem O9{id:String}:uF X id (MT X id):=λϵ s σ H x xs v us Q I rx rs ⟨_,h,q⟩=>h ϵ s σ H x xs v us Q I rx rs q
theorem aj{t:TE}(h:PE X e t)(q:t σ H Q):EV X e σ H Q:=λϵ s I=>h ϵ s σ H Q I q
theorem sO{t:TT}(h:PT X e t)(q:t σ H QT):ET X e σ H QT:=λϵ s I=>h ϵ s σ H QT I q
theorem Il{t:TA}(h:PA X es t)(q:t σ H QA):EA X es σ H QA:=λpos ϵ s I=>h pos ϵ s σ H QA I q
theorem nu{st:Ϩ}{t:TS}(h:PS X st t)(q:t D σ H):SX X st D σ H:=λϵ s I=>h ϵ s σ H D I q
theorem Ew{st:List Ϩ}{t:TS}(h:gm X st t)(q:t D σ H):Κ X st D σ H:=λϵ s I=>h ϵ s σ H D I q
theorem RJ{tg:π}{t:TG}{QG:St->Hp->Prop}(h:PG X tg t)(q:t v σ H QG):EG X tg v σ H QG:=λϵ s u I r=>h ϵ s σ H v u QG I r q
theorem Ru{ts:List π}{t:je}{vs:List V}{QG:St->Hp->Prop}(h:mU X ts t)(q:t vs σ H QG):lQ X ts vs σ H QG:=λϵ s us I r=>h ϵ s σ H vs us QG I r q
theorem K3{tg iter:π}{t:TI}{R:It->Hp->Prop}(h:PI X tg iter t)(q:t σ H R):EI X tg iter σ H R:=λϵ s I=>h ϵ s σ H R I q
def dY:List Str->St->Str->Option V
 |n::N,o::σ,x=>if n=x then o else dY N σ x
 |_,_,_=>none
theorem BP:∀{N:List Str}{σ:St}{x:Str}{v:V},dY N σ x=some v->∃i:Nat,N[i]?=some x/\σ[i]?=some (some v)
 |n::N,o::σ,x,v,h=>by
  unfold dY at h;split at h
  .rename_i e;exact⟨0,by simp[e],by simp[h]⟩
  .obtain⟨i,h1,h2⟩:=BP h;exact⟨i+1,by simpa using h1,by simpa using h2⟩
 |[],_,_,_,h=>by simp[dY]at h
 |_::_,[],_,_,h=>by simp[dY]at h
def nameAt:List Str->Str->Option Nat
 |n::N,x=>if n=x then some 0 else(nameAt N x).map (· +1)
 |[],_=>none
theorem jQ:∀{N:List Str}{x:Str}{i:Nat},nameAt N x=some i->N[i]?=some x
 |n::N,x,i,h=>by
  unfold nameAt at h;split at h
  .rename_i e;cases h;simp[e]
  .cases q:nameAt N x with
   |none=>rw[q]at h;cases h
   |some j=>
    rw[q]at h;cases h;simpa using jQ q
 |[],_,_,h=>by simp[nameAt]at h
theorem acR(hn:dY X.N σ x=some v)(hv:pL X.env.scope x)(q:Q v H)(hd:(x==("__debug__":Str))=false)(hcd:(x==("__classdict__":Str))=false):EV X (.Name x pos) σ H Q:=by
 obtain⟨i,h1,h2⟩:=BP hn;exact aj (aiZ h1 hv hd hcd) ⟨v,h2,q⟩
def Gc(mg:Str->Option ε)(x:Str)(v:V):=∃u,mg x=some u/\RelV v u
theorem ae8(g:Gc X.mg x v)(hg:Gl X x)(q:Q v H)(hd:(x==("__debug__":Str))=false):EV X (.Name x pos) σ H Q:=by
 obtain⟨u,h1,h2⟩:=g;exact aj (Yh hg h1 h2 hd) q
theorem aed{T:String}(hg:Gl X x)(hm:X.mg x=none)(hv:bootBuiltins x=some (.type T))(q:Q (.ty T) H)(hn:x≠"__name__")(hd:(x==("__debug__":Str))=false):EV X (.Name x pos) σ H Q:=
 aj (aeY hg hm hv (v:=.ty T) rfl hn hd) q
theorem Xp{i:Int}{j}(q:Q (.int i) H):EV X (.Constant (.int i) j pos) σ H Q:=aj aaW q
theorem afl{i:Bool}{j}(q:Q (.bl i) H):EV X (.Constant (.bool i) j pos) σ H Q:=aj agl q
theorem aes{j}(q:Q .non H):EV X (.Constant .none j pos) σ H Q:=aj akd q
theorem QZ{i:Str}{j}(q:Q (.str i) H):EV X (.Constant (.str i) j pos) σ H Q:=aj aeF q
theorem ZC{op:Operator}(h:EV X a σ H λx H1=>EV X b σ H1 λy H2=>OP X (binaryOp op) x y H2 Q):EV X (.BinOp a op b pos) σ H Q:=aj (ajp kJ Υ Υ) h
theorem Zo{op:UnaryOp}(h:EV X a σ H λx H1=>UN X (unaryOp op) x H1 Q):EV X (.UnaryOp op a pos) σ H Q:=aj (ahc abI Υ) h
theorem Vd{op:CmpOp}(hm:behindInMarks op b=false)(h:EV X a σ H λx H1=>EV X b σ H1 λy H2=>OP X (adJ op) x y H2 Q):EV X (.Compare a [op] [b] pos) σ H Q:=aj (Wy kJ Υ Υ hm) h
theorem ab9{op:CmpOp}(hm:behindInMarks op b=false)(h:EV X a σ H λx H1=>EV X b σ H1 λy H2=>OP X (adJ op) x y H2 λz H3=>∃k,z=.bl k/\QT k H3):ET X (.Compare a [op] [b] pos) σ H QT:=sO (aaA kJ Υ Υ hm) h
theorem VL{op op':CmpOp}(hm:lastMarks [op,op'] [b,c]=false)(h:EV X a σ H λx H1=>EV X b σ H1 λy H2=>OP X (adJ op) x y H2 λz H3=>∃k,z=.bl k/\(if k=true then EV X c σ H3 λw' H4=>OP X (adJ op') y w' H4 Q else Q (.bl false) H3)):EV X (.Compare a [op,op'] [b,c] pos) σ H Q:=aj (ab0 kJ kJ Υ Υ Υ hm) h
theorem Yu{op op':CmpOp}(hm:lastMarks [op,op'] [b,c]=false)(h:EV X a σ H λx H1=>EV X b σ H1 λy H2=>OP X (adJ op) x y H2 λz H3=>∃k,z=.bl k/\(if k=true then EV X c σ H3 λw' H4=>OP X (adJ op') y w' H4 λz' H5=>∃k',z'=.bl k'/\QT k' H5 else ∃k',V.bl false=.bl k'/\QT k' H3)):ET X (.Compare a [op,op'] [b,c] pos) σ H QT:=sO (abo kJ kJ Υ Υ Υ hm) h
theorem RP(he:∀whole,isTrue e X.env whole=(do let v<-whole;standAt e.pos;holding [v] (truthy v)))(h:EV X e σ H λx H'=>∃k,vK X.K x H' k/\QT k H'):ET X e σ H QT:=sO (W3 Υ he) h
theorem af1(h:ET X a σ H λk H1=>QT (!k) H1):ET X (.UnaryOp .Not a pos) σ H QT:=sO (Zm lG) h
theorem YX(h:EW X e σ H QT):ET X e σ H QT:=sO Dv.pt h
theorem wH{t:TT}(h:PW X e t)(q:t σ H QT):EW X e σ H QT:=λwhole ϵ s I=>h whole ϵ s σ H QT I q
theorem XF{rest:List π}(h:ET X a σ H λk H1=>if k=true then EW X (.BoolOp .And (b::rest) pos) σ H1 QT else QT false H1):EW X (.BoolOp .And (a::b::rest) pos) σ H QT:=wH (akg lG Dv) h
theorem acY{rest:List π}(h:ET X a σ H λk H1=>if k=true then QT true H1 else EW X (.BoolOp .Or (b::rest) pos) σ H1 QT):EW X (.BoolOp .Or (a::b::rest) pos) σ H QT:=wH (aet lG Dv) h
theorem afh(h:ET X a σ H QT):EW X (.BoolOp .And [a] pos) σ H QT:=wH (afW lG) h
theorem agN(h:ET X a σ H QT):EW X (.BoolOp .Or [a] pos) σ H QT:=wH (aeH lG) h
theorem NP{op}(h:EV X a σ H Q):EV X (.BoolOp op [a] pos) σ H Q:=aj (agI Υ) h
theorem Wu{rest:List π}(h:EV X a σ H λx H1=>∃k,x=.bl k/\if k=true then EV X (.BoolOp .And (b::rest) pos) σ H1 Q else Q (.bl false) H1):EV X (.BoolOp .And (a::b::rest) pos) σ H Q:=aj (ajH Υ Υ) h
theorem aeR{rest:List π}(h:EV X a σ H λx H1=>∃k,x=.bl k/\if k=true then Q (.bl true) H1 else EV X (.BoolOp .Or (b::rest) pos) σ H1 Q):EV X (.BoolOp .Or (a::b::rest) pos) σ H Q:=aj (V5 Υ Υ) h
theorem ace(h:EV X a σ H λx H1=>∃k,x=.bl k/\Q (.bl (!k)) H1):EV X (.UnaryOp .Not a pos) σ H Q:=aj (acC Υ) h
theorem Vy(h:ET X c σ H λk H1=>if k=true then EV X a σ H1 Q else EV X b σ H1 Q):EV X (.IfExp c a b pos) σ H Q:=aj (Z9 lG Υ Υ) h
theorem dX(q:QA [] H):EA X [] σ H QA:=Il TX q
theorem eF(hs:ϰ (e::es) X.env=(false,eval e X.env)::ϰ es X.env)(h:EV X e σ H λx H1=>EA X es σ H1 λxs H2=>QA (x::xs) H2):EA X (e::es) σ H QA:=Il (aeQ Υ lK hs) h
theorem Gy{x1}(h:EA X es σ H λxs H1=>xs.length<=Ϫ/\∀p,H1 p=none->Q (.ref p) (upd H1 p (.tup xs))):EV X (.Tuple es x1 pos) σ H Q:=aj (aap lK) h
theorem YK(h:EA X es σ H λxs H1=>xs.length<=Ϫ/\∀p,H1 p=none->Q (.ref p) (upd H1 p (.lst xs))):EV X (.List es pos) σ H Q:=aj (Vs lK) h
theorem abK{id:String}(hg:Gl X x)(hm:X.mg x=none)(hv:bootBuiltins x=some (.builtin id))(hn:x≠"__name__")(hdb:(x==("__debug__":Str))=false)(he:ϰ (e::es) X.env=(false,eval e X.env)::ϰ es X.env)(hpl:(backTo pos (ϰ es X.env)).any (·.1)=false)(h:EA X (e::es) σ H λvs H1=>CL X (.builtin id) vs H1 Q):EV X (.Call (.Name x p) (e::es) [] pos) σ H Q:=
 aj (adT Li hg hm hv lK hn hdb he hpl) h
theorem aiT{T:String}(hg:Gl X x)(hm:X.mg x=none)(hv:bootBuiltins x=some (.type T))(hn:x≠"__name__")(hdb:(x==("__debug__":Str))=false)(he:ϰ (e::es) X.env=(false,eval e X.env)::ϰ es X.env)(hpl:(backTo pos (ϰ es X.env)).any (·.1)=false)(h:EA X (e::es) σ H λvs H1=>CL X (.type T) vs H1 Q):EV X (.Call (.Name x p) (e::es) [] pos) σ H Q:=
 aj (afs Li hg hm hv lK hn hdb he hpl) h
structure Def(P:ϯ)(w:Ϭ)(K:ϩ)(mg:Str->Option ε)(base:ϫ)(cc:Bool)(k:Nat)(x:Str)(ps:List Str)(sp:Sp):Prop where
 ex:∃f fd,mg x=some (.ref f)/\anl K (.ref f)=true/\Binds K fd ps []/\cO P w K mg base (bL P w) cc k f fd ps sp
theorem ϙ.nR{cc aQ:Bool}{k:Nat}{A:ϲ}(r:ϙ cc k A)(h:aQ=true->cc=true):ϙ aQ k A:=⟨λz=>r.hd (h z),r.dp,r.un⟩
theorem ajV{Kx:St->XK}{cc aQ:Bool}{k k':Nat}{ps:List Str}{sp:Sp}(F:Def X.prog X.w X.K X.mg X.base aQ k x ps sp)(hr:ϙ cc k' X.A)(hk:k<=k')(hcc:aQ=true->cc=true)(hg:Gl X x)(hx:bj X Kx)(hdb:(x==("__debug__":Str))=false)(he:ϰ (e::es) X.env=(false,eval e X.env)::ϰ es X.env)(hpl:(backTo pos (ϰ es X.env)).any (·.1)=false)(h:EA X (e::es) σ H λvs H1=>sp vs H1 Q (Kx σ)):EV X (.Call (.Name x p) (e::es) [] pos) σ H Q:=by
 obtain⟨f,fd,h1,h2,h3,h4⟩:=F.ex;intro ϵ s I;refine ant (jF I hg h1 ?_ hdb);refine aol (h₀:=X.base) I.ok.mod.kin h2 (χ (h pos ϵ s I) λus s1 ⟨vs,H1,I1,r,q⟩=>⟨I1.kIn,?_⟩) he hpl;exact uM h4 ((hr.mono hk).nR hcc) h3 hx I1 r q
theorem abL(hs:NK b)(h:EV X a σ H λx H1=>EV X b σ H1 λy H2=>IX X x y H2 Q):EV X (.Subscript a b pos) σ H Q:=aj (ZD ahP Υ Υ hs) h
theorem Zk{QO:Option Int->Hp->Prop}(q:QO none H):EO X none σ H QO:=⟨_,acZ,q⟩
theorem acz{QO:Option Int->Hp->Prop}(q:EV X e σ H λx H1=>∃i,x=.int i/\QO (some i) H1):EO X (some e) σ H QO:=⟨_,adP Υ,q⟩
theorem WY{lo hi:Option π}{p2:Pos}(h:EV X a σ H λx H1=>EO X lo σ H1 λl H2=>EO X hi σ H2 λu H3=>SL X x l u H3 Q):EV X (.Subscript a (.Slice lo hi none p2) pos) σ H Q:=aj (abv aaM Υ QL QL) h
theorem cH{T id:String}{name:Str}(pa:PlainAttrs T)(slot:Slot T name id)(hty:typeOf (.builtin id)=pure (.type "method_descriptor"))(hbase:attributeBase a name X.env (eval a X.env)=eval a X.env:=by rfl)(hfew:((backTo pos (ϰ (e::es) X.env)).all (λx=> !x.1)&&(backToKw pos (keywordEach [] X.env)).all (λx=>x.1.isSome)
   &&decide ((e::es).length+([]:List Keyword).length+(if([]:List Keyword).isEmpty then 0 else 1)<30))=true:=by rfl)(hline:(apos.endLine==pos.line)=true:=by rfl)(hs:ϰ (e::es) X.env=(false,eval e X.env)::ϰ es X.env:=by rfl)(hplain:(backTo pos (ϰ es X.env)).any (·.1)=false:=by rfl)(h:EV X a σ H λx H1=>oh X.K T x H1/\EA X (e::es) σ H1 λxs H2=>MT X id x xs H2 Q):EV X (.Call (.Attribute a name apos) (e::es) [] pos) σ H Q:=
 aj (abX pa slot hty O9 Υ lK hbase hfew hline hs hplain) h
theorem acD{T id:String}{name:Str}(pa:PlainAttrs T)(slot:Slot T name id)(hty:typeOf (.builtin id)=pure (.type "method_descriptor"))(hbase:attributeBase a name X.env (eval a X.env)=eval a X.env)(hline:(apos.endLine==pos.line)=true)(h:EV X a σ H λx H1=>oh X.K T x H1/\MT X id x [] H1 Q):EV X (.Call (.Attribute a name apos) [] [] pos) σ H Q:=
 aj (ajf pa slot hty O9 Υ hbase hline) h
theorem Δ(q:D.nx σ H):Κ X [] D σ H:=Ew ah7 q
theorem ξ{st:Ϩ}{rest:List Ϩ}(h:SX X st {D with nx:=λσ' H'=>Κ X rest D σ' H'} σ H):Κ X (st::rest) D σ H:=Ew (ai4 Qz uo) h
theorem ο{st:Ϩ}(h:SX X st D σ H):Κ X [st] D σ H:=Ew (Ug Qz) h
theorem ϟ(h:EV X e σ H λ_ H1=>D.nx σ H1)(hs:alk e none pos.line X.env=pure false:=by rfl):SX X (.Expr e pos) D σ H:=nu (aiC Υ hs) h
theorem Η(h:EV X e σ H D.rt):SX X (.Return (some e) pos) D σ H:=nu (abg Υ) h
theorem Τ{t u:List Ϩ}(h:ET X c σ H λk H1=>if k=true then Κ X t D σ H1 else Κ X u D σ H1):SX X (.If c t u pos) D σ H:=nu (ail lG uo uo) h
theorem Uo{i:Nat}{p':Pos}(hN:X.N.Nodup)(hi:nameAt X.N x=some i)(hx:Loc X.env.scope x)(hs:alk e (some (.Name x p')) pos.line X.env=pure false)(hf:X.fn x=true\/X.env.scope.names.lookup x=some .local)(h:EV X e σ H λv H1=>D.nx (σ.set i (some v)) H1):SX X (.Assign [.Name x p'] e pos) D σ H:=nu (Y4 hN (jQ hi) hx Υ hs hf) h
theorem Ι{i:Nat}{QG:St->Hp->Prop}(hN:X.N.Nodup)(hi:nameAt X.N x=some i)(hx:Loc X.env.scope x)(hf:X.fn x=true\/X.env.scope.names.lookup x=some .local)(q:QG (σ.set i (some v)) H):EG X (.Name x pos) v σ H QG:=
 RJ (afk hN (jQ hi) hx hf) q
theorem b7{QG:St->Hp->Prop}(q:QG σ H):lQ X [] [] σ H QG:=Ru afx ⟨rfl,q⟩
theorem ϕ{ts:List π}{vs:List V}{QG:St->Hp->Prop}(h:EG X e v σ H λσ' H'=>lQ X ts vs σ' H' QG)(hs:(alX (e::ts) X.env).map (·.2)=assign e X.env::(alX ts X.env).map (·.2):=by rfl):lQ X (e::ts) (v::vs) σ H QG:=
 Ru (UL PQ N7 hs) ⟨v,vs,rfl,h⟩
theorem bQ{n:Nat}{k:Nat}{QG:St->Hp->Prop}{q:δ}{xs:List V}(ht:ω X.K H q xs)(h:lQ X es xs σ H QG)(hc:X.calm=true:=by rfl)(hn:(alX es X.env).length=n:=by rfl)(hst:(alX es X.env).findIdx? (·.1)=none:=by rfl)(hl:xs.length=n:=by rfl):EG X (.Tuple es k pos) (.ref q) σ H QG:=
 RJ (ahK hc N7 hn hst) ⟨q,xs,rfl,ht,hl,h⟩
theorem rJ{tg iter:π}{body:List Ϩ}(hp:anv (Ϧ X.prog X.w) X.A X.env X.xe)(hc:X.calm=true)(hs:∀x,foldedSetIterable iter X.env x=pure x)(h:EI X tg iter σ H λJ H1=>∃W:Nat->Nat->St->Hp->Prop,(∃m,W 0 m σ H1)/\∀i m σ H,W i m σ H->
   (J.stop i H/\D.nx σ H)\/(J.go i H/\∃N:St->Hp->Prop,(∀σ' H',N σ' H'->∃m',m'<m/\W (i+1) m' σ' H')/\∀x H',J.yld i H x H'->EG X tg x σ H' λσ2 H2=>Κ X body {D with nx:=N,ct:=N,bk:=D.nx} σ2 H2)):SX X (.For tg iter body [] pos) D σ H:=nu (ago hp hc Ui PQ uo hs) h
theorem rD{tg l:π}{R:It->Hp->Prop}(h:EV X l σ H λx H1=>∃a,x=.ref a/\(∃xs,θ X.K H1 a xs)/\R (iy X.K a) H1):EI X tg l σ H R:=K3 (adG Υ) h
theorem xN{tg:π}{R:It->Hp->Prop}(hg:Gl X "range")(hm:X.mg "range"=none)(hs:ϰ [a] X.env=[(false,eval a X.env)])(h:EA X [a] σ H λvs H1=>∃j:Int,vs=[.int j]/\ -(2^62)<=j/\j<2^62/\R (jT 0 j.toNat) H1):EI X tg (.Call (.Name "range" p) [a] [] pos) σ H R:=K3 (ahV hg hm lK hs) h
theorem aa{Q':VK}(h:EV X e σ H Q)(m:∀v H',Q v H'->Q' v H'):EV X e σ H Q':=λϵ s I=>χ (h ϵ s I) λ_ _ ⟨v,H',I',r,q⟩=>⟨v,H',I',r,m v H' q⟩
theorem aX{f:ε->ε->Sem ε}{r:R2}{y z:V}(h:Ϥ X f r)(q:r y z H Q):OP X f y z H Q:=⟨r,h,q⟩
variable{i j:Int}{k k':Bool}{z z':Str}
theorem aaB(q:Q (.int (i+j)) H):OP X (binaryOp .Add) (.int i) (.int j) H Q:=aX Y9 ⟨i,j,rfl,rfl,q⟩
theorem ai3(q:Q (.int (i-j)) H):OP X (binaryOp .Sub) (.int i) (.int j) H Q:=aX agU ⟨i,j,rfl,rfl,q⟩
theorem WQ(c:xM i j)(q:Q (.int (i*j)) H):OP X (binaryOp .Mult) (.int i) (.int j) H Q:=aX aiN ⟨i,j,rfl,rfl,c,q⟩
theorem agZ(c:0<j)(q:Q (.int (i % j)) H):OP X (binaryOp .Mod) (.int i) (.int j) H Q:=aX ac3 ⟨i,j,rfl,rfl,c,q⟩
theorem Gg(c:Ht i j)(q:Q (.int (i^j.toNat)) H):OP X (binaryOp .Pow) (.int i) (.int j) H Q:=aX abA ⟨i,j,rfl,rfl,c,q⟩
theorem ado(q:Q (.bl (decide (i<j))) H):OP X (adJ .Lt) (.int i) (.int j) H Q:=aX aic ⟨i,j,rfl,rfl,q⟩
theorem aj5(q:Q (.bl (decide (i<=j))) H):OP X (adJ .LtE) (.int i) (.int j) H Q:=aX aim ⟨i,j,rfl,rfl,q⟩
theorem afu(q:Q (.bl (decide (j<i))) H):OP X (adJ .Gt) (.int i) (.int j) H Q:=aX acF ⟨i,j,rfl,rfl,q⟩
theorem W8(q:Q (.bl (decide (j<=i))) H):OP X (adJ .GtE) (.int i) (.int j) H Q:=aX agm ⟨i,j,rfl,rfl,q⟩
theorem Dw{y z:V}(s:tM y z=true)(q:Q (.bl (decide (y=z))) H):OP X (adJ .Eq) y z H Q:=aX aav ⟨s,q⟩
theorem agy{y z:V}(s:tM y z=true)(q:Q (.bl (!decide (y=z))) H):OP X (adJ .NotEq) y z H Q:=aX adZ ⟨s,q⟩
theorem ag1(q:Q (.bl (decide (z.cps.toList<z'.cps.toList))) H):OP X (adJ .Lt) (.str z) (.str z') H Q:=aX ah4 ⟨z,z',rfl,rfl,q⟩
theorem aiI(q:Q (.bl (!(Builtin.Str.occurrences z' z 0 z'.length 1).isEmpty)) H):OP X (adJ .In) (.str z) (.str z') H Q:=aX afb ⟨z,z',rfl,rfl,q⟩
theorem ajL{y:V}(q:Q (.bl (decide (y=.non))) H):OP X (adJ .Is) y .non H Q:=aX afT ⟨rfl,q⟩
theorem ai9{y:V}(q:Q (.bl (!decide (y=.non))) H):OP X (adJ .IsNot) y .non H Q:=aX afM ⟨rfl,q⟩
theorem my(c:z.length+z'.length<=Ϫ)(q:Q (.str (z++z')) H):OP X (binaryOp .Add) (.str z) (.str z') H Q:=aX afG ⟨z,z',rfl,rfl,c,q⟩
theorem aby(q:Q (.int (-i)) H):UN X (unaryOp .USub) (.int i) H Q:=⟨_,ai7,i,rfl,q⟩
theorem c7{f:ε}{r:List V->Hp->VK->Prop}{vs:List V}(h:fZ X f r)(q:r vs H Q):CL X f vs H Q:=⟨r,h,q⟩
theorem uA{q:δ}{ys:List V}(h:θ X.K H q ys\/ω X.K H q ys)(g:Q (.int ys.length) H):CL X (.builtin "len") [.ref q] H Q:=c7 agk ⟨q,ys,rfl,h,g⟩
theorem aci(h:z.length<=Ϫ)(g:Q (.int z.length) H):CL X (.builtin "len") [.str z] H Q:=c7 adk ⟨z,rfl,h,g⟩
theorem Zr(hc:X.calm=true)(g:Q (.int (if j<i then j else i)) H):CL X (.builtin "min") [.int i,.int j] H Q:=c7 (ah1 hc) ⟨i,j,rfl,g⟩
theorem JH(h:i.natAbs.log2<1920)(g:Q (.str (toString i)) H):CL X (.type "str") [.int i] H Q:=c7 abT ⟨i,rfl,h,g⟩
theorem gn{q:δ}{ys:List V}(h:θ X.K H q ys\/ω X.K H q ys)(g:∀l,H l=none->Q (.ref l) (upd H l (.lst ys))):CL X (.type "list") [.ref q] H Q:=c7 ZX ⟨q,ys,rfl,h,g⟩
theorem xH{r:R2}{y z:V}(h:mD X r)(q:r y z H Q):IX X y z H Q:=⟨r,h,q⟩
theorem ϖ{q:δ}{xs:List V}(h:θ X.K H q xs)(e:ό xs i=some v)(g:Q v H):IX X (.ref q) (.int i) H Q:=xH ajA ⟨q,xs,i,v,rfl,rfl,h,e,g⟩
theorem Ω{q:δ}{xs:List V}(h:ω X.K H q xs)(e:ό xs i=some v)(g:Q v H):IX X (.ref q) (.int i) H Q:=xH adx ⟨q,xs,i,v,rfl,rfl,h,e,g⟩
theorem p8{n:Nat}(h:z.length<=Ϫ)(e:ό z.cps.toList i=some n)(g:Q (.str ⟨#[n]⟩) H):IX X (.str z) (.int i) H Q:=xH afv ⟨z,i,n,rfl,rfl,h,e,g⟩
theorem Fj{q:δ}{xs:List V}{lo hi:Option Int}(h:θ X.K H q xs)(g:∀p,H p=none->Q (.ref p) (upd H p (.lst (fH xs lo hi)))):SL X (.ref q) lo hi H Q:=⟨_,ahE,q,xs,rfl,h,g⟩
theorem JB{y:V}{t:ε}{T:String}(ty:cG X.K H y t)(e:aoD X.K t (.type T)=some k)(g:Q (.bl k) H):CL X (.builtin "isinstance") [y,.ty T] H Q:=by
 refine⟨λxs H Q=>∃y t T k,xs=[y,.ty T]/\cG X.K H y t/\aoD X.K t (.type T)=some k/\Q (.bl k) H,?_,y,t,T,k,rfl,ty,e,g⟩;intro ϵ s σ H xs us Q I r h;obtain⟨y,t,T,k,rfl,ty,e,g⟩:=h;obtain⟨u1,u2,rfl,r1,r2⟩:=vals2 r;cases(show u2=Value.type T from r2);exact U9 I r1 ty e λtk=>⟨.bl k,H,I.tok tk,rfl,g⟩
end
def Mu(x:Str):It:=⟨λi _=>i<x.cps.size,λi H v H'=>H'=H/\∃c,x.cps[i]?=some c/\v=.str ⟨#[c]⟩,λi _=>x.cps.size<=i⟩
theorem aiE{P:ϯ}{w:Ϭ}{K:PySem.W.Frag}{tg:π}{T:String}(hT:T="str_ascii_iterator"\/T="str_iterator")(it:δ)(x:Str)(t:Tok):Turn P w K tg (Mu x) [it] it (λi h=>h.IsStrIter it T x t i)where
 mem:=by simp
 obj:=λi h st b hb=>by
  have e:b=it:=by simpa using hb
  subst e;obtain⟨o,e,c,d⟩:=st;exact⟨o,e,λv z=>by rw[d]at z;cases z⟩
 keep:=λi h h' st k=>by
  obtain⟨o,e,c,d⟩:=st;exact⟨o,k it (by simp) o e,c,d⟩
 item:=by
  intro X hP hw hK hc i ϵ s σ H E I hf st hg;subst hP hw hK;obtain⟨f0,f1,f2,f3,f4,f5⟩:=hf it (by simp);have hg':i<x.cps.size:=hg;have hW:∃W:Nat->ϫ->Prop,Walks X.prog X.w X.A it [it] [it] x.cps.size (SignAt x) W/\W=λi h=>h.IsStrIter it T x t i:=by
   obtain rfl|rfl:=hT
   .exact⟨_,Walks.strAscii (I.ok.hd hc) it x t,rfl⟩
   .exact⟨_,Walks.strWide (I.ok.hd hc) it x t,rfl⟩
  obtain⟨_,W,rfl⟩:=hW;refine W.item i s _ _ hg' st λv h' tk hv st' kk=>?_
  obtain⟨c,u,e1,rfl⟩:=hv;have I1:Inv X ϵ σ H {s with heap:=h',toks:=tk}:=I.turned (λb o hb e=>kk b o (by simpa using hb) e) f0 f1 f3 f4 f5;obtain⟨o,e,c',d⟩:=id st';refine⟨_,rfl,qQ (s:={s with heap:=h',toks:=tk}) (n:=T) e c' d (by obtain rfl|rfl:=hT<;>decide) ⟨.str ⟨#[c]⟩,H,I1,⟨u,rfl⟩,⟨rfl,c,e1,rfl⟩,st',λb hb=>(hf b hb).1⟩⟩
 done:=by
  intro X hP hw hK hc i ϵ s σ H E I hf st hg;subst hP hw hK;obtain⟨f0,f1,f2,f3,f4,f5⟩:=hf it (by simp);have hg':x.cps[i]?=none:=Array.getElem?_eq_none hg;obtain rfl|rfl:=hT
  .exact wpAny_pyNext_ascii_end (I.ok.hd hc) st hg' λh' eb=>⟨rfl,I.turned (t':=s.toks) (λb o hb e=>eb b o hb e) f0 f1 f3 f4 f5⟩
  .exact wpAny_pyNext_wide_end (I.ok.hd hc) st hg' λh' eb=>⟨rfl,I.turned (t':=s.toks) (λb o hb e=>eb b o hb e) f0 f1 f3 f4 f5⟩
 self:=λ_ _ _ _ _ st h=>by
  obtain rfl|rfl:=hT
  .exact wpAny_pyIter_striter_ascii st h
  .exact wpAny_pyIter_striter_wide st h
section
variable{X:Cx}{tg l:π}{σ:St}{H:Hp}{R:It->Hp->Prop}
theorem adn(h:EV X l σ H λx H1=>∃z,x=.str z/\R (Mu z) H1):EI X tg l σ H R:=by
 intro ϵ s I;refine χ (h ϵ s I) λv s1 hZ=>?_
 obtain⟨x,H1,I1,r1,z,e,q⟩:=hZ;subst e;obtain⟨t,rfl⟩:=r1
 have fin:∀T:String,(T="str_ascii_iterator"\/T="str_iterator")->
   yu X ϵ σ tg R (.ref s1.heap.objs.size) {s1 with heap:=s1.heap.push {cls:=.type T,data:=.fields #[.str z t,.int 0 0]}}:=λT hT=>by
  refine⟨s1.heap.objs.size,[s1.heap.objs.size],_,_,H1,rfl,I1.kept (t':=s1.toks) λb o e=>Heap.get?_push_of_some _ e,aiE hT _ z t,⟨_,acM _ rfl,rfl,rfl⟩,λb hb=>?_,q⟩;have e:b=s1.heap.objs.size:=by simpa using hb
  subst e;exact I1.fpOk (Ϯ _) (I1.hok.fresh (Ϯ _))
 cases ha:z.cps.all (· <128)
 .exact wpAny_pyIter_wide ha (fin _ (.inr rfl))
 .exact wpAny_pyIter_ascii ha (fin _ (.inl rfl))
end
def bf(N' N:List Str)(σ:St)(scope:ai8):St:=N'.map λx=>if scope.names.lookup x=some .free then dY N σ x else none
def aP(X:Cx)(N':List Str)(scope:ai8)(cl:List (Str×δ))(C:δ)(s:μ)(H:Hp)(fp:List δ):Cx:=
 {X with N:=N',s₀:=s,H₀:=H,env:=compEnvC scope cl C X.env,outer:=X.stack,stack:=X.stack,ex:=fp,fn:=λ_=>false,pn:=[],xe:=λ_ _=>False}
def GJ(X:Cx)(ifs:List π)(σ:St)(H:Hp)(Q:Bool->Hp->Prop):Prop:=
 ∀(ϵ:List (δ×Obj))(s:μ),Inv X ϵ σ H s->
  ν (Ϧ X.prog X.w) X.A (forIn ifs true λc r=>if r=true then do let ok<-isTrue c X.env (eval c X.env);pure (ForInStep.yield ok)else pure (ForInStep.yield r)) (TP X ϵ σ Q) X.xe s
theorem Eg(env:Env):∀(names:List (Str×anC))(cs:List (Str×δ)),(∀y∈names,y.2=.free->∃c,env.cells.lookup y.1=some c)->
  (forIn names cs (λ(x:Str×anC)(r:List (Str×δ))=>if(x.2==NameKind.free)=true then do let a<-cellOf env x.1;pure (ForInStep.yield ((x.1,a)::r))else pure (ForInStep.yield r)):Sem (List (Str×δ)))=
   pure (names.foldl (λcs y=>if y.2==.free then(y.1,(env.cells.lookup y.1).getD 0)::cs else cs) cs)
 |[],cs,_=>by simp
 |(n,k)::r,cs,h=>by
  rw[List.forIn_cons];by_cases hk:k=.free
  .subst hk;obtain⟨c,e⟩:=h (n,.free) acB rfl;have e':cellOf env n=pure c:=by
    unfold cellOf;have e2:env.cells.lookup n=some c:=e;rw[e2]
   simp only[beq_self_eq_true,if_true,e',pure_bind];have e2:env.cells.lookup n=some c:=e;rw[Eg env r _ λy hy=>h y (abN _ hy),List.foldl_cons];simp only[beq_self_eq_true,if_true,e2,Option.getD_some]
  .have hb:(k==NameKind.free)=false:=by simpa using hk
   simp only[hb,ajD,if_false,pure_bind];rw[Eg env r _ λy hy=>h y (abN _ hy),List.foldl_cons];simp only[hb,ajD,if_false]
def ϑ(scope:ai8)(env:Env):List (Str×δ):=scope.names.foldl (λcs y=>if y.2==.free then(y.1,(env.cells.lookup y.1).getD 0)::cs else cs) []
theorem GF{scope:ai8}{env:Env}(h:∀y∈scope.names,y.2=.free->∃c,env.cells.lookup y.1=some c):closureFor scope env=pure (ϑ scope env):=by
 have:=Eg env scope.names [] h;unfold closureFor ϑ;rw[<-this];simp
theorem Jb{env:Env}:∀(names:List (Str×anC))(cs:List (Str×δ)),(∀y∈names,y.2=.free->∃c,env.cells.lookup y.1=some c)->
  ∀x c,(names.foldl (λcs y=>if y.2==.free then(y.1,(env.cells.lookup y.1).getD 0)::cs else cs) cs).lookup x=some c->(env.cells.lookup x=some c\/cs.lookup x=some c)
 |[],cs,_,x,c,e=>.inr e
 |(n,k)::r,cs,h,x,c,e=>by
  rw[List.foldl_cons]at e;rcases Jb r _ (λy hy=>h y (abN _ hy)) x c e with q|q
  .exact .inl q
  .by_cases hk:k=.free
   .subst hk;obtain⟨c',e'⟩:=h (n,.free) acB rfl;have e2:env.cells.lookup n=some c':=e';simp only[beq_self_eq_true,if_true,e2,Option.getD_some,List.lookup_cons]at q;cases hx:x==n with
    |true=>
     rw[hx]at q;have hx':x=n:=by simpa using hx
     subst hx';exact .inl (e2.trans q)
    |false=>rw[hx]at q;exact .inr q
   .have hb:(k==NameKind.free)=false:=by simpa using hk
    rw[if_neg (by simp[hb])]at q;exact .inr q
theorem Ff{env:Env}:∀(names:List (Str×anC))(cs:List (Str×δ))(x:Str),((x,NameKind.free)∈names\/∃c,cs.lookup x=some c)->
  ∃c,(names.foldl (λcs y=>if y.2==.free then(y.1,(env.cells.lookup y.1).getD 0)::cs else cs) cs).lookup x=some c
 |[],cs,x,h=>by
  obtain h|h:=h
  .cases h
  .exact h
 |(n,k)::r,cs,x,h=>by
  rw[List.foldl_cons];refine Ff r _ x ?_;by_cases hk:k=.free
  .subst hk;simp only[beq_self_eq_true,if_true,List.lookup_cons];cases hx:x==n with
   |true=>exact .inr ⟨_,rfl⟩
   |false=>
    obtain h|h:=h
    .obtain h|h:=acG.mp h
     .cases h;simp at hx
     .exact .inl h
    .exact .inr h
  .have hb:(k==NameKind.free)=false:=by simpa using hk
   rw[if_neg (by simp[hb])];obtain h|h:=h
   .obtain h|h:=acG.mp h
    .cases h;exact absurd rfl hk
    .exact .inl h
   .exact .inr h
theorem Ng{env:Env}{x:Str}:∀{names:List (Str×anC)},names.lookup x=some .free->
  (names.map λ(n,k)=>if(k==NameKind.free&&env.scope.kind==.function&&env.kindOf n==some .cell)then(n,NameKind.cell)else(n,k)).lookup x=some .cell\/
  (names.map λ(n,k)=>if(k==NameKind.free&&env.scope.kind==.function&&env.kindOf n==some .cell)then(n,NameKind.cell)else(n,k)).lookup x=some .free
 |[],h=>by simp at h
 |(n,k')::r,h=>by
  have ih:= @Ng env x r;show alm x ((if(k'==NameKind.free&&env.scope.kind==.function&&env.kindOf n==some .cell)=true then(n,NameKind.cell)else(n,k'))::_)=_\/alm x ((if(k'==NameKind.free&&env.scope.kind==.function&&env.kindOf n==some .cell)=true then(n,NameKind.cell)else(n,k'))::_)=_;cases hx:x==n with
  |true=>
   simp only[List.lookup_cons,hx]at h;cases h;by_cases hc:(NameKind.free==NameKind.free&&env.scope.kind==.function&&env.kindOf n==some .cell)=true
   .rw[if_pos hc];left;simp only[List.lookup_cons,hx]
   .rw[if_neg hc];right;simp only[List.lookup_cons,hx]
  |false=>
   simp only[List.lookup_cons,hx]at h;by_cases hc:(k'==NameKind.free&&env.scope.kind==.function&&env.kindOf n==some .cell)=true
   .rw[if_pos hc];simp only[List.lookup_cons,hx];exact ih h
   .rw[if_neg hc];simp only[List.lookup_cons,hx];exact ih h
theorem Le{env:Env}{x:Str}:∀{names:List (Str×anC)},(∀y∈names,y.2≠.cell)->
  ((names.map λ(n,k)=>if(k==NameKind.free&&env.scope.kind==.function&&env.kindOf n==some .cell)then(n,NameKind.cell)else(n,k)).lookup x=some .cell\/
  (names.map λ(n,k)=>if(k==NameKind.free&&env.scope.kind==.function&&env.kindOf n==some .cell)then(n,NameKind.cell)else(n,k)).lookup x=some .free)->(x,NameKind.free)∈names
 |[],_,h=>by simp at h
 |(n,k')::r,hc0,h=>by
  have ih:= @Le env x r λy hy=>hc0 y (abN _ hy)
  have h':alm x ((if(k'==NameKind.free&&env.scope.kind==.function&&env.kindOf n==some .cell)=true then(n,NameKind.cell)else(n,k'))::(r.map λ(n,k)=>if(k==NameKind.free&&env.scope.kind==.function&&env.kindOf n==some .cell)then(n,NameKind.cell)else(n,k)))=some .cell\/
   alm x ((if(k'==NameKind.free&&env.scope.kind==.function&&env.kindOf n==some .cell)=true then(n,NameKind.cell)else(n,k'))::(r.map λ(n,k)=>if(k==NameKind.free&&env.scope.kind==.function&&env.kindOf n==some .cell)then(n,NameKind.cell)else(n,k)))=some .free:=h
  cases hx:x==n with
  |true=>
   have hx':x=n:=by simpa using hx
   subst hx';by_cases hc:(k'==NameKind.free&&env.scope.kind==.function&&env.kindOf x==some .cell)=true
   .have :k'=.free:=by simp only[aaV]at hc;simpa using hc.1.1
    subst this;exact acB
   .rw[if_neg hc]at h';simp only[List.lookup_cons,hx]at h';obtain h'|h':=h'
    .cases h';exact absurd rfl (hc0 (x,.cell) acB)
    .cases h';exact acB
  |false=>
   refine abN _ (ih ?_);by_cases hc:(k'==NameKind.free&&env.scope.kind==.function&&env.kindOf n==some .cell)=true
   .rw[if_pos hc]at h';simpa only[List.lookup_cons,hx]using h'
   .rw[if_neg hc]at h';simpa only[List.lookup_cons,hx]using h'
theorem Zj{prog:ϯ}{w:Ϭ}{A:ϲ}{R:Result->μ->Prop}{s:μ}{elt target iter:π}{ifs:List π}{scope:ai8}{pos:Pos}{it acc:ε}{env:Env}(I:Nat->μ->Prop)(turn:∀n s,I n s->ν (Ϧ prog w) A (pyNext it) (λr s₁=>match r with
   |none=>R (.ok .next) s₁
   |some v=>ν (Ϧ prog w) A (letOwnedTupleGo target it v) (λ_ s₁'=>ν (Ϧ prog w) A (assign target env v) (λ_ s₂=>
    ν (Ϧ prog w) A (forIn ifs true λc r=>if r=true then do let ok<-isTrue c env (eval c env);pure (ForInStep.yield ok)else pure (ForInStep.yield r)) (λok s₃=>
     if ok=true then ν (Ϧ prog w) A (eval elt env) (λx s₄=>
      ν (Ϧ prog w) A (call (.builtin "list.append") [acc,x]) (λ_ s₅=>∃m,m<n/\I m s₅) (λ_ _=>False) s₄) (λ_ _=>False) s₃
     else ∃m,m<n/\I m s₃) (λ_ _=>False) s₂) (λ_ _=>False) s₁') (λ_ _=>False) s₁) (λ_ _=>False) s)(n:Nat)(h:I n s):codeAny (Ϧ prog w) A (.compLoop (.ListComp elt [⟨target,iter,ifs,0⟩] scope pos) 0 it acc env) R s:=by
 refine codeAny_loop rfl I (λn s hI=>?_) n h;show ν _ A ((compTurn (.ListComp elt [⟨target,iter,ifs,0⟩] scope pos) 0 it acc env).onRaise (λx=>do noteFrame x env;theTreesLotGoes x)) _ _ s;refine wpAny_noted ?_;rw[compTurn_list];refine ϧ (alO (ϧ (adL (turn n s hI) (λr s₁ h₁=>?_) λ_ _ h'=>h'.elim)));cases r with
 |none=>exact ϭ h₁
 |some v=>
  refine ϧ (adL h₁ (λ_ s₁' h₁'=>?_) λ_ _ h'=>h'.elim);refine ϧ (adL h₁' (λ_ s₂ h₂=>ϧ (adL h₂ (λok s₃ h₃=>?_) λ_ _ h'=>h'.elim)) λ_ _ h'=>h'.elim);cases ok with
  |false=>exact ϭ ⟨rfl,h₃⟩
  |true=>
   exact ϧ (ϧ (adL h₃ (λx s₄ h₄=>ϧ (adL h₄ (λ_ s₅ h₅=>ϭ (ϭ ⟨rfl,h₅⟩)) λ_ _ h'=>h'.elim)) λ_ _ h'=>h'.elim))
section
variable{X:Cx}{ϵ:List (δ×Obj)}{σ:St}{H H':Hp}{s s':μ}{scope:ai8}{fp:List δ}{N':List Str}
structure bw(env:Env)(scope:ai8):Prop where
 kind:scope.kind=.function
 free:∀y∈scope.names,y.2=.free->env.kindOf y.1=some .cell\/env.kindOf y.1=some .free
 cell:∀y∈scope.names,y.2≠.cell
 loc:∀y∈scope.names,y.2=.local->scope.names.lookup y.1=some .local
theorem bw.has(S:bw X.env scope)(I:Inv X ϵ σ H s):∀y∈scope.names,y.2=.free->∃c,X.env.cells.lookup y.1=some c:=λy hy e=>I.ok.has y.1 (S.free y hy e)
theorem bw.cl(S:bw X.env scope)(I:Inv X ϵ σ H s){x:Str}{c:δ}(h:(ϑ scope X.env).lookup x=some c):X.env.cells.lookup x=some c:=by
 obtain q|q:=Jb scope.names [] (S.has I) x c h
 .exact q
 .simp at q
theorem agz(S:bw X.env scope)(I:Inv X ϵ σ H s)(hf:∀b∈fp,aY X ϵ H b)(hfs:∀b∈fp,b<s.heap.objs.size):(aP X N' scope (ϑ scope X.env) s.heap.objs.size s H fp).Ok where
 mod:=I.ok.mod
 kind:=S.kind
 glob:=I.ok.glob
 blt:=I.ok.blt
 above:=Ϯ _
 inj:=λx y c h1 h2=>I.ok.inj x y c (S.cl I h1) (S.cl I h2)
 has:=λx hx=>Ff (env:=X.env) scope.names [] x (.inl (Le S.cell hx))
 cab:=λx c h _=>by cases h
 hd:=I.ok.hd
 frames:=I.ok.frames
 stk:=.inl rfl
 exf:=λb hb=>⟨acT (hfs b hb),λx c h=>(hf b hb).2.2.2.2.1 x c (S.cl I h)⟩
 bs:=I.bs
 bsz:=ah6 I.ok.bsz I.sz
 noex:=λb o e hb=>by
  rcases(hf b hb).2.2.2.1 with z|z
  .exact I.ok.noex b o e z
  .rw[(I.ok.bs b o e).1]at z;cases z
 exfs:=λb hb z=>by
  rcases acG.mp (I.stkSub b z)with e|e
  .exact(hf b hb).2.1 e
  .exact(hf b hb).2.2.1 e
 funs:=I.stack
 frf:=I.stkFree
theorem agx{N:List Str}{i:Nat}{x:Str}{v:V}(h1:N'[i]?=some x)(h2:(bf N' N σ scope)[i]?=some (some v)):scope.names.lookup x=some .free/\dY N σ x=some v:=by
 unfold bf at h2;rw[acy,h1]at h2;have h3:(if scope.names.lookup x=some .free then dY N σ x else none)=some v:=by simpa using h2
 split at h3
 .rename_i e;exact⟨e,h3⟩
 .cases h3
theorem QM(S:bw X.env scope)(I:Inv X ϵ σ H s)(hf:∀b∈fp,aY X ϵ H b)(hfs:∀b∈fp,b<s.heap.objs.size){h₁:ϫ}{m:Str->Option ε}{tk:Nat}(hns:h₁.Ns s.heap.objs.size m)(old:∀b o,s.heap.get? b=some o->h₁.get? b=some o):Inv (aP X N' scope (ϑ scope X.env) s.heap.objs.size s H fp) [] (bf N' X.N σ scope) H {s with heap:=h₁,toks:=tk}where
 ok:=agz S I hf hfs
 os:=rfl
 bare:=I.bare
 base:=Un.kept old
 loc:=by
  refine⟨m,hns,λi x v h1 h2 h3=>?_⟩;obtain⟨e1,e2⟩:=agx h1 h2;obtain⟨j,g1,g2⟩:=BP e2;have hm:(x,NameKind.free)∈scope.names:=PySem.mem_of_lookup e1;have hk:=S.free _ hm rfl;obtain⟨m0,_,hl⟩:=I.loc;have vis:pL X.env.scope x:=.inr hk;obtain⟨u,r,lk⟩:=hl j x v g1 g2 vis;refine⟨u,r,.inr ⟨Ng (env:=X.env) e1,?_⟩⟩;obtain⟨k,_⟩|⟨_,c,e,z⟩:=lk
  .obtain hk|hk:=hk
   .have hk':X.env.kindOf x=some .cell:=hk;rw[hk']at k;cases k
   .have hk':X.env.kindOf x=some .free:=hk;rw[hk']at k;cases k
  .obtain⟨c',e'⟩:=Ff (env:=X.env) scope.names [] x (.inl hm);have e3:=S.cl I (x:=x) (c:=c') e';rw[e]at e3;cases e3;obtain⟨o,ho,hd⟩:=z;exact⟨c,e',o,old _ _ ho,hd⟩
 cell:=λx c h=>by
  obtain⟨v,o,ho,hd⟩:=I.cell x c (S.cl I h);exact⟨v,o,old _ _ ho,hd⟩
 free:=I.hok.fresh (Ϯ _)
 freeC:=λx c h=>I.freeC x c (S.cl I h)
 pin:=λp hp=>absurd (show p∈([]:List (δ×Obj))from hp) (by simp)
 hok:=I.hok.kept old
 len:=by show(bf N' X.N σ scope).length=N'.length;unfold bf;rw[ϱ]
theorem Tu{τ:St}(I:Inv X ϵ σ H s)(hf:∀b∈fp,aY X ϵ H b)(J:Inv (aP X N' scope (ϑ scope X.env) s.heap.objs.size s H fp) [] τ H' s'):Inv X ϵ σ H' s':=by
 obtain⟨hh,g,d,t,os'⟩:=s';have e:os'=s.os:=J.os;subst e;exact I.call (h':=hh) (g':=g) (d':=d) (t':=t) (ch:=fp) J.base J.hok J.bare λb hb=>⟨(hf b hb).2.2.2.1,(hf b hb).2.1,(hf b hb).2.2.2.2.1,(hf b hb).2.2.2.2.2⟩
variable{elt iter tg:π}{ifs:List π}{pos:Pos}
def fQ(X Y:Cx)(tg elt:π)(ifs:List π)(J:It)(D:δ)(σ':St)(H:Hp)(Q:Hp->Prop):Prop:=
 ∃W:Nat->Nat->St->Hp->Prop,(∃m,W 0 m σ' (upd H D (.lst [])))/\∀i m τ H,W i m τ H->
  (J.stop i H/\Q H)\/(J.go i H/\∃N:St->Hp->Prop,(∀τ' H',N τ' H'->∃m',m'<m/\W (i+1) m' τ' H')/\∀x H',J.yld i H x H'->
   EG Y tg x τ H' λτ2 H2=>GJ Y ifs τ2 H2 λk H3=>if k=true then EV Y elt τ2 H3 λy H4=>∃xs,H4 D=some (.lst xs)/\xs.length<Ϫ/\N τ2 (upd H4 D (.lst (xs++[y])))else N τ2 H3)
theorem Nf{R:ε->δ->Result->μ->Prop}{it:δ}{tn:Nat->ϫ->Prop}{J:It}{E:ε->μ->Prop}{Q:δ->Hp->Prop}(hc:X.calm=true)(S:bw X.env scope)(I:Inv X ϵ σ H s)(T:Turn X.prog X.w X.K tg J fp it tn)(st:tn 0 s.heap)(hf:∀b∈fp,aY X ϵ H b)(h:∀(D C:δ)(s3:μ),H D=none->fQ X (aP X N' scope (ϑ scope X.env) C s3 (upd H D (.lst [])) fp) tg elt ifs J D (bf N' X.N σ scope) H (Q D))(hR:∀(D C:δ)(H':Hp)(s':μ),H D=none->Q D H'->Inv X ϵ σ H' s'->aY X ϵ H' C->(∃m,s'.heap.Ns C m)->R (.ref D) C (.ok .next) s'):ν (Ϧ X.prog X.w) X.A (newList []) (λacc s₃=>ν (Ϧ X.prog X.w) X.A (newFunctionEnv scope X.env.globals (ϑ scope X.env) [] X.env.qual none .none (some X.env)) (λcenv s₄=>
   codeAny (Ϧ X.prog X.w) X.A (.compStart (.ListComp elt [⟨tg,iter,ifs,0⟩] scope pos) 0 (.ref it) acc {cenv with scope:=relabel scope X.env}) (R acc cenv.locals) s₄) E s₃) E s:=by
 refine ak3 ?_;have hD:H s.heap.objs.size=none:=I.hok.fresh (Ϯ _);generalize hs3:({s with heap:=s.heap.push {cls:=.type "list",dict:=none,data:=.seq ([]:List ε).toArray}}:μ)=s3;have I3:Inv X ϵ σ (upd H s.heap.objs.size (.lst [])) s3:=by
  subst hs3;exact I.laid (t':=s.toks) (λb u e=>Heap.get?_push_of_some _ e) (Ϯ _) ⟨ajg _,[],0,.nil,acM _ rfl⟩
 have hsz:s3.heap.objs.size=s.heap.objs.size+1:=by subst hs3;exact anH ..
 have old3:∀b o,s.heap.get? b=some o->s3.heap.get? b=some o:=λb o e=>by subst hs3;exact Heap.get?_push_of_some _ e
 have tL:∀b∈fp,b<s.heap.objs.size:=λb hb=>by
  obtain⟨o,e,_⟩:=T.obj _ _ st b hb;exact ϴ e
 have gH:∀b∈fp,aY X ϵ (upd H s.heap.objs.size (.lst [])) b:=λb hb=>⟨by rw[ι (acT (tL b hb))];exact(hf b hb).1,(hf b hb).2⟩
 have st3:tn 0 s3.heap:=T.keep _ _ _ st λb _ o e=>old3 b o e
 have pZ:∀b∈fp,b<s3.heap.objs.size:=λb hb=>by rw[hsz];exact anY (tL b hb)
 refine wpAny_newFunctionEnv S.cell (by intro y hy;simp at hy) (λh₁ hns hsb=>?_) S.kind;have uJ:∀b o,s3.heap.get? b=some o->h₁.get? b=some o:=λb o e=>hsb.extBut b o (acT (ϴ e)) (Heap.get?_push_of_some _ e)
 generalize hY:aP X N' scope (ϑ scope X.env) s3.heap.objs.size s3 (upd H s.heap.objs.size (.lst [])) fp=Y;have hT:=h s.heap.objs.size s3.heap.objs.size s3 hD;rw[hY]at hT;obtain⟨W,⟨m0,w0⟩,turn⟩:=hT;generalize tX:({s3 with heap:=h₁,toks:=s3.toks+([]:List (Str×ε)).length}:μ)=s4;have I4:Inv Y [] (bf N' X.N σ scope) (upd H s.heap.objs.size (.lst [])) s4:=by
  subst tX;rw[<-hY];exact QM S I3 gH pZ hns uJ
 have iK:tn 0 s4.heap:=by
  subst tX;exact T.keep _ _ _ st3 λb _ o e=>uJ b o e
 have hP:Y.prog=X.prog:=by rw[<-hY];rfl
 have hw:Y.w=X.w:=by rw[<-hY];rfl
 have hK:Y.K=X.K:=by rw[<-hY];rfl
 have hA:Y.A=X.A:=by rw[<-hY];rfl
 have tu:Y.calm=true:=by rw[<-hY];exact hc
 have hE:Y.xe=λ_ _=>False:=by rw[<-hY];rfl
 have hen:Y.env=compEnvC scope (ϑ scope X.env) s3.heap.objs.size X.env:=by rw[<-hY];rfl
 have hloc:Y.env.locals=s3.heap.objs.size:=by rw[hen];rfl
 have mO:∀b∈fp,∀H':Hp,H' b=none->aY Y [] H' b:=λb hb H' e=>by
  rw[<-hY];refine⟨e,acT (pZ b hb),λz=>?_,.inl hb,λx c q=>(gH b hb).2.2.2.2.1 x c (S.cl I3 q),λp hp=>absurd (show p∈([]:List (δ×Obj))from hp) (by simp)⟩;rcases acG.mp (I3.stkSub b z)with e|e
  .exact(hf b hb).2.1 e
  .exact(hf b hb).2.2.1 e
 have loop:codeAny (Ϧ X.prog X.w) X.A (.compLoop (.ListComp elt [⟨tg,iter,ifs,0⟩] scope pos) 0 (.ref it) (.ref s.heap.objs.size) Y.env) (R (.ref s.heap.objs.size) s3.heap.objs.size) s4:=by
  refine Zj (λn s'=>∃i τ H',Inv Y [] τ H' s'/\tn i s'.heap/\(∀b∈fp,H' b=none)/\W i n τ H') ?_ m0 ⟨0,_,_,I4,iK,λb hb=>(gH b hb).1,w0⟩
  rintro n s5 ⟨i,τ,H5,I5,st5,fr5,w5⟩
  have toF:∀{α:Type}{t:Sem α}{Q:α->μ->Prop}{s:μ},ν (Ϧ Y.prog Y.w) Y.A t Q Y.xe s->ν (Ϧ X.prog X.w) X.A t Q (λ_ _=>False) s:=λh=>by
   rw[hP,hw,hA,hE]at h;exact h
  obtain⟨stop,qn⟩|⟨go,N,hN,step⟩:=turn i n τ H5 w5
  .have q:=T.done Y hP hw hK tu i [] s5 τ H5 (λ_ _=>False) I5 (λb hb=>mO b hb _ (fr5 b hb)) st5 stop;rw[hA]at q;refine χ q λr s6 hZ=>?_
   obtain⟨hr,I6⟩:=hZ;subst hr;have Wz:Inv X ϵ σ H5 s6:=by
    have Mp:=I6;rw[<-hY]at Mp;exact Tu I3 gH Mp
   refine hR _ _ H5 s6 hD qn Wz (I3.fpOk (Ϯ _) ?_) ?_
   .have :=I6.free;rw[hloc]at this;exact this
   .obtain⟨m,hn,_⟩:=I6.loc;rw[hloc]at hn;exact⟨m,hn⟩
  .have q:=T.item Y hP hw hK tu i [] s5 τ H5 (λ_ _=>False) I5 (λb hb=>mO b hb _ (fr5 b hb)) st5 go;rw[hA]at q;refine χ q λr s6 hZ=>?_
   obtain⟨u,hr,h6⟩:=hZ;subst hr;refine χ h6 λ_ s7 hZ=>?_
   obtain⟨x,H7,I7,r7,y7,lO,GZ⟩:=hZ;have Cz:=I7.pinned (λb hb=>mO b hb _ (GZ b hb)) (T.obj _ _ lO);have uE:∀{τ':St}{H8:Hp}{s8:μ},Inv Y ([]++mY fp s7.heap) τ' H8 s8->tn (i+1) s8.heap/\∀b∈fp,H8 b=none:=λ{τ' H8 s8} I8=>by
    refine⟨T.keep _ _ _ lO λb hb o e=>(I8.pin (b,o) (ad2 _ (ad2 _ (nW hb e)))).1,λb hb=>?_⟩;obtain⟨o,e,d⟩:=T.obj _ _ lO b hb;exact(I8.pin (b,o) (ad2 _ (ad2 _ (nW hb e)))).2.1
   refine toF (χ (step x H7 y7 _ s7 u Cz r7) λ_ s8 hZ=>?_);obtain⟨τ8,H8,I8,q8⟩:=hZ;refine toF (χ (q8 _ s8 I8) λok s9 hZ=>?_);obtain⟨H9,I9,q9⟩:=hZ;cases ok with
   |false=>
    have mF:N τ8 H9:=by simpa using q9
    obtain⟨m',hm,w9⟩:=hN _ _ mF;obtain⟨k1,k2⟩:=uE I9;show ∃m,_;exact⟨m',hm,i+1,τ8,H9,I9.unpinned,k1,k2,w9⟩
   |true=>
    have mF:EV Y elt τ8 H9 λy H4=>∃xs,H4 s.heap.objs.size=some (.lst xs)/\xs.length<Ϫ/\N τ8 (upd H4 s.heap.objs.size (.lst (xs++[y]))):=by simpa using q9
    show ν _ _ _ _ _ _;refine toF (χ (mF _ s9 I9) λz dW hZ=>?_);obtain⟨y,fY,Aw,r10,xs,e10,l10,n10⟩:=hZ;refine toF (χ (fX _ dW τ8 fY (.ref s.heap.objs.size) [y] _ [z] (λv cz=>v=.non/\cz=upd fY s.heap.objs.size (.lst (xs++[y]))) Aw rfl (.cons r10 .nil) ⟨_,xs,y,rfl,rfl,e10,l10,rfl,rfl⟩) λ_ s11 hZ=>?_);obtain⟨_,cz,rZ,_,_,zc⟩:=hZ;subst zc;obtain⟨m',hm,w11⟩:=hN _ _ n10;obtain⟨k1,k2⟩:=uE rZ;exact⟨m',hm,i+1,τ8,_,rZ.unpinned,k1,k2,w11⟩
 rw[hen]at loop;exact codeAny_compStart_list loop (T.self X.A 0 s4 _ _ iK loop)
theorem pU{Q:VK}(hc:X.calm=true)(S:bw X.env scope)(hs:∀x,foldedSetIterable iter X.env x=pure x)(h:EI X tg iter σ H λJ H1=>∀(fp:List δ)(D C:δ)(s3:μ),H1 D=none->fQ X (aP X N' scope (ϑ scope X.env) C s3 (upd H1 D (.lst [])) fp) tg elt ifs J D (bf N' X.N σ scope) H1 (λH'=>Q (.ref D) H')):EV X (.ListComp elt [⟨tg,iter,ifs,0⟩] scope pos) σ H Q:=by
 intro ϵ s I;rw[eval_ListComp];refine wpAny_comprehension_free (use:=none) rfl hs (GF (S.has I)) S.kind S.loc (χ (h ϵ s I) λv s1 h1=>χ h1 λitv s2 h2=>?_);obtain⟨it,fp,tn,J,H2,e,I2,T,st2,f2,q2⟩:=h2;subst e;refine Nf (R:=λacc C=>compPost (Ϧ X.prog X.w) X.A X.xe none (EP X ϵ σ Q) acc C) (Q:=λD H'=>Q (.ref D) H') hc S I2 T st2 f2 (λD C s3 hD=>q2 fp D C s3 hD) λD C H' s' hD qD IX fC hn=>?_
 obtain⟨m,hn⟩:=hn;obtain⟨f0,f1,Rw,f3,f4,f5⟩:=fC;exact⟨m,hn,λh' hsb=>⟨.ref D,H',IX.turned (t':=s'.toks) (λb o hb e=>hsb.extBut b o hb e) f0 f1 f3 f4 f5,rfl,qD⟩⟩
theorem O2{D:Ends}{y:Str}{py spos:Pos}{j:Nat}(hsw:alk (.ListComp elt [⟨tg,iter,ifs,0⟩] scope pos) (some (.Name y py)) spos.line X.env=pure true)(hc:X.calm=true)(S:bw X.env scope)(hs:∀x,foldedSetIterable iter X.env x=pure x)(hN:X.N.Nodup)(hi:nameAt X.N y=some j)(hx:X.env.scope.names.lookup y=some .local)(h:EI X tg iter σ H λJ H1=>∀(fp:List δ)(E C:δ)(s3:μ),H1 E=none->fQ X (aP X N' scope (ϑ scope X.env) C s3 (upd H1 E (.lst [])) fp) tg elt ifs J E (bf N' X.N σ scope) H1 (λH'=>D.nx (σ.set j (some (.ref E))) H')):SX X (.Assign [.Name y py] (.ListComp elt [⟨tg,iter,ifs,0⟩] scope pos) spos) D σ H:=by
 intro ϵ s I;rw[exec_Assign_Name_used _ _ _ _ hsw];refine ϧ (alO (ϧ ?_));show ν _ X.A (do let _<-comprehension (.ListComp elt [⟨tg,iter,ifs,0⟩] scope pos) scope X.env _ (newList []) false (eval iter X.env) (some (assign (.Name y py) X.env))) _ _ s;refine ϧ (adL (wpAny_comprehension_free (use:=some (assign (.Name y py) X.env)) (Q:=λ_ s'=>SP X ϵ D .next s') rfl hs (GF (S.has I)) S.kind S.loc
  (χ (h ϵ s I) λv s1 h1=>χ h1 λitv s2 h2=>?_)) (λ_ s' hq=>ϭ (ϭ hq)) λ_ _ e=>e)
 obtain⟨it,fp,tn,J,H2,e,I2,T,st2,f2,q2⟩:=h2;subst e;refine Nf (R:=λacc C=>compPost (Ϧ X.prog X.w) X.A X.xe (some (assign (.Name y py) X.env)) (λ_ s'=>SP X ϵ D .next s') acc C) (Q:=λE H'=>D.nx (σ.set j (some (.ref E))) H') hc S I2 T st2 f2 (λE C s3 hD=>q2 fp E C s3 hD) λE C H' s' hD qD IX fC hn=>?_
 obtain⟨m,hn⟩:=hn;obtain⟨f0,f1,Rw,f3,f4,f5⟩:=fC;show ν _ _ (assign (.Name y py) X.env (.ref E)) _ _ _;refine wpAny_assign_Name (wz IX hN (jQ hi) (.inl hx) (v:=.ref E) rfl (λs'' CW hb=>?_) (.inr hx));obtain⟨a,sb,ha⟩:=hb;have Dj:C≠a:=by
  obtain ha|ha:=ha
  .rw[ha];exact f1
  .intro z;exact f4 y a ha z.symm
 refine⟨m,hn.sameBut sb Dj,λh' hsb=>⟨σ.set j (some (.ref E)),H',CW.turned (t':=s''.toks) (λb o hb e=>hsb.extBut b o hb e) f0 f1 f3 f4 f5,qD⟩⟩
theorem zJ{Q:Bool->Hp->Prop}(q:Q true H):GJ X [] σ H Q:=λϵ s I=>by
 rw[List.forIn_nil];exact ϭ ⟨H,I,q⟩
theorem Yg{c:π}{Q:Bool->Hp->Prop}(h:ET X c σ H Q):GJ X [c] σ H Q:=λϵ s I=>by
 rw[List.forIn_cons];simp only[if_true];refine ϧ (ϧ (χ (h ϵ s I) λk s1 q=>ϭ ?_));dsimp only;rw[List.forIn_nil];exact ϭ q
end
theorem Ζ{c A B:Prop}[Decidable c](h1:c->A)(h2:¬c->B):if decide c=true then A else B:=by
 by_cases h:c
 .rw[if_pos (decide_eq_true h)];exact h1 h
 .rw[if_neg (by simpa using h)];exact h2 h
theorem bc{c A B:Prop}[Decidable c](q:B)(h:¬c:=by decide+kernel):if decide c=true then A else B:=Ζ (λz=>absurd z h) λ_=>q
theorem cu{c A B:Prop}[Decidable c](q:A)(h:c:=by rfl):if decide c=true then A else B:=Ζ (λ_=>q) λz=>absurd h z
theorem mj{c A B:Prop}[Decidable c](h1:¬c->A)(h2:c->B):if(!decide c)=true then A else B:=by
 by_cases h:c
 .rw[if_neg (by simp[h])];exact h2 h
 .rw[if_pos (by simp[h])];exact h1 h
theorem jJ{k:Bool}{A B:Prop}(h1:k=true->A)(h2:k=false->B):if k=true then A else B:=by
 cases k with
 |true=>rw[if_pos rfl];exact h1 rfl
 |false=>rw[if_neg abe];exact h2 rfl
theorem Cv{k:Bool}{A B:Prop}(h1:k=false->A)(h2:k=true->B):if(!k)=true then A else B:=by
 cases k with
 |true=>rw[if_neg (by decide)];exact h2 rfl
 |false=>rw[if_pos (by decide)];exact h1 rfl
theorem agd{A B:Prop}(h:B):if(!true)=true then A else B:=by rw[if_neg (by decide)];exact h
theorem abQ{A B:Prop}(h:A):if(!false)=true then A else B:=by rw[if_pos (by decide)];exact h
theorem ζ.upd{H:Hp}{p:δ}{o:HO}(h:H p=none):ζ H (L2.upd H p o):=λb u e=>by rw[ι (Θ e h)];exact e
theorem ϊ{H:Hp}{p:δ}(h:H p=none)(o:HO):ζ H (upd H p o)/\(upd H p o) p=some o:=⟨ζ.upd h,ρ⟩
theorem ζ.aie{K:ϩ}{H H':Hp}{a:δ}{xs:List V}(e:ζ H H')(h:ω K H a xs):ω K H' a xs:=by
 rcases h with(h|⟨o,h⟩)|h
 .exact .inl (.inl (e _ _ h))
 .exact .inl (.inr ⟨o,e _ _ h⟩)
 .exact .inr h
section
variable{X:Cx}{a e:π}{σ:St}{H:Hp}{Q:VK}{D:Ends}{pos p p':Pos}
theorem rT{tg:π}{body:List Ϩ}(hp:anv (Ϧ X.prog X.w) X.A X.env X.xe)(hc:X.calm=true)(hg:Gl X "range")(hm:X.mg "range"=none)(hs:ϰ [a] X.env=[(false,eval a X.env)])(h:EV X a σ H λv H1=>∃n:Int,v=.int n/\ -(2^62)<=n/\n<2^62/\∃Pv:Nat->St->Hp->Prop,Pv 0 σ H1/\
   (∀i σ' H',i<n.toNat->Pv i σ' H'->EG X tg (.int i) σ' H' λσ2 H2=>Κ X body {D with nx:=Pv (i+1),ct:=Pv (i+1),bk:=D.nx} σ2 H2)/\∀σ' H',Pv n.toNat σ' H'->D.nx σ' H'):SX X (.For tg (.Call (.Name "range" p) [a] [] p') body [] pos) D σ H:=by
 refine rJ hp hc (by intro _;rfl) (xN hg hm hs (eF hs (aa h λv H1 q=>?_)));obtain⟨n,rfl,h1,h2,Pv,h0,hst,hd⟩:=q;refine dX ⟨n,rfl,h1,h2,?_⟩;exact Uy (g:=EG X tg) (tb:=Κ X body) Pv h0 (λi σ' H' hi hP=>by rw[aom];exact hst i σ' H' hi hP) hd
theorem ie{tg:π}{body:List Ϩ}(hp:anv (Ϧ X.prog X.w) X.A X.env X.xe)(hc:X.calm=true)(hs:∀x,foldedSetIterable e X.env x=pure x)(h:EV X e σ H λv H1=>∃q xs,v=.ref q/\θ X.K H1 q xs/\∃Pv:Nat->St->Hp->Prop,Pv 0 σ H1/\(∀i σ' H',i<=xs.length->Pv i σ' H'->θ X.K H' q xs)/\
   (∀i x σ' H',xs[i]?=some x->Pv i σ' H'->EG X tg x σ' H' λσ2 H2=>Κ X body {D with nx:=Pv (i+1),ct:=Pv (i+1),bk:=D.nx} σ2 H2)/\∀σ' H',Pv xs.length σ' H'->D.nx σ' H'):SX X (.For tg e body [] pos) D σ H:=by
 refine rJ hp hc hs (rD (aa h λv H1 q=>?_));obtain⟨q,xs,rfl,hq,Pv,h0,hl,hst,hd⟩:=q;exact⟨q,rfl,⟨xs,hq⟩,aiD (g:=EG X tg) (tb:=Κ X body) Pv h0 hl hst hd⟩
theorem Pk{Y:Cx}{elt:π}{J:It}{E:δ}{τ0:St}{Q:Hp->Prop}{y:Str}{py:Pos}{j:Nat}(hN:Y.N.Nodup)(hj:nameAt Y.N y=some j)(hx:Y.env.scope.names.lookup y=some .local)(n:Nat)(hn:n<=Ϫ)(Pi:Nat->V->Prop)(It:Nat->V->Prop)(hE:H E=none)(go:∀i H1,ζ (upd H E (.lst [])) (upd H1 E (.lst []))->i<n->J.go i H1)(stop:∀H1,ζ (upd H E (.lst [])) (upd H1 E (.lst []))->J.stop n H1)(yld:∀i H1 x H2,i<n->ζ (upd H E (.lst [])) (upd H1 E (.lst []))->J.yld i H1 x H2->It i x/\H2=H1)(step:∀i x H1,i<n->It i x->ζ H H1->EV Y elt (τ0.set j (some x)) H1 λv H2=>Pi i v/\ζ H1 H2)(fin:∀H1 xs,xs.length=n->(∀i v,xs[i]?=some v->Pi i v)->H1 E=some (.lst xs)->ζ H H1->Q H1):fQ X Y (.Name y py) elt [] J E τ0 H Q:=by
 have sU:∀{H1:Hp},ζ H H1->ζ (upd H E (.lst [])) (upd H1 E (.lst [])):=λ{H1} s b o e=>by
  by_cases hb:b=E
  .subst hb;rw[ρ]at e⊢;exact e
  .rw[ι hb]at e⊢;exact s b o e
 refine⟨λi m τ H1=>m=n-i/\i<=n/\ζ H H1/\(τ=τ0\/∃x,τ=τ0.set j (some x))/\∃xs,H1 E=some (.lst xs)/\xs.length=i/\∀k v,xs[k]?=some v->Pi k v,⟨n,by simp,ajg _,ζ.upd hE,.inl rfl,[],ρ,rfl,λk v e=>by simp at e⟩,?_⟩
 rintro i m τ H1 ⟨rfl,hi,s1,hτ,xs,eE,lx,px⟩
 by_cases hlt:i<n
 .refine .inr ⟨go i H1 (sU s1) hlt,λτ' H'=>ζ H H'/\(τ'=τ0\/∃x,τ'=τ0.set j (some x))/\∃xs,H' E=some (.lst xs)/\xs.length=i+1/\∀k v,xs[k]?=some v->Pi k v,λτ' H' ⟨a,b,c⟩=>⟨n-(i+1),by omega,rfl,hlt,a,b,c⟩,λx H2 y=>?_⟩;obtain⟨hI,e2⟩:=yld i H1 x H2 hlt (sU s1) y;subst e2;refine Ι hN hj (.inl hx) (.inr hx) (zJ ?_);rw[if_pos rfl];have eτ:τ.set j (some x)=τ0.set j (some x):=by
   obtain e|⟨z,e⟩:=hτ
   .rw[e]
   .rw[e,List.set_set]
  rw[eτ];refine aa (step i x H2 hlt hI s1) λv H3 ⟨pv,s2⟩=>⟨xs,s2 _ _ eE,by omega,?_⟩
  refine⟨λb o e=>?_,.inr ⟨x,rfl⟩,xs++[v],ρ,by simp[lx],λk u e=>?_⟩
  .rw[ι (Θ e hE)];exact s2 _ _ (s1 _ _ e)
  .by_cases hk:k<xs.length
   .rw[akE hk]at e;exact px k u e
   .have hk2:k=i:=by
     have:=(aaF.mp e).1;rw[adI,aec]at this;omega
    subst hk2;rw[<-lx,amV]at e;cases e;exact pv
 .have e:i=n:=by omega
  subst e;exact .inl ⟨stop H1 (sU s1),fin H1 xs lx px eE s1⟩
theorem Q4{elt:π}{scope:ai8}{y:Str}{py:Pos}{j:Nat}(N':List Str){σ':St}(S:bw X.env scope)(hm:X.mg "range"=none)(h:EV X a σ H λv H1=>∃n:Int,v=.int n/\ -(2^62)<=n/\n.toNat<=Ϫ/\∃Pi:Nat->V->Prop,
   (∀(fp:List δ)(E C:δ)(s3:μ)(H0:Hp)(i:Nat)(H2:Hp),i<n.toNat->ζ H1 H2->EV (aP X N' scope (ϑ scope X.env) C s3 H0 fp) elt (σ'.set j (some (.int i))) H2 λv H3=>Pi i v/\ζ H2 H3)/\
   ∀(E:δ)(H2:Hp)(xs:List V),H1 E=none->xs.length=n.toNat->(∀i v,xs[i]?=some v->Pi i v)->H2 E=some (.lst xs)->ζ H1 H2->Q (.ref E) H2)(hσ:bf N' X.N σ scope=σ':=by rfl)(hc:X.calm=true:=by rfl)(hN:N'.Nodup:=by decide+kernel)(hj:nameAt N' y=some j:=by rfl)(hx:scope.names.lookup y=some .local:=by rfl)(hg:Gl X "range":=by rfl)(hs:ϰ [a] X.env=[(false,eval a X.env)]:=by rfl):EV X (.ListComp elt [⟨.Name y py,.Call (.Name "range" p) [a] [] p',[],0⟩] scope pos) σ H Q:=by
 refine pU (N':=N') hc S (by intro _;rfl) (xN hg hm hs (eF hs (aa h λv H1 q=>?_)));obtain⟨n,rfl,h1,h2,Pi,hst,hfin⟩:=q;have hsz:(Ϫ:Nat)<2^62:=by rw[ϳ];decide
 refine dX ⟨n,rfl,h1,by omega,λfp E C s3 hE=>?_⟩;rw[hσ];refine Pk (Y:=aP X N' scope (ϑ scope X.env) C s3 (upd H1 E (.lst [])) fp) hN hj (lookup_relabel_local hx) n.toNat h2 Pi (λi x=>x=.int i) hE (λi _ _ hi=>hi) (λ_ _=>Ϯ _) (λi H1 x H2 _ _ yl=>?_) (λi x H2 hi ex s=>?_) (λH2 xs l px eE s=>hfin E H2 xs hE l px eE s)
 .obtain⟨e1,e2⟩:=yl;exact⟨by rw[e2,aom],e1⟩
 .subst ex;exact hst fp E C s3 _ i H2 hi s
theorem Vj{elt:π}{scope:ai8}{y:Str}{py:Pos}{j:Nat}(N':List Str){σ':St}(hσ:bf N' X.N σ scope=σ')(hc:X.calm=true)(S:bw X.env scope)(hN:N'.Nodup)(hj:nameAt N' y=some j)(hx:scope.names.lookup y=some .local)(hs:∀x,foldedSetIterable e X.env x=pure x)(h:EV X e σ H λv H1=>∃z:Str,v=.str z/\z.cps.size<=Ϫ/\∃Pi:Nat->V->Prop,
   (∀(fp:List δ)(E C:δ)(s3:μ)(H0:Hp)(i c:Nat)(H2:Hp),z.cps.toList[i]?=some c->ζ H1 H2->EV (aP X N' scope (ϑ scope X.env) C s3 H0 fp) elt (σ'.set j (some (.str ⟨#[c]⟩))) H2 λv H3=>Pi i v/\ζ H2 H3)/\
   ∀(E:δ)(H2:Hp)(xs:List V),H1 E=none->xs.length=z.cps.size->(∀i v,xs[i]?=some v->Pi i v)->H2 E=some (.lst xs)->ζ H1 H2->Q (.ref E) H2):EV X (.ListComp elt [⟨.Name y py,e,[],0⟩] scope pos) σ H Q:=by
 refine pU (N':=N') hc S hs (adn (aa h λv H1 q=>?_));obtain⟨z,rfl,h2,Pi,hst,hfin⟩:=q;refine⟨z,rfl,λfp E C s3 hE=>?_⟩;rw[hσ];refine Pk (Y:=aP X N' scope (ϑ scope X.env) C s3 (upd H1 E (.lst [])) fp) hN hj (lookup_relabel_local hx) z.cps.size h2 Pi (λi x=>∃c,z.cps.toList[i]?=some c/\x=.str ⟨#[c]⟩) hE (λi _ _ hi=>hi) (λ_ _=>Ϯ _) (λi H1 x H2 _ _ yl=>?_) (λi x H2 hi ex s=>?_) (λH2 xs l px eE s=>hfin E H2 xs hE l px eE s)
 .obtain⟨e1,c,e2,e3⟩:=yl;exact⟨⟨c,by simpa using e2,e3⟩,e1⟩
 .obtain⟨c,e1,e2⟩:=ex;subst e2;exact hst fp E C s3 _ i c H2 e1 s
end
section
variable{P:ϯ}{w:Ϭ}{K:ϩ}{mg:Str->Option ε}{base:ϫ}{cc:Bool}
abbrev iR(cc:Bool)(P:ϯ)(w:Ϭ)(K:ϩ)(mg:Str->Option ε)(base:ϫ)(N:List Str)(qual:Str)(scope:ai8)(f:δ)(cd:ε)(A:ϲ)(outer:List Env)(s:μ)(H:Hp)(E:XK):Cx:=
 jk cc (bL P w) P w K mg base N qual scope f cd A outer s H E
theorem uO{x qual:Str}{st:Ϩ}{ps N:List Str}{k:Nat}{sp:Sp}{f:δ}{fd:akn}(F:cN K x qual st f fd)(S:Γ N ps (υ st))(len:∀vs H Q E,sp vs H Q E->vs.length=ps.length)(body:∀(Ϲ:ε)(A:ϲ)(outer:List Env)(s:μ)(H:Hp)(vs:List V)(Q:VK)(E:XK),ϙ cc k (A.deeper (envOfC qual (υ st) s.heap.objs.size f Ϲ))->sp vs H Q E->
   Κ (iR cc P w K mg base N qual (υ st) f Ϲ A outer s H E) (ϝ st) {nx:=λ_ H'=>Q .non H',rt:=Q} (start N vs) H):cO P w K mg base (bL P w) cc (k+1) f fd ps sp:=by
 obtain⟨oc,od,kV,doc,pm,an,Ϲ,ct,osl,rfl,lk,hcd⟩:=id F.ex;exact VP lk hcd S len λA outer s H vs Q E hr h=>⟨_,uo,body Ϲ A outer s H vs Q E hr h⟩
theorem Ο{x:Str}{st:Ϩ}{ps N:List Str}{k:Nat}{sp:Sp}(F:∃f fd,cN K x x st f fd/\mg x=some (.ref f))(S:Γ N ps (υ st))(body:∀(f:δ)(Ϲ:ε)(A:ϲ)(outer:List Env)(s:μ)(H:Hp)(vs:List V)(Q:VK)(E:XK),ϙ cc k (A.deeper (envOfC x (υ st) s.heap.objs.size f Ϲ))->sp vs H Q E->
   let X:=iR cc P w K mg base N x (υ st) f Ϲ A outer s H E;Κ X (ϝ st) {nx:=λ_ H'=>Q .non H',rt:=Q} (start N vs) H)(hb:∀(kV doc pm:ε)(an:Option δ)(Ϲ ct:ε)(us:List ε),us.length=ps.length->bindArgs (aoE x x (jl st) (ϝ st) (υ st) .none kV doc pm an Ϲ ct) ⟨us,[]⟩=pure (ps.zip us):=by walk_at"bb")(len:∀vs H Q E,sp vs H Q E->vs.length=ps.length:=by walk_at"ln"):Def P w K mg base cc (k+1) x ps sp:=by
 obtain⟨f,fd,F,hm⟩:=F;exact⟨f,fd,hm,F.kp,F.binds hb,uO F S len λϹ A outer s H vs Q E hr h=>body f Ϲ A outer s H vs Q E hr h⟩
end
def Tz(K:ϩ):Sp:=λvs H Q _=>∃(a:δ)(ns:List Int),vs=[.ref a]/\θ K H a (ns.map V.int)/\ns.length<=63/\∀H',Q (.bl true) H'
def Ϗ(z:Str)(lo hi:Option Int):Str:=⟨((z.cps.toList.drop (HT.ϋ z.length 0 lo)).take (HT.ϋ z.length z.length hi-HT.ϋ z.length 0 lo)).toArray⟩
theorem uU(n d:Nat)(v:Int):max 0 (min (if v<0 then v+(n:Int)else v) (n:Int))=((HT.ϋ n d (some v):Nat):Int):=by
 rw[<-HT.adH];split <;>omega
theorem Kq(lo hi:Option Int)(n:Nat):Builtin.Str.strSliceIndices lo hi 1 n=(ad6 (HT.ϋ n n hi-HT.ϋ n 0 lo)).map (λm=>HT.ϋ n 0 lo+m):=by
 have e:Builtin.Str.strSliceIndices lo hi 1 n=sliceRange ((HT.ϋ n 0 lo:Nat):Int) ((HT.ϋ n n hi:Nat):Int) 1:=by
  cases lo with
  |none=>
   cases hi with
   |none=>rfl
   |some v=>rw[<-uU n n v];rfl
  |some u=>
   cases hi with
   |none=>rw[<-uU n 0 u];rfl
   |some v=>rw[<-uU n 0 u, <-uU n n v];rfl
 rw[e];generalize HT.ϋ n 0 lo=a;generalize HT.ϋ n n hi=b;by_cases h:a<=b
 .have :=StrLaws.strSliceIndices_plain (len:=b) h (Ϯ b);rw[<-this];have e2:Builtin.Str.strSliceIndices (some (a:Int)) (some (b:Int)) 1 b=sliceRange (a:Int) (b:Int) 1:=by
   have h1:¬((a:Int)<0):=by omega
   have h2:¬((b:Int)<0):=by omega
   have e1:max (0:Int) (min (a:Int) (b:Int))=a:=by omega
   have e2:max (0:Int) (min (b:Int) (b:Int))=b:=by omega
   simp only[Builtin.Str.strSliceIndices,h1,h2,if_false,e1,e2,show((1:Int)>0)=True from by simp,if_true]
  rw[e2]
 .have e3:b-a=0:=by omega
  rw[e3];have:¬((a:Int)<b):=by omega
  simp[sliceRange,this]
theorem agb(z:Str)(lo hi:Option Int):(⟨((Builtin.Str.strSliceIndices lo hi 1 z.length).filterMap (z.cps[·]?)).toArray⟩:Str)=Ϗ z lo hi:=by
 rw[Kq];unfold Ϗ;have h1:=HT.RK z.length z.length (Ϯ _) hi;have hl:z.cps.toList.length=z.length:=by simp[Str.length]
 by_cases h:HT.ϋ z.length 0 lo<=HT.ϋ z.length z.length hi
 .have :=StrLaws.picks z.cps.toList (HT.ϋ z.length z.length hi-HT.ϋ z.length 0 lo) (HT.ϋ z.length 0 lo) (by omega);rw[<-this];simp
 .have e3:HT.ϋ z.length z.length hi-HT.ϋ z.length 0 lo=0:=by omega
  rw[e3];simp
theorem Qy{v:ε}{o:Option Int}(h:IsPart v o):∃l:Option (Int×Tok),v=partValue l/\l.map (·.1)=o:=by
 cases h with
 |none=>exact⟨none,rfl,rfl⟩
 |int i t=>exact⟨some (i,t),rfl,rfl⟩
theorem aaY{X:Cx}:qR X (λx lo hi H Q=>∃z,x=.str z/\z.length<=Ϫ/\Q (.str (Ϗ z lo hi)) H):=by
 intro ϵ s σ H x v vl vu lo hi sl Q I rx hs pl pu h;obtain⟨z,rfl,hz,q⟩:=h;obtain⟨t,rfl⟩:=rx;refine⟨"str",_,F.slot_str_getitem.lookup,typeIs_str s z t,?_⟩;obtain⟨l,rfl,rfl⟩:=Qy pl;obtain⟨u,rfl,rfl⟩:=Qy pu;have hsl:s.heap.IsSlice sl l u none:=by
  obtain⟨o,ho,hc,hd⟩:=hs;exact⟨o,ho,hc,hd⟩
 refine wpAny_getItem_str_slice hsl rfl ?_;have e:(slicePicked z l u none)=Builtin.Str.strSliceIndices (l.map (·.1)) (u.map (·.1)) 1 z.length:=rfl;unfold sliceMade;have key:(⟨((slicePicked z l u none).filterMap (z.cps[·]?)).toArray⟩:Str)=Ϗ z (l.map (·.1)) (u.map (·.1)):=by rw[e];exact agb z _ _
 split
 .rename_i hh;have hlen:(slicePicked z l u none).length=z.length:=by
   simp only[aaV,beq_iff_eq]at hh;exact hh.2
  have whole:Ϗ z (l.map (·.1)) (u.map (·.1))=z:=by
   rw[e,Kq,ϱ,ahl]at hlen;have h1:=HT.RK z.length z.length (Ϯ _) (u.map (·.1));have hl:z.cps.toList.length=z.length:=by simp[Str.length]
   unfold Ϗ;by_cases hz0:z.length=0
   .have :z.cps.toList=[]:=List.eq_nil_of_length_eq_zero (by omega);rw[this];have e2:z.cps= #[]:=by
     have:=congrArg apd this;simpa using this
    obtain⟨c⟩:=z;simp at e2;subst e2;simp
   .have ha:HT.ϋ z.length 0 (l.map (·.1))=0:=by omega
    have hb:HT.ϋ z.length z.length (u.map (·.1))=z.length:=by omega
    rw[ha,hb,aos,aoS,akk (by omega)]
  exact⟨.str (Ϗ z (l.map (·.1)) (u.map (·.1))),H,I,⟨t,by rw[whole]⟩,q⟩
 .rw[key];refine⟨?_,.str (Ϗ z (l.map (·.1)) (u.map (·.1))),H,I.tok _,⟨_,rfl⟩,q⟩;have:(Ϗ z (l.map (·.1)) (u.map (·.1))).length<=z.length:=by
   unfold Ϗ Str.length;simp;omega
  omega
section
variable{X:Cx}{H:Hp}{Q:VK}{z y:Str}
theorem jt{lo hi:Option Int}(g:Q (.str (Ϗ z lo hi)) H)(h:z.length<=Ϫ:=by omega):SL X (.str z) lo hi H Q:=⟨_,aaY,z,rfl,h,g⟩
theorem dh{id:String}{r:V->List V->Hp->VK->Prop}{x:V}{xs:List V}(h:uF X id r)(q:r x xs H Q):MT X id x xs H Q:=⟨r,h,q⟩
theorem Qi{ys:List Str}:∀{us:List ε},Vals (ys.map V.str) us->StrsAre us ys:=by
 induction ys with
 |nil=>intro us r;cases r;exact .nil
 |cons y ys ih=>
  intro us r;cases r with
  |cons r rr=>
   obtain⟨t,rfl⟩:=r;exact .cons y t (ih rr)
theorem rE{q:δ}{ys:List Str}(h:θ X.K H q (ys.map V.str))(hw:(ys.map (·.length)).sum+ys.length*z.length<=16777216)(g:Q (.str (Str.join z ys)) H):MT X "str.join" (.str z) [.ref q] H Q:=by
 refine dh (r:=λx xs H Q=>∃z q ys,x=.str z/\xs=[.ref q]/\θ X.K H q (ys.map V.str)/\(ys.map (·.length)).sum+ys.length*z.length<=16777216/\Q (.str (Str.join z ys)) H) ?_ ⟨z,q,ys,rfl,rfl,h,hw,g⟩;intro ϵ s σ H x xs v us Q I rx rs h;obtain⟨z,q,ys,rfl,rfl,h,hw,g⟩:=h;obtain⟨t,rfl⟩:=rx;obtain⟨u,rfl,ru⟩:=vals1 rs;cases(show u=Value.ref q from ru);obtain⟨ϸ,rv,pl,_⟩:=I.list h;refine join_list pl.isList (by simpa using Qi rv) hw λt' k=>⟨.str (Str.join z ys),H,I.tok k,⟨t',?_⟩,g⟩
 have e:Txt.join z ys=Str.join z ys:=by
  unfold Txt.join;cases ys with
  |nil=>rfl
  |cons y r=>exact StrLaws.glued_cons z r y
 rw[e]
theorem K9(g:Q (.bl (Txt.startswith z y)) H):MT X "str.startswith" (.str z) [.str y] H Q:=by
 refine dh (r:=λx xs H Q=>∃z y,x=.str z/\xs=[.str y]/\Q (.bl (Txt.startswith z y)) H) ?_ ⟨z,y,rfl,rfl,g⟩;intro ϵ s σ H x xs v us Q I rx rs h;obtain⟨z,y,rfl,rfl,g⟩:=h;obtain⟨t,rfl⟩:=rx;obtain⟨u,rfl,ru⟩:=vals1 rs;obtain⟨t',rfl⟩:=ru;exact SC.startswith ⟨.bl _,H,I,rfl,g⟩
theorem Qq{q:δ}{bs:List Bool}(hc:X.calm=true)(h:θ X.K H q (bs.map V.bl))(g:Q (.bl (bs.all id)) H):CL X (.builtin "all") [.ref q] H Q:=by
 refine c7 (r:=λxs H Q=>∃q bs,xs=[.ref q]/\θ X.K H q (bs.map V.bl)/\Q (.bl (bs.all id)) H) ?_ ⟨q,bs,rfl,h,g⟩;intro ϵ s σ H xs us Q I r h;obtain⟨q,bs,rfl,h,g⟩:=h;obtain⟨u,rfl,ru⟩:=vals1 r;cases(show u=Value.ref q from ru);obtain⟨ϸ,rv,pl,hz⟩:=I.list h;refine call_all_walk (anB pl.isList ?_);have hq:q<s.heap.objs.size:=by
  obtain⟨o,ho,_⟩:=pl.isList;exact ϴ ho
 have hlen:ϸ.length=bs.length:=by have:=rv.length;rw[ϱ]at this;exact this.symm
 refine⟨s.heap.objs.size,[s.heap.objs.size,q],[s.heap.objs.size],ϸ.toArray.size,(λi v=>ϸ.toArray[i]?=some v),(λi h=>h.IsListIter s.heap.objs.size q i/\h.IsList q ϸ.toArray),λi=>bs.getD i true,rfl,Walks.list (A:=X.A.in1) (show X.A.in1.handled=none from I.ok.hd hc) s.heap.objs.size q (acT hq) ϸ.toArray,⟨⟨_,acM _ rfl,rfl,rfl⟩,?_⟩,?_,λh' tk hk=>?_⟩
 .obtain⟨o,ho,r⟩:=pl.isList;exact⟨o,Heap.get?_push_of_some _ ho,r⟩
 .intro i v s Q E hv hq;have hv':ϸ[i]?=some v:=by simpa using hv
  have hi:i<bs.length:=by rw[<-hlen];exact(aaF.mp hv').1
  obtain⟨u,e1,e2⟩:=rv.get (i:=i) (x:=V.bl bs[i]) (by simp[hi]);rw[hv']at e1;cases e1;cases(show v=Value.bool bs[i]from e2);refine ah9 ?_;have:bs.getD i true=bs[i]:=by simp[hi]
  have hq':Q (bs.getD i true) s:=hq;rw[this]at hq';exact hq'
 .have e:(ad6 ϸ.toArray.size).all (λi=>bs.getD i true)=bs.all id:=by
   rw[adi,hlen,agp,ady,ady];constructor
   .intro h b hb;obtain⟨i,hi,e⟩:=anp hb;have:=h i (by simpa using hi);simpa [hi,e]using this
   .intro h i hi;have hi':i<bs.length:=by simpa using hi
    have:=h bs[i] (aj9 hi');simpa [hi']using this
  rw[e];have fp:=I.fpOk (Ϯ _) (I.hok.fresh (Ϯ _));have I1:Inv X ϵ σ H {s with heap:=s.heap.push {cls:=.type "list_iterator",data:=.fields #[.ref q,.int 0 0]}}:=I.kept (t':=s.toks) λb o e=>Heap.get?_push_of_some _ e
  refine⟨.bl _,H,I1.turned (it:=s.heap.objs.size) (λb o hb e=>hk b o (by simpa using hb) e) (I.hok.fresh (Ϯ _)) fp.2.1 fp.2.2.2.1 fp.2.2.2.2.1 fp.2.2.2.2.2,rfl,g⟩
end
theorem bK{env:Env}{scope:ai8}(sc:ai8)(hsc:env.scope=sc:=by rfl)(hk:scope.kind=.function:=by rfl)(h:(scope.names.all λy=>(if y.2==.free then(sc.names.lookup y.1==some .cell||sc.names.lookup y.1==some .free)else true)&&y.2 !=.cell&&(if y.2==.local then scope.names.lookup y.1==some .local else true))=true:=by decide+kernel):bw env scope:=by
 have h':=ady.mp h;refine⟨hk,λy hy e=>?_,λy hy e=>?_,λy hy e=>?_⟩
 .have q:=h' y hy;simp only[e,beq_self_eq_true,if_true,aaV,anx,beq_iff_eq]at q;show env.scope.names.lookup y.1=_\/env.scope.names.lookup y.1=_;rw[hsc];exact q.1.1
 .have q:=h' y hy;rw[e]at q;simp at q
 .have q:=h' y hy;simp only[e,aaV,beq_iff_eq,beq_self_eq_true,if_true]at q;exact q.2
theorem gb{α:Type}{xs:List V}{ys:List α}(f:α->V)(hl:xs.length=ys.length)(h:∀(i:Nat) v,xs[i]?=some v->∃c,ys[i]?=some c/\v=f c):xs=ys.map f:=by
 apply List.ext_getElem?;intro i;rw[acy];cases e:xs[i]? with
 |none=>
  have:xs.length<=i:=List.getElem?_eq_none_iff.mp e;rw[List.getElem?_eq_none (by omega)];rfl
 |some v=>
  obtain⟨c,e1,e2⟩:=h i v e;rw[e1,e2];rfl
section
variable{X:Cx}{H:Hp}{Q:VK}
theorem ajS(q:Q (.int 1000000000) H):OP X (binaryOp .Pow) (.int 10) (.int 9) H Q:=Gg ⟨by decide,by decide,by decide⟩ (show Q (.int (10^(9:Int).toNat)) H from(show(10:Int)^(9:Int).toNat=1000000000 from by decide)▸q)
theorem ag9(q:Q (.int 1000000000000000000) H):OP X (binaryOp .Pow) (.int 10) (.int 18) H Q:=Gg ⟨by decide,by decide,by decide⟩ (show Q (.int (10^(18:Int).toNat)) H from(show(10:Int)^(18:Int).toNat=1000000000000000000 from by decide)▸q)
end
def EJ(X:Cx)(vs:List π)(out:Str)(σ:St)(H:Hp)(Q:VK):Prop:=
 ∀(ϵ:List (δ×Obj))(s:μ),Inv X ϵ σ H s->ν (Ϧ X.prog X.w) X.A (joinParts out (evalEach vs X.env)) (EP X ϵ σ Q) X.xe s
section
variable{X:Cx}{σ:St}{H:Hp}{Q:VK}{v v₁ v₂:π}{rest:List π}{pos:Pos}{out:Str}
theorem aek(h:EJ X (v₁::v₂::rest) Str.empty σ H Q):EV X (.JoinedStr (v₁::v₂::rest) pos) σ H Q:=λϵ s I=>h ϵ s I
theorem ab2(hl:out.length<=Ϫ)(q:Q (.str out) H):EJ X [] out σ H Q:=λϵ s I=>joinParts_nil ⟨.str out,H,I.tok _,⟨_,rfl⟩,q⟩ hl
theorem acN(h:EV X v σ H λx H1=>∃y,x=.str y/\(out++y).length<=Ϫ/\EJ X rest (out++y) σ H1 Q):EJ X (v::rest) out σ H Q:=λϵ s I=>by
 refine joinParts_cons (χ (h ϵ s I) λu s1 hZ=>?_);obtain⟨x,H1,I1,r,y,e,hl,q⟩:=hZ;subst e;obtain⟨t,rfl⟩:=r;exact⟨hl,q ϵ s1 I1⟩
theorem nJ(h:EV X v σ H λx H1=>∃z,x=.str z/\z.length<=Ϫ/\Q (.str z) H1):EV X (.FormattedValue v (-1) none pos) σ H Q:=λϵ s I=>by
 refine FormattedValue_plain (χ (h ϵ s I) λu s1 hZ=>?_);obtain⟨x,H1,I1,r,z,e,hl,q⟩:=hZ;subst e;obtain⟨t,rfl⟩:=r;exact formatField_str (λt' tk=>⟨.str z,H1,I1.tok tk,⟨t',rfl⟩,q⟩) hl
theorem tK(h:EV X v σ H λx H1=>∃i,x=.int i/\i.natAbs.log2<1920/\Q (.str (toString i)) H1):EV X (.FormattedValue v (-1) none pos) σ H Q:=λϵ s I=>by
 refine FormattedValue_plain (χ (h ϵ s I) λu s1 hZ=>?_);obtain⟨x,H1,I1,r,z,e,hl,q⟩:=hZ;subst e;obtain⟨t,rfl⟩:=r;exact formatField_int_small hl ⟨.str (toString z),H1,I1.tok _,⟨_,rfl⟩,q⟩
end
def jU(X:Cx)(vs:List π)(n:Nat)(σ:St)(H:Hp)(R:Hp->Prop):=∀out:Str,out.length<=n->∀Q:VK,(∀z H',R H'->Q (.str z) H')->EJ X vs out σ H Q
theorem Ti(x y:Str):(x++y).length=x.length+y.length:=by
 show(x.cps++y.cps).size=_;rw[aoK];rfl
section
variable{X:Cx}{σ:St}{H:Hp}{Q:VK}{R:Hp->Prop}{v v₁ v₂:π}{rest:List π}{pos:Pos}{n:Nat}
theorem T4(h:jU X (v₁::v₂::rest) 0 σ H λH'=>∀z,Q (.str z) H'):EV X (.JoinedStr (v₁::v₂::rest) pos) σ H Q:=aek (h Str.empty (Ϯ _) Q λz H' r=>r z)
theorem Z1(hn:n<=Ϫ)(r:R H):jU X [] n σ H R:=λout ho Q k=>ab2 (ah6 ho hn) (k out H r)
theorem Mf(h:EV X v σ H λx H1=>∃y m,x=.str y/\y.length<=m/\n+m<=Ϫ/\jU X rest (n+m) σ H1 R):jU X (v::rest) n σ H R:=λout ho Q k=>
 acN (aa h λx H1 ⟨y,m,e,hy,hm,q⟩=>⟨y,e,by rw[Ti];omega,q (out++y) (by rw[Ti];omega) Q k⟩)
end
abbrev dq:List ε:=[.type "ValueError",.type "Exception",.type "BaseException",.type "object"]
def η(mg:Str->Option ε)(x:Str):δ:=match mg x with
 |some (.ref C)=>C
 |_=>0
theorem bZ{mg:Str->Option ε}{x:Str}{C:δ}(h:mg x=some (.ref C)):η mg x=C:=by unfold η;rw[h]
structure oJ(K:ϩ)(mg:Str->Option ε)(x:Str):Prop where
 at_:mg x=some (.ref (η mg x))
 ex:api K (η mg x) dq "ValueError.__new__"=true
theorem abx{K:ϩ}{mg:Str->Option ε}{x:Str}{C:δ}(h:mg x=some (.ref C))(e:api K C dq "ValueError.__new__"=true):oJ K mg x:=by
 have z:η mg x=C:=by unfold η;rw[h]
 exact⟨by rw[z];exact h,by rw[z];exact e⟩
theorem acI{K:ϩ}{h:ϫ}{N:δ}{mg:Str->Option ε}{n:Str}{v:ε}(X:K.In h)(G:h.Ns N mg)(e:ao6 K N n=some (some v)):mg n=some v:=by
 obtain⟨o,es,ep,ho,hd,_,hf⟩:=G;unfold ao6 at e;split at e
 .rename_i c d es' n' sl q;have:=X _ _ q;rw[ho]at this;cases this;cases hd;split at e
  .rename_i en he;cases e;rw[<-hf];unfold nsFind findBy;rw[<-aoz,he];rfl
  .split at e<;>cases e
 .cases e
def Dz(K:ϩ)(C:δ)(i:Option ε):Bool:=match K.lookup C with
 |some ⟨.type "type",_,.cls cd,sl⟩=>(match cd.mro,sl.toList with
  |.ref C'::bm,[_,_,_,_,some (.builtin n),_]=>C'==C&&n=="ValueError.__new__"&& !cd.hasDel&&W.tailIn K dq bm&&W.nsOkIn K cd.ns&&ao6 K cd.ns "__init__"==some i
  |_,_=>false)
 |_=>false
theorem Jv{K:ϩ}{C:δ}{h:ϫ}{i:Option ε}(kin:K.In h)(e:Dz K C i=true):∃bm N nm q bs hdct sn sub ab col dd k0 k1 k2 k3 k5 mN,h.get? C=some (excClassObj nm q C N bs bm hdct sn sub ab col dd k0 k1 k2 k3 k5 "ValueError.__new__")/\h.Ns N mN/\mN "__init__"=i/\OwnTail h dq bm:=by
 unfold Dz at e;split at e
 .rename_i dd cd sl ho;split at e
  .rename_i C' bm k0 k1 k2 k3 n k5 hm hs;simp only[aaV,beq_iff_eq,Bool.not_eq_true']at e;obtain⟨⟨⟨⟨⟨e1,e2⟩,e3⟩,e4⟩,e5⟩,e6⟩:=e;subst e1 e2;obtain⟨nm,bs,mro,ns,qn,hd,sn,sub,ab,col,del⟩:=cd;dsimp only at hm e3 e5 e6;subst hm e3;have hl:sl= #[k0,k1,k2,k3,some (.builtin "ValueError.__new__"),k5]:=by
    obtain⟨l⟩:=sl;simp only at hs;rw[hs]
   subst hl;have hN:h.Ns ns (h.nsMap ns):=.of_isNs (W.isNs_of_in kin e5);refine⟨bm,ns,nm,qn,bs,hd,sn,sub,ab,col,dd,k0,k1,k2,k3,k5,_,kin _ _ ho,hN,?_,W.tail_of_in kin e4⟩;cases i with
   |none=>exact W.nsMap_none_of_in kin e5 e6
   |some v=>exact acI kin hN e6
  .cases e
 .cases e
theorem Uh{K:ϩ}{C:δ}{h:ϫ}(kin:K.In h)(e:api K C dq "ValueError.__new__"=true):∃bm N nm q bs hdct sn sub ab col dd k0 k1 k2 k3 k5 mN,h.get? C=some (excClassObj nm q C N bs bm hdct sn sub ab col dd k0 k1 k2 k3 k5 "ValueError.__new__")/\h.Ns N mN/\mN "__init__"=none/\OwnTail h dq bm:=Jv kin e
section
variable{X:Cx}{Kx:St->XK}{D:Ends}{σ:St}{H:Hp}{x:Str}{np ϻ pos:Pos}{e:π}{es:List π}
theorem fM(hx:bj X Kx)(O:oJ X.K X.mg x)(h:EA X (e::es) σ H λvs H1=>vs.length<=Ϫ/\Kx σ (.ref (η X.mg x)) (none,true) H1)(hc:X.calm=true:=by rfl)(hg:Gl X x:=by rfl)(hd:(x==("__debug__":Str))=false:=by decide)(he:ϰ (e::es) X.env=(false,eval e X.env)::ϰ es X.env:=by rfl)(hpl:(backTo ϻ (ϰ es X.env)).any (·.1)=false:=by rfl):SX X (.Raise (some (.Call (.Name x np) (e::es) [] ϻ)) none pos) D σ H:=by
 intro ϵ s I;obtain⟨bm,N,nm,q,bs,hdct,sn,sub,ab,col,dd,k0,k1,k2,k3,k5,mN,hC,hN,hni,T⟩:=Uh I.ok.mod.kin O.ex;refine wpAny_Raise_call_subT (C:=η X.mg x) (nm:=nm) (q:=q) (N:=N) (bs:=bs) (bm:=bm) (hdct:=hdct) (sn:=sn) (sub:=sub) (ab:=ab) (col:=col) (dd:=dd) (k0:=k0) (k1:=k1) (k2:=k2) (k3:=k3) (k5:=k5)
  F.excBase_ValueError (mN:=mN) (T.hasType (by decide+kernel)) (I.ok.hd hc) ?_ hni (jF I hg O.at_ ⟨rfl,?_⟩ hd)
 .rw[he];show(false||(backTo ϻ (ϰ es X.env)).any (·.1))=false;rw[hpl];rfl
 .have h':=h ϻ ϵ s I;rw[he]at h'⊢;refine Calls.evalArgs_plain (χ h' λus s2 ⟨vs,H1,I2,r,hl,kq⟩=>⟨rfl,by rw[<-r.length];exact hl,I2.bk _ _ hC,hN.keeps I2.bk,T.keeps I2.bk,λh3 a M=>?_⟩);obtain⟨t,m1,m2,m3⟩:=M.there;refine hx ϵ σ H1 _ a _ (none,true) ⟨I2.kept (t':=s2.toks) M.keeps,none,.none,⟨_,_,m1,rfl,rfl,rfl,rfl,by simp,Ctx.yes rfl,λT z=>nomatch z⟩,.inl rfl,λb hb=>?_⟩ kq;have z:b=a:=by simpa using hb
  subst z;exact⟨I2.hok.free M.new,I2.ch M.new⟩
end
abbrev Cx.tri(X:Cx)(F:ε->μ->Prop)(pn:List (δ×Obj)):Cx:={X with xe:=F,pn:=pn}
abbrev Cx.fD(X:Cx)(e:ε)(F:ε->μ->Prop)(pn:List (δ×Obj)):Cx:={X with A:=X.A.mark (some e),calm:=false,xe:=F,pn:=pn}
section
variable{X:Cx}{ϵ pins':List (δ×Obj)}{σ:St}{H:Hp}{s:μ}{F:ε->μ->Prop}{e:ε}
theorem Cx.Ok.tri(ok:X.Ok)(pn:List (δ×Obj)):(X.tri F pn).Ok:=
 ⟨ok.mod,ok.kind,ok.glob,ok.blt,ok.above,ok.inj,ok.has,ok.cab,ok.hd,ok.frames,ok.stk,ok.exf,ok.bs,ok.bsz,ok.noex,ok.exfs,ok.funs,ok.frf⟩
theorem Cx.Ok.fD(ok:X.Ok)(pn:List (δ×Obj)):(X.fD e F pn).Ok:=
 ⟨ok.mod,ok.kind,ok.glob,ok.blt,ok.above,ok.inj,ok.has,ok.cab,(λz=>nomatch z),ok.frames,ok.stk,ok.exf,ok.bs,ok.bsz,ok.noex,ok.exfs,ok.funs,ok.frf⟩
theorem Inv.tri(I:Inv X ϵ σ H s):Inv (X.tri F (X.pn++ϵ)) [] σ H s:=
 ⟨I.ok.tri _,I.os,I.bare,I.base,I.loc,I.cell,I.free,I.freeC,λp hp=>I.pin p (by simpa using hp),I.hok,I.len⟩
theorem Inv.fD(I:Inv X ϵ σ H s):Inv (X.fD e F (X.pn++ϵ)) [] σ H s:=
 ⟨I.ok.fD _,I.os,I.bare,I.base,I.loc,I.cell,I.free,I.freeC,λp hp=>I.pin p (by simpa using hp),I.hok,I.len⟩
theorem Inv.jf(ok:X.Ok)(I:Inv (X.tri F (X.pn++ϵ)) pins' σ H s):Inv X ϵ σ H s:=
 ⟨ok,I.os,I.bare,I.base,I.loc,I.cell,I.free,I.freeC,λp hp=>I.pin p (alQ _ hp),I.hok,I.len⟩
theorem Inv.v7(ok:X.Ok)(I:Inv (X.fD e F (X.pn++ϵ)) pins' σ H s):Inv X ϵ σ H s:=
 ⟨ok,I.os,I.bare,I.base,I.loc,I.cell,I.free,I.freeC,λp hp=>I.pin p (alQ _ hp),I.hok,I.len⟩
theorem Ch.jf{b:δ}(c:Ch (X.tri F (X.pn++ϵ)) pins' b):Ch X ϵ b:=⟨c.1,c.2.1,c.2.2.1,λp hp=>c.2.2.2 p (alQ _ hp)⟩
end
def EH(X:Cx)(hs:List amb)(D:Ends)(σ:St)(cls:ε)(d:Option δ×Bool)(H:Hp):Prop:=
 ∀(ϵ:List (δ×Obj))(s:μ)(e T:δ),Inv X ϵ σ H s->aR s.heap e cls d (some T) .none->(∀b∈[e,T],H b=none/\Ch X ϵ b)->
  ν (Ϧ X.prog X.w) X.A (handleBy (.ref e) X.env hs) (SP X ϵ D) X.xe s
section
variable{X:Cx}{D:Ends}{σ:St}{H:Hp}{h₀:amb}{hs rest:List amb}{body orelse suite:List Ϩ}{b₀:Ϩ}{pos np:Pos}{x n:Str}{cls c:ε}{d:Option δ×Bool}
theorem Ld(Kx:St->XK)(hst:X.stack=X.env::X.outer)(hf:X.env.frame=some X.env.locals)(hb:∀F pn,bj (X.tri F pn) Kx->anv (Ϧ X.prog X.w) X.A X.env F->Κ (X.tri F pn) body {D with nx:=λσ' H'=>Κ X orelse D σ' H'} σ H)(hh:∀σ' cls d H',Kx σ' cls d H'->EH X (h₀::hs) D σ' cls d H'):SX X (.Try body (h₀::hs) orelse [] pos) D σ H:=by
 intro ϵ s I;refine wpAny_Try_except ?_;refine adL (hb (λe s1=>ν (Ϧ X.prog X.w) X.A (noteFrame e X.env) (λ_ s2=>ν (Ϧ X.prog X.w) X.A (setFlight e none) (λ_ s3=>ν (Ϧ X.prog X.w) X.A (handleBy e X.env (h₀::hs)) (SP X ϵ D) X.xe s3) X.xe s2) X.xe s1)
  (X.pn++ϵ) ?_ PassesOwn.looking [] s I.tri) (λf s1 q=>?_) λ_ _ q=>q
 .intro pins' σ' H' s' e cls d xa q;obtain⟨I',tb,fl,F',hfl,ch⟩:=xa;have I2:=Inv.jf I.ok I';refine qy.note (X:=X) (ϵ:=ϵ) ⟨I2,tb,fl,F',hfl,λb hb=>⟨(ch b hb).1,(ch b hb).2.jf⟩⟩ hst hf λs2 T I3 F3 c3=>?_
  exact I3.off F3 c3 λs4 I4 F4=>hh σ' cls d H' q ϵ s4 e T I4 F4 c3
 .cases f with
  |next=>
   obtain⟨σ',H',J,q⟩:=q;exact q ϵ s1 (Inv.jf I.ok J)
  |brk=>
   obtain⟨σ',H',J,q⟩:=q;exact⟨σ',H',Inv.jf I.ok J,q⟩
  |cont=>
   obtain⟨σ',H',J,q⟩:=q;exact⟨σ',H',Inv.jf I.ok J,q⟩
  |ret u=>
   obtain⟨v,σ',H',J,r,q⟩:=q;exact⟨v,σ',H',Inv.jf I.ok J,r,q⟩
theorem aR.ty{M:Model}{h:ϫ}{e:δ}{tb:Option δ}{fl:ε}(F:aR h e cls d tb fl):ao8 M h (typeOf (.ref e)) cls:=by
 obtain⟨oe,vs,he,hc,_⟩:=F;subst hc;exact(W.Looks.ld he).andThen .now
theorem Qk{X:Cx}{ϵ:List (δ×Obj)}{s:μ}{e:δ}{tb:Option δ}{fl:ε}{k:Bool}{R:Result->μ->Prop}(I:Inv X ϵ σ H s)(F:aR s.heap e cls d tb fl)(hg:Gl X x)(hm:X.mg x=some c)(hd:(x==("__debug__":Str))=false)(ex:anU X.K cls c=some k)(h:R (.ok (if k then .brk else .next)) s):codeAny (Ϧ X.prog X.w) (X.A.mark (some (.ref e))) (.handlers (.ref e) [.ExceptHandler (some (.Name x np)) none [] pos] X.env) R s:=by
 refine codeAny_handlers_test ?_;have J:Inv (X.fD (.ref e) X.xe (X.pn++ϵ)) [] σ H s:=I.fD;exact jF (X:=X.fD (.ref e) X.xe (X.pn++ϵ)) J hg hm ((W.exm_one I.kIn F.ty ex).here h) hd
theorem acV(hg:Gl X x)(hm:X.mg x=some c)(hd:(x==("__debug__":Str))=false)(ex:anU X.K cls c=some false)(h:EH X rest D σ cls d H){name:Option Str}:EH X (.ExceptHandler (some (.Name x np)) name body pos::rest) D σ cls d H:=by
 intro ϵ s e T I F ch;refine wpAny_handleBy_cons (Qk I F hg hm hd ex ?_) (by intro q;cases q);exact h ϵ s e T I F ch
end
mutual
inductive RD (K:ϩ) (H:Hp):V->alY->Prop
 |non:RD K H .non .none
 |bl (b:Bool):RD K H (.bl b) (.bool b)
 |int (i:Int):RD K H (.int i) (.int i)
 |str (x:Str):RD K H (.str x) (.str x)
 |lst {a:δ} {xs:List V} {ds:List alY} (h:θ K H a xs) (r:bW K H xs ds):RD K H (.ref a) (.list ds)
 |tup {a:δ} {xs:List V} {ds:List alY} (h:ω K H a xs) (r:bW K H xs ds):RD K H (.ref a) (.tuple ds)
inductive bW (K:ϩ) (H:Hp):List V->List alY->Prop
 |nil:bW K H [] []
 |cons {x:V} {d:alY} {xs:List V} {ds:List alY} (h:RD K H x d) (r:bW K H xs ds):bW K H (x::xs) (d::ds)
end
mutual
theorem RD.same{K:ϩ}{H H':Hp}(e:ζ H H'):∀{v:V}{d:alY},RD K H v d->RD K H' v d
 |_,_,.non=>.non
 |_,_,.bl b=>.bl b
 |_,_,.int i=>.int i
 |_,_,.str x=>.str x
 |_,_,.lst h r=>.lst (e.seq h) (bW.same e r)
 |_,_,.tup h r=>.tup (e.aie h) (bW.same e r)
theorem bW.same{K:ϩ}{H H':Hp}(e:ζ H H'):∀{v:List V}{d:List alY},bW K H v d->bW K H' v d
 |_,_,.nil=>.nil
 |_,_,.cons h r=>.cons (RD.same e h) (bW.same e r)
end
mutual
theorem RD.reads{X:Cx}{ϵ:List (δ×Obj)}{σ:St}{H:Hp}{s:μ}(I:Inv X ϵ σ H s):∀{v:V}{d:alY}{u:ε},RD X.K H v d->RelV v u->∃as,Reads s.heap u d as
 |_,_,_,.non,e=>by cases(show _=Value.none from e);exact⟨_,.none⟩
 |_,_,_,.bl b,e=>by cases(show _=Value.bool b from e);exact⟨_,.bool b⟩
 |_,_,_,.int i,e=>by obtain⟨t,rfl⟩:=e;exact⟨_,.int i t⟩
 |_,_,_,.str x,e=>by obtain⟨t,rfl⟩:=e;exact⟨_,.str x t⟩
 |_,_,_,.lst h r,e=>by
  cases(show _=Value.ref _ from e);obtain⟨ϸ,rv,pl,_⟩:=I.list h;obtain⟨as,q⟩:=bW.reads I r rv;obtain⟨o,ho,hc,n,hd⟩:=pl.isList;exact⟨_,.list ho hc hd (by simpa using q)⟩
 |_,_,_,.tup h r,e=>by
  cases(show _=Value.ref _ from e);obtain⟨ϸ,rv,tp,_⟩:=I.tuple h;obtain⟨as,q⟩:=bW.reads I r rv;obtain⟨o,ho,hc,n,hd⟩:=tp;exact⟨_,.tuple ho hc hd (by simpa using q)⟩
theorem bW.reads{X:Cx}{ϵ:List (δ×Obj)}{σ:St}{H:Hp}{s:μ}(I:Inv X ϵ σ H s):∀{vs:List V}{ds:List alY}{us:List ε},bW X.K H vs ds->Vals vs us->∃as,ReadsAll s.heap us ds as
 |_,_,_,.nil,.nil=>⟨_,.nil⟩
 |_,_,_,.cons h r,.cons e t=>by
  obtain⟨as,q⟩:=RD.reads I h e;obtain⟨bs,q2⟩:=bW.reads I r t;exact⟨_,.cons q q2⟩
end
section
variable{X:Cx}{H:Hp}{Q:VK}{x y:V}{d d':alY}
theorem N6(hu:X.A.units+64<cLine)(hx:RD X.K H x d)(hy:RD X.K H y d')(h1:d.canLay0=true)(h2:d'.canLay0=true)(hd:d.depth<=60)(q:Q (.bl (PyData.eqv d d')) H):OP X (adJ .Eq) x y H Q:=by
 refine⟨λx y H Q=>RD X.K H x d/\RD X.K H y d'/\Q (.bl (PyData.eqv d d')) H,?_,hx,hy,q⟩;intro ϵ s σ H x y v u Q I rx ry ⟨hx,hy,q⟩;obtain⟨as,r1⟩:=RD.reads I hx rx;obtain⟨bs,r2⟩:=RD.reads I hy ry;exact SeqAt.rcAt_reads r1 r2 h1 h2 (by have:=ao1 d.depth d'.depth;omega) X.prog X.w X.xe _ ⟨.bl _,H,I,rfl,q⟩
theorem iw(hu:X.A.units+64<cLine)(hx:RD X.K H x d)(hy:RD X.K H y d')(h1:d.canLay0=true)(h2:d'.canLay0=true)(hd:d.depth<=60)(q:Q (.bl (!PyData.eqv d d')) H):OP X (adJ .NotEq) x y H Q:=by
 refine⟨λx y H Q=>RD X.K H x d/\RD X.K H y d'/\Q (.bl (!PyData.eqv d d')) H,?_,hx,hy,q⟩;intro ϵ s σ H x y v u Q I rx ry ⟨hx,hy,q⟩;obtain⟨as,r1⟩:=RD.reads I hx rx;obtain⟨bs,r2⟩:=RD.reads I hy ry;exact SeqAt.rcNeAt_reads r1 r2 h1 h2 (by have:=ao1 d.depth d'.depth;omega) X.prog X.w X.xe _ ⟨.bl _,H,I,rfl,q⟩
end
def tR(l:List Ϩ)(i:Nat):Ϩ:=l.getD i (.Pass ⟨0,0,0,0⟩)
def ZL(s:Ϩ):List Ϩ:=match s with
 |.For _ _ b _ _=>b
 |_=>[]
def Su(s:Ϩ):List Ϩ:=match s with
 |.If _ b _ _=>b
 |_=>[]
theorem aaq{A B:Prop}(h:A):if decide (V.non=V.non)=true then A else B:=by rw[if_pos (by decide)];exact h
theorem U4{A B:Prop}{i:Int}(h:B):if decide (V.int i=V.non)=true then A else B:=by rw[if_neg (by simp)];exact h
theorem ajQ{A B:Prop}{i:δ}(h:B):if decide (V.ref i=V.non)=true then A else B:=by rw[if_neg (by simp)];exact h
theorem YG{X:Cx}{H:Hp}{Q:VK}{z:Str}{n:Int}(hn:intText? z=some n)(hl:z.length<=640)(q:Q (.int n) H):CL X (.type "int") [.str z] H Q:=by
 refine c7 (r:=λxs H Q=>∃z n,xs=[.str z]/\intText? z=some n/\z.length<=640/\Q (.int n) H) ?_ ⟨z,n,rfl,hn,hl,q⟩;intro ϵ s σ H xs us Q I r h;obtain⟨z,n,rfl,hn,hl,q⟩:=h;obtain⟨u,rfl,ru⟩:=vals1 r;obtain⟨t,rfl⟩:=ru;exact W.KIN.call_text hn hl ⟨.int n,H,I.tok _,⟨_,rfl⟩,q⟩
def nj(x:Str)(n:Int):Str:=⟨(ajq n.toNat x.cps).foldl (· ++ ·) #[]⟩
theorem Zh{X:Cx}{H:Hp}{Q:VK}{z:Str}{n:Int}(h1:2<=n)(h2:n<1000000)(h3:0<z.length)(h4:z.length*n.toNat<=Ϫ)(q:Q (.str (nj z n)) H):OP X (binaryOp .Mult) (.str z) (.int n) H Q:=by
 refine aX (r:=λx y H Q=>∃z n,x=.str z/\y=.int n/\2<=n/\n<1000000/\0<z.length/\z.length*n.toNat<=Ϫ/\Q (.str (nj z n)) H) ?_ ⟨z,n,rfl,rfl,h1,h2,h3,h4,q⟩;intro ϵ s σ H x y v u Q I rx ry h;obtain⟨z,n,rfl,rfl,h1,h2,h3,h4,q⟩:=h;obtain⟨t,rfl⟩:=rx;obtain⟨t',rfl⟩:=ry;have hsz:=ϳ;have e1:(n==1||z.length==0)=false:=by
  rw[Bool.or_eq_false_iff,beq_eq_false_iff_ne,beq_eq_false_iff_ne];omega
 have hle:z.length<=16777216:=by
  have:z.length*1<=z.length*n.toNat:=Nat.mul_le_mul_left _ (by omega);omega
 refine PySem.P.mul_str (by rw[decide_eq_false (by omega),decide_eq_false (by omega)];rfl) (λ_ _ h5=>?_) (λ_ _=>?_) ?_
 .have h6:(2^63-1) / 1000000<=(2^63-1:Int) / n:=by
   apply Int.le_ediv_of_mul_le (by omega);have:(2^63-1:Int) / 1000000*n<=(2^63-1) / 1000000*1000000:=Int.mul_le_mul_of_nonneg_left (by omega) (by decide);omega
  omega
 .unfold Builtin.Str.tooLong;rw[decide_eq_false];omega
 .rw[if_neg (by omega),e1];exact⟨by
   have hw:∀(k:Nat)(acc:Array Nat),((ajq k z.cps).foldl (· ++ ·) acc).size=acc.size+k*z.cps.size:=by
    intro k;induction k with
    |zero=>intro acc;simp
    |succ k ih=>
     intro acc;rw[anQ,List.foldl_cons,ih,aoK,ape];omega
   show((ajq n.toNat z.cps).foldl (· ++ ·) #[]).size<=Ϫ;rw[hw];have:z.cps.size=z.length:=rfl;rw[this,apf];simpa using h4,.str (nj z n),H,I.tok _,⟨_,rfl⟩,q⟩
theorem S9{X:Cx}{H:Hp}{Q:VK}{a:δ}{xs:List V}(e:H a=some (.lst xs))(q:Q (.bl true) H):CL X (.builtin "isinstance") [V.ref a,.ty "list"] H Q:=JB (cG.lst e) (k:=true) (by rfl) q
section
variable{X:Cx}{e:π}{es:List π}{σ:St}{H:Hp}{Q:VK}{pos p:Pos}
def Dd:List (Str×String):=[("len","len"),("isinstance","isinstance"),("all","all"),("any","any"),("min","min"),("max","max"),("abs","abs"),("sum","sum"),("sorted","sorted"),("ord","ord"),("divmod","divmod")]
def wG:List (Str×String):=[("str","str"),("list","list"),("tuple","tuple"),("int","int"),("set","set"),("bool","bool"),("dict","dict")]
theorem yo{x:Str}{i:String}{P:Str×String->Prop}:∀{l:List (Str×String)},l.lookup x=some i->(∀p∈l,P p)->P (x,i)
 |[],e,_=>by cases e
 |(y,k)::l,e,h=>by
  rw[List.lookup_cons]at e;split at e
  .next q=>cases e;rw[beq_iff_eq.mp q];exact h _ (by simp)
  .exact yo e λp hp=>h p (by simp[hp])
theorem acH:∀p∈Dd,bootBuiltins p.1=some (.builtin p.2)/\p.1≠"__name__"/\(p.1==("__debug__":Str))=false:=by
 simp only[Dd,List.forall_mem_cons];exact⟨⟨PySem.boot_len,by decide,by decide⟩,⟨PyProof.Rows.boot_isinstance,by decide,by decide⟩,⟨PyProof.Rows.boot_all,by decide,by decide⟩,⟨PyProof.Rows.boot_any,by decide,by decide⟩,⟨PyProof.Rows.boot_min,by decide,by decide⟩,⟨PyProof.Rows.boot_max,by decide,by decide⟩,⟨PyProof.Rows.boot_abs,by decide,by decide⟩,⟨PyProof.Rows.boot_sum,by decide,by decide⟩,⟨PyProof.Rows.boot_sorted,by decide,by decide⟩,⟨PyProof.Rows.boot_ord,by decide,by decide⟩,⟨PyProof.Rows.boot_divmod,by decide,by decide⟩,(λ_ h=>by cases h)⟩
theorem Jk:∀p∈wG,bootBuiltins p.1=some (.type p.2)/\p.1≠"__name__"/\(p.1==("__debug__":Str))=false:=by
 simp only[wG,List.forall_mem_cons];exact⟨⟨PyProof.Rows.boot_str,by decide,by decide⟩,⟨PyProof.Rows.boot_list,by decide,by decide⟩,⟨PyProof.Rows.boot_tuple,by decide,by decide⟩,⟨PyProof.Rows.boot_int,by decide,by decide⟩,⟨PyProof.Rows.boot_set,by decide,by decide⟩,⟨PyProof.Rows.boot_bool,by decide,by decide⟩,⟨PyProof.Rows.boot_dict,by decide,by decide⟩,(λ_ h=>by cases h)⟩
variable{x:Str}{i:String}
theorem ai0(ht:Dd.lookup x=some i)(hg:Gl X x)(hm:X.mg x=none)(he:ϰ (e::es) X.env=(false,eval e X.env)::ϰ es X.env)(hpl:(backTo pos (ϰ es X.env)).any (·.1)=false)(h:EA X (e::es) σ H λvs H1=>CL X (.builtin i) vs H1 Q):EV X (.Call (.Name x p) (e::es) [] pos) σ H Q:=by
 obtain⟨a,b,c⟩:=yo ht acH;exact abK hg hm a b c he hpl h
theorem Vg(ht:wG.lookup x=some i)(hg:Gl X x)(hm:X.mg x=none)(he:ϰ (e::es) X.env=(false,eval e X.env)::ϰ es X.env)(hpl:(backTo pos (ϰ es X.env)).any (·.1)=false)(h:EA X (e::es) σ H λvs H1=>CL X (.type i) vs H1 Q):EV X (.Call (.Name x p) (e::es) [] pos) σ H Q:=by
 obtain⟨a,b,c⟩:=yo ht Jk;exact aiT hg hm a b c he hpl h
theorem abH(ht:wG.lookup x=some i)(hg:Gl X x)(hm:X.mg x=none)(q:Q (.ty i) H):EV X (.Name x pos) σ H Q:=by
 obtain⟨a,b,c⟩:=yo ht Jk;exact aed hg hm a q b c
def JD:V->Option ε
 |.non=>some (.type "NoneType")|.bl _=>some (.type "bool")|.int _=>some (.type "int")|.str _=>some (.type "str")|_=>none
theorem XH{K:ϩ}{y:V}{t:ε}(h:JD y=some t):cG K H y t:=by
 cases y<;>cases h
 .exact .non
 .exact .bl _
 .exact .int _
 .exact .str _
theorem Rh{y:V}{t:ε}{T:String}{k:Bool}(q:Q (.bl k) H)(h:JD y=some t:=by rfl)(e:aoD X.K t (.type T)=some k:=by rfl):CL X (.builtin "isinstance") [y,.ty T] H Q:=JB (XH h) e q
def Rb(X:Cx)(x:Str)(σ:St):Option V:=match X.env.scope.names.lookup x with
 |some .local=>if(x==("__debug__":Str))||(x==("__classdict__":Str))then none else dY X.N σ x
 |some .cell=>if(x==("__debug__":Str))||(x==("__classdict__":Str))then none else dY X.N σ x
 |some .free=>if(x==("__debug__":Str))||(x==("__classdict__":Str))then none else dY X.N σ x
 |_=>none
theorem aaO{v:V}(h:Rb X x σ=some v)(q:Q v H):EV X (.Name x pos) σ H Q:=by
 have key:pL X.env.scope x->(if(x==("__debug__":Str))||(x==("__classdict__":Str))then none else dY X.N σ x)=some v->EV X (.Name x pos) σ H Q:=λhv h=>by
  split at h
  .cases h
  .next c=>
   rw[anx,not_or,aoU,aoU]at c;exact acR h hv q c.1 c.2
 unfold Rb at h;split at h
 .exact key (.inl ‹_›) h
 .exact key (.inr (.inl ‹_›)) h
 .exact key (.inr (.inr ‹_›)) h
 .cases h
end
section
variable{X:Cx}{ϵ:List (δ×Obj)}{σ:St}{H:Hp}{s:μ}
theorem Inv.Tt{ch:List δ}{T:δ}{xs:List V}{us:List ε}{h':ϫ}{tk:Nat}(I:Inv X ϵ σ H s)(hf:∀b∈ch,aY X ϵ H b)(hT:s.heap.objs.size<=T)(k:∀b o,b∉ch->s.heap.get? b=some o->h'.get? b=some o)(hz:xs.length<=Ϫ)(rv:Vals xs us)(tp:IsTup h' T us.toArray):Inv X ϵ σ (upd H T (.tup xs)) {s with heap:=h',toks:=tk}:=by
 have nT:=I.hok.fresh hT;have neT:∀b o,s.heap.get? b=some o->b≠T:=λb o e z=>akD _ (adz (ϴ e) (z▸hT))
 have nch:∀b u,H b=some u->b∉ch:=λb u e z=>by rw[(hf b z).1]at e;cases e
 refine I.call (g':=s.gens) (d':=s.drawn) (t':=tk) (ch:=ch) (h':=h') ⟨λb o e _ _ hx=>k b o hx e,λb o e _ _ hx=>⟨o.slots,k b o hx e⟩,λb o e n _=>?_,λb o e hx=>⟨o,k b o hx e⟩,λb ys e=>?_,λb o u e=>?_,λb ps e=>⟨#[],?_⟩⟩ ?_ I.bare
  λb hb=>⟨(hf b hb).2.2.2.1,(hf b hb).2.1,(hf b hb).2.2.2.2.1,(hf b hb).2.2.2.2.2⟩
 .rw[ι (neT b o e)];exact n
 .rw[ι (Θ e nT)];exact e
 .rw[ι (Θ e nT)];exact e
 .rw[ι (Θ e nT),e];simp
 .intro b u e;by_cases hb:b=T
  .subst hb;rw[ρ]at e;cases e;exact⟨hz,us,rv,tp⟩
  .rw[ι hb]at e;refine(I.hok b u e).stay (λc v hc q=>k c v ?_ q) (λc q=>by rw[ι (Θ q nT)];exact q) (λc ys q=>by rw[ι (Θ q nT)];exact q) λc ob v q=>by rw[ι (Θ q nT)];exact q
   obtain z|z:=hc
   .subst z;exact nch c u e
   .exact nch c _ z
end
def BL(K:ϩ)(l:δ):It:=
 ⟨λi H=>∃xs x,θ K H l xs/\xs[i]?=some x,λi H v H'=>∃T x,v=.ref T/\H T=none/\H'=upd H T (.tup [.int i,x])/\∀xs,θ K H l xs->xs[i]?=some x,λi H=>∃xs,θ K H l xs/\xs.length<=i⟩
theorem WD{P:ϯ}{w:Ϭ}{K:PySem.W.Frag}{elts:List π}{k:Nat}{pos:Pos}(l e it:δ)(hei:e≠it)(hle:l≠e)(hli:l≠it):Turn P w K (.Tuple elts k pos) (BL K l) [e,it] e (λi h=>(∃old,IsEnum h e it i old)/\h.IsListIter it l i)where
 mem:=by simp
 obj:=λi h st b hb=>by
  obtain⟨⟨old,he⟩,o,ho,_,hd⟩:=st;obtain z|z:=acG.mp hb
  .subst z;exact⟨_,he,λv z=>by cases z⟩
  .have z':b=it:=by simpa using z
   subst z';exact⟨o,ho,λv z=>by rw[hd]at z;cases z⟩
 keep:=λi h h' st kk=>by
  obtain⟨⟨old,he⟩,o,ho,r⟩:=st;exact⟨⟨old,kk e (by simp) _ he⟩,o,kk it (by simp) _ ho,r⟩
 item:=by
  intro X hP hw hK hc i ϵ s σ H E I hf st hg;subst hP hw hK;obtain⟨⟨old,he⟩,hit⟩:=st;obtain⟨xs,x,hS,hx⟩:=hg;obtain⟨ϸ,rv,pl,hz⟩:=I.list hS;have W:=WalksT.enumerate (prog:=X.prog) (w:=X.w) (A:=X.A) (I.ok.hd hc) e it l hei hle hli ϸ.toArray;have hi:i<ϸ.toArray.size:=by
   rw[adi, <-rv.length];exact(aaF.mp hx).1
  obtain⟨u,hu,ru⟩:=rv.get hx;refine W.item i s _ _ hi ⟨⟨old,he⟩,hit,pl.isList⟩ λT vals h1 tk hp hT tup mid keep=>⟨.ref T,rfl,?_⟩
  obtain⟨t,y,ey,rfl⟩:=hp;have Wq:y=u:=by
   have:ϸ[i]?=some y:=by simpa using ey
   rw[hu]at this;exact(Option.some.inj this).symm
  subst Wq;refine W.go elts k pos i T {s with heap:=h1,toks:=tk} _ _ mid λh2 st2 rR=>?_
  obtain⟨⟨Wb,he2⟩,hit2,_⟩:=st2;have DP:IsTup h2 T [Value.int i t,y].toArray:=by
   obtain⟨o,ho,r⟩:=tup;exact⟨o,rR T o (W.apart i T h1 mid) ho,r⟩
  refine⟨.ref T,upd H T (.tup [.int i,x]),I.Tt (ch:=[e,it]) (tk:=tk) hf hT (λb o hb q=>rR b o hb (keep b o hb q)) (by show 2<=Ϫ;rw[ϳ];decide) (.cons ⟨t,rfl⟩ (.cons ru .nil)) DP,rfl,?_,?_,λb hb=>?_⟩
  .refine⟨T,x,rfl,I.hok.fresh hT,rfl,λys hy=>?_⟩;rw[<-I.list_inj hS hy];exact hx
  .exact⟨⟨Wb,by simpa using he2⟩,hit2⟩
  .have :b≠T:=λz=>by
    obtain⟨o,ho,_⟩:∃o,s.heap.get? b=some o/\True:=by
     obtain z|z:=acG.mp hb
     .subst z;exact⟨_,he,trivial⟩
     .have z':b=it:=by simpa using z
      subst z';obtain⟨o,ho,_⟩:=hit;exact⟨o,ho,trivial⟩
    exact akD _ (adz (ϴ ho) (z▸hT))
   rw[ι this];exact(hf b hb).1
 done:=by
  intro X hP hw hK hc i ϵ s σ H E I hf st hg;subst hP hw hK;obtain⟨⟨old,he⟩,hit⟩:=st;obtain⟨xs,hS,hx⟩:=hg;obtain⟨ϸ,rv,pl,hz⟩:=I.list hS;have hn:ϸ.toArray[i]?=none:=Array.getElem?_eq_none (by rw[adi, <-rv.length];exact hx);refine wpAny_pyNext_enum_end (I.ok.hd hc) he hit pl.isList hn λh' hk=>⟨rfl,?_⟩
  obtain⟨f0,f1,f2,f3,f4,f5⟩:=hf it (by simp);exact I.turned (t':=s.toks) (it:=it) (λb o hb q=>hk b o hb q) f0 f1 f3 f4 f5
 self:=λA i s Q E st h=>by
  obtain⟨⟨old,he⟩,_⟩:=st;exact wpAny_pyIter_enum he h
section
variable{X:Cx}{σ:St}{H:Hp}{a b:π}{elts:List π}{k:Nat}{tp p pos:Pos}{R:It->Hp->Prop}
theorem ad8(hg:Gl X "enumerate")(hm:X.mg "enumerate"=none)(hs:ϰ [a] X.env=[(false,eval a X.env)])(h:EV X a σ H λv H1=>∃l xs,v=.ref l/\H1 l=some (.lst xs)/\R (BL X.K l) H1):EI X (.Tuple elts k tp) (.Call (.Name "enumerate" p) [a] [] pos) σ H R:=by
 intro ϵ s I;refine Call_ (mC I hg hm boot_enumerate (PyProof.Rows.callWith_type1 (χ (eF (es:=[]) (QA:=λvs H1=>∃l xs,vs=[.ref l]/\H1 l=some (.lst xs)/\R (BL X.K l) H1) hs (aa h λv H1 ⟨l,xs,e,q1,q2⟩=>dX ⟨l,xs,by rw[e],q1,q2⟩) pos ϵ s I) λus s1 hZ=>?_) hs rfl));obtain⟨vs,H1,I1,r1,l,xs,e,hl,q⟩:=hZ;subst e;obtain⟨u,rfl,ru⟩:=vals1 r1;cases(show u=Value.ref l from ru);obtain⟨hz,ϸ,n,rv,ho⟩:=I1.hok l _ hl;refine call_enumerate_1 ho λh' he hit hsz hk=>?_
 refine wpAny_pyIter_enum he ?_;have hlt:l<s1.heap.objs.size:=ϴ ho;refine⟨s1.heap.objs.size+1,[s1.heap.objs.size+1,s1.heap.objs.size],_,_,H1,rfl,I1.kept (t':=s1.toks) hk,WD l _ _ (Nat.succ_ne_self _) (acT (anY hlt)) (acT hlt),⟨⟨_,he⟩,hit⟩,λb hb=>?_,q⟩;have hb':b=s1.heap.objs.size+1\/b=s1.heap.objs.size:=by simpa using hb
 obtain z|z:=hb'<;>subst z
 .exact I1.fpOk (alE _) (I1.hok.fresh (alE _))
 .exact I1.fpOk (Ϯ _) (I1.hok.fresh (Ϯ _))
end
section
variable{X:Cx}{ϵ:List (δ×Obj)}{σ:St}{H:Hp}{s:μ}
theorem Inv.Y8{ch:List δ}{h':ϫ}{tk:Nat}(I:Inv X ϵ σ H s)(hf:∀b∈ch,aY X ϵ H b)(k:∀b o,b∉ch->s.heap.get? b=some o->h'.get? b=some o):Inv X ϵ σ H {s with heap:=h',toks:=tk}:=by
 have nch:∀b u,H b=some u->b∉ch:=λb u e z=>by rw[(hf b z).1]at e;cases e
 refine I.call (g':=s.gens) (d':=s.drawn) (t':=tk) (ch:=ch) (h':=h') ⟨λb o e _ _ hx=>k b o hx e,λb o e _ _ hx=>⟨o.slots,k b o hx e⟩,λb o e n _=>n,λb o e hx=>⟨o,k b o hx e⟩,λb ys e=>e,λb o u e=>e,λb ps e=>⟨#[],?_⟩⟩ ?_ I.bare
  λb hb=>⟨(hf b hb).2.2.2.1,(hf b hb).2.1,(hf b hb).2.2.2.2.1,(hf b hb).2.2.2.2.2⟩
 .rw[e];simp
 .intro b u e;refine(I.hok b u e).stay (λc v hc q=>k c v ?_ q) (λc q=>q) λc ys q=>q
  obtain z|z:=hc
  .subst z;exact nch c u e
  .exact nch c _ z
end
def Fw(K:ϩ)(l m:δ):It:=
 ⟨λi H=>∃xs ys x y,θ K H l xs/\θ K H m ys/\xs[i]?=some x/\ys[i]?=some y,
  λi H v H'=>∃T x y,v=.ref T/\H T=none/\H'=upd H T (.tup [x,y])/\(∀xs,θ K H l xs->xs[i]?=some x)/\∀ys,θ K H m ys->ys[i]?=some y,
  λi H=>∃xs ys,θ K H l xs/\θ K H m ys/\min xs.length ys.length<=i⟩
theorem agX{P:ϯ}{w:Ϭ}{K:PySem.W.Frag}{elts:List π}{k:Nat}{pos:Pos}(z TI TO i1 i2 l m:δ)(D:ZipApart z TI TO i1 i2 l m):Turn P w K (.Tuple elts k pos) (Fw K l m) [z,TI,TO,i1,i2] z (λi h=>IsZip h z TI TO .none/\IsPair h TI (.ref i1) (.ref i2)/\(∃a b,IsPair h TO a b)/\h.IsListIter i1 l i/\h.IsListIter i2 m i)where
 mem:=by simp
 obj:=λi h st b hb=>by
  obtain⟨hz,hTI,⟨a,a',hTO⟩,⟨o1,h1,_,d1⟩,⟨o2,h2,_,d2⟩⟩:=st;simp only[List.mem_cons,List.not_mem_nil,or_false]at hb;obtain e|e|e|e|e:=hb<;>subst e
  .exact⟨_,hz,λv z=>by cases z⟩
  .exact⟨_,hTI,λv z=>by cases z⟩
  .exact⟨_,hTO,λv z=>by cases z⟩
  .exact⟨_,h1,λv z=>by rw[d1]at z;cases z⟩
  .exact⟨_,h2,λv z=>by rw[d2]at z;cases z⟩
 keep:=λi h h' st kk=>by
  obtain⟨hz,hTI,⟨a,a',hTO⟩,⟨o1,h1,r1⟩,⟨o2,h2,r2⟩⟩:=st;exact⟨kk z (by simp) _ hz,kk TI (by simp) _ hTI,⟨a,a',kk TO (by simp) _ hTO⟩,⟨o1,kk i1 (by simp) _ h1,r1⟩,⟨o2,kk i2 (by simp) _ h2,r2⟩⟩
 item:=by
  intro X hP hw hK hc i ϵ s σ H E I hf st hg;subst hP hw hK;obtain⟨hz,hTI,hTO,h1,h2⟩:=st;obtain⟨xs,ys,x,y,hS,hS',hx,hy⟩:=hg;obtain⟨ϸ,rv,pl,hsz⟩:=I.list hS;obtain⟨its',rv',En,hsz'⟩:=I.list hS';have W:=WalksT.zip2 (prog:=X.prog) (w:=X.w) (A:=X.A) (I.ok.hd hc) z TI TO i1 i2 l m D ϸ.toArray its'.toArray;have hi:i<min ϸ.toArray.size its'.toArray.size:=by
   rw[adi, <-rv.length,adi, <-rv'.length];exact Nat.lt_min.mpr ⟨(aaF.mp hx).1,(aaF.mp hy).1⟩
  obtain⟨u,hu,ru⟩:=rv.get hx;obtain⟨u',hu',CG⟩:=rv'.get hy;refine W.item i s _ _ hi ⟨hz,hTI,hTO,h1,h2,pl.isList,En.isList⟩ λT vals hh tk hp hT tup mid keep=>⟨.ref T,rfl,?_⟩
  obtain⟨v,v',ev,ev',rfl⟩:=hp;have e1:v=u:=by
   have:ϸ[i]?=some v:=by simpa using ev
   rw[hu]at this;exact(Option.some.inj this).symm
  have e2:v'=u':=by
   have:its'[i]?=some v':=by simpa using ev'
   rw[hu']at this;exact(Option.some.inj this).symm
  subst e1 e2;refine W.go elts k pos i T {s with heap:=hh,toks:=tk} _ _ mid λh3 st2 rR=>?_
  obtain⟨gz,gTI,gTO,g1,g2,_⟩:=st2;have nin:∀b,b∉[z,TI,TO,i1,i2]->b∉[z,TO,i1,i2]:=λb hb hb'=>hb (by simp at hb'⊢;obtain e|e|e|e:=hb'<;>simp[e])
  have DP:IsTup h3 T [v,v'].toArray:=by
   obtain⟨o,ho,r⟩:=tup;exact⟨o,rR T o (W.apart i T hh mid) ho,r⟩
  refine⟨.ref T,upd H T (.tup [x,y]),I.Tt (ch:=[z,TI,TO,i1,i2]) (tk:=tk) hf hT (λb o hb q=>rR b o (nin b hb) (keep b o (nin b hb) q)) (by show 2<=Ϫ;rw[ϳ];decide) (.cons ru (.cons CG .nil)) DP,rfl,?_,⟨gz,gTI,gTO,g1,g2⟩,λb hb=>?_⟩
  .refine⟨T,x,y,rfl,I.hok.fresh hT,rfl,λa ha=>?_,λa ha=>?_⟩
   .rw[<-I.list_inj hS ha];exact hx
   .rw[<-I.list_inj hS' ha];exact hy
  .have :b≠T:=λq=>by
    obtain⟨o,ho⟩:∃o,s.heap.get? b=some o:=by
     obtain⟨a,a',hTO⟩:=hTO;obtain⟨o1,h1,_⟩:=h1;obtain⟨o2,h2,_⟩:=h2;simp only[List.mem_cons,List.not_mem_nil,or_false]at hb;obtain e|e|e|e|e:=hb<;>subst e
     .exact⟨_,hz⟩
     .exact⟨_,hTI⟩
     .exact⟨_,hTO⟩
     .exact⟨_,h1⟩
     .exact⟨_,h2⟩
    exact akD _ (adz (ϴ ho) (q▸hT))
   rw[ι this];exact(hf b hb).1
 done:=by
  intro X hP hw hK hc i ϵ s σ H E I hf st hg;subst hP hw hK;obtain⟨hz,hTI,⟨a,b,hTO⟩,h1,h2⟩:=st;obtain⟨xs,ys,hS,hS',hx⟩:=hg;obtain⟨ϸ,rv,pl,hsz⟩:=I.list hS;obtain⟨its',rv',En,hsz'⟩:=I.list hS';have hend:ϸ.toArray[i]?=none\/its'.toArray[i]?=none:=by
   by_cases q:xs.length<=i
   .exact .inl (Array.getElem?_eq_none (by rw[adi, <-rv.length];exact q))
   .exact .inr (Array.getElem?_eq_none (by rw[adi, <-rv'.length];omega))
  refine wpAny_pyNext_zip_end (I.ok.hd hc) D hz hTI hTO h1 h2 pl.isList En.isList hend λh' hk=>⟨rfl,?_⟩
  exact I.Y8 (tk:=s.toks) hf λb o hb q=>hk b o (λe=>hb (by simp[e])) (λe=>hb (by simp[e])) (λe=>hb (by simp[e])) (λe=>hb (by simp[e])) q
 self:=λA i s Q E st h=>wpAny_pyIter_zip st.1 h
theorem ZR(n l m:Nat)(h1:l<n)(h2:m<n):ZipApart (n+4) (n+2) (n+3) n (n+1) l m:=by
 constructor<;>(intro e;have e':(_:Nat)=_:=e;omega)
section
variable{X:Cx}{σ:St}{H:Hp}{a b:π}{elts:List π}{k:Nat}{tp p pos:Pos}{R:It->Hp->Prop}
theorem aay(hg:Gl X "zip")(hm:X.mg "zip"=none)(hs:ϰ [a,b] X.env=[(false,eval a X.env),(false,eval b X.env)])(hs2:ϰ [b] X.env=[(false,eval b X.env)])(h:EV X a σ H λv H1=>EV X b σ H1 λv' H2=>∃l m xs ys,v=.ref l/\v'=.ref m/\H2 l=some (.lst xs)/\H2 m=some (.lst ys)/\R (Fw X.K l m) H2):EI X (.Tuple elts k tp) (.Call (.Name "zip" p) [a,b] [] pos) σ H R:=by
 intro ϵ s I;refine Call_ (mC I hg hm boot_zip (PyProof.Rows.callWith_type1 (χ (eF (es:=[b]) (QA:=λvs H1=>∃l m xs ys,vs=[.ref l,.ref m]/\H1 l=some (.lst xs)/\H1 m=some (.lst ys)/\R (Fw X.K l m) H1) (by rw[hs,hs2]) (aa h λv H1 q=>eF (es:=[]) hs2 (aa q λv' H2 ⟨l,m,xs,ys,e,e',q1,q2,q3⟩=>dX ⟨l,m,xs,ys,by rw[e,e'],q1,q2,q3⟩)) pos ϵ s I) λus s1 hZ=>?_) (by rw[hs,hs2]) (by rw[hs2];rfl)));obtain⟨vs,H1,I1,r1,l,m,xs,ys,e,hl,hm',q⟩:=hZ;subst e;obtain⟨u,u',rfl,ru,CG⟩:=vals2 r1;cases(show u=Value.ref l from ru);cases(show u'=Value.ref m from CG);obtain⟨hz,ϸ,n,rv,ho⟩:=I1.hok l _ hl;obtain⟨hz',its',n',rv',ho'⟩:=I1.hok m _ hm';refine call_zip_2 (xs:=ϸ.toArray) (ys:=its'.toArray) ⟨_,ho,rfl,_,rfl⟩ ⟨_,ho',rfl,_,rfl⟩ λh' h1 h2 h3 h4 h5 hsz hk=>?_
 refine wpAny_pyIter_zip h1 ?_;refine⟨s1.heap.objs.size+4,[s1.heap.objs.size+4,s1.heap.objs.size+2,s1.heap.objs.size+3,s1.heap.objs.size,s1.heap.objs.size+1],_,_,H1,rfl,I1.kept (t':=s1.toks) hk,agX _ _ _ _ _ l m (ZR _ _ _ (ϴ ho) (ϴ ho')),⟨h1,h2,⟨_,_,h3⟩,h4,h5⟩,λb hb=>?_,q⟩;have hb':s1.heap.objs.size<=b:=by
  simp only[List.mem_cons,List.not_mem_nil,or_false]at hb;obtain e|e|e|e|e:=hb<;>subst e
  .exact anm _ _
  .exact anm _ _
  .exact anm _ _
  .exact Ϯ _
  .exact anm _ _
 exact I1.fpOk hb' (I1.hok.fresh hb')
end
section
variable{X:Cx}{a e:π}{σ:St}{H:Hp}{Q:VK}{D:Ends}{pos p p':Pos}
theorem ai1{Y:Cx}{tg elt:π}{J:It}{E:δ}{τ0:St}{Q:Hp->Prop}(n:Nat)(hn:n<=Ϫ)(Tp:St->Prop)(hT:Tp τ0)(Pi:Nat->V->Hp->Prop)(hE:H E=none)(mono:∀i v H1 H2 ys,H1 E=some (.lst ys)->(∀b o,b≠E->H1 b=some o->H2 b=some o)->Pi i v H1->Pi i v H2)(go:∀i H1,ζ H H1->i<n->J.go i H1)(stop:∀H1,ζ H H1->J.stop n H1)(step:∀i τ x H1 H2,i<n->Tp τ->ζ H H1->(∃ys,H1 E=some (.lst ys))->J.yld i H1 x H2->EG Y tg x τ H2 λτ2 H3=>EV Y elt τ2 H3 λv H4=>Tp τ2/\Pi i v H4/\ζ H1 H4)(fin:∀H1 xs,xs.length=n->(∀i v,xs[i]?=some v->Pi i v H1)->H1 E=some (.lst xs)->ζ H H1->Q H1):fQ X Y tg elt [] J E τ0 H Q:=by
 refine⟨λi m τ H1=>m=n-i/\i<=n/\ζ H H1/\Tp τ/\∃xs,H1 E=some (.lst xs)/\xs.length=i/\∀k v,xs[k]?=some v->Pi k v H1,⟨n,by simp,ajg _,ζ.upd hE,hT,[],ρ,rfl,λk v e=>by simp at e⟩,?_⟩
 rintro i m τ H1 ⟨rfl,hi,s1,hτ,xs,eE,lx,px⟩
 by_cases hlt:i<n
 .refine .inr ⟨go i H1 s1 hlt,λτ' H'=>ζ H H'/\Tp τ'/\∃xs,H' E=some (.lst xs)/\xs.length=i+1/\∀k v,xs[k]?=some v->Pi k v H',λτ' H' ⟨a,b,c⟩=>⟨n-(i+1),by omega,rfl,hlt,a,b,c⟩,λx H2 y=>?_⟩;intro ϵ s u I r;refine χ (step i τ x H1 H2 hlt hτ s1 ⟨xs,eE⟩ y ϵ s u I r) λ_ s' ⟨τ2,H3,I3,q3⟩=>⟨τ2,H3,I3,zJ ?_⟩
  rw[if_pos rfl];refine aa q3 λv H4 ⟨t2,pv,s2⟩=>⟨xs,s2 _ _ eE,by omega,?_⟩
  have mm:∀k w',Pi k w' H4->Pi k w' (upd H4 E (.lst (xs++[v]))):=λk w' q=>mono k w' H4 _ xs (s2 _ _ eE) (λb o hb e=>by rw[ι hb];exact e) q
  refine⟨λb o e=>?_,t2,xs++[v],ρ,by simp[lx],λk u e=>?_⟩
  .rw[ι (Θ e hE)];exact s2 _ _ (s1 _ _ e)
  .by_cases hk:k<xs.length
   .rw[akE hk]at e;refine mono k u H1 _ xs eE (λb o hb e=>?_) (px k u e);rw[ι hb];exact s2 _ _ e
   .have hk2:k=i:=by
     have:=(aaF.mp e).1;rw[adI,aec]at this;omega
    subst hk2;rw[<-lx,amV]at e;cases e;exact mm _ _ pv
 .have e:i=n:=by omega
  subst e;exact .inl ⟨stop H1 s1,fin H1 xs lx px eE s1⟩
variable{tg elt iter:π}{scope:ai8}{σ':St}
def pW(X:Cx)(N':List Str)(scope:ai8)(tg elt:π)(σ':St)(H1:Hp)(Q:VK)(n:Nat)(G:Nat->Hp->V->Hp->Prop):Prop:=
 ∃(Tp:St->Prop)(Pi:δ->Nat->V->Hp->Prop),Tp σ'/\
  (∀E i v H2 H3 ys,H2 E=some (.lst ys)->(∀b o,b≠E->H2 b=some o->H3 b=some o)->Pi E i v H2->Pi E i v H3)/\
  (∀(fp:List δ)(E C:δ)(s3:μ)(H0:Hp)(i:Nat)(τ:St)(x:V)(H2 H3:Hp),H1 E=none->i<n->Tp τ->ζ H1 H2->(∃ys,H2 E=some (.lst ys))->G i H2 x H3->
   EG (aP X N' scope (ϑ scope X.env) C s3 H0 fp) tg x τ H3 λτ2 H4=>EV (aP X N' scope (ϑ scope X.env) C s3 H0 fp) elt τ2 H4 λv H5=>Tp τ2/\Pi E i v H5/\ζ H2 H5)/\
  ∀(E:δ)(H2:Hp)(xs:List V),H1 E=none->xs.length=n->(∀i v,xs[i]?=some v->Pi E i v H2)->H2 E=some (.lst xs)->ζ H1 H2->Q (.ref E) H2
theorem rG{N':List Str}{J:It}{n:Nat}{G:Nat->Hp->V->Hp->Prop}(hn:n<=Ϫ)(go:∀i H2,ζ H H2->i<n->J.go i H2)(stop:∀H2,ζ H H2->J.stop n H2)(yl:∀i H2 x H3,i<n->ζ H H2->J.yld i H2 x H3->G i H2 x H3)(h:pW X N' scope tg elt σ' H Q n G):∀(fp:List δ)(D C:δ)(s3:μ),H D=none->fQ X (aP X N' scope (ϑ scope X.env) C s3 (upd H D (.lst [])) fp) tg elt [] J D σ' H (λH'=>Q (.ref D) H'):=by
 intro fp E C s3 hE;obtain⟨Tp,Pi,t0,mono,step,fin⟩:=h;exact ai1 n hn Tp t0 (Pi E) hE (λi v H1 H2 ys=>mono E i v H1 H2 ys) go stop (λi τ x H1 H2 hi ht hs hy y=>step fp E C s3 _ i τ x H1 H2 hE hi ht hs hy (yl i H1 x H2 hi hs y)) λH1 xs l px eE s=>fin E H1 xs hE l px eE s
theorem j9(N':List Str)(S:bw X.env scope)(h:EV X e σ H λv H1=>∃l xs,v=.ref l/\θ X.K H1 l xs/\xs.length<=Ϫ/\pW X N' scope tg elt σ' H1 Q xs.length λi H2 x H3=>xs[i]?=some x/\H2=H3)(hσ:bf N' X.N σ scope=σ':=by rfl)(hc:X.calm=true:=by rfl)(hs:∀x,foldedSetIterable e X.env x=pure x:=by intro _;rfl):EV X (.ListComp elt [⟨tg,e,[],0⟩] scope pos) σ H Q:=by
 refine pU (N':=N') hc S hs (rD (aa h λv H1 q=>?_));obtain⟨l,xs,rfl,hl,hz,hw⟩:=q;refine⟨l,rfl,⟨xs,hl⟩,?_⟩;rw[hσ];refine rG hz (λi H2 s hi=>⟨xs,xs[i],ζ.seq s hl,aak hi⟩) (λH2 s=>⟨xs,ζ.seq s hl,Ϯ _⟩) (λi H2 x H3 hi s y=>⟨y.2 xs (ζ.seq s hl),y.1.symm⟩) hw
theorem Sh(N':List Str)(S:bw X.env scope)(hm:X.mg "range"=none)(h:EV X a σ H λv H1=>∃n:Int,v=.int n/\ -(2^62)<=n/\n.toNat<=Ϫ/\pW X N' scope tg elt σ' H1 Q n.toNat λi H2 x H3=>x=.int i/\H2=H3)(hσ:bf N' X.N σ scope=σ':=by rfl)(hc:X.calm=true:=by rfl)(hg:Gl X "range":=by rfl)(hs:ϰ [a] X.env=[(false,eval a X.env)]:=by rfl):EV X (.ListComp elt [⟨tg,.Call (.Name "range" p) [a] [] p',[],0⟩] scope pos) σ H Q:=by
 refine pU (N':=N') hc S (by intro _;rfl) (xN hg hm hs (eF hs (aa h λv H1 q=>?_)));obtain⟨n,rfl,h1,h2,hw⟩:=q;have hsz:(Ϫ:Nat)<2^62:=by rw[ϳ];decide
 refine dX ⟨n,rfl,h1,by omega,?_⟩;rw[hσ];exact rG h2 (λi H2 s hi=>hi) (λH2 s=>Ϯ _) (λi H2 x H3 hi s y=>⟨by rw[y.2,aom],y.1.symm⟩) hw
theorem ag3{b:π}{elts:List π}{k:Nat}{tp:Pos}(N':List Str)(hσ:bf N' X.N σ scope=σ')(hc:X.calm=true)(S:bw X.env scope)(hg:Gl X "zip")(hm:X.mg "zip"=none)(hs:ϰ [a,b] X.env=[(false,eval a X.env),(false,eval b X.env)])(hs2:ϰ [b] X.env=[(false,eval b X.env)])(h:EV X a σ H λv H1=>EV X b σ H1 λv' H2=>∃l m xs ys,v=.ref l/\v'=.ref m/\H2 l=some (.lst xs)/\H2 m=some (.lst ys)/\min xs.length ys.length<=Ϫ/\
   pW X N' scope (.Tuple elts k tp) elt σ' H2 Q (min xs.length ys.length) λi H3 x H4=>∃T y z,x=.ref T/\H3 T=none/\H4=upd H3 T (.tup [y,z])/\xs[i]?=some y/\ys[i]?=some z):EV X (.ListComp elt [⟨.Tuple elts k tp,.Call (.Name "zip" p) [a,b] [] p',[],0⟩] scope pos) σ H Q:=by
 refine pU (N':=N') hc S (by intro _;rfl) (aay hg hm hs hs2 (aa h λv H1 q=>aa q λv' H2 q=>?_));obtain⟨l,m,xs,ys,e1,e2,hl,hm',h2,hw⟩:=q;refine⟨l,m,xs,ys,e1,e2,hl,hm',?_⟩;rw[hσ];have S1:θ X.K H2 l xs:=.inl (.inl hl);have S2:θ X.K H2 m ys:=.inl (.inl hm');refine rG h2 (λi H3 s hi=>⟨xs,ys,xs[i]'(by omega),ys[i]'(by omega),ζ.seq s S1,ζ.seq s S2,aak _,aak _⟩) (λH3 s=>⟨xs,ys,ζ.seq s S1,ζ.seq s S2,Ϯ _⟩) (λi H3 x H4 hi s y=>?_) hw;obtain⟨T,u,u',a1,a2,a3,a4,a5⟩:=y;exact⟨T,u,u',a1,a2,a3,a4 xs (ζ.seq s S1),a5 ys (ζ.seq s S2)⟩
theorem ahp{elts:List π}{k:Nat}{tp:Pos}{body:List Ϩ}(hp:anv (Ϧ X.prog X.w) X.A X.env X.xe)(hc:X.calm=true)(hg:Gl X "enumerate")(hm:X.mg "enumerate"=none)(hs:ϰ [a] X.env=[(false,eval a X.env)])(h:EV X a σ H λv H1=>∃l xs,v=.ref l/\H1 l=some (.lst xs)/\∃Pv:Nat->St->Hp->Prop,Pv 0 σ H1/\(∀i σ' H',i<=xs.length->Pv i σ' H'->θ X.K H' l xs)/\
   (∀i x T σ' H',xs[i]?=some x->Pv i σ' H'->H' T=none->EG X (.Tuple elts k tp) (.ref T) σ' (upd H' T (.tup [.int i,x])) λσ2 H2=>Κ X body {D with nx:=Pv (i+1),ct:=Pv (i+1),bk:=D.nx} σ2 H2)/\∀σ' H',Pv xs.length σ' H'->D.nx σ' H'):SX X (.For (.Tuple elts k tp) (.Call (.Name "enumerate" p) [a] [] p') body [] pos) D σ H:=by
 refine rJ hp hc (by intro _;rfl) (ad8 hg hm hs (aa h λv H1 q=>?_));obtain⟨l,xs,rfl,hq,Pv,h0,hl,hst,hd⟩:=q;refine⟨l,xs,rfl,hq,λi m σ H=>m=xs.length-i/\i<=xs.length/\Pv i σ H,⟨xs.length,by simp,ajg _,h0⟩,?_⟩
 rintro i m σ' H' ⟨rfl,hi,p⟩
 have hS:=hl i σ' H' hi p;by_cases hlt:i<xs.length
 .refine .inr ⟨⟨xs,xs[i],hS,aak hlt⟩,Pv (i+1),λσ2 H2 p2=>⟨xs.length-(i+1),by omega,rfl,hlt,p2⟩,λx H2 y=>?_⟩;obtain⟨T,u,e1,e2,e3,e4⟩:=y;subst e1 e3;exact hst i u T σ' H' (e4 xs hS) p e2
 .have e:i=xs.length:=by omega
  subst e;exact .inl ⟨⟨xs,hS,Ϯ _⟩,hd σ' H' p⟩
end
section
variable{Kt:Type} [DecidableEq Kt] [BEq Kt] [LawfulBEq Kt]
def Ϛ(ks:List Kt):List Kt:=ks.foldl (λa k=>if k∈a then a else a++[k]) []
theorem mQ(ks:List Kt)(k:Kt):Ϛ (ks++[k])=if k∈Ϛ ks then Ϛ ks else Ϛ ks++[k]:=by
 unfold Ϛ;rw[am3];rfl
theorem rQ:∀n (ks:List Kt),ks.length=n->(Ϛ ks).length<=ks.length
 |0,ks,h=>by rw[aeG.mp h];exact Ϯ _
 |n+1,ks,h=>by
  obtain⟨l,k,rfl⟩:∃l k,ks=l++[k]:=⟨_,_,(ae1 (aef h)).symm⟩;have hl:l.length=n:=by simpa using h
  have ih:=rQ n l hl;rw[mQ];split <;>simp <;>omega
theorem qH:∀n (ks:List Kt),ks.length=n->∀k,k∈Ϛ ks↔k∈ks
 |0,ks,h=>by rw[aeG.mp h];intro k;exact Iff.rfl
 |n+1,ks,h=>by
  obtain⟨l,x,rfl⟩:∃l k,ks=l++[k]:=⟨_,_,(ae1 (aef h)).symm⟩;have hl:l.length=n:=by simpa using h
  have ih:=qH n l hl;intro k;rw[mQ,aei,ac8];split
  .rename_i hx;rw[ih];constructor
   .exact .inl
   .rintro(e|e)
    .exact e
    .rw[e];exact(ih x).mp hx
  .rw[aei,ac8,ih]
theorem Cp:∀n (ks:List Kt),ks.length=n->((Ϛ ks).length=ks.length↔ks.Nodup)
 |0,ks,h=>by rw[aeG.mp h];simp[Ϛ]
 |n+1,ks,h=>by
  obtain⟨l,x,rfl⟩:∃l k,ks=l++[k]:=⟨_,_,(ae1 (aef h)).symm⟩;have hl:l.length=n:=by simpa using h
  have ih:=Cp n l hl;have le:=rQ n l hl;have me:=qH n l hl x;rw[mQ,alf];split
  .rename_i hx;constructor
   .intro e;simp at e;omega
   .intro e;exact absurd rfl (e.2.2 x (me.mp hx) x (by simp))
  .rename_i hx;rw[adI,adI,aec];constructor
   .intro e;refine⟨ih.mp (by omega),by simp,λa ha b hb=>?_⟩;rw[ac8.mp hb];intro e';exact hx (me.mpr (e'▸ha))
   .intro e;rw[ih.mpr e.1]
end
section
variable{prog:ϯ}{w:Ϭ}{A:ϲ}{E:ε->μ->Prop}{s:μ}{zs:List Str}{us:Array ε}
def strAt(us:Array ε)(zs:List Str):=∀(i:Nat)(v:ε),us[i]?=some v->∃t z,v=.str z t/\zs[i]?=some z
def gF(prog:ϯ)(w:Ϭ)(h:ϫ)(S:δ)(zs:List Str):Prop:=h.SetOf (strKind prog w) S (λk=>decide (k∈Ϛ zs)) (Ϛ zs).length
theorem gF.stay{h h':ϫ}{S:δ}(x:gF prog w h S zs)(k:∀o,h.get? S=some o->h'.get? S=some o):gF prog w h' S zs:=by
 obtain⟨o,es,ep,t,ho,rest⟩:=x;exact⟨o,es,ep,t,k _ ho,rest⟩
theorem aeZ{R:Result->μ->Prop}{it:δ}{fp wr:List δ}{G:Array GenState->Array GenState->Prop}{St:Nat->μ->Prop}(W:WalksS prog w A.in1 it fp wr G us.size (λi v=>us[i]?=some v) St)(S:δ)(hS:S∉fp)(hz:strAt us zs)(hl:us.size=zs.length)(hb:us.size+1<scanBound)(d:Nat):∀(i:Nat)(s:μ),d+i=us.size->St i s->gF prog w s.heap S (zs.take i)->
   (∀s',Moved (S::wr) G s s'->gF prog w s'.heap S zs->R (.ok (.ret .none)) s')->codeAny (Ϧ prog w) A (.builtin "set.update.loop" ⟨[.ref S,.ref it],[]⟩) R s:=by
 have hSw:S∉wr:=λh=>hS (W.sub _ h)
 have up:∀b∈wr,b∈S::wr:=λb hb=>abN _ hb
 induction d with
 |zero=>
  intro i s hi st ts hR;have e:i=us.size:=by omega
  subst e;refine aki F.entry_set_update_loop ?_;rw[Around.under_plainId F.plain_set_update_loop _];refine ϧ (m:=pyNext (.ref it)) (W.done s _ _ st λs' hm=>?_);refine ϭ (hR s' (hm.mono up) ?_);rw[hl,agC]at ts;exact ts.stay λo ho=>hm.heap S o hSw ho
 |succ d ih=>
  intro i s hi st ts hR;refine aki F.entry_set_update_loop ?_;rw[Around.under_plainId F.plain_set_update_loop _];refine ϧ (m:=pyNext (.ref it)) (W.item i s _ _ (by omega) st λv s' hv st' hm=>?_);obtain⟨t,z,rfl,ez⟩:=hz i v hv;have ts':=ts.stay (h':=s'.heap) λo ho=>hm.heap S o hSw ho
  show ν _ A.in1 (holding [Value.str z t] (setAdd S (.str z t))>>=_) _ _ s';refine ϧ (ae5 ?_);unfold setAdd;refine ae5 (ϧ ((strKind prog w).pyHash (k:=z) (strKind_is _ _ _ _) ?_));have et:zs.take (i+1)=zs.take i++[z]:=by rw[ah8,ez];rfl
  have room:(Ϛ (zs.take i)).length+1<scanBound:=by
   have:=rQ _ (zs.take i) rfl;have:(zs.take i).length<=zs.length:=by simp;omega
   omega
  refine wpAny_setAddHashed_of (knd:=strKind prog w) (s:={s' with toks:=s'.toks+1}) (strKind_is _ _ _ _) rfl ts' room λh' sb Fp=>?_
  have zX:gF prog w h' S (zs.take (i+1)):=by
   refine SetOf_congr Fp (λk=>?_) ?_
   .rw[et,mQ];split
    .rename_i hk;by_cases e:k=z
     .subst e;simp[hk]
     .simp[e]
    .by_cases e:k=z
     .subst e;simp
     .simp[e]
   .rw[et,mQ];by_cases hk:z∈Ϛ (zs.take i)
    .simp[hk]
    .simp[hk]
  refine ϭ ⟨plainId_quiet F.plain_set_update_loop _,ih (i+1) _ (by omega) (W.frame _ s' _ _ st' (alE _) λb hb o e=>?_) zX λs2 hm2 Ft=>?_⟩
  .rw[sb.2 b (λh:b=S=>hS (h▸hb))];exact e
  .refine hR s2 (Moved.trans W.gtrans ((hm.mono up).then_heap (alE _) λb o hb e=>?_) hm2) Ft;rw[sb.2 b (λh:b=S=>hb (h▸acB))];exact e
abbrev newSet(h:ϫ)(led:Bool):ϫ:=h.push {cls:=.type "set",dict:=none,data:=.set #[] 0 (.fresh 0 0 led)}
set_option maxRecDepth 100000 in
theorem ac4{l S:δ}{Q:ε->μ->Prop}(hh:A.handled=none)(hl:s.heap.IsList l us)(hS:∃led,s.heap.get? S=some {cls:=.type "set",dict:=none,data:=.set #[] 0 (.fresh 0 0 led)})(hz:strAt us zs)(hn:us.size=zs.length)(hb:us.size+1<scanBound)(h:∀(h':ϫ)(tk:Nat),gF prog w h' S zs->(∀b o,b≠S->s.heap.get? b=some o->h'.get? b=some o)->Q .none {s with heap:=h',toks:=tk}):codeAny (Ϧ prog w) A (.call (.builtin "set.__init__") ⟨[.ref S,.ref l],[]⟩) (wants Q E) s:=by
 obtain⟨led,hS⟩:=hS;have hT:s.TypeIs (.ref S) "set":=⟨_,hS,rfl⟩;refine aly F.called_set.init.plain F.entry_set_init (check_set_init_1 hT ?_);have hl0:=hl;obtain⟨⟨oc,od,odata,os⟩,hol,hc,nl,hd⟩:=hl;simp only at hc hd;subst hc hd;have f1:=F.sub_list_set;have f2:=F.sub_list_frozenset;have f3:(Value.type "list"==Value.type "dict")=false:=by decide
 unfold amw.«set.__init__» noKeywords Builtin.Frozenset.updateFrom;generalize hPI:pyIter=PI
 wp_walk
 subst hPI;refine anB hl0 (ϧ (wpAny_runValue ?_));have lS:S<s.heap.objs.size:=ϴ hS;have ll:l<s.heap.objs.size:=ϴ hol;have h3:A.in1.in1.handled=none:=by simp[hh]
 have hlS:S≠l:=λe=>by subst e;rw[hS]at hol;simp at hol
 refine aeZ (us:=us) ((Walks.list h3 _ l (acT ll) us).toS) S (by simp only[List.mem_cons,List.not_mem_nil,or_false,not_or];exact⟨acT lS,hlS⟩) hz hn hb us.size 0 {s with heap:=s.heap.push {cls:=.type "list_iterator",data:=.fields #[.ref l,.int 0 0]}} (by omega)
  ⟨⟨_,acM _ rfl,rfl,rfl⟩,(hl0.push _)⟩ ?_ ?_
 .have hget:=Heap.get?_push_of_some {cls:=.type "list_iterator",data:=.fields #[.ref l,.int 0 0]} hS;exact SetOf_congr ((setObjOf_fresh (knd:=strKind prog w) led).setOf hget (by unfold scanBound;omega)) (λ_=>rfl) rfl
 .intro s' hm ts;obtain⟨h',g',d',tk',os'⟩:=s';have eg:g'=s.gens:=hm.gens;have ed:d'=s.drawn:=hm.drawn;have eo:os'=s.os:=hm.os;subst eg ed eo;refine ϭ ?_;show ν _ _ (ret Value.none) _ _ _;refine ϭ (h h' tk' ts λb o hb e=>?_);refine hm.heap b o ?_ (Heap.get?_push_of_some _ e);simp only[List.mem_cons,List.not_mem_nil,or_false,not_or];exact⟨hb,acT (ϴ e)⟩
set_option maxRecDepth 100000 in
theorem ajv{l:δ}{Q:ε->μ->Prop}(hh:A.handled=none)(hl:s.heap.IsList l us)(hz:strAt us zs)(hn:us.size=zs.length)(hb:us.size+1<scanBound)(h:∀(h':ϫ)(tk:Nat),gF prog w h' s.heap.objs.size zs->(∀b o,s.heap.get? b=some o->h'.get? b=some o)->Q (.ref s.heap.objs.size) {s with heap:=h',toks:=tk}):ν (Ϧ prog w) A (call (.type "set") [.ref l]) Q E s:=by
 obtain⟨c,tl,hmro⟩:=F.called_set.mro;have hmade:=F.called_set.made;have hsub:=F.called_set.sub;have h1:=F.called_set.notType;have h2:=F.called_set.canCreate;have hct:=F.typeCall_set_1 (.ref l);refine anu (codeAny_of_tree ?_);show ν _ _ (callAny (.type "set") _) _ _ _;refine ϭ ⟨Code.quiet_builtin _ (by decide+kernel),aki F.entry_type_call ?_⟩;rw[Around.under_plain (weight_type_call_type "set" [.ref l] []) rfl]
 repeat (any_goals (first|assumption|wp_step))
 refine akK (code_set_new_1 (.ref l) (E:=E) (Q₁:=λobj s₁=>∃led:Bool,obj=.ref s.heap.objs.size/\s₁={s with heap:=newSet s.heap led}) λled=>⟨led,rfl,rfl⟩) λr s₁ hr=>?_
 rcases r with e|(_|_|_|obj)
 all_goals first|exact hr|exact hr.elim|skip
 obtain⟨led,rfl,rfl⟩:=hr;have hS:(newSet s.heap led).get? s.heap.objs.size=some {cls:=.type "set",dict:=none,data:=.set #[] 0 (.fresh 0 0 led)}:=acM _ rfl;have hT:Shared.TypeIs {s with heap:=newSet s.heap led} (.ref s.heap.objs.size) "set":=⟨_,hS,rfl⟩;have hli:=F.called_set.init.lookup;have hbi:=F.called_set.init.bind (.ref s.heap.objs.size)
 repeat (any_goals (first|assumption|wp_step))
 refine akK (ac4 (E:=E) (s:={s with heap:=newSet s.heap led}) (Q:=λr s₂=>r=.none/\∃h' tk,s₂={s with heap:=h',toks:=tk}/\gF prog w h' s.heap.objs.size zs/\∀b o,s.heap.get? b=some o->h'.get? b=some o) (by simp[hh]) (hl.push _) ⟨led,hS⟩ hz hn hb λh' tk ts k=>⟨rfl,h',tk,rfl,ts,λb o e=>k b o (acT (ϴ e)) (Heap.get?_push_of_some _ e)⟩) λr₂ s₂ hr₂=>?_
 rcases r₂ with e|(_|_|_|r)
 all_goals first|exact hr₂|exact hr₂.elim|skip
 obtain⟨rfl,h',tk,rfl,ts,k⟩:=hr₂
 repeat (any_goals (first|assumption|wp_step))
 exact h _ _ ts k
end
section
variable{X:Cx}{H:Hp}{Q:VK}{v:V}
def ju(X:Cx)(S:δ)(zs:List Str):HO:=.ext λh=>gF X.prog X.w h S zs
theorem Jq{q:δ}{zs:List Str}(hc:X.calm=true)(h:θ X.K H q (zs.map V.str))(hz:zs.length<=4000)(g:∀S,H S=none->Q (.ref S) (upd H S (ju X S zs))):CL X (.type "set") [.ref q] H Q:=by
 refine c7 (r:=λxs H Q=>∃q zs,xs=[.ref q]/\θ X.K H q (zs.map V.str)/\zs.length<=4000/\∀S,H S=none->Q (.ref S) (upd H S (ju X S zs))) ?_ ⟨q,zs,rfl,h,hz,g⟩;intro ϵ s σ H xs us Q I r h;obtain⟨q,zs,rfl,h,hz,g⟩:=h;obtain⟨u,rfl,ru⟩:=vals1 r;cases(show u=Value.ref q from ru);obtain⟨ϸ,rv,pl,_⟩:=I.list h;have hl:ϸ.length=zs.length:=by have:=rv.length;rw[ϱ]at this;exact this.symm
 have hat:strAt ϸ.toArray zs:=λi v e=>by
  have e':ϸ[i]?=some v:=by simpa using e
  have hi:i<zs.length:=by rw[<-hl];exact(aaF.mp e').1
  obtain⟨u,e1,e2⟩:=rv.get (i:=i) (x:=V.str zs[i]) (by simp[hi]);rw[e']at e1;cases e1;obtain⟨t,rfl⟩:=e2;exact⟨t,zs[i],rfl,aak hi⟩
 refine ajv (I.ok.hd hc) pl.isList hat (by simpa using hl) (by show _<4096;simp;omega) λh' tk ts k=>?_
 refine⟨.ref s.heap.objs.size,_,I.laid (t':=tk) (o:=ju X s.heap.objs.size zs) k (Ϯ _) ⟨ts,?_,λh1 h2 ts hk=>ts.stay hk⟩,rfl,g _ (I.hok.fresh (Ϯ _))⟩;obtain⟨o,es,ep,t,ho,_⟩:=ts;exact⟨o,ho⟩
theorem La{S:δ}{zs:List Str}(h:H S=some (ju X S zs))(hz:zs.length<=4000)(g:Q (.int (Ϛ zs).length) H):CL X (.builtin "len") [.ref S] H Q:=by
 refine c7 (r:=λxs H Q=>∃S zs,xs=[.ref S]/\H S=some (ju X S zs)/\zs.length<=4000/\Q (.int (Ϛ zs).length) H) ?_ ⟨S,zs,rfl,h,hz,g⟩;intro ϵ s σ H xs us Q I r h;obtain⟨S,zs,rfl,h,hz,g⟩:=h;obtain⟨u,rfl,ru⟩:=vals1 r;cases(show u=Value.ref S from ru);obtain⟨⟨o,es,ep,t,ho,hex,hd,hel,hm,hb,hf,hn⟩,_⟩:=I.hok S _ h;have le:=rQ _ zs rfl;refine call_len_set ho hex hd hf (by omega) ⟨.int es.size,H,I.tok _,⟨_,rfl⟩,?_⟩;rw[hn];exact g
theorem Mw{x:V}{p:δ}{xs:List V}(h:ω X.K H p xs)(q:Q (.bl (!gM x xs)) H)(f:eO x=true:=by rfl)(fs:xs.all eO=true:=by rfl):OP X (adJ .NotIn) x (.ref p) H Q:=aX abM ⟨p,xs,rfl,.inr h,f,fs,q⟩
theorem Fv{x:V}{p:δ}{xs:List V}(h:ω X.K H p xs)(q:Q (.bl (gM x xs)) H)(f:eO x=true:=by rfl)(fs:xs.all eO=true:=by rfl):OP X (adJ .In) x (.ref p) H Q:=aX abO ⟨p,xs,rfl,.inr h,f,fs,q⟩
end
section
variable{X:Cx}{H:Hp}{D:Ends}{σ σ':St}{e a elt tg:π}{scope:ai8}{pos spos py p p':Pos}{y:Str}{j:Nat}
theorem zY(N':List Str)(S:bw X.env scope)(hN:X.N.Nodup)(h:EV X e σ H λv H1=>∃l xs,v=.ref l/\θ X.K H1 l xs/\xs.length<=Ϫ/\pW X N' scope tg elt σ' H1 (λv H'=>D.nx (σ.set j (some v)) H') xs.length λi H2 x H3=>xs[i]?=some x/\H2=H3)(hσ:bf N' X.N σ scope=σ':=by rfl)(hsw:alk (.ListComp elt [⟨tg,e,[],0⟩] scope pos) (some (.Name y py)) spos.line X.env=pure true:=by rfl)(hc:X.calm=true:=by rfl)(hs:∀x,foldedSetIterable e X.env x=pure x:=by intro _;rfl)(hi:nameAt X.N y=some j:=by rfl)(hx:X.env.scope.names.lookup y=some .local:=by rfl):SX X (.Assign [.Name y py] (.ListComp elt [⟨tg,e,[],0⟩] scope pos) spos) D σ H:=by
 refine O2 (N':=N') hsw hc S hs hN hi hx (rD (aa h λv H1 q=>?_));obtain⟨l,xs,rfl,hl,hz,hw⟩:=q;refine⟨l,rfl,⟨xs,hl⟩,?_⟩;rw[hσ];refine rG (J:=iy X.K l) hz (λi H2 s hi=>⟨xs,xs[i],ζ.seq s hl,aak hi⟩) (λH2 s=>⟨xs,ζ.seq s hl,Ϯ _⟩) (λi H2 x H3 hi s y=>⟨y.2 xs (ζ.seq s hl),y.1.symm⟩) hw
theorem ac2(N':List Str)(hσ:bf N' X.N σ scope=σ')(hsw:alk (.ListComp elt [⟨tg,.Call (.Name "range" p) [a] [] p',[],0⟩] scope pos) (some (.Name y py)) spos.line X.env=pure true)(hc:X.calm=true)(S:bw X.env scope)(hN:X.N.Nodup)(hi:nameAt X.N y=some j)(hx:X.env.scope.names.lookup y=some .local)(hg:Gl X "range")(hm:X.mg "range"=none)(hs:ϰ [a] X.env=[(false,eval a X.env)])(h:EV X a σ H λv H1=>∃n:Int,v=.int n/\ -(2^62)<=n/\n.toNat<=Ϫ/\pW X N' scope tg elt σ' H1 (λv H'=>D.nx (σ.set j (some v)) H') n.toNat λi H2 x H3=>x=.int i/\H2=H3):SX X (.Assign [.Name y py] (.ListComp elt [⟨tg,.Call (.Name "range" p) [a] [] p',[],0⟩] scope pos) spos) D σ H:=by
 refine O2 (N':=N') hsw hc S (by intro _;rfl) hN hi hx (xN hg hm hs (eF hs (aa h λv H1 q=>?_)));obtain⟨n,rfl,h1,h2,hw⟩:=q;have hsz:(Ϫ:Nat)<2^62:=by rw[ϳ];decide
 refine dX ⟨n,rfl,h1,by omega,?_⟩;rw[hσ];exact rG h2 (λi H2 s hi=>hi) (λH2 s=>Ϯ _) (λi H2 x H3 hi s y=>⟨by rw[y.2,aom],y.1.symm⟩) hw
end
def cutAt(c:Nat):List Nat->List (List Nat)
 |[]=>[[]]
 |x::r=>if x=c then[]::cutAt c r else match cutAt c r with
  |[]=>[[x]]
  |h::t=>(x::h)::t
def jW(c:Nat):List (List Nat)->List Nat
 |[]=>[]
 |[p]=>p
 |p::q::r=>p++c::jW c (q::r)
theorem LQ{c:Nat}:∀{p:List Nat},c∉p->cutAt c p=[p]
 |[],_=>rfl
 |x::r,h=>by
  have ih:=LQ (c:=c) (p:=r) λz=>h (by simp[z])
  unfold cutAt;rw[if_neg (λz=>h (by simp[z])),ih]
theorem Qo{c:Nat}{l:List Nat}:∀{p:List Nat},c∉p->cutAt c (p++c::l)=p::cutAt c l
 |[],_=>by
  show cutAt c (c::l)=_;rw[cutAt,if_pos rfl]
 |x::r,h=>by
  have ih:=Qo (c:=c) (l:=l) (p:=r) λz=>h (by simp[z])
  show cutAt c (x::(r++c::l))=_;rw[cutAt,if_neg (λz=>h (by simp[z])),ih]
theorem De{c:Nat}:∀{ps:List (List Nat)},ps≠[]->(∀p∈ps,c∉p)->cutAt c (jW c ps)=ps
 |[],h,_=>absurd rfl h
 |[p],_,h=>LQ (h p (by simp))
 |p::q::r,_,h=>by
  show cutAt c (p++c::jW c (q::r))=_;rw[Qo (h p (by simp)),De (by simp) λx hx=>h x (abN _ hx)]
theorem Dt(c:Nat):∀l,(cutAt c l).length<=l.length+1
 |[]=>by simp[cutAt]
 |x::r=>by
  have ih:=Dt c r;unfold cutAt;split
  .simp;exact ih
  .split
   .simp
   .rename_i h t e;rw[e]at ih;simp at ih⊢;omega
theorem wM(c:Nat):∀ps:List Str,(Str.join ⟨#[c]⟩ ps).cps.toList=jW c (ps.map λp=>p.cps.toList)
 |[]=>rfl
 |[p]=>rfl
 |p::q::r=>by
  have ih:=wM c (q::r);have e:Str.join ⟨#[c]⟩ (p::q::r)=p++⟨#[c]⟩++Str.join ⟨#[c]⟩ (q::r):=rfl;rw[e];show((p.cps++ #[c])++(Str.join ⟨#[c]⟩ (q::r)).cps).toList=_;simp only[Array.toList_append];rw[ih];simp[jW]
theorem aaP(x:Str)(c:Nat):Txt.split x ⟨#[c]⟩≠[]:=by
 unfold Txt.split;split
 .simp
 .split
  .simp
  .unfold Builtin.Str.partsBetween;simp
theorem split_list(x:Str)(c:Nat):(Txt.split x ⟨#[c]⟩).map (λp=>p.cps.toList)=cutAt c x.cps.toList:=by
 have h1:(Str.join ⟨#[c]⟩ (Txt.split x ⟨#[c]⟩)).cps.toList=x.cps.toList:=by rw[StrLaws.join_split]
 rw[wM]at h1;rw[<-h1];refine(De (by simpa using aaP x c) λp hp=>?_).symm;obtain⟨q,hq,rfl⟩:=acL.mp hp;exact StrLaws.split_free x c q hq
def ϣ(c:Nat)(x:Str):List Str:=(cutAt c x.cps.toList).map λl=>⟨l.toArray⟩
theorem wC(x:Str)(c:Nat):Txt.split x ⟨#[c]⟩=ϣ c x:=by
 unfold ϣ;rw[<-split_list,afK];have:((λl:List Nat=>(⟨l.toArray⟩:Str))∘λp:Str=>p.cps.toList)=id:=by
  funext p;rfl
 rw[this,ao2]
section
variable{X:Cx}{H:Hp}{Q:VK}{z y:Str}{v:V}
theorem Io:∀l:List (Str×Tok),Vals ((l.map (·.1)).map V.str) (strValues l)
 |[]=>.nil
 |p::l=>.cons ⟨p.2,rfl⟩ (Io l)
theorem m_split{c:Nat}(hz:z.length<=100000)(g:∀p,H p=none->Q (.ref p) (upd H p (.lst ((ϣ c z).map V.str)))):MT X "str.split" (.str z) [.str ⟨#[c]⟩] H Q:=by
 refine dh (r:=λx xs H Q=>∃z c,x=.str z/\xs=[.str ⟨#[c]⟩]/\z.length<=100000/\∀p,H p=none->Q (.ref p) (upd H p (.lst ((ϣ c z).map V.str)))) ?_ ⟨z,c,rfl,rfl,hz,g⟩;intro ϵ s σ H x xs v us Q I rx rs h;obtain⟨z,c,rfl,rfl,hz,g⟩:=h;obtain⟨t,rfl⟩:=rx;obtain⟨u,rfl,ru⟩:=vals1 rs;obtain⟨t',rfl⟩:=ru;have hl:(ϣ c z).length<=z.length+1:=by
  have h1:=Dt c z.cps.toList;unfold ϣ;rw[ϱ];have h2:z.cps.toList.length=z.length:=rfl;omega
 have hsz:=ϳ;have fin:∀(l:List (Str×Tok))(tk:Nat),l.map (·.1)=ϣ c z->EP X ϵ σ Q (.ref s.heap.objs.size) {s with toks:=tk,heap:=s.heap.push {cls:=.type "list",data:=.seq (strValues l).toArray}}:=λl tk e=>
  ⟨.ref s.heap.objs.size,_,I.laid (t':=tk) (o:=.lst ((ϣ c z).map V.str)) (λb o q=>Heap.get?_push_of_some _ q) (Ϯ _) ⟨by rw[ϱ];omega,strValues l,_,by rw[<-e];exact Io l,acM _ rfl⟩,rfl,g _ (I.hok.fresh (Ϯ _))⟩
 cases h1:(decide (z.length<(⟨#[c]⟩:Str).length)||decide (Builtin.Str.strKind z<Builtin.Str.strKind ⟨#[c]⟩))
 .cases hf:(Builtin.Str.occurrences z ⟨#[c]⟩ 0 z.length (z.length+1)).isEmpty
  .have e:Txt.split z ⟨#[c]⟩=Builtin.Str.partsBetween z (Builtin.Str.occurrences z ⟨#[c]⟩ 0 z.length (z.length+1)) (⟨#[c]⟩:Str).length:=by
    unfold Txt.split;rw[if_neg (by rw[h1];decide),if_neg (by rw[hf];decide)]
   have hlp:=hl;rw[<-wC,e]at hlp;refine call_meets F.slot_str_split (typeIs_str _ _ _) F.entry_str_split (F.args_str_split_2 _ _) (meets_str_split_sep z ⟨#[c]⟩ t t' h1 rfl hf (by omega) (by omega)) ?_;have:=fin (numbered s.toks (Txt.split z ⟨#[c]⟩)) (s.toks+(Builtin.Str.partsBetween z (Builtin.Str.occurrences z ⟨#[c]⟩ 0 z.length (z.length+1)) (⟨#[c]⟩:Str).length).length) (by rw[numbered_texts,wC]);rw[<-strsFrom_eq,e]at this;exact this
  .have e:Txt.split z ⟨#[c]⟩=[z]:=by
    unfold Txt.split;rw[if_neg (by rw[h1];decide),if_pos hf]
   exact call_meets F.slot_str_split (typeIs_str _ _ _) F.entry_str_split (F.args_str_split_2 _ _) (meets_str_split_not_found z ⟨#[c]⟩ t t' h1 rfl hf) (fin [(z,t)] s.toks (by rw[<-wC,e];rfl))
 .have e:Txt.split z ⟨#[c]⟩=[z]:=by
   unfold Txt.split;rw[if_pos h1]
  exact call_meets F.slot_str_split (typeIs_str _ _ _) F.entry_str_split (F.args_str_split_2 _ _) (meets_str_split_cannot_occur z ⟨#[c]⟩ t t' h1) (fin [(z,t)] s.toks (by rw[<-wC,e];rfl))
end
def Gz(K:ϩ)(l:δ)(n:Nat):It:=
 ⟨λi H=>i<n/\∃xs,θ K H l xs/\xs.length=n,λi H x H'=>H'=H/\∀xs,θ K H l xs->xs[n-1-i]?=some x,λi _=>i=n⟩
theorem Ys{P:ϯ}{w:Ϭ}{K:ϩ}{tg:π}(l it:δ)(n:Nat):Turn P w K tg (Gz K l n) [it] it (λi h=>h.IsRevIter it l ((n:Int)-1-(i:Int)))where
 mem:=by simp
 obj:=λi h st b hb=>by
  have e:b=it:=by simpa using hb
  subst e;obtain⟨o,e,c,d⟩:=st;exact⟨o,e,λv z=>by rw[d]at z;cases z⟩
 keep:=λi h h' st k=>st.at λo e=>k it (by simp) o e
 item:=by
  intro X hP hw hK hc i ϵ s σ H E I hf st hg;subst hP hw hK;obtain⟨hi,xs,hq,hx⟩:=hg;obtain⟨ϸ,rv,p,hz⟩:=I.list hq;have hx':n-1-i<xs.length:=by omega
  obtain⟨u,hu,ru⟩:=rv.get (aak hx');obtain⟨f0,f1,f2,f3,f4,f5⟩:=hf it (by simp);have ei:((n:Int)-1-(i:Int))=((n-1-i:Nat):Int):=by omega
  rw[ei]at st;refine wpAny_pyNext_rev_item st p.isList (x:=u) (by simpa using hu) λh' st' sb=>?_
  have I1:Inv X ϵ σ H {s with heap:=h'}:=I.turned (t':=s.toks) (λb o hb e=>(sb.2 b hb).trans e) f0 f1 f3 f4 f5;obtain⟨o,e,c,d⟩:=id st';refine⟨u,rfl,qQ (s:={s with heap:=h'}) e c d (by decide) ⟨_,H,I1,ru,⟨rfl,λys hy=>?_⟩,?_,λb hb=>(hf b hb).1⟩⟩
  .rw[I.list_inj hy hq];exact aak hx'
  .have e2:((n:Int)-1-((i+1:Nat):Int))=((n-1-i:Nat):Int)-1:=by omega
   rw[e2];exact st'
 done:=by
  intro X hP hw hK hc i ϵ s σ H E I hf st hg;subst hP hw hK;obtain⟨f0,f1,f2,f3,f4,f5⟩:=hf it (by simp);have e:i=n:=hg;have e2:((n:Int)-1-(i:Int))= -1:=by omega
  rw[e2]at st;exact wpAny_pyNext_rev_end (I.ok.hd hc) st λh' eb=>⟨rfl,I.turned (t':=s.toks) (λb o hb e=>eb b o hb e) f0 f1 f3 f4 f5⟩
 self:=λ_ _ _ _ _ st h=>wpAny_pyIter_revIter st h
section
variable{X:Cx}{σ:St}{H:Hp}{a:π}{tg:π}{p pos p':Pos}{R:It->Hp->Prop}{D:Ends}
theorem aeT(hg:Gl X "reversed")(hm:X.mg "reversed"=none)(hs:ϰ [a] X.env=[(false,eval a X.env)])(h:EV X a σ H λv H1=>∃l xs,v=.ref l/\θ X.K H1 l xs/\R (Gz X.K l xs.length) H1):EI X tg (.Call (.Name "reversed" p) [a] [] pos) σ H R:=by
 intro ϵ s I;refine Call_ (mC I hg hm boot_reversed (PyProof.Rows.callWith_type1 (χ (eF (es:=[]) (QA:=λvs H1=>∃l xs,vs=[.ref l]/\θ X.K H1 l xs/\R (Gz X.K l xs.length) H1) hs (aa h λv H1 ⟨l,xs,e,q1,q2⟩=>dX ⟨l,xs,by rw[e],q1,q2⟩) pos ϵ s I) λus s1 hZ=>?_) hs rfl));obtain⟨vs,H1,I1,r1,l,xs,e,hl,q⟩:=hZ;subst e;obtain⟨u,rfl,ru⟩:=vals1 r1;cases(show u=Value.ref l from ru);obtain⟨ϸ,rv,pl,hz⟩:=I1.list hl;have hlen:=rv.length;refine call_reversed_list pl.isList ?_;have hit:(s1.heap.push (revObj l ((ϸ.toArray.size:Int)-1))).IsRevIter s1.heap.objs.size l ((ϸ.toArray.size:Int)-1):=⟨_,acM _ rfl,rfl,rfl⟩;refine wpAny_pyIter_revIter hit ?_;refine⟨s1.heap.objs.size,[s1.heap.objs.size],_,_,H1,rfl,I1.kept (t':=s1.toks) λb o e=>Heap.get?_push_of_some _ e,Ys l _ xs.length,?_,λb hb=>?_,q⟩
 .have e:((xs.length:Int)-1-((0:Nat):Int))=(ϸ.toArray.size:Int)-1:=by simp;omega
  rw[e];exact hit
 .have e:b=s1.heap.objs.size:=by simpa using hb
  subst e;exact I1.fpOk (Ϯ _) (I1.hok.fresh (Ϯ _))
theorem abW{body:List Ϩ}(hp:anv (Ϧ X.prog X.w) X.A X.env X.xe)(hc:X.calm=true)(hg:Gl X "reversed")(hm:X.mg "reversed"=none)(hs:ϰ [a] X.env=[(false,eval a X.env)])(h:EV X a σ H λv H1=>∃q xs,v=.ref q/\θ X.K H1 q xs/\∃Pv:Nat->St->Hp->Prop,Pv 0 σ H1/\(∀i σ' H',i<=xs.length->Pv i σ' H'->θ X.K H' q xs)/\
   (∀i x σ' H',i<xs.length->xs[xs.length-1-i]?=some x->Pv i σ' H'->EG X tg x σ' H' λσ2 H2=>Κ X body {D with nx:=Pv (i+1),ct:=Pv (i+1),bk:=D.nx} σ2 H2)/\∀σ' H',Pv xs.length σ' H'->D.nx σ' H'):SX X (.For tg (.Call (.Name "reversed" p) [a] [] p') body [] pos) D σ H:=by
 refine rJ hp hc (by intro _;rfl) (aeT hg hm hs (aa h λv H1 q=>?_));obtain⟨q,xs,rfl,hq,Pv,h0,hl,hst,hd⟩:=q;refine⟨q,xs,rfl,hq,λi m σ H=>m=xs.length-i/\i<=xs.length/\Pv i σ H,⟨xs.length,by simp,ajg _,h0⟩,?_⟩
 rintro i m σ' H' ⟨rfl,hi,p⟩
 by_cases hlt:i<xs.length
 .refine .inr ⟨⟨hlt,xs,hl i σ' H' hi p,rfl⟩,Pv (i+1),λσ2 H2 p2=>⟨xs.length-(i+1),by omega,rfl,hlt,p2⟩,λx H2 y=>?_⟩;obtain⟨rfl,e⟩:=y;exact hst i x σ' _ hlt (e xs (hl i σ' _ hi p)) p
 .have e:i=xs.length:=by omega
  refine .inl ⟨e,?_⟩;subst e;exact hd σ' H' p
end
theorem aeN{M:Model}{A:ϲ}{E:ε->μ->Prop}{s:μ}{α:Type}{e T L:δ}{cls:ε}{d:Option δ×Bool}{fl:ε}{what:String}{env:Env}{Q:α->μ->Prop}(hf:env.frame=some L)(F:aR s.heap e cls d (some T) fl)(k:∀h',sY s.heap h' [T] []->aR h' e cls d (some T) (rawInt L)->E (.ref e) {s with heap:=h'}):ν M A (passOn what (.ref e) env) Q E s:=by
 obtain⟨oe,vs,he,hc,hdx,hd,h1,hz,h2,hT⟩:=F;obtain⟨Ϻ,oT,ws,t1,t2,t3⟩:=hT T rfl;have h3:3<ws.size:=(alp.mp t3).1;have h1':vs[1]?=some (Value.ref T):=h1;unfold PySem.passOn;refine ϧ (wpAny_field he hd h1' ?_);rw[if_neg (show ¬((Value.ref T==Value.none)=true)from by simp)];refine ϧ ?_;unfold setFlight;refine ϧ (wpAny_field he hd h1' ?_);rw[if_pos (show(Value.ref T !=Value.none)=true from by simp),hf];refine am0 t1 t2 h3 (wpAny_throw (k _ ⟨λb o q _ n=>?_,λb o q n=>⟨o.slots,?_⟩,λb o q=>?_⟩ ?_))
 .rw[adv _ _ (λz=>n (by simp[z]))];exact q
 .rw[adv _ _ (λz=>n (by simp[z]))];exact q
 .by_cases z:b=T
  .subst z;exact⟨_,ad5 _ t1 (Obj.isFreed_of_fields (Obj.data_mapFields t2 _))⟩
  .exact⟨o,by rw[adv _ _ (Ne.symm z)];exact q⟩
 .refine⟨oe,vs,?_,hc,hdx,hd,h1,hz,h2.stay λv o ws hv q1 q2=>?_,λT' eT=>?_⟩
  .rw[adv _ _ Ϻ];exact he
  .by_cases z:v=T
   .subst z;rw[t1]at q1;cases q1;exact⟨_,_,ad5 _ t1 (Obj.isFreed_of_fields (Obj.data_mapFields t2 _)),Obj.data_mapFields q2 _,by rw[akz (by decide)]⟩
   .exact⟨o,ws,by rw[adv _ _ (Ne.symm z)];exact q1,q2,rfl⟩
  .cases eT;exact⟨Ϻ,_,_,ad5 _ t1 (Obj.isFreed_of_fields (Obj.data_mapFields t2 _)),Obj.data_mapFields t2 _,by simp[h3]⟩
theorem adE{prog:ϯ}{w:Ϭ}{A:ϲ}{R:Result->μ->Prop}{s:μ}{elt target iter:π}{ifs:List π}{scope:ai8}{pos:Pos}{it acc:ε}{env:Env}(I:Nat->μ->Prop){Er:ε->μ->Prop}(hE:∀x s,Er x s->notedBy (Ϧ prog w) A env (λx s'=>R (.error x) s') x s)(turn:∀n s,I n s->ν (Ϧ prog w) A (pyNext it) (λr s₁=>match r with
   |none=>R (.ok .next) s₁
   |some v=>ν (Ϧ prog w) A (letOwnedTupleGo target it v) (λ_ s₁'=>ν (Ϧ prog w) A (assign target env v) (λ_ s₂=>
    ν (Ϧ prog w) A (forIn ifs true λc r=>if r=true then do let ok<-isTrue c env (eval c env);pure (ForInStep.yield ok)else pure (ForInStep.yield r)) (λok s₃=>
     if ok=true then ν (Ϧ prog w) A (eval elt env) (λx s₄=>
      ν (Ϧ prog w) A (call (.builtin "list.append") [acc,x]) (λ_ s₅=>∃m,m<n/\I m s₅) Er s₄) Er s₃
     else ∃m,m<n/\I m s₃) Er s₂) Er s₁') Er s₁) Er s)(n:Nat)(h:I n s):codeAny (Ϧ prog w) A (.compLoop (.ListComp elt [⟨target,iter,ifs,0⟩] scope pos) 0 it acc env) R s:=by
 refine codeAny_loop rfl I (λn s hI=>?_) n h;show ν _ A ((compTurn (.ListComp elt [⟨target,iter,ifs,0⟩] scope pos) 0 it acc env).onRaise (λx=>do noteFrame x env;theTreesLotGoes x)) _ _ s;refine wpAny_noted ?_;rw[compTurn_list];refine ϧ (alO (ϧ (adL (turn n s hI) (λr s₁ h₁=>?_) hE)));cases r with
 |none=>exact ϭ h₁
 |some v=>
  refine ϧ (adL h₁ (λ_ s₁' h₁'=>?_) hE);refine ϧ (adL h₁' (λ_ s₂ h₂=>ϧ (adL h₂ (λok s₃ h₃=>?_) hE)) hE);cases ok with
  |false=>exact ϭ ⟨rfl,h₃⟩
  |true=>
   exact ϧ (ϧ (adL h₃ (λx s₄ h₄=>ϧ (adL h₄ (λ_ s₅ h₅=>ϭ (ϭ ⟨rfl,h₅⟩)) hE)) hE))
def zb(M:Model)(A:ϲ)(E:ε->μ->Prop)(use:Option (ε->Sem Unit))(Q:ε->μ->Prop)(acc:ε)(C:Env)(r:Result)(s':μ):Prop:=
 match r,use with
 |.ok _,none=>∃m,s'.heap.Ns C.locals m/\∀h',akS C.locals s'.heap h'->Q acc {s' with heap:=h'}
 |.ok _,some u=>ν M A (u acc) (λ_ s''=>∃m,s''.heap.Ns C.locals m/\∀h',akS C.locals s''.heap h'->Q .none {s'' with heap:=h'}) E s'
 |.error x,_=>∃m,s'.heap.Ns C.locals m/\∀h',akS C.locals s'.heap h'->ν M A (passOn "comprehension.variables-let-go" x C:Sem ε) (λ_ _=>False) E {s' with heap:=h'}
theorem Vt{M:Model}{A:ϲ}{E:ε->μ->Prop}{s:μ}{env:Env}{e:π}{scope:ai8}{pos:Pos}{newAcc first:Sem ε}{g:Comprehension}{gs:List Comprehension}{cl:List (Str×δ)}{use:Option (ε->Sem Unit)}{Q:ε->μ->Prop}(hcl:clausesOf e=g::gs)(hs:∀x,foldedSetIterable g.iter env x=pure x)(hclos:closureFor scope env=pure cl)(hkind:scope.kind=.function)(hnames:∀x∈scope.names,x.2=.local->scope.names.lookup x.1=some .local)(h:ν M A first (λx s₁=>ν M A (pyIter x) (λit s₂=>ν M A newAcc (λacc s₃=>ν M A (newFunctionEnv scope env.globals cl [] env.qual none .none (some env)) (λcenv s₄=>
   codeAny M A (.compStart e 0 it acc {cenv with scope:=relabel scope env}) (zb M A E use Q acc {cenv with scope:=relabel scope env}) s₄) E s₃) E s₂) E s₁) E s):ν M A (comprehension e scope env pos newAcc false first use) Q E s:=by
 unfold comprehension;rw[hclos,hcl];refine ϧ (adL h (λx s₁ h₁=>ϧ (alO (ϧ (wpAny_of_eq (hs x) (ϧ (ae5 (adL h₁ (λit s₂ h₂=>wpAny_standIf (ϧ (adL h₂ (λacc s₃ h₃=>
  ϧ (ϭ (ϧ (adL h₃ (λcenv s₄ h₄=>?_) λ_ _ z=>z)))) λ_ _ z=>z))) λ_ _ z=>z))))))) λ_ _ z=>z)
 dsimp only;have hv:∀x∈(scope.names.filter λx=>(x.2==.local||x.2==.cell)&&x.1 !=(".0":Str)).reverse,x.2=.local->Env.kindOf {cenv with scope:=relabel scope env} x.1=some .local:=
  λx hx hl=>lookup_relabel_local (hnames x (akL.mp (aoV.mp hx)).1 hl)
 have hw:∀x∈(scope.names.filter λx=>(x.2==.local||x.2==.cell)&&x.1 !=(".0":Str)).reverse.drop 1++(scope.names.filter λx=>(x.2==.local||x.2==.cell)&&x.1 !=(".0":Str)).reverse.take 1,x.2=.local->Env.kindOf {cenv with scope:=relabel scope env} x.1=some .local:=λx hx hl=>by
  obtain z|z:=aei.mp hx
  .exact hv x (ajN z) hl
  .exact hv x (afU z) hl
 refine ae5 (ϧ (wpAny_attempt (ae5 (wpAny_run (akK h₄ λr s' hr=>?_)))));cases r with
 |ok f=>
  cases use with
  |none=>
   obtain⟨m,hn,hr⟩:=hr;exact ϧ (ae5 (wpAny_comp_letGo (cenv:={cenv with scope:=relabel scope env}) hkind _ s' m hv hn λh' m' _ z=>ϭ (hr h' z)))
  |some u=>
   refine ϧ (wpAny_rule (ϧ (ae5 (adL hr (λ_ s'' hr'=>?_) λ_ _ z=>z))));obtain⟨m,hn,hr'⟩:=hr';exact ϧ (wpAny_comp_letGo (cenv:={cenv with scope:=relabel scope env}) hkind _ s'' m hw hn λh' m' _ z=>ϭ (hr' h' z))
 |error x=>
  have hr':∃m,s'.heap.Ns cenv.locals m/\∀h',akS cenv.locals s'.heap h'->ν M A (passOn "comprehension.variables-let-go" x {cenv with scope:=relabel scope env}:Sem ε) (λ_ _=>False) E {s' with heap:=h'}:=by cases use<;>exact hr
  obtain⟨m,hn,hr⟩:=hr';exact ϧ (ae5 (wpAny_comp_letGo (cenv:={cenv with scope:=relabel scope env}) hkind _ s' m hv hn λh' m' _ z=>adL (hr h' z) (λ_ _ f=>f.elim) λ_ _ y=>y))
abbrev d8(X:Cx)(N':List Str)(scope:ai8)(cl:List (Str×δ))(C:δ)(s:μ)(H:Hp)(fp:List δ)(F:ε->μ->Prop):Cx:=(aP X N' scope cl C s H fp).tri F []
section
variable{X:Cx}{ϵ:List (δ×Obj)}{σ:St}{H:Hp}{s:μ}{scope:ai8}{N':List Str}{fp:List δ}{elt iter tg:π}{ifs:List π}{pos:Pos}{Kx:St->XK}
theorem Ve{R:ε->Env->Result->μ->Prop}{it:δ}{tn:Nat->ϫ->Prop}{J:It}{E:ε->μ->Prop}{Q:δ->Hp->Prop}(hst:X.stack=X.env::X.outer)(hfr:X.env.frame=some X.env.locals)(hc:X.calm=true)(S:bw X.env scope)(I:Inv X ϵ σ H s)(T:Turn X.prog X.w X.K tg J fp it tn)(st:tn 0 s.heap)(hf:∀b∈fp,aY X ϵ H b)(h:∀(D C:δ)(s3:μ)(F:ε->μ->Prop),H D=none->bj (d8 X N' scope (ϑ scope X.env) C s3 (upd H D (.lst [])) fp F) (λ_=>Kx σ)->fQ X (d8 X N' scope (ϑ scope X.env) C s3 (upd H D (.lst [])) fp F) tg elt ifs J D (bf N' X.N σ scope) H (Q D))(hR:∀(D:δ)(C:Env)(H':Hp)(s':μ),H D=none->Q D H'->Inv X ϵ σ H' s'->aY X ϵ H' C.locals->(∃m,s'.heap.Ns C.locals m)->R (.ref D) C (.ok .next) s')(hRx:∀(D:δ)(C:Env)(H':Hp)(s':μ)(e t:δ)(cls:ε)(d:Option δ×Bool),C.frame=some X.env.locals->Inv X ϵ σ H' s'->aY X ϵ H' C.locals->(∃m,s'.heap.Ns C.locals m)->aR s'.heap e cls d (some t) (rawInt X.env.locals)->
   (∀b∈[e,t],(H' b=none/\Ch X ϵ b)/\b≠C.locals)->Kx σ cls d H'->R (.ref D) C (.error (.ref e)) s'):ν (Ϧ X.prog X.w) X.A (newList []) (λacc s₃=>ν (Ϧ X.prog X.w) X.A (newFunctionEnv scope X.env.globals (ϑ scope X.env) [] X.env.qual none .none (some X.env)) (λcenv s₄=>
   codeAny (Ϧ X.prog X.w) X.A (.compStart (.ListComp elt [⟨tg,iter,ifs,0⟩] scope pos) 0 (.ref it) acc {cenv with scope:=relabel scope X.env}) (R acc {cenv with scope:=relabel scope X.env}) s₄) E s₃) E s:=by
 refine ak3 ?_;have hD:H s.heap.objs.size=none:=I.hok.fresh (Ϯ _);generalize hs3:({s with heap:=s.heap.push {cls:=.type "list",dict:=none,data:=.seq ([]:List ε).toArray}}:μ)=s3;have I3:Inv X ϵ σ (upd H s.heap.objs.size (.lst [])) s3:=by
  subst hs3;exact I.laid (t':=s.toks) (λb u e=>Heap.get?_push_of_some _ e) (Ϯ _) ⟨ajg _,[],0,.nil,acM _ rfl⟩
 have hsz:s3.heap.objs.size=s.heap.objs.size+1:=by subst hs3;exact anH ..
 have old3:∀b o,s.heap.get? b=some o->s3.heap.get? b=some o:=λb o e=>by subst hs3;exact Heap.get?_push_of_some _ e
 have tL:∀b∈fp,b<s.heap.objs.size:=λb hb=>by
  obtain⟨o,e,_⟩:=T.obj _ _ st b hb;exact ϴ e
 have gH:∀b∈fp,aY X ϵ (upd H s.heap.objs.size (.lst [])) b:=λb hb=>⟨by rw[ι (acT (tL b hb))];exact(hf b hb).1,(hf b hb).2⟩
 have st3:tn 0 s3.heap:=T.keep _ _ _ st λb _ o e=>old3 b o e
 have pZ:∀b∈fp,b<s3.heap.objs.size:=λb hb=>by rw[hsz];exact anY (tL b hb)
 refine wpAny_newFunctionEnv S.cell (by intro y hy;simp at hy) (λh₁ hns hsb=>?_) S.kind;have uJ:∀b o,s3.heap.get? b=some o->h₁.get? b=some o:=λb o e=>hsb.extBut b o (acT (ϴ e)) (Heap.get?_push_of_some _ e)
 generalize sX:compEnvC scope (ϑ scope X.env) s3.heap.objs.size X.env=Ce;have wR:Ce.locals=s3.heap.objs.size:=by rw[<-sX];rfl
 have hCf:Ce.frame=some X.env.locals:=by rw[<-sX];exact hfr
 generalize hB:aP X N' scope (ϑ scope X.env) s3.heap.objs.size s3 (upd H s.heap.objs.size (.lst [])) fp=B;generalize hF:notedBy (Ϧ X.prog X.w) X.A Ce (λx s'=>R (.ref s.heap.objs.size) Ce (.error x) s')=F;generalize tX:({s3 with heap:=h₁,toks:=s3.toks+([]:List (Str×ε)).length}:μ)=s4;have M7:Inv B [] (bf N' X.N σ scope) (upd H s.heap.objs.size (.lst [])) s4:=by
  subst tX;rw[<-hB];exact QM S I3 gH pZ hns uJ
 have hpn:B.pn=[]:=by rw[<-hB];rfl
 have toX:∀{pins':List (δ×Obj)}{τ:St}{H':Hp}{s':μ},Inv (B.tri F []) pins' τ H' s'->Inv X ϵ σ H' s':=λ{pins' τ H' s'} J=>by
  have J2:Inv B [] τ H' s':=Inv.jf (X:=B) (ϵ:=[]) (F:=F) (pins':=pins') M7.ok (by rw[hpn];exact J);rw[<-hB]at J2;exact Tu I3 gH J2
 have hP:(B.tri F []).prog=X.prog:=by rw[<-hB];rfl
 have hw:(B.tri F []).w=X.w:=by rw[<-hB];rfl
 have hK:(B.tri F []).K=X.K:=by rw[<-hB];rfl
 have hA:(B.tri F []).A=X.A:=by rw[<-hB];rfl
 have tu:(B.tri F []).calm=true:=by rw[<-hB];exact hc
 have hen:(B.tri F []).env=Ce:=by rw[<-hB, <-sX];rfl
 have hloc:(B.tri F []).env.locals=s3.heap.objs.size:=by rw[hen,wR]
 have hex:(B.tri F []).ex=fp:=by rw[<-hB];rfl
 have hs0:(B.tri F []).s₀=s3:=by rw[<-hB];rfl
 have afV:s3.heap.objs.size∉bY X.stack:=λz=>by
  rcases acG.mp (I3.stkSub _ z)with e|e
  .exact akD _ (e▸I3.lt)
  .exact I3.nofs (Ϯ _) e
 have Nh:bj (B.tri F []) (λ_=>Kx σ):=by
  intro pins' τ H' s' e cls d xa q;obtain⟨J,tb,fl,Fl,hfl,ch⟩:=xa;have IX:=toX J;have chX:∀b∈e::tb.toList,(H' b=none/\Ch X ϵ b)/\b≠s3.heap.objs.size:=λb hb=>by
   obtain⟨c0,c1,c2,c3⟩:=ch b hb;rw[hloc]at c2;rw[hex,hs0]at c1;refine⟨⟨c0,?_⟩,c2⟩;obtain z|z:=c1
   .obtain⟨_,g1,_,g3,g4,g5⟩:=gH b z;exact⟨g3,g1,g4,g5⟩
   .exact I3.ch z
  have hfl':(fl==rawInt X.env.locals)=false:=by
   obtain z|⟨z,_⟩:=hfl
   .rw[z];simp[rawInt]
   .rw[z,hloc,beq_eq_false_iff_ne];intro z2;simp only[rawInt]at z2;have z3:((s3.heap.objs.size:Nat):Int)=((X.env.locals:Nat):Int):=by injection z2
    have z4:s3.heap.objs.size=X.env.locals:=Int.ofNat.inj z3;have z5:=I3.lt;rw[z4]at z5;exact akD _ z5
  show F (.ref e) s';rw[<-hF];have hl:=IX.stack;rw[hst]at hl;have en:noteFrame (.ref e) Ce=noteFrame (.ref e) X.env:=by rw[<-sX];rfl
  show ν _ _ (noteFrame (.ref e) Ce) _ _ _;rw[en];refine Ke (base:=X.base) (IX.ok.frames.trans (by rw[hst])) hl hfr Fl hfl' λh' t N hT F'=>?_
  have IN:Inv X ϵ σ H' {s' with heap:=h'}:=IX.noted (by rw[hst];exact N) λb hb=>(chX b hb).1
  obtain⟨m,hn,_⟩:=J.loc;rw[hloc]at hn;have hlt:s3.heap.objs.size<s'.heap.objs.size:=hn.lt;have hfree:H' s3.heap.objs.size=none:=by
   have:=J.free;rw[hloc]at this;exact this
  refine hRx _ Ce H' _ e t cls d hCf IN (by rw[wR];exact I3.fpOk (Ϯ _) hfree) ⟨m,?_⟩ F' (λb hb=>?_) q
  .rw[wR];obtain⟨o,a1,a2,ho,hr⟩:=hn;exact⟨o,a1,a2,N.keep _ _ ho (by rw[<-hst];exact afV) (λz=>(chX _ z).2 rfl),hr⟩
  .rw[wR];obtain z|z:=acG.mp hb
   .subst z;exact chX _ acB
   .have z':b=t:=by simpa using z
    subst z';exact⟨⟨IX.hok.fresh hT,IX.ch (ak4 hT)⟩,λz=>akD _ (adz hlt (z▸hT))⟩
 have hT:=h s.heap.objs.size s3.heap.objs.size s3 F hD (by rw[<-hB]at Nh;exact Nh);rw[show d8 X N' scope (ϑ scope X.env) s3.heap.objs.size s3 (upd H s.heap.objs.size (.lst [])) fp F=B.tri F []from by rw[<-hB]]at hT;obtain⟨W,⟨m0,w0⟩,turn⟩:=hT;have I4:Inv (B.tri F []) [] (bf N' X.N σ scope) (upd H s.heap.objs.size (.lst [])) s4:=by
  have:=M7.tri (F:=F);rw[hpn]at this;exact this
 have iK:tn 0 s4.heap:=by
  subst tX;exact T.keep _ _ _ st3 λb _ o e=>uJ b o e
 have mO:∀b∈fp,∀H':Hp,H' b=none->aY (B.tri F []) [] H' b:=λb hb H' e=>by
  rw[<-hB];refine⟨e,acT (pZ b hb),λz=>?_,.inl hb,λx c q=>(gH b hb).2.2.2.2.1 x c (S.cl I3 q),λp hp=>absurd (show p∈([]:List (δ×Obj))from hp) (by simp)⟩;rcases acG.mp (I3.stkSub b z)with e|e
  .exact(hf b hb).2.1 e
  .exact(hf b hb).2.2.1 e
 have loop:codeAny (Ϧ X.prog X.w) X.A (.compLoop (.ListComp elt [⟨tg,iter,ifs,0⟩] scope pos) 0 (.ref it) (.ref s.heap.objs.size) Ce) (R (.ref s.heap.objs.size) Ce) s4:=by
  refine adE (Er:=F) (λn s'=>∃i τ H',Inv (B.tri F []) [] τ H' s'/\tn i s'.heap/\(∀b∈fp,H' b=none)/\W i n τ H') (λx s z=>by rw[<-hF]at z;exact z) ?_ m0 ⟨0,_,_,I4,iK,λb hb=>(gH b hb).1,w0⟩
  rintro n s5 ⟨i,τ,H5,I5,st5,fr5,w5⟩
  have toF:∀{α:Type}{t:Sem α}{Q:α->μ->Prop}{s:μ},ν (Ϧ (B.tri F []).prog (B.tri F []).w) (B.tri F []).A t Q (B.tri F []).xe s->ν (Ϧ X.prog X.w) X.A t Q F s:=λh=>by
   rw[hP,hw,hA]at h;exact h
  rw[<-hen];obtain⟨stop,qn⟩|⟨go,N,hN,step⟩:=turn i n τ H5 w5
  .have q:=T.done (B.tri F []) hP hw hK tu i [] s5 τ H5 F I5 (λb hb=>mO b hb _ (fr5 b hb)) st5 stop;rw[hA]at q;refine χ q λr s6 hZ=>?_
   obtain⟨hr,I6⟩:=hZ;subst hr;refine hR _ _ H5 s6 hD qn (toX I6) ?_ ?_
   .rw[hloc];refine I3.fpOk (Ϯ _) ?_;have:=I6.free;rw[hloc]at this;exact this
   .obtain⟨m,hn,_⟩:=I6.loc;exact⟨m,hn⟩
  .have q:=T.item (B.tri F []) hP hw hK tu i [] s5 τ H5 F I5 (λb hb=>mO b hb _ (fr5 b hb)) st5 go;rw[hA]at q;refine χ q λr s6 hZ=>?_
   obtain⟨u,hr,h6⟩:=hZ;subst hr;refine χ h6 λ_ s7 hZ=>?_
   obtain⟨x,H7,I7,r7,y7,lO,GZ⟩:=hZ;have Cz:=I7.pinned (λb hb=>mO b hb _ (GZ b hb)) (T.obj _ _ lO);have uE:∀{τ':St}{H8:Hp}{s8:μ},Inv (B.tri F []) ([]++mY fp s7.heap) τ' H8 s8->tn (i+1) s8.heap/\∀b∈fp,H8 b=none:=λ{τ' H8 s8} I8=>by
    refine⟨T.keep _ _ _ lO λb hb o e=>(I8.pin (b,o) (ad2 _ (ad2 _ (nW hb e)))).1,λb hb=>?_⟩;obtain⟨o,e,d⟩:=T.obj _ _ lO b hb;exact(I8.pin (b,o) (ad2 _ (ad2 _ (nW hb e)))).2.1
   refine toF (χ (step x H7 y7 _ s7 u Cz r7) λ_ s8 hZ=>?_);obtain⟨τ8,H8,I8,q8⟩:=hZ;refine toF (χ (q8 _ s8 I8) λok s9 hZ=>?_);obtain⟨H9,I9,q9⟩:=hZ;cases ok with
   |false=>
    have mF:N τ8 H9:=by simpa using q9
    obtain⟨m',hm,w9⟩:=hN _ _ mF;obtain⟨k1,k2⟩:=uE I9;show ∃m,_;exact⟨m',hm,i+1,τ8,H9,I9.unpinned,k1,k2,w9⟩
   |true=>
    have mF:EV (B.tri F []) elt τ8 H9 λy H4=>∃xs,H4 s.heap.objs.size=some (.lst xs)/\xs.length<Ϫ/\N τ8 (upd H4 s.heap.objs.size (.lst (xs++[y]))):=by simpa using q9
    show ν _ _ _ _ _ _;refine toF (χ (mF _ s9 I9) λz dW hZ=>?_);obtain⟨y,fY,Aw,r10,xs,e10,l10,n10⟩:=hZ;refine toF (χ (fX _ dW τ8 fY (.ref s.heap.objs.size) [y] _ [z] (λv cz=>v=.non/\cz=upd fY s.heap.objs.size (.lst (xs++[y]))) Aw rfl (.cons r10 .nil) ⟨_,xs,y,rfl,rfl,e10,l10,rfl,rfl⟩) λ_ s11 hZ=>?_);obtain⟨_,cz,rZ,_,_,zc⟩:=hZ;subst zc;obtain⟨m',hm,w11⟩:=hN _ _ n10;obtain⟨k1,k2⟩:=uE rZ;exact⟨m',hm,i+1,τ8,_,rZ.unpinned,k1,k2,w11⟩
 rw[<-sX]at loop;exact codeAny_compStart_list loop (T.self X.A 0 s4 _ _ iK loop)
theorem aiX{Q:ε->μ->Prop}{use:Option (ε->Sem Unit)}(hx:bj X Kx){acc:ε}{C:Env}{H':Hp}{s':μ}{e t:δ}{cls:ε}{d:Option δ×Bool}(hCf:C.frame=some X.env.locals)(I:Inv X ϵ σ H' s')(fC:aY X ϵ H' C.locals)(hn:∃m,s'.heap.Ns C.locals m)(F:aR s'.heap e cls d (some t) (rawInt X.env.locals))(ch:∀b∈[e,t],(H' b=none/\Ch X ϵ b)/\b≠C.locals)(q:Kx σ cls d H'):zb (Ϧ X.prog X.w) X.A X.xe use Q acc C (.error (.ref e)) s':=by
 obtain⟨m,hn⟩:=hn;obtain⟨f0,f1,f2,f3,f4,f5⟩:=fC;have main:∃m,s'.heap.Ns C.locals m/\∀h',akS C.locals s'.heap h'->ν (Ϧ X.prog X.w) X.A (passOn "comprehension.variables-let-go" (.ref e) C:Sem ε) (λ_ _=>False) X.xe {s' with heap:=h'}:=by
  refine⟨m,hn,λh' hsb=>?_⟩;have I2:Inv X ϵ σ H' {s' with heap:=h'}:=I.turned (t':=s'.toks) (λb o hb e=>hsb.extBut b o hb e) f0 f1 f3 f4 f5;have F2:aR h' e cls d (some t) (rawInt X.env.locals):=by
   obtain⟨oe,vs,he,hc,hdx,hd,h1,hz,h2,hT⟩:=F;refine⟨oe,vs,hsb.extBut _ _ (ch e (by simp)).2 he,hc,hdx,hd,h1,hz,h2.stay (λv o ws hv q1 q2=>⟨o,ws,hsb.extBut _ _ (λz=>by
    obtain⟨_,_,_,ho,hdd,_⟩:=hn;rw[<-z,q1]at ho;cases ho;rw[q2]at hdd;cases hdd) q1,q2,rfl⟩),λT eT=>?_⟩
   cases eT;obtain⟨Ϻ,oT,ws,t1,t2,t3⟩:=hT t rfl;exact⟨Ϻ,oT,ws,hsb.extBut _ _ (ch t (by simp)).2 t1,t2,t3⟩
  refine aeN (s:={s' with heap:=h'}) hCf F2 λh2 N F3=>?_
  refine hx ϵ σ H' _ e cls d ⟨I2.noted (ch:=[t]) ⟨λb o q _ n=>N.keep b o q (by simp) n,N.slot,N.there⟩ λb hb=>?_,some t,_,F3,.inr ⟨rfl,rfl⟩,λb hb=>(ch b (by simpa using hb)).1⟩ q;have z:b=t:=by simpa using hb
  subst z;exact(ch b (by simp)).1
 cases use<;>exact main
theorem VR{D:Ends}{y:Str}{py spos:Pos}{j:Nat}(hx0:bj X Kx)(hst:X.stack=X.env::X.outer)(hfr:X.env.frame=some X.env.locals)(hsw:alk (.ListComp elt [⟨tg,iter,ifs,0⟩] scope pos) (some (.Name y py)) spos.line X.env=pure true)(hc:X.calm=true)(S:bw X.env scope)(hs:∀x,foldedSetIterable iter X.env x=pure x)(hN:X.N.Nodup)(hi:nameAt X.N y=some j)(hx:X.env.scope.names.lookup y=some .local)(h:EI X tg iter σ H λJ H1=>∀(fp:List δ)(E C:δ)(s3:μ)(F:ε->μ->Prop),H1 E=none->bj (d8 X N' scope (ϑ scope X.env) C s3 (upd H1 E (.lst [])) fp F) (λ_=>Kx σ)->fQ X (d8 X N' scope (ϑ scope X.env) C s3 (upd H1 E (.lst [])) fp F) tg elt ifs J E (bf N' X.N σ scope) H1 (λH'=>D.nx (σ.set j (some (.ref E))) H')):SX X (.Assign [.Name y py] (.ListComp elt [⟨tg,iter,ifs,0⟩] scope pos) spos) D σ H:=by
 intro ϵ s I;rw[exec_Assign_Name_used _ _ _ _ hsw];refine ϧ (alO (ϧ ?_));show ν _ X.A (do let _<-comprehension (.ListComp elt [⟨tg,iter,ifs,0⟩] scope pos) scope X.env _ (newList []) false (eval iter X.env) (some (assign (.Name y py) X.env))) _ _ s;refine ϧ (adL (Vt (use:=some (assign (.Name y py) X.env)) (Q:=λ_ s'=>SP X ϵ D .next s') rfl hs (GF (S.has I)) S.kind S.loc
  (χ (h ϵ s I) λv s1 h1=>χ h1 λitv s2 h2=>?_)) (λ_ s' hq=>ϭ (ϭ hq)) λ_ _ e=>e)
 obtain⟨it,fp,tn,J,H2,e,I2,T,st2,f2,q2⟩:=h2;subst e;refine Ve (Kx:=Kx) (R:=λacc C=>zb (Ϧ X.prog X.w) X.A X.xe (some (assign (.Name y py) X.env)) (λ_ s'=>SP X ϵ D .next s') acc C) (Q:=λE H'=>D.nx (σ.set j (some (.ref E))) H') hst hfr hc S I2 T st2 f2 (λE C s3 F hD xo=>q2 fp E C s3 F hD xo) (λE C H' s' hD qD IX fC hn=>?_)
  λD C H' s' e t cls d hCf IX fC hn F ch q=>aiX hx0 hCf IX fC hn F ch q
 obtain⟨m,hn⟩:=hn;obtain⟨f0,f1,Rw,f3,f4,f5⟩:=fC;show ν _ _ (assign (.Name y py) X.env (.ref E)) _ _ _;refine wpAny_assign_Name (wz IX hN (jQ hi) (.inl hx) (v:=.ref E) rfl (λs'' CW hb=>?_) (.inr hx));obtain⟨a,sb,ha⟩:=hb;have Dj:C.locals≠a:=by
  obtain ha|ha:=ha
  .rw[ha];exact f1
  .intro z;exact f4 y a ha z.symm
 refine⟨m,hn.sameBut sb Dj,λh' hsb=>⟨σ.set j (some (.ref E)),H',CW.turned (t':=s''.toks) (λb o hb e=>hsb.extBut b o hb e) f0 f1 f3 f4 f5,qD⟩⟩
end
section
variable{X:Cx}{a e:π}{σ σ':St}{H:Hp}{Q:VK}{D:Ends}{pos spos py p p':Pos}{tg elt iter:π}{scope:ai8}{Kx:St->XK}{y:Str}{j:Nat}
def Nj(X:Cx)(N':List Str)(scope:ai8)(tg elt:π)(σ σ':St)(Kx:St->XK)(H1:Hp)(Q:VK)(n:Nat)(G:Nat->Hp->V->Hp->Prop):Prop:=
 ∃(Tp:St->Prop)(Pi:δ->Nat->V->Hp->Prop),Tp σ'/\
  (∀E i v H2 H3 ys,H2 E=some (.lst ys)->(∀b o,b≠E->H2 b=some o->H3 b=some o)->Pi E i v H2->Pi E i v H3)/\
  (∀(fp:List δ)(E C:δ)(s3:μ)(H0:Hp)(F:ε->μ->Prop)(i:Nat)(τ:St)(x:V)(H2 H3:Hp),bj (d8 X N' scope (ϑ scope X.env) C s3 H0 fp F) (λ_=>Kx σ)->H1 E=none->i<n->Tp τ->ζ H1 H2->(∃ys,H2 E=some (.lst ys)/\ys.length=i/\∀k v,ys[k]?=some v->Pi E k v H2)->G i H2 x H3->
   EG (d8 X N' scope (ϑ scope X.env) C s3 H0 fp F) tg x τ H3 λτ2 H4=>EV (d8 X N' scope (ϑ scope X.env) C s3 H0 fp F) elt τ2 H4 λv H5=>Tp τ2/\Pi E i v H5/\ζ H2 H5)/\
  ∀(E:δ)(H2:Hp)(xs:List V),H1 E=none->xs.length=n->(∀i v,xs[i]?=some v->Pi E i v H2)->H2 E=some (.lst xs)->ζ H1 H2->Q (.ref E) H2
theorem ael{Y:Cx}{tg elt:π}{J:It}{E:δ}{τ0:St}{Q:Hp->Prop}(n:Nat)(hn:n<=Ϫ)(Tp:St->Prop)(hT:Tp τ0)(Pi:Nat->V->Hp->Prop)(hE:H E=none)(mono:∀i v H1 H2 ys,H1 E=some (.lst ys)->(∀b o,b≠E->H1 b=some o->H2 b=some o)->Pi i v H1->Pi i v H2)(go:∀i H1,ζ H H1->i<n->J.go i H1)(stop:∀H1,ζ H H1->J.stop n H1)(step:∀i τ x H1 H2,i<n->Tp τ->ζ H H1->(∃ys,H1 E=some (.lst ys)/\ys.length=i/\∀k v,ys[k]?=some v->Pi k v H1)->J.yld i H1 x H2->EG Y tg x τ H2 λτ2 H3=>EV Y elt τ2 H3 λv H4=>Tp τ2/\Pi i v H4/\ζ H1 H4)(fin:∀H1 xs,xs.length=n->(∀i v,xs[i]?=some v->Pi i v H1)->H1 E=some (.lst xs)->ζ H H1->Q H1):fQ X Y tg elt [] J E τ0 H Q:=by
 refine⟨λi m τ H1=>m=n-i/\i<=n/\ζ H H1/\Tp τ/\∃xs,H1 E=some (.lst xs)/\xs.length=i/\∀k v,xs[k]?=some v->Pi k v H1,⟨n,by simp,ajg _,ζ.upd hE,hT,[],ρ,rfl,λk v e=>by simp at e⟩,?_⟩
 rintro i m τ H1 ⟨rfl,hi,s1,hτ,xs,eE,lx,px⟩
 by_cases hlt:i<n
 .refine .inr ⟨go i H1 s1 hlt,λτ' H'=>ζ H H'/\Tp τ'/\∃xs,H' E=some (.lst xs)/\xs.length=i+1/\∀k v,xs[k]?=some v->Pi k v H',λτ' H' ⟨a,b,c⟩=>⟨n-(i+1),by omega,rfl,hlt,a,b,c⟩,λx H2 y=>?_⟩;intro ϵ s u I r;refine χ (step i τ x H1 H2 hlt hτ s1 ⟨xs,eE,lx,px⟩ y ϵ s u I r) λ_ s' ⟨τ2,H3,I3,q3⟩=>⟨τ2,H3,I3,zJ ?_⟩
  rw[if_pos rfl];refine aa q3 λv H4 ⟨t2,pv,s2⟩=>⟨xs,s2 _ _ eE,by omega,?_⟩
  have mm:∀k w',Pi k w' H4->Pi k w' (upd H4 E (.lst (xs++[v]))):=λk w' q=>mono k w' H4 _ xs (s2 _ _ eE) (λb o hb e=>by rw[ι hb];exact e) q
  refine⟨λb o e=>?_,t2,xs++[v],ρ,by simp[lx],λk u e=>?_⟩
  .rw[ι (Θ e hE)];exact s2 _ _ (s1 _ _ e)
  .by_cases hk:k<xs.length
   .rw[akE hk]at e;refine mono k u H1 _ xs eE (λb o hb e=>?_) (px k u e);rw[ι hb];exact s2 _ _ e
   .have hk2:k=i:=by
     have:=(aaF.mp e).1;rw[adI,aec]at this;omega
    subst hk2;rw[<-lx,amV]at e;cases e;exact mm _ _ pv
 .have e:i=n:=by omega
  subst e;exact .inl ⟨stop H1 s1,fin H1 xs lx px eE s1⟩
theorem ac1{N':List Str}{J:It}{n:Nat}{G:Nat->Hp->V->Hp->Prop}(hn:n<=Ϫ)(go:∀i H2,ζ H H2->i<n->J.go i H2)(stop:∀H2,ζ H H2->J.stop n H2)(yl:∀i H2 x H3,i<n->ζ H H2->J.yld i H2 x H3->G i H2 x H3)(h:Nj X N' scope tg elt σ σ' Kx H Q n G):∀(fp:List δ)(D C:δ)(s3:μ)(F:ε->μ->Prop),H D=none->bj (d8 X N' scope (ϑ scope X.env) C s3 (upd H D (.lst [])) fp F) (λ_=>Kx σ)->fQ X (d8 X N' scope (ϑ scope X.env) C s3 (upd H D (.lst [])) fp F) tg elt [] J D σ' H (λH'=>Q (.ref D) H'):=by
 intro fp E C s3 F hE xo;obtain⟨Tp,Pi,t0,mono,step,fin⟩:=h;exact ael n hn Tp t0 (Pi E) hE (λi v H1 H2 ys=>mono E i v H1 H2 ys) go stop (λi τ x H1 H2 hi ht hs hy y=>step fp E C s3 _ F i τ x H1 H2 xo hE hi ht hs hy (yl i H1 x H2 hi hs y)) λH1 xs l px eE s=>fin E H1 xs hE l px eE s
theorem ajw(N':List Str)(hσ:bf N' X.N σ scope=σ')(hx0:bj X Kx)(hst:X.stack=X.env::X.outer)(hfr:X.env.frame=some X.env.locals)(hsw:alk (.ListComp elt [⟨tg,e,[],0⟩] scope pos) (some (.Name y py)) spos.line X.env=pure true)(hc:X.calm=true)(S:bw X.env scope)(hs:∀x,foldedSetIterable e X.env x=pure x)(hN:X.N.Nodup)(hi:nameAt X.N y=some j)(hx:X.env.scope.names.lookup y=some .local)(h:EV X e σ H λv H1=>∃l xs,v=.ref l/\θ X.K H1 l xs/\xs.length<=Ϫ/\Nj X N' scope tg elt σ σ' Kx H1 (λv H'=>D.nx (σ.set j (some v)) H') xs.length λi H2 x H3=>xs[i]?=some x/\H2=H3):SX X (.Assign [.Name y py] (.ListComp elt [⟨tg,e,[],0⟩] scope pos) spos) D σ H:=by
 refine VR (N':=N') hx0 hst hfr hsw hc S hs hN hi hx (rD (aa h λv H1 q=>?_));obtain⟨l,xs,rfl,hl,hz,hw⟩:=q;refine⟨l,rfl,⟨xs,hl⟩,?_⟩;rw[hσ];refine ac1 (J:=iy X.K l) (Q:=λv H'=>D.nx (σ.set j (some v)) H') hz (λi H2 s hi=>⟨xs,xs[i],ζ.seq s hl,aak hi⟩) (λH2 s=>⟨xs,ζ.seq s hl,Ϯ _⟩) (λi H2 x H3 hi s y=>⟨y.2 xs (ζ.seq s hl),y.1.symm⟩) hw
end
def iT(K:ϩ)(C L:δ):Bool:=(ao9 K C).any λcd=>cd.hasDict&&cd.mro==.ref C:: .ref L::dq
theorem DQ{K:ϩ}{C L:δ}(h:iT K C L=true):∃cd,ao9 K C=some cd/\cd.hasDict=true/\cd.mro=.ref C:: .ref L::dq:=by
 obtain⟨cd,h1,h2⟩:=W.any_some h;rw[aaV,beq_iff_eq]at h2;exact⟨cd,h1,h2.1,h2.2⟩
section
variable{prog:ϯ}{w:Ϭ}{A:ϲ}{E:ε->μ->Prop}{s:μ}{K:ϩ}{x C L:δ}{ox:Obj}{vs:Array ε}{name:Str}{v:ε}
theorem acO{Q:Unit->μ->Prop}(X:K.In s.heap)(hx:s.heap.get? x=some ox)(hc:ox.cls=.ref C)(hf:ox.data=.fields vs)(hd:ox.dict=none)(hs:aeB K (.ref C) "__setattr__"=some (some (.builtin "object.__setattr__")))(hm:iT K C L=true)(ht:anP K C name=some none)(h:∀h' tk,h'.get? x=some {ox with dict:=some s.heap.objs.size}->h'.Ns1 s.heap.objs.size (λy=>if y=name then some v else none)->(∀b o,b≠x->s.heap.get? b=some o->h'.get? b=some o)->Q () {s with heap:=h',toks:=tk}):ν (Ϧ prog w) A (setAttr (.ref x) name v) Q E s:=by
 obtain⟨cd,hcd,hdc,hmro⟩:=DQ hm;have I:aoZ s.heap x ox C none:=⟨hx,hc,by unfold apj;rw[hf],by rw[hd];trivial⟩;refine W.set_plain X I hs ?_;have SF:=F.store_object;have sub:ao8 (Ϧ prog w) s.heap (isInstance (.ref x) (.type "object")) true:=I.type.andThen (apa X (by unfold amQ;rw[hcd,Option.bind_some,hmro];rfl));refine aly SF.slot.plain SF.entry (@W.check_slot (Ϧ prog w) _ _ {s with toks:=s.toks+1} "object.__setattr__" "object" "__setattr__" (.ref x) [.str name s.toks,v] [] _ SF.kind SF.split sub (SF.args (.ref x) (.str name s.toks) v) ?_);obtain⟨attr,ha,hr⟩:=Option.bind_eq_some_iff.mp ht;have hmo:ao8 (Ϧ prog w) s.heap (mroOf (.ref C)) cd.mro:=(aoC X hcd).andThen .now;have L3:ao8 (Ϧ prog w) s.heap (Builtin.ObjectAttr.storeTaker? attr) none:=by
  cases attr with
  |none=>exact .now
  |some a=>
   obtain⟨b,hb,e⟩:=afi.mp hr;refine(W.looks_takesIn X hb).andThen ?_;cases b
   .exact .now
   .cases e
 rw[W.osa_eq,refuse_eq];refine ϧ (ϧ (W.Looks.here (s:={s with toks:=s.toks+1}) I.type (ϧ (W.Looks.here (s:={s with toks:=s.toks+1}) hmo ?_))));rw[hmro,refuseLoop_ref,refuseLoop_ref,F.store_ValueError.passes];refine ϭ (ϧ (W.Looks.here (s:={s with toks:=s.toks+1}) I.type (ϧ (W.Looks.here (s:={s with toks:=s.toks+1}) (anV X ha) (ϧ (W.Looks.here (s:={s with toks:=s.toks+1}) L3 ?_))))));obtain⟨oc,od,oda,osl⟩:=ox;dsimp only at hc hf hd;subst hc hf hd;refine ϧ (ϭ (ϧ (ϧ (wpAny_loadPart (s:={s with toks:=s.toks+1}) hx (ϧ (W.Looks.here (s:={s with toks:=s.toks+1}) (aoC X hcd) ?_))))));rw[hdc];rw[if_neg (by decide)];show ν _ _ (if(!true|| !typeHasDict (Value.ref C))=true then pure none else(alloc {cls:=.type "dict",data:=.dict #[]}>>=λd=>update x (λo=>{o with dict:=some d})>>=λ_=>dictMade (Value.ref C) x d)) _ _ _;rw[if_neg (by simp[typeHasDict])];have hx₁:(s.heap.push {cls:=.type "dict",data:=.dict #[]}).get? x=some {cls:=.ref C,data:=.fields vs,slots:=osl}:=Heap.get?_push_of_some _ hx;have hxs:x≠s.heap.objs.size:=acT (ϴ hx);refine ϧ (wpAny_alloc (s:={s with toks:=s.toks+1}) ?_);refine ϧ (wpAny_update (s:={s with heap:=s.heap.push {cls:=.type "dict",data:=.dict #[]},toks:=s.toks+1}) hx₁ ?_);refine ϭ ?_;have hgd:((s.heap.push {cls:=.type "dict",data:=.dict #[]}).update x λo=>{o with dict:=some s.heap.objs.size}).get? s.heap.objs.size=some {cls:=.type "dict",data:=.dict #[]}:=
  (aow _ _ _ _ hxs.symm).trans (aoL rfl rfl)
 have hnd:((s.heap.push {cls:=.type "dict",data:=.dict #[]}).update x λo=>{o with dict:=some s.heap.objs.size}).Ns s.heap.objs.size (λ_=>none):=
  ⟨_, #[],_,hgd,rfl,λe he=>absurd he (by simp),λ_=>rfl⟩
 show ν _ _ (Builtin.ObjectAttr.storeInDict s.heap.objs.size (.str name s.toks) name v) _ _ _;unfold Builtin.ObjectAttr.storeInDict Builtin.ObjectAttr.newKeyGuard;refine ϧ (ϭ (ϧ (wpAny_nsSet1 (s:={s with heap:=(s.heap.push {cls:=.type "dict",data:=.dict #[]}).update x λo=>{o with dict:=some s.heap.objs.size},toks:=s.toks+1}) (Heap.Ns1.of_empty hnd) λh' hn' hs'=>?_)));obtain⟨oD,esD,epD,hoD,hdD,hcD⟩:=hn'.count (Within.cons name v Within.nil);refine ϧ (wpAny_lookBehind hoD (by rw[hdD];exact pastItsLine_dict (ah6 hcD (by rw[List.length_cons,List.length_nil,ϳ];omega))) ?_);refine ϭ (h h' _ ?_ hn' λb ob hbx hb=>?_)
 .refine(hs'.2 x hxs).trans (ad5 _ hx₁ rfl)
 .exact(hs'.2 b (acT (ϴ hb))).trans ((aow _ _ _ _ hbx).trans (Heap.get?_push_of_some _ hb))
end
abbrev lB(K:ϩ)(C f:δ):Bool:=Dz K C (some (.ref f))
theorem Jg{K:ϩ}{C f:δ}{h:ϫ}(kin:K.In h)(e:lB K C f=true):∃bm N nm q bs hdct sn sub ab col dd k0 k1 k2 k3 k5 mN,h.get? C=some (excClassObj nm q C N bs bm hdct sn sub ab col dd k0 k1 k2 k3 k5 "ValueError.__new__")/\h.Ns N mN/\mN "__init__"=some (.ref f)/\OwnTail h dq bm:=Jv kin e
section
variable{prog:ϯ}{w:Ϭ}{A:ϲ}{E:ε->μ->Prop}{h:ϫ}{g:Array GenState}{d:Drawn}{t:Nat}{os:OsState}
variable{nm q:Str}{C N x:δ}{bs bm:List ε}{hdct:Bool}{sn:List Str}{sub:List ε}{ab:Bool}{col:Option Bool}{dd:Option δ}{k0 k1 k2 k3 k5:Option ε}{ox:Obj}{vs:Array ε}{v:ε}
theorem Yp{t0:δ}{Q:ε->μ->Prop}(T:OwnTail h dq bm)(hC:h.get? C=some (excClassObj nm q C N bs bm hdct sn sub ab col dd k0 k1 k2 k3 k5 "ValueError.__new__"))(hx:h.get? x=some {cls:=.ref C,data:=.fields #[.ref t0,.none,.none,.none,.bool false,.none]})(hq:∀h' t1,h'.get? x=some {cls:=.ref C,data:=.fields #[.ref t1,.none,.none,.none,.bool false,.none]}->(∀b o,b≠x->h.get? b=some o->h'.get? b=some o)->Q .none ⟨h',g,d,t,os⟩):ν (Ϧ prog w) A (call (.builtin "ValueError.__init__") [.ref x,v]) Q E ⟨h,g,d,t,os⟩:=by
 have F0:=F.excBase_ValueError;refine anu (aly F0.init.plain F0.initEntry (wpAny_check_init_subT F0 T hC hx rfl ?_))
 wp_walk
 refine hq _ h.objs.size ?_ λb o hb q=>?_
 .rw[ad5 _ (Heap.get?_push_of_some _ hx) rfl];rfl
 .rw[adv _ _ (Ne.symm hb)];exact Heap.get?_push_of_some _ q
theorem adW{mN:Str->Option ε}{rest:List ε}{fI:δ}{oI:Obj}{Q:Fin->μ->Prop}(T:OwnTail h dq bm)(hC:h.get? C=some (excClassObj nm q C N bs bm hdct sn sub ab col dd k0 k1 k2 k3 k5 "ValueError.__new__"))(hn:h.Ns N mN)(hi:mN "__init__"=some (.ref fI))(hfI:h.get? fI=some oI)(hfc:oI.cls=.type "function")(hq:∀h' e,aot h h' e (.ref C) rest->ν (Ϧ prog w) A (call (.ref fI) (.ref e::rest)) (λr s'=>r=.none/\Q (.done (.ret (.ref e))) s') E ⟨h',g,d,t,os⟩)(hrest:rest.length<=Ϫ):ν (Ϧ prog w) A (amw.«type.__call__» ⟨.ref C::rest,[]⟩) Q E ⟨h,g,d,t,os⟩:=by
 have F0:=F.excBase_ValueError
 repeat (first|with_reducible refine amy hC ?_|with_reducible refine wpAny_madeBy_exc hC ?_|wp_step)
 refine codeAny_call_builtin_code (Code.quiet_builtin _ F0.quiet) (wpAny_check_new_subT F0 T hC ?_);refine codeAny_exc_new_subT F0 T hC ?_ hrest;show ν _ _ _ _ _ _;generalize hh1:(h.push {cls:=.type "tuple",data:=.seq rest.toArray}).push {cls:=.ref C,data:=.fields #[.ref h.objs.size,.none,.none,.none,.bool false,.none]}=h1;have k1':∀b o,h.get? b=some o->h1.get? b=some o:=λb o e=>by rw[<-hh1];exact Heap.get?_push_of_some _ (Heap.get?_push_of_some _ e)
 have hC₁:=k1' _ _ hC;have hn₁:h1.Ns N mN:=let⟨o,es,ep,e,r⟩:=hn;⟨o,es,ep,k1' _ _ e,r⟩;have hget:h1.get? (h.objs.size+1)=some {cls:=.ref C,data:=.fields #[.ref h.objs.size,.none,.none,.none,.bool false,.none]}:=by rw[<-hh1];heap_get
 have hcC:(Value.ref C::bm).contains (.ref C)=true:=by simp
 have T₁:=T.keeps k1';unfold isInstance
 repeat (first|with_reducible refine amy hget ?_|(with_reducible refine wpAny_isSubtype_exc hC₁ ?_;rw[hcC])|wp_step)
 show ν _ _ (typeLookup (.ref C) _) _ _ _;refine wpAny_typeLookup_tail hC₁ hn₁ T₁ F0.mroIs F0.init.lookup ?_;rw[hi];refine ae5 (ϧ ?_);unfold bindSpecial;refine ϧ (wpAny_typeOf (T:="function") ⟨_,k1' _ _ hfI,hfc⟩ ?_);rw[if_pos (by decide)];refine ϭ (ϧ (adL (hq h1 (h.objs.size+1) ⟨k1',ak4 (alE _),h.objs.size,hget,ak4 (Ϯ _),?_⟩) (λr s' hr=>?_) λ_ _ x=>x))
 .rw[<-hh1];exact Heap.get?_push_of_some _ (aoL rfl rfl)
 .obtain⟨rfl,hQ⟩:=hr
  wp_walk
  exact hQ
theorem Yv{mN:Str->Option ε}{rest:List ε}{fI:δ}{oI:Obj}{Q:ε->μ->Prop}(T:OwnTail h dq bm)(hC:h.get? C=some (excClassObj nm q C N bs bm hdct sn sub ab col dd k0 k1 k2 k3 k5 "ValueError.__new__"))(hn:h.Ns N mN)(hi:mN "__init__"=some (.ref fI))(hfI:h.get? fI=some oI)(hfc:oI.cls=.type "function")(hq:∀h' e,aot h h' e (.ref C) rest->ν (Ϧ prog w) (A.under (.builtin "type.__call__" ⟨.ref C::rest,[]⟩)) (call (.ref fI) (.ref e::rest)) (λr s'=>r=.none/\Q (.ref e) s') E ⟨h',g,d,t,os⟩)(hrest:rest.length<=Ϫ):ν (Ϧ prog w) A (call (.ref C) rest) Q E ⟨h,g,d,t,os⟩:=by
 have f1:=tc_lookup;have f2:=tc_bind (.ref C);have hT:(⟨h,g,d,t,os⟩:μ).TypeIs (.ref C) "type":=⟨_,hC,rfl⟩;refine anu (codeAny_of_tree ?_);show ν _ _ (callAny (.ref C) _) _ _ _
 repeat (any_goals (first|assumption|with_reducible refine amy hC ?_|wp_step))
 refine⟨rfl,?_⟩;exact codeAny_call_builtin_at (Code.quiet_builtin _ (by decide+kernel)) entry_typeCall (wpAny_check_type_call_sub hC (adW T hC hn hi hfI hfc hq hrest))
end
section
variable{prog:ϯ}{w:Ϭ}{A:ϲ}{E:ε->μ->Prop}{s:μ}{env:Env}
variable{nm q:Str}{C N:δ}{bs bm:List ε}{hdct:Bool}{sn:List Str}{sub:List ε}{ab:Bool}{col:Option Bool}{dd:Option δ}{k0 k1 k2 k3 k5:Option ε}
theorem adS{M:Model}{x:Sem ε}{Q:Flow->μ->Prop}(hbase:bm.contains (.type "BaseException")=true)(hh:A.handled=none)(h:ν M A x (λv s₁=>∃e t D,v=.ref e/\s₁.heap.get? C=some (excClassObj nm q C N bs bm hdct sn sub ab col dd k0 k1 k2 k3 k5 "ValueError.__new__")/\
   s₁.heap.get? e=some {cls:=.ref C,dict:=D,data:=.fields #[.ref t,.none,.none,.none,.bool false,.none]}/\E (.ref e) s₁) E s):ν M A (raiseStmt env (some x) none) Q E s:=by
 have hcB:(Value.ref C::bm).contains (.type "BaseException")=true:=by rw[List.contains_cons,hbase,Bool.or_true]
 unfold raiseStmt;refine ϧ (adL h (λv s₁ h₁=>?_) λ_ _ x=>x);obtain⟨e,t,D,rfl,hC,he,hE⟩:=h₁;obtain⟨hp,g,d,tk,os⟩:=s₁
 repeat (first|with_reducible refine amy he ?_|with_reducible refine amy hC ?_|(with_reducible refine wpAny_isSubtype_exc hC ?_;rw[hcB])|wp_step)
 exact wpAny_raiseNew_none hh hE
end
def xo(e C:δ)(D:Option δ):HO:=.ext λh=>∃t,h.get? e=some {cls:=.ref C,dict:=D,data:=.fields #[.ref t,.none,.none,.none,.bool false,.none]}
def gO(H:Hp)(e:δ):Hp:=λb=>if b=e then none else H b
theorem gJ{H:Hp}{e b:δ}(h:b≠e):gO H e b=H b:=by unfold gO;rw[if_neg h]
theorem JL{H:Hp}{e:δ}:gO H e e=none:=by unfold gO;rw[if_pos rfl]
theorem Ej{P:ϯ}{w:Ϭ}{H:Hp}{h:ϫ}{e C t:δ}{D:Option δ}(q:h.get? e=some {cls:=.ref C,dict:=D,data:=.fields #[.ref t,.none,.none,.none,.bool false,.none]}):ϐ P w H h e (xo e C D):=
 ⟨⟨t,q⟩,⟨_,q⟩,λh1 h2 ⟨t,q⟩ k=>⟨t,k _ q⟩⟩
section
variable{X:Cx}{ϵ:List (δ×Obj)}{σ:St}{H:Hp}{s:μ}{e:δ}{φ:ϫ->Prop}
theorem Inv.adopt(I:Inv X ϵ σ H s)(hn:H e=none)(c:Ch X ϵ e)(ok:ϐ X.prog X.w (upd H e (.ext φ)) s.heap e (.ext φ)):Inv X ϵ σ (upd H e (.ext φ)) s:=by
 have ne:∀b u,H b=some u->b≠e:=λb u q=>Θ q hn
 have:=I.step (h':=s.heap) (H':=upd H e (.ext φ)) (g':=s.gens) (d':=s.drawn) (t':=s.toks) (ch:=[e]) (λb hb=>?_) (λb o _ _ _ q _=>q) (λb o _ _ _ q _=>⟨o.slots,q⟩) (λb o hc _ n=>?_) (λb o _ q=>⟨o,q⟩) (λb xs q=>?_) (λb o u q=>?_) (λb ps q=>?_) (λm q=>q) (λb u q=>?_) I.bare
 .exact this
 .have z:b=e:=by simpa using hb
  subst z;exact c
 .rw[ι (λz=>hc (by simp[z]))];exact n
 .rw[ι (ne _ _ q)];exact q
 .rw[ι (ne _ _ q)];exact q
 .exact⟨#[],by rw[ι (ne _ _ q),q];simp⟩
 .by_cases z:b=e
  .subst z;rw[ρ]at q;cases q;exact ok
  .rw[ι z]at q;exact(I.hok b u q).stay (λ_ _ _ r=>r) (λc r=>by rw[ι (ne _ _ r)];exact r) (λc xs r=>by rw[ι (ne _ _ r)];exact r) λc ob v r=>by rw[ι (ne _ _ r)];exact r
theorem Inv.forget(I:Inv X ϵ σ H s)(hn:H e=some (.ext φ))(c:Ch X ϵ e):Inv X ϵ σ (gO H e) s:=by
 have:=I.step (h':=s.heap) (H':=gO H e) (g':=s.gens) (d':=s.drawn) (t':=s.toks) (ch:=[e]) (λb hb=>?_) (λb o _ _ _ q _=>q) (λb o _ _ _ q _=>⟨o.slots,q⟩) (λb o hc _ n=>?_) (λb o _ q=>⟨o,q⟩) (λb xs q=>?_) (λb o u q=>?_) (λb ps q=>?_) (λm q=>q) (λb u q=>?_) I.bare
 .exact this
 .have z:b=e:=by simpa using hb
  subst z;exact c
 .rw[gJ (λz=>hc (by simp[z]))];exact n
 .rw[gJ (λz=>by rw[z,hn]at q;cases q)];exact q
 .rw[gJ (λz=>by rw[z,hn]at q;cases q)];exact q
 .exact⟨#[],by rw[gJ (λz=>by rw[z,hn]at q;cases q),q];simp⟩
 .by_cases z:b=e
  .subst z;rw[JL]at q;cases q
  .rw[gJ z]at q;exact(I.hok b u q).stay (λ_ _ _ r=>r) (λc r=>by rw[gJ (λz=>by rw[z,hn]at r;cases r)];exact r) (λc xs r=>by rw[gJ (λz=>by rw[z,hn]at r;cases r)];exact r) λc ob v r=>by rw[gJ (λz=>by rw[z,hn]at r;cases r)];exact r
end
structure XBase(K:ϩ)(mg:Str->Option ε)(x:Str):Prop where
 at_:mg x=some (.ref (η mg x))
 reads:anZ K (η mg x) (.type "type")=true
 ini:an0 K (.ref (η mg x)) (.type "type") "__init__"=some (.val (.builtin "ValueError.__init__"))
 ga:aks K (.ref (η mg x)) "__getattribute__"=some (some (.builtin "type.__getattribute__"))
structure jq(K:ϩ)(mg:Str->Option ε)(Lx x qual fld:Str)(st:Ϩ):Prop where
 at_:mg x=some (.ref (η mg x))
 ex:∃f fd,cN K "__init__" qual st f fd/\lB K (η mg x) f=true/\aoB K (.ref f)=true
 sa:aeB K (.ref (η mg x)) "__setattr__"=some (some (.builtin "object.__setattr__"))
 tk:anP K (η mg x) fld=some none
 xc:iT K (η mg x) (η mg Lx)=true
def Am(C:δ)(fld:Str):Sp:=λvs H Q _=>∃e n,vs=[.ref e,.int n]/\n.natAbs<10^60/\H e=some (xo e C none)/\
 ∀D H',D≠e->H D=none->(∀b o,b≠e->H b=some o->H' b=some o)->H' e=some (xo e C (some D))->H' D=some (.xd [(fld,.int n)])->Q .non H'
section
variable{X:Cx}{σ:St}{H:Hp}{Q:VK}{D:Ends}{Lx x f fld:Str}{np apos pos pos' ϻ:Pos}{a o value:π}{es:List π}{Kx:St->XK}
theorem rK{pl:Sem Bool}(B:XBase X.K X.mg Lx)(h:EA X (a::es) σ H λvs H1=>CL X (.builtin "ValueError.__init__") vs H1 Q)(hg:Gl X Lx:=by rfl)(hd:(Lx==("__debug__":Str))=false:=by decide)(hst:ϰ (a::es) X.env=(false,eval a X.env)::ϰ es X.env:=by rfl)(hpl:(backTo pos (ϰ es X.env)).any (·.1)=false:=by rfl)(ht:eval (.Call (.Attribute (.Name Lx np) "__init__" apos) (a::es) [] pos) X.env=(do
   let ov<-eval (.Name Lx np) X.env
   standAt apos.atName
   let(f,first)<-holding [ov] (getMethod ov "__init__" pl)
   callWith pos f first (backTo pos (ϰ (a::es) X.env)) (backToKw pos (keywordEach [] X.env))):=by rfl):EV X (.Call (.Attribute (.Name Lx np) "__init__" apos) (a::es) [] pos) σ H Q:=by
 intro ϵ s I;refine anR (pl:=pl) (jF I hg B.at_ ?_ hd) ht;refine W.method_cls I.kIn B.ga (W.cls_value I.kIn B.reads B.ini (by decide+kernel) ?_);have I1:=I.tok (s.toks+1);have h':=h pos ϵ _ I1;rw[hst]at h'⊢;refine Calls.callWith_builtin (by show(false||(backTo pos (ϰ es X.env)).any (·.1))=false;rw[hpl];rfl) (Calls.evalArgs_plain ?_);refine χ h' λus s2 hZ=>?_
 obtain⟨vs,H2,I2,r2,c,h1,q2⟩:=hZ;exact h1 ϵ s2 σ H2 vs us Q I2 r2 q2
theorem t8{C ff:δ}{e:δ}{v:V}(hi:lB X.K C ff=true)(he:H e=some (xo e C none))(q:Q .non H):CL X (.builtin "ValueError.__init__") [.ref e,v] H Q:=by
 refine c7 (r:=λxs H Q=>∃e v,xs=[.ref e,v]/\H e=some (xo e C none)/\Q .non H) ?_ ⟨e,v,rfl,he,q⟩;intro ϵ s σ H xs us Q I r h;obtain⟨e,v,rfl,he,q⟩:=h;obtain⟨u1,u2,rfl,r1,r2⟩:=vals2 r;cases(show u1=Value.ref e from r1);obtain⟨bm,N,nm,qn,bs,hdct,sn,sub,ab,col,dd,k0,k1,k2,k3,k5,mN,hC,hN,hni,T⟩:=Jg I.kIn hi;obtain⟨⟨t,ht⟩,_,_⟩:=I.hok e _ he;obtain⟨hp,g,d,tk,os⟩:=s;refine Yp T hC ht λh' t1 h1 k=>?_
 have hw:=I.write (x:=e) (e:=e) (o:=xo e C none) (h':=h') (t':=tk) (by rw[he];trivial) (.inl rfl) (λb u n q=>k b u n q) ⟨_,h1⟩ (Ej h1);have hid:upd H e (xo e C none)=H:=by
  funext b;unfold upd;split
  .rename_i z;rw[z,he]
  .rfl
 rw[hid]at hw;exact⟨.non,H,hw,rfl,q⟩
theorem tG{C L:δ}(hs:aeB X.K (.ref C) "__setattr__"=some (some (.builtin "object.__setattr__")))(hm:iT X.K C L=true)(ht:anP X.K C f=some none)(h:EV X value σ H λy H1=>EV X o σ H1 λx H2=>∃e,x=.ref e/\H2 e=some (xo e C none)/\∀E',H2 E'=none->E'≠e->D.nx σ (upd (upd H2 E' (.xd [(f,y)])) e (xo e C (some E'))))(hsw:alk value (some (.Attribute o f pos')) pos.line X.env=pure false:=by rfl):SX X (.Assign [.Attribute o f pos'] value pos) D σ H:=by
 intro ϵ s I;refine plainObj_wpAny_Assign_Attribute (χ (h ϵ s I) λu s1 ⟨y,H1,I1,ry,q⟩=>χ (q ϵ s1 I1) λov s2 hZ=>?_) hsw;obtain⟨x,H2,I2,rx,e,ex,he,q2⟩:=hZ;subst ex;obtain rfl:ov=Value.ref e:=rx;obtain⟨⟨t,yN⟩,_,_⟩:=I2.hok e _ he;refine acO I2.kIn yN rfl rfl rfl hs hm ht λh' tk g1 g2 g3=>?_
 have yc:H2 s2.heap.objs.size=none:=I2.hok.fresh (Ϯ _);have cX:s2.heap.objs.size≠e:=λz=>by rw[z]at yc;rw[yc]at he;cases he
 have ne:∀b u,H2 b=some u->u≠xo e C none->b≠e:=λb u q n z=>by rw[z,he]at q;cases q;exact n rfl
 have nD:∀b u,H2 b=some u->b≠s2.heap.objs.size:=λb u q=>Θ q yc
 refine⟨σ,_,?_,q2 s2.heap.objs.size yc cX⟩;refine I2.step (h':=h') (g':=s2.gens) (d':=s2.drawn) (t':=tk) (ch:=[]) (λb hb=>absurd hb (by simp)) (λb o _ _ _ q n=>g3 b o (λz=>by rw[z,he]at n;cases n) q) (λb o _ _ _ q n=>⟨o.slots,g3 b o (λz=>by rw[z,he]at n;cases n) q⟩) (λb o _ q n=>?_) (λb o _ q=>?_) (λb xs q=>?_) (λb o u q=>?_) (λb ps q=>?_) (λm hm'=>?_) (λb u q=>?_) I2.bare
 .rw[ι (λz=>by rw[z,he]at n;cases n),ι (acT (ϴ q))];exact n
 .by_cases z:b=e
  .subst z;exact⟨_,g1⟩
  .exact⟨o,g3 b o z q⟩
 .rw[ι (ne _ _ q (λz=>nomatch z)),ι (nD _ _ q)];exact q
 .rw[ι (ne _ _ q (λz=>nomatch z)),ι (nD _ _ q)];exact q
 .exact⟨#[],by rw[ι (ne _ _ q (λz=>nomatch z)),ι (nD _ _ q),q];simp⟩
 .obtain⟨o,es,ep,ho,r⟩:=hm';exact⟨o,es,ep,g3 _ _ (λz=>by have:=I2.free;rw[z,he]at this;cases this) ho,r⟩
 .by_cases z:b=e
  .subst z;rw[ρ]at q;cases q;exact Ej g1
  .rw[ι z]at q;by_cases z2:b=s2.heap.objs.size
   .subst z2;rw[ρ]at q;cases q;refine⟨_,g2,λn=>?_⟩;by_cases hf:n=f
    .subst hf;simp only[if_true,List.lookup_cons,beq_self_eq_true];exact ry
    .rw[if_neg hf,List.lookup_cons,beq_eq_false_iff_ne.mpr hf];trivial
   .rw[ι z2]at q;refine(I2.hok b u q).stay (λc v hc r=>g3 c v ?_ r) (λc r=>?_) (λc xs r=>?_) λc ob v r=>?_
    .obtain y|y:=hc
     .rw[y];exact z
     .exact ne _ _ y (λz=>nomatch z)
    .rw[ι (ne _ _ r (λz=>nomatch z)),ι (nD _ _ r)];exact r
    .rw[ι (ne _ _ r (λz=>nomatch z)),ι (nD _ _ r)];exact r
    .rw[ι (ne _ _ r (λz=>nomatch z)),ι (nD _ _ r)];exact r
end
structure lE(P:ϯ)(w:Ϭ)(K:ϩ)(mg:Str->Option ε)(base:ϫ)(cc:Bool)(k:Nat)(x fld:Str):Prop where
 at_:mg x=some (.ref (η mg x))
 ex:∃f fd ps oc od osl,cO P w K mg base (bL P w) cc k f fd ps (Am (η mg x) fld)/\Binds K fd ps []/\lB K (η mg x) f=true/\K.lookup f=some ⟨oc,od,.func fd,osl⟩/\oc=.type "function"
section
variable{prog:ϯ}{w:Ϭ}{A:ϲ}{E:ε->μ->Prop}{s:μ}{env:Env}
variable{nm q:Str}{C N:δ}{bs bm:List ε}{hdct:Bool}{sn:List Str}{sub:List ε}{ab:Bool}{col:Option Bool}{dd:Option δ}{k0 k1 k2 k3 k5:Option ε}
theorem abU{mN:Str->Option ε}{fI:δ}{oI:Obj}{x:Str}{np ϻ pos:Pos}{args:List π}{Q:Flow->μ->Prop}(hbase:bm.contains (.type "BaseException")=true)(hh:A.handled=none)(hplain:(backTo ϻ (ϰ args env)).any (·.1)=false)(hi:mN "__init__"=some (.ref fI))(hfc:oI.cls=.type "function")(h:ν (Ϧ prog w) A (eval (.Name x np) env) (λf s₁=>f=.ref C/\ν (Ϧ prog w) A (evalArgs (.ref C) true (backTo ϻ (ϰ args env)) [])
   (λa s₂=>a.kw=[]/\a.pos.length<=Ϫ/\s₂.heap.get? C=some (excClassObj nm q C N bs bm hdct sn sub ab col dd k0 k1 k2 k3 k5 "ValueError.__new__")/\s₂.heap.Ns N mN/\OwnTail s₂.heap dq bm/\s₂.heap.get? fI=some oI/\
    ∀h' e,aot s₂.heap h' e (.ref C) a.pos->ν (Ϧ prog w) (A.under (.builtin "type.__call__" ⟨.ref C::a.pos,[]⟩)) (call (.ref fI) (.ref e::a.pos))
     (λr s'=>r=.none/\∃t D,s'.heap.get? C=some (excClassObj nm q C N bs bm hdct sn sub ab col dd k0 k1 k2 k3 k5 "ValueError.__new__")/\
      s'.heap.get? e=some {cls:=.ref C,dict:=D,data:=.fields #[.ref t,.none,.none,.none,.bool false,.none]}/\E (.ref e) s') E {s₂ with heap:=h'}) E s₁) E s):ν (Ϧ prog w) A (exec (.Raise (some (.Call (.Name x np) args [] ϻ)) none pos) env) Q E s:=by
 rw[arm_exec_Raise];refine ϧ (alO (adS (C:=C) (nm:=nm) (q:=q) (N:=N) (bs:=bs) (bm:=bm) (hdct:=hdct) (sn:=sn) (sub:=sub) (ab:=ab) (col:=col) (dd:=dd) (k0:=k0) (k1:=k1) (k2:=k2) (k3:=k3) (k5:=k5) hbase hh ?_));refine ϧ (adL (wpAny_Call_ofName (adL h (λf s₁ h₁=>?_) λ_ _ x=>x)) (λv s₃ h₃=>ϧ (alO (ϭ h₃))) λ_ _ x=>x);obtain⟨rfl,h₁⟩:=h₁;unfold callWith;refine ϧ (ae5 (adL h₁ (λa s₂ h₂=>ϧ (alO ?_)) λ_ _ x=>x));obtain⟨apos,akw⟩:=a;obtain⟨hkw,hlen,hC,hn,T,hfI,h₂⟩:=h₂;obtain rfl:akw=[]:=hkw;obtain⟨hp,g,d,tk,os⟩:=s₂;simp only[hplain];refine ϧ (wpAny_keeperOf_exc hC ?_);refine ϧ (Yv T hC hn hi hfI hfc (λh' e hm=>?_) hlen);refine adL (h₂ h' e hm) (λr s' hr=>⟨hr.1,?_⟩) λ_ _ z=>z
 obtain⟨t,D,g1,g2,g3⟩:=hr.2;exact ϧ (ae5 (wpAny_point (ϭ ⟨e,t,D,rfl,g1,g2,g3⟩)))
end
section
variable{X:Cx}{Kx:St->XK}{D:Ends}{σ:St}{H:Hp}{x fld:Str}{np ϻ pos:Pos}{e:π}{es:List π}{cc aQ:Bool}{k k':Nat}
theorem pP(O:lE X.prog X.w X.K X.mg X.base aQ k x fld)(hr:ϙ cc k' X.A)(hcc:aQ=true->cc=true)(hx:bj X Kx)(h:EA X (e::es) σ H λvs H1=>∃n,vs=[.int n]/\n.natAbs<10^60/\∀E' H',ζ H1 H'->H' E'=some (.xd [(fld,.int n)])->Kx σ (.ref (η X.mg x)) (some E',true) H')(hk:k+1<=k':=by decide)(hc:X.calm=true:=by rfl)(hg:Gl X x:=by rfl)(hd:(x==("__debug__":Str))=false:=by decide)(he:ϰ (e::es) X.env=(false,eval e X.env)::ϰ es X.env:=by rfl)(hpl:(backTo ϻ (ϰ es X.env)).any (·.1)=false:=by rfl):SX X (.Raise (some (.Call (.Name x np) (e::es) [] ϻ)) none pos) D σ H:=by
 intro ϵ s I;obtain⟨f,fd,ps,oc,od,osl,Fn,hb,hi,hlk,hoc⟩:=O.ex;obtain⟨bm,N,nm,q,bs,hdct,sn,sub,ab,col,dd,k0,k1,k2,k3,k5,mN,hC,hN,hni,T⟩:=Jg I.ok.mod.kin hi;have hr':ϙ aQ (k+1) X.A:=(hr.mono hk).nR hcc;refine abU (C:=η X.mg x) (nm:=nm) (q:=q) (N:=N) (bs:=bs) (bm:=bm) (hdct:=hdct) (sn:=sn) (sub:=sub) (ab:=ab) (col:=col) (dd:=dd) (k0:=k0) (k1:=k1) (k2:=k2) (k3:=k3) (k5:=k5) (mN:=mN) (fI:=f) (oI:=⟨oc,od,.func fd,osl⟩)
  (T.hasType (by decide+kernel)) (I.ok.hd hc) ?_ hni hoc (jF I hg O.at_ ⟨rfl,?_⟩ hd)
 .rw[he];show(false||(backTo ϻ (ϰ es X.env)).any (·.1))=false;rw[hpl];rfl
 .have h':=h ϻ ϵ s I;rw[he]at h'⊢;refine Calls.evalArgs_plain (χ h' λus s2 hZ=>?_);obtain⟨vs,H1,I2,r,n,ev,hn,kq⟩:=hZ;subst ev;obtain⟨u,rfl,ru⟩:=vals1 r;refine⟨rfl,by show 1<=Ϫ;rw[ϳ];decide,I2.bk _ _ hC,hN.keeps I2.bk,T.keeps I2.bk,I2.kIn _ _ hlk,λh3 a M=>?_⟩;obtain⟨t,m1,m2,m3⟩:=M.there;have hfree:H1 a=none:=I2.hok.free M.new;have hch:Ch X ϵ a:=I2.ch M.new;have I3:Inv X ϵ σ H1 {s2 with heap:=h3}:=I2.kept (t':=s2.toks) M.keeps;have I4:Inv X ϵ σ (upd H1 a (xo a (η X.mg x) none)) {s2 with heap:=h3}:=I3.adopt hfree hch (Ej m1);have rv:Vals [V.ref a,.int n] [Value.ref a,u]:=.cons rfl (.cons ru .nil);have hsp:Am (η X.mg x) fld [V.ref a,.int n] (upd H1 a (xo a (η X.mg x) none)) (λv H'=>v=.non/\∃E',H' a=some (xo a (η X.mg x) (some E'))/\H' E'=some (.xd [(fld,.int n)])/\E'≠a/\∀b o,b≠a->H1 b=some o->H' b=some o) (λ_ _ _=>False):=
   ⟨a,n,rfl,hn,ρ,λE' H' h1 h2 h3' h4 h5=>⟨rfl,E',h4,h5,h1,λb o hb q=>h3' b o hb (by rw[ι hb];exact q)⟩⟩
  have hl:([Value.ref a,u]:List ε).length=ps.length:=by rw[<-rv.length];exact Fn.len _ _ _ _ hsp
  have hb':=hb {s2 with heap:=h3} [Value.ref a,u] I4.kIn (by simpa using hl);rw[List.append_nil]at hb';refine anu (akK (Fn.run (X.A.under (.builtin "type.__call__" ⟨.ref (η X.mg x)::[u],[]⟩)) X.stack {s2 with heap:=h3} _ ⟨[Value.ref a,u],[]⟩ [Value.ref a,u] [V.ref a,.int n] _ (λ_ _ _=>False) (hr'.make (η X.mg x) [u] [])
   (I4.env0.make (η X.mg x) [u] []) hb' rv hsp) λr s' hq=>?_)
  cases r with
  |error e=>exact(bL.never hq).elim
  |ok fl=>
   cases fl with
   |ret v=>
    obtain⟨v',H',I5,rr,ev,E',g1,g2,g3,g4⟩:=I4.after hq;subst ev;obtain⟨⟨t',ht'⟩,_,_⟩:=I5.hok a _ g1;have I6:=I5.forget g1 hch;refine⟨rr,t',some E',I5.bk _ _ hC,ht',?_⟩;refine hx ϵ σ _ s' a _ (some E',true) ⟨I6,none,.none,⟨_,_,ht',rfl,rfl,rfl,rfl,by simp,Ctx.yes rfl,λT z=>nomatch z⟩,.inl rfl,λb hb=>?_⟩ (kq E' _ (λb o q=>?_) ?_)
    .have z:b=a:=by simpa using hb
     subst z;exact⟨JL,hch⟩
    .have hba:b≠a:=Θ q hfree;rw[gJ hba];exact g4 b o hba q
    .rw[gJ g3];exact g2
   |next=>exact False.elim hq
   |brk=>exact False.elim hq
   |cont=>exact False.elim hq
end
structure Em(K:ϩ)(C:δ):Prop where
 hd:amG K C=true
 ga:aeB K (.ref C) "__getattribute__"=some (some (.builtin "BaseException.__getattribute__"))
 gt:aeB K (.ref C) "__getattr__"=some none
 cl:aeB K (.ref C) "__class__"=some (some (.builtin "object.__class__"))
 cg:aks K (.builtin "object.__class__") "__get__"=some (some (.builtin "getset_descriptor.__get__"))
 ct:aoi K (.builtin "object.__class__")=some true
 mo:amQ K C (.type "object")=some true
 mb:amQ K C (.type "BaseException")=some true
section
variable{prog:ϯ}{w:Ϭ}{A:ϲ}{E:ε->μ->Prop}{s:μ}{K:ϩ}{x C:δ}{ox:Obj}{od:Option Obj}{name:Str}{v:ε}
theorem aka{tk:Tok}{fill expr:Bool}{Q:ε->μ->Prop}(X:K.In s.heap)(I:aoZ s.heap x ox C od)(c:Em K C)(h:ν (Ϧ prog w) A.in1 (amw.«object.__getattribute__» ⟨[.ref x,.str name tk],[]⟩) (λfin s'=>match fin with
   |.done (.ret v)=>ν (Ϧ prog w) A (handedOut v) Q E s'
   |_=>False) (λ_ _=>False) s):ν (Ϧ prog w) A (getAttrBy (.ref x) (.str name tk) fill expr) Q E s:=by
 have FB:=F.attrBase_ValueError;have sub:ao8 (Ϧ prog w) s.heap (isInstance (.ref x) (.type "BaseException")) true:=I.type.andThen (apa X c.mb);unfold getAttrBy;refine ae5 (ϧ (I.type.here (ϧ ((anV X c.ga).here ?_))));dsimp only;have hx2:(Value.builtin "BaseException.__getattribute__"==Value.builtin "object.__getattribute__")=false:=by decide+kernel
 rw[if_neg (by rw[hx2,ak5];exact abe)];unfold getAttrByItsOwn hookBefore;rw[if_pos (show onTheHeap (Value.ref C)=true from rfl)];refine ϧ ((anV X c.gt).here ?_);refine ϧ (wpAny_attempt (ae5 ?_));unfold callGetattribute;rw[if_neg (by cases expr<;>exact abe)];unfold boundAndCalled;rw[FB.ga.bind];refine ϧ (ϭ (anu (aly FB.ga.plain F.entry_bexc_ga (@W.check_slot (Ϧ prog w) _ _ s "BaseException.__getattribute__" "BaseException" "__getattribute__" (.ref x) [.str name tk] [] _ (by decide+kernel) (by decide+kernel) sub (F.args_bexc_ga _ _) ?_))));refine adL h (λfin s' z=>?_) λ_ _ z=>z.elim
 rcases fin with(_|_|_|_)|_<;>first|exact z|exact z.elim
theorem afI{tk:Tok}{Q:Fin->μ->Prop}(X:K.In s.heap)(I:aoZ s.heap x ox C od)(hf:W.findObj K C od name=some (.value v))(h:Q (.done (.ret v)) s):ν (Ϧ prog w) A (amw.«object.__getattribute__» ⟨[.ref x,.str name tk],[]⟩) Q E s:=by
 have L1:=W.looks_find (M:=Ϧ prog w) X I hf;unfold amw.«object.__getattribute__»;refine ϧ (ϭ ?_);dsimp only;refine ϧ (ϭ (ϧ (I.type.here (ϧ (L1.here ?_)))));exact ϭ h
end
def xw(e C:δ)(D:Option δ):HO:=.ext λh=>∃oe vs,h.get? e=some oe/\oe.cls=.ref C/\oe.dict=D/\oe.data=.fields vs
theorem aih{P:ϯ}{w:Ϭ}{H:Hp}{h:ϫ}{e C:δ}{D:Option δ}{oe:Obj}{vs:Array ε}(q:h.get? e=some oe)(hc:oe.cls=.ref C)(hd:oe.dict=D)(hf:oe.data=.fields vs):ϐ P w H h e (xw e C D):=
 ⟨⟨oe,vs,q,hc,hd,hf⟩,⟨_,q⟩,λh1 h2 ⟨oe,vs,q,r⟩ k=>⟨oe,vs,k _ q,r⟩⟩
section
variable{X:Cx}{σ:St}{H:Hp}{Q:VK}{e C:δ}{D:Option δ}{k:Bool}
theorem Inv.inst{ϵ:List (δ×Obj)}{s:μ}(I:Inv X ϵ σ H s)(he:H e=some (xw e C D))(hd:∀E',D=some E'->∃fs,H E'=some (.xd fs)):∃ox od,aoZ s.heap e ox C od/\∀E' fs,D=some E'->H E'=some (.xd fs)->∃o,od=some o/\∃mA:Str->Option ε,(∀f,bz (fs.lookup f) (mA f))/\∀n,aoY n o=some (mA n):=by
 obtain⟨⟨oe,vs,q,hc,hdd,hf⟩,_,_⟩:=I.hok e _ he;cases D with
 |none=>exact⟨oe,none,⟨q,hc,by unfold apj;rw[hf],by rw[hdd];trivial⟩,λE' fs z=>nomatch z⟩
 |some E'=>
  obtain⟨fs,h1⟩:=hd E' rfl;obtain⟨mA,hns,hr⟩:=I.hok E' _ h1;obtain⟨o,ho,hl⟩:=Pg hns;refine⟨oe,some o,⟨q,hc,by unfold apj;rw[hf],by rw[hdd];exact ho⟩,λE2 fs2 z z2=>?_⟩;cases z;rw[h1]at z2;cases z2;exact⟨o,rfl,mA,hr,hl⟩
theorem Ie{o:π}{f:Str}{pos:Pos}{E':δ}{v:V}{fs:List (Str×V)}(hb:attributeBase o f X.env (eval o X.env)=eval o X.env)(ca:Em X.K C)(hn:aeB X.K (.ref C) f=some none)(hv:∀u,RelV v u->ao5 u=true)(h:EV X o σ H λy H1=>y=.ref e/\H1 e=some (xw e C (some E'))/\H1 E'=some (.xd fs)/\fs.lookup f=some v/\Q v H1):EV X (.Attribute o f pos) σ H Q:=by
 intro ϵ s I;refine Jh hb (χ (h ϵ s I) λu s1 hZ=>?_);obtain⟨y,H1,I1,ry,ey,he,hE,hl,q⟩:=hZ;subst ey;obtain rfl:u=Value.ref e:=ry;obtain⟨ox,od,J,g⟩:=I1.inst he λE2 z=>⟨fs,by cases z;exact hE⟩
 obtain⟨o',rfl,mA,hr,hlk⟩:=g E' fs rfl hE;have hr':=hr f;rw[hl]at hr';cases hm:mA f with
 |none=>rw[hm]at hr';cases hr'
 |some v'=>
  rw[hm]at hr';have hr2:RelV v v':=hr';unfold getAttr;refine ϧ (wpAny_mkText (aka (s:={s1 with toks:=s1.toks+1}) I1.kIn J ca (afI (s:={s1 with toks:=s1.toks+1}) I1.kIn J (ao7 ca.hd hn rfl (by rw[hlk,hm])) ?_)));exact W.handed_on (hv v' hr2) ⟨v,H1,I1.tok _,hr2,q⟩
end
section
variable{X:Cx}{ϵ:List (δ×Obj)}{σ:St}{H:Hp}{s:μ}{h':ϫ}
theorem Inv.aeA{n:Str}{i:Nat}{m m':Str->Option ε}{t':Nat}(I:Inv X ϵ σ H s)(hN:X.N.Nodup)(hi:X.N[i]?=some n)(hσ:σ[i]?=some none)(hl:∀(i:Nat)(x:Str)(v:V),X.N[i]?=some x->σ[i]?=some (some v)->pL X.env.scope x->∃u,RelV v u/\Look X.env s.heap m x u)(hn:h'.Ns X.env.locals m')(ag:∀x,x≠n->m' x=m x)(sb:∀b o,b≠X.env.locals->s.heap.get? b=some o->h'.get? b=some o)(hL:∃o,h'.get? X.env.locals=some o):Inv X ϵ σ H {s with heap:=h',toks:=t'}:=by
 have neL:∀b o,X.s₀.heap.get? b=some o->b≠X.env.locals:=λb o e=>acT (adz (ϴ e) I.ok.above)
 have cellK:∀x c,X.env.cells.lookup x=some c->∀v,s.heap.IsCell c v->h'.IsCell c v:=λx c e v ⟨o,ho,hd⟩=>⟨o,sb c o (I.cne x c e) ho,hd⟩
 refine⟨I.ok,I.os,I.bare,⟨λb o e n hb hx=>sb b o (neL b o e) (I.base.keep b o e n hb hx),λb o e n hb hx=>?_,I.base.free,λb o e hx=>?_,I.base.tups,I.base.frzs,I.base.tbls⟩,⟨m',hn,λj x v e1 e2 e3=>?_⟩,λx c e=>?_,I.free,I.freeC,λp hp=>?_,λb u e=>?_,I.len⟩
 .obtain⟨sl,e1⟩:=I.base.slot b o e n hb hx;exact⟨sl,sb b _ (neL b o e) e1⟩
 .obtain⟨o',e1⟩:=I.base.there b o e hx;exact⟨o',sb b o' (neL b o e) e1⟩
 .obtain⟨u,r,l⟩:=hl j x v e1 e2 e3;refine⟨u,r,?_⟩;have Ϻ:x≠n:=λz=>by
   subst z;have:=zy hN e1 hi;subst this;rw[hσ]at e2;cases e2
  obtain l|⟨k,c,e,z⟩:=l
  .exact .inl ⟨l.1,by rw[ag x Ϻ];exact l.2⟩
  .exact .inr ⟨k,c,e,cellK x c e _ z⟩
 .obtain⟨v,z⟩:=I.cell x c e;exact⟨v,cellK x c e v z⟩
 .obtain⟨e,n,ne,nf,d⟩:=I.pin p hp;exact⟨sb _ _ ne e,n,ne,nf,d⟩
 .refine(I.hok b u e).stay (λc v hc q=>sb c v ?_ q) (λ_ q=>q) λ_ _ q=>q
  obtain z|z:=hc
  .rw[z];exact Θ e I.free
  .exact Θ z I.free
end
section
variable{X:Cx}{D:Ends}{σ:St}{H:Hp}{rest:List amb}{suite:List Ϩ}{b₀:Ϩ}{pos np:Pos}{x n:Str}{c:ε}{C:δ}{d:Option δ×Bool}{i:Nat}
end
structure Bq(K:ϩ)(mg:Str->Option ε)(x:Str):Prop extends XBase K mg x where
 ty:anM K (.ref (η mg x))=some (.type "type")
 mb:amQ K (η mg x) (.type "BaseException")=some true
structure XC(K:ϩ)(mg:Str->Option ε)(Lx x:Str):Prop where
 at_:mg x=some (.ref (η mg x))
 xc:iT K (η mg x) (η mg Lx)=true
 ty:anM K (.ref (η mg x))=some (.type "type")
 attr:Em K (η mg x)
section
variable{K:ϩ}{mg:Str->Option ε}{Lx x y:Str}
theorem DY(h:XC K mg Lx x)(v:ε):amQ K (η mg x) v=some ((Value.ref (η mg x):: .ref (η mg Lx)::dq).contains v):=by
 obtain⟨cd,h1,_,h2⟩:=DQ h.xc;unfold amQ;rw[h1,Option.bind_some,h2];rfl
theorem XC.cls(h:XC K mg Lx x):(ao9 K (η mg x)).isSome=true:=by
 obtain⟨cd,h1,_,h2⟩:=DQ h.xc;rw[h1];rfl
theorem abY{C:δ}(t:ε)(h1:(ao9 K C).isSome=true)(h2:anM K (.ref C)=some (.type "type")):W.kitCls K t (.ref C)=ao3 K t (.ref C):=by
 show(if((ao9 K C).isSome&&anM K (.ref C)==some (.type "type"))=true then ao3 K t (.ref C)else none)=_;rw[if_pos];rw[h1,h2];rfl
theorem aaw(h:XC K mg Lx x)(g:XC K mg Lx y)(ne:η mg x≠η mg y)(nl:η mg Lx≠η mg y):ao3 K (.ref (η mg x)) (.ref (η mg y))=some false:=by
 show amQ K (η mg x) (.ref (η mg y))=some false;rw[DY h];have e1:(Value.ref (η mg y)==Value.ref (η mg x))=false:=beq_eq_false_iff_ne.mpr λz=>ne (Value.ref.inj z).symm
 have e2:(Value.ref (η mg y)==Value.ref (η mg Lx))=false:=beq_eq_false_iff_ne.mpr λz=>nl (Value.ref.inj z).symm
 rw[List.contains_cons,e1,List.contains_cons,e2];rfl
theorem abp(h:XC K mg Lx x):ao3 K (.ref (η mg x)) (.ref (η mg x))=some true:=by
 show amQ K (η mg x) (.ref (η mg x))=some true;rw[DY h,List.contains_cons,beq_self_eq_true];rfl
theorem Sq(g:XC K mg Lx y)(v:ε):anU K v (.ref (η mg y))=ao3 K v (.ref (η mg y)):=by
 unfold anU;have e:ao3 K (.ref (η mg y)) (.type "BaseException")=some true:=by
  show amQ K (η mg y) (.type "BaseException")=some true;rw[DY g];rfl
 rw[e,if_pos (by decide),abY _ g.cls g.ty]
theorem Jc(h:XC K mg Lx x):anU K (.ref (η mg x)) (.ref (η mg x))=some true:=by rw[Sq h];exact abp h
theorem af7(h:XC K mg Lx x)(g:XC K mg Lx y)(ne:η mg x≠η mg y)(nl:η mg Lx≠η mg y):anU K (.ref (η mg x)) (.ref (η mg y))=some false:=by rw[Sq g];exact aaw h g ne nl
end
theorem uH{P:ϯ}{w:Ϭ}{K:ϩ}{mg:Str->Option ε}{base:ϫ}{cc:Bool}{k:Nat}{Lx x qual fld:Str}{st:Ϩ}{ps N:List Str}(O:jq K mg Lx x qual fld st)(S:Γ N ps (υ st))(hb:∀(kV doc pm:ε)(an:Option δ)(Ϲ ct:ε)(us:List ε),us.length=ps.length->bindArgs (aoE "__init__" qual (jl st) (ϝ st) (υ st) .none kV doc pm an Ϲ ct) ⟨us,[]⟩=pure (ps.zip us))(len:ps.length=2)(body:∀(f:δ)(Ϲ:ε)(A:ϲ)(outer:List Env)(s:μ)(H:Hp)(vs:List V)(Q:VK)(E:XK),lB K (η mg x) f=true->ϙ cc k (A.deeper (envOfC qual (υ st) s.heap.objs.size f Ϲ))->Am (η mg x) fld vs H Q E->
   Κ (iR cc P w K mg base N qual (υ st) f Ϲ A outer s H E) (ϝ st) {nx:=λ_ H'=>Q .non H',rt:=Q} (start N vs) H):lE P w K mg base cc (k+1) x fld:=by
 obtain⟨f,fd,F,h1,h2⟩:=O.ex;obtain⟨oc,od,kV,doc,pm,an,Ϲ,ct,osl,e,lk,hcd⟩:=id F.ex;refine⟨O.at_,f,fd,ps,oc,od,osl,uO F S (λvs H Q E h=>by obtain⟨a,n,rfl,_⟩:=h;exact len.symm) λϹ A outer s H vs Q E hr h=>body f Ϲ A outer s H vs Q E h1 hr h,F.binds hb,h1,lk,?_⟩;have h3:anM K (.ref f)=some (.type "function"):=beq_iff_eq.mp h2;have h4:Option.map (λx:Obj=>x.cls) (alm f K)=some (.type "function"):=h3;rw[lk]at h4;exact Option.some.inj h4
section
variable{K:ϩ}{mg:Str->Option ε}{Lx x qual fld:Str}{C L f:δ}{st:Ϩ}{fd:akn}
theorem aiQ(h:mg x=some (.ref C))(a1:anZ K C (.type "type")=true)(a2:an0 K (.ref C) (.type "type") "__init__"=some (.val (.builtin "ValueError.__init__")))(a3:aks K (.ref C) "__getattribute__"=some (some (.builtin "type.__getattribute__")))(a4:anM K (.ref C)=some (.type "type"))(a5:amQ K C (.type "BaseException")=some true):Bq K mg x:=by
 have e:=bZ h;exact{at_:=by rw[e];exact h,reads:=by rw[e];exact a1,ini:=by rw[e];exact a2,ga:=by rw[e];exact a3,ty:=by rw[e];exact a4,mb:=by rw[e];exact a5}
theorem aj0(h:mg x=some (.ref C))(hL:mg Lx=some (.ref L))(a1:iT K C L=true)(a2:anM K (.ref C)=some (.type "type"))(a3:amG K C=true)(a4:aeB K (.ref C) "__getattribute__"=some (some (.builtin "BaseException.__getattribute__")))(a5:aeB K (.ref C) "__getattr__"=some none)(a6:aeB K (.ref C) "__class__"=some (some (.builtin "object.__class__")))(a7:aks K (.builtin "object.__class__") "__get__"=some (some (.builtin "getset_descriptor.__get__")))(a8:aoi K (.builtin "object.__class__")=some true)(a9:amQ K C (.type "object")=some true)(a10:amQ K C (.type "BaseException")=some true):XC K mg Lx x:=by
 have e:=bZ h;have eL:=bZ hL;exact⟨by rw[e];exact h,by rw[e,eL];exact a1,by rw[e];exact a2,by rw[e];exact⟨a3,a4,a5,a6,a7,a8,a9,a10⟩⟩
theorem Yc(h:mg x=some (.ref C))(hL:mg Lx=some (.ref L))(F:cN K "__init__" qual st f fd)(a1:lB K C f=true)(a2:aoB K (.ref f)=true)(a3:aeB K (.ref C) "__setattr__"=some (some (.builtin "object.__setattr__")))(a4:anP K C fld=some none)(a5:iT K C L=true):jq K mg Lx x qual fld st:=by
 have e:=bZ h;have eL:=bZ hL;exact⟨by rw[e];exact h,⟨f,fd,F,by rw[e];exact a1,a2⟩,by rw[e];exact a3,by rw[e];exact a4,by rw[e,eL];exact a5⟩
end
section
variable{prog:ϯ}{w:Ϭ}{A:ϲ}{E:ε->μ->Prop}{s:μ}
end
section
variable{prog:ϯ}{w:Ϭ}{A:ϲ}{E:ε->μ->Prop}{s:μ}
end
section
variable{X:Cx}{σ:St}{H:Hp}{a b c:π}{elts:List π}{k:Nat}{tp p pos p':Pos}{R:It->Hp->Prop}{D:Ends}
end
theorem Eh:∀{us:List ε}{ys:List Str}{m:Nat}{u:ε},StrsAre us ys->us[m]?=some u->∃y t,ys[m]?=some y/\u=.str y t
 |_,_,_,_,.nil,e=>by simp at e
 |_,_,0,u,.cons y t h,e=>by
  simp at e;exact⟨y,t,rfl,e.symm⟩
 |_,_,m+1,u,.cons y t h,e=>by
  obtain⟨y',t',e1,e2⟩:=Eh h (by simpa using e);exact⟨y',t',by simpa using e1,e2⟩
section
variable{X:Cx}{H:Hp}{Q:VK}
theorem acg{a:δ}{zs:List Str}{z:Str}{j:Nat}(h:θ X.K H a (zs.map V.str))(hj:zs[j]?=some z)(hno:∀m y,m<j->zs[m]?=some y->¬y=z)(g:Q (.int j) H):MT X "list.index" (.ref a) [.str z] H Q:=by
 refine dh (r:=λx xs H Q=>∃a zs z j,x=.ref a/\xs=[.str z]/\θ X.K H a (zs.map V.str)/\zs[j]?=some z/\(∀m y,m<j->zs[m]?=some y->¬y=z)/\Q (.int (j:Nat)) H) ?_ ⟨a,zs,z,j,rfl,rfl,h,hj,hno,g⟩;intro ϵ s σ H x xs v us Q I rx rs h;obtain⟨a,zs,z,j,rfl,rfl,h,hj,hno,g⟩:=h;cases rx;obtain⟨u,rfl,ru⟩:=vals1 rs;obtain⟨t,rfl⟩:=ru;obtain⟨ϸ,r,⟨⟨cls,dd,data,sl⟩,n,e,hc,hd,hs⟩,hz⟩:=I.list h;simp only at hc hd hs;subst hc hd hs;have hS:=Qi r;have hlen:ϸ.length=zs.length:=by have:=r.length;rw[ϱ]at this;exact this.symm
 have hjl:j<ϸ.toArray.size:=by
  rw[adi,hlen];exact(aaF.mp hj).1
 rw[ϱ]at hz;have hsz:=ϳ;have hjz:j<zs.length:=(aaF.mp hj).1;refine call_meets F.slot_list_index ⟨_,e,rfl⟩ F.entry_list_index (F.args_list_index_2 _ _) (SeqAt.list_indexAt a ϸ.toArray n _ sl (.str z t) (isStrOf z) j hjl (by omega) ?_ ?_) ⟨e,λy hy=>(eq_isStrOf z t hS y (by simpa using hy)).at _ _,?_⟩
 .obtain⟨y,t',e1,e2⟩:=Eh (m:=j) (u:=ϸ.toArray[j]) hS (by simp);rw[e2];rw[hj]at e1;cases e1;show(z==z)=true;exact beq_self_eq_true z
 .intro m hm wu;obtain⟨y,t',e1,e2⟩:=Eh (m:=m) (u:=ϸ.toArray[m]) hS (by simp);rw[e2];show(y==z)=false;exact beq_eq_false_iff_ne.mpr (hno m y wu e1)
 .exact⟨.int j,H,I.tok _,⟨_,rfl⟩,g⟩
end
structure ak(P:ϯ)(w:Ϭ)(K:ϩ)(mg:Str->Option ε)(base:ϫ)(cc:Bool)(k:Nat)(C:δ)(m:Str)(ps:List Str)(sp:Sp):Prop where
 cls:ϗ K C
 ex:∃f fd,Meth K C m f/\Binds K fd ps []/\cO P w K mg base (bL P w) cc k f fd ps sp
structure fK(P:ϯ)(w:Ϭ)(K:ϩ)(mg:Str->Option ε)(base:ϫ)(cc:Bool)(k:Nat)(x:Str)(C:δ)(ps:List Str)(sp:Sp):Prop where
 at_:mg x=some (.ref C)
 ex:∃f fd,Mk K C f/\Binds K fd ps []/\cO P w K mg base (bL P w) cc k f fd ps sp
structure oF(P:ϯ)(w:Ϭ)(K:ϩ)(mg:Str->Option ε)(base:ϫ)(cc:Bool)(k:Nat)(x m:Str)(ps:List Str)(sp:Sp):Prop where
 ex:∃C f fd,mg x=some (.ref C)/\anZ K C (.type "type")=true/\an0 K (.ref C) (.type "type") m=some (.val (.ref f))/\
  aks K (.ref C) "__getattribute__"=some (some (.builtin "type.__getattribute__"))/\anl K (.ref f)=true/\Binds K fd ps []/\cO P w K mg base (bL P w) cc k f fd ps sp
section
variable{X:Cx}{σ:St}{H:Hp}{Q:VK}{D:Ends}{x f m:Str}{p np apos pos pos' tpos:Pos}{a e o value:π}{es:List π}{Kx:St->XK}{cc:Bool}{k':Nat}
theorem Ϣ(h:EV X e σ H λx H1=>∃a C dx fs v,x=.ref a/\H1 a=some (.ins C dx fs)/\ϗ X.K C/\ Ρ X.K C f/\fs.lookup f=some v/\Q v H1)(hb:attributeBase e f X.env (eval e X.env)=eval e X.env:=by rfl):EV X (.Attribute e f pos) σ H Q:=
 aj (W7 Υ hb) h
theorem di(h:EV X value σ H λy H1=>EV X o σ H1 λx H2=>∃a C dx fs,x=.ref a/\H2 a=some (.ins C dx fs)/\ϗ X.K C/\ Ρ X.K C f/\fs.length<1000/\D.nx σ (upd H2 a (.ins C dx (Ϟ f y fs))))(hs:alk value (some (.Attribute o f pos')) pos.line X.env=pure false:=by rfl):SX X (.Assign [.Attribute o f pos'] value pos) D σ H:=
 λϵ s I=>aij Υ Υ hs ϵ s σ H D I h
theorem ahk(h:EV X o σ H λx H1=>∃a C dx fs v,x=.ref a/\H1 a=some (.ins C dx fs)/\ϗ X.K C/\ Ρ X.K C f/\fs.lookup f=some v/\
   EV X value σ H1 λy H2=>Oh v y H2 λz H3=>∃dx' fs',H3 a=some (.ins C dx' fs')/\fs'.length<1000/\D.nx σ (upd H3 a (.ins C dx' (Ϟ f z fs')))):SX X (.AugAssign (.Attribute o f tpos) .Add value pos) D σ H:=
 λϵ s I=>adB Υ Υ ajZ ϵ s σ H D I h
theorem aM{pl:Sem Bool}(hr:ϙ cc k' X.A)(hx:bj X Kx)(hst:ϰ (e::es) X.env=(false,eval e X.env)::ϰ es X.env:=by rfl)(hpl:(backTo pos (ϰ es X.env)).any (·.1)=false:=by rfl)(ht:eval (.Call (.Attribute o m apos) (e::es) [] pos) X.env=(do
   let ov<-eval o X.env
   standAt apos.atName
   let(f,first)<-holding [ov] (getMethod ov m pl)
   callWith pos f first (backTo pos (ϰ (e::es) X.env)) (backToKw pos (keywordEach [] X.env))):=by rfl)(h:EV X o σ H λx H1=>∃a C dx fs aQ k ps sp,x=.ref a/\H1 a=some (.ins C dx fs)/\fs.lookup m=none/\ak X.prog X.w X.K X.mg X.base aQ k C m ps sp/\k<=k'/\(aQ=true->cc=true)/\EA X (e::es) σ H1 λvs H2=>sp (x::vs) H2 Q (Kx σ)):EV X (.Call (.Attribute o m apos) (e::es) [] pos) σ H Q:=by
 intro ϵ s I;refine anR (pl:=pl) (χ (h ϵ s I) λu s1 hZ=>?_) ht;obtain⟨x,H1,I1,rx,a,C,dx,fs,aQ,k,ps,sp,ex,ea,hl,M,hk,hcc,q⟩:=hZ;subst ex;cases(show u=Value.ref a from rx);obtain⟨f,fd,hm,hb,F⟩:=M.ex;refine Mt I1 ea M.cls hm hl ?_;refine aol (first:=[.ref a]) (h₀:=X.base) I.ok.mod.kin hm.kp (χ (q pos ϵ s1 I1) λus s2 ⟨vs,H2,I2,r,q2⟩=>⟨I2.kIn,?_⟩) hst hpl;exact uM (us:=.ref a::us) (vs:=.ref a::vs) F ((hr.mono hk).nR hcc) hb hx I2 (.cons rfl r) q2
theorem adl{pl:Sem Bool}(hr:ϙ cc k' X.A)(hx:bj X Kx)(ht:eval (.Call (.Attribute o m apos) [] [] pos) X.env=(do
   let ov<-eval o X.env
   standAt apos.atName
   let(f,first)<-holding [ov] (getMethod ov m pl)
   callWith pos f first (backTo pos (ϰ [] X.env)) (backToKw pos (keywordEach [] X.env))))(h:EV X o σ H λx H1=>∃a C dx fs aQ k ps sp,x=.ref a/\H1 a=some (.ins C dx fs)/\fs.lookup m=none/\ak X.prog X.w X.K X.mg X.base aQ k C m ps sp/\k<=k'/\(aQ=true->cc=true)/\sp [x] H1 Q (Kx σ)):EV X (.Call (.Attribute o m apos) [] [] pos) σ H Q:=by
 intro ϵ s I;refine anR (pl:=pl) (χ (h ϵ s I) λu s1 hZ=>?_) ht;obtain⟨x,H1,I1,rx,a,C,dx,fs,aQ,k,ps,sp,ex,ea,hl,M,hk,hcc,q⟩:=hZ;subst ex;cases(show u=Value.ref a from rx);obtain⟨f,fd,hm,hb,F⟩:=M.ex;refine Mt I1 ea M.cls hm hl ?_;exact W.callWith_K0 (first:=[.ref a]) I1.kIn hm.kp (uM (us:=[.ref a]) (vs:=[.ref a]) F ((hr.mono hk).nR hcc) hb hx I1 (.cons rfl .nil) q)
theorem wL{pl:Sem Bool}{aQ:Bool}{k:Nat}{ps:List Str}{sp:Sp}(B:oF X.prog X.w X.K X.mg X.base aQ k x m ps sp)(hr:ϙ cc k' X.A)(hcc:aQ=true->cc=true)(hx:bj X Kx)(h:EA X (e::es) σ H λvs H1=>sp vs H1 Q (Kx σ))(hk:k<=k':=by decide)(hg:Gl X x:=by rfl)(hd:(x==("__debug__":Str))=false:=by decide)(hst:ϰ (e::es) X.env=(false,eval e X.env)::ϰ es X.env:=by rfl)(hpl:(backTo pos (ϰ es X.env)).any (·.1)=false:=by rfl)(ht:eval (.Call (.Attribute (.Name x np) m apos) (e::es) [] pos) X.env=(do
   let ov<-eval (.Name x np) X.env
   standAt apos.atName
   let(f,first)<-holding [ov] (getMethod ov m pl)
   callWith pos f first (backTo pos (ϰ (e::es) X.env)) (backToKw pos (keywordEach [] X.env))):=by rfl):EV X (.Call (.Attribute (.Name x np) m apos) (e::es) [] pos) σ H Q:=by
 obtain⟨C,f,fd,hm,hrd,hf,hga,hkp,hb,F⟩:=B.ex;intro ϵ s I;refine anR (pl:=pl) (jF I hg hm ?_ hd) ht;refine W.method_cls I.kIn hga (W.cls_value I.kIn hrd hf (by rfl) ?_);have I1:=I.tok (s.toks+1);refine aol (first:=[]) (h₀:=X.base) I.ok.mod.kin hkp (χ (h pos ϵ _ I1) λus s2 ⟨vs,H2,I2,r,q2⟩=>⟨I2.kIn,?_⟩) hst hpl;exact uM F ((hr.mono hk).nR hcc) hb hx I2 r q2
theorem ahz{cc:Bool}{k:Nat}{C g:δ}{fd:akn}{ps:List Str}{sp:Sp}{ϵ:List (δ×Obj)}{s:μ}{us:List ε}{vs:List V}(M:Mk X.K C g)(F:cO X.prog X.w X.K X.mg X.base (bL X.prog X.w) cc k g fd ps sp)(hr:ϙ cc (k+1) X.A)(hb:Binds X.K fd ps [])(hx:bj X Kx)(I:Inv X ϵ σ H s)(r:Vals vs us)(h:∀y dx,H y=none->H dx=none->dx≠y->sp (.ref y::vs) (upd (upd H dx (.own y)) y (.ins C dx [])) (λv H2=>v=.non/\Q (.ref y) H2) (Kx σ)):ν (Ϧ X.prog X.w) X.A (call (.ref C) us) (EP X ϵ σ Q) X.xe s:=by
 have hy:H (s.heap.objs.size+1)=none:=I.hok.fresh (alE _);have hdx:H s.heap.objs.size=none:=I.hok.fresh (Ϯ _);have q:=h _ _ hy hdx (acT (aoT _));have I2:=Inv.made (C:=C) I;have rr:Vals (V.ref (s.heap.objs.size+1)::vs) (Value.ref (s.heap.objs.size+1)::us):=.cons rfl r;have hl:(Value.ref (s.heap.objs.size+1)::us).length=ps.length:=by rw[<-rr.length];exact F.len _ _ _ _ q
 have hb':=hb {s with heap:=(s.heap.push alT).push (anI C s.heap.objs.size)} (Value.ref (s.heap.objs.size+1)::us) I2.kIn (by simpa using hl);rw[List.append_nil]at hb';refine anu (acJ (f:=g) I.kIn M.makes M.init (beq_iff_eq.mp M.fn) (akK (F.run _ X.stack _ _ ⟨Value.ref (s.heap.objs.size+1)::us,[]⟩ _ _ _ (Kx σ) (hr.make C us []) (I2.env0.make C us []) hb' rr q) λres s' hq=>?_))
 match res,hq with
 |.error z,hq=>
   obtain⟨b,cls,d,H',rfl,xa,w⟩:=I2.flown hq;exact hx ϵ σ H' s' b cls d xa w
 |.ok (.ret u),hq=>
   obtain⟨v,H',I3,rv,ev,q3⟩:=I2.after hq;subst ev;exact⟨rv,⟨V.ref (s.heap.objs.size+1),H',I3,rfl,q3⟩⟩
 |.ok .next,hq=>exact False.elim hq
 |.ok .brk,hq=>exact False.elim hq
 |.ok .cont,hq=>exact False.elim hq
theorem gk{aQ:Bool}{k:Nat}{C:δ}{ps:List Str}{sp:Sp}(M:fK X.prog X.w X.K X.mg X.base aQ k x C ps sp)(hr:ϙ cc k' X.A)(hk:k+1<=k')(hcc:aQ=true->cc=true)(hx:bj X Kx)(h:EA X (e::es) σ H λvs H1=>∀y dx,H1 y=none->H1 dx=none->dx≠y->sp (.ref y::vs) (upd (upd H1 dx (.own y)) y (.ins C dx [])) (λv H2=>v=.non/\Q (.ref y) H2) (Kx σ))(hg:Gl X x:=by rfl)(hd:(x==("__debug__":Str))=false:=by decide)(hst:ϰ (e::es) X.env=(false,eval e X.env)::ϰ es X.env:=by rfl)(hpl:(backTo pos (ϰ es X.env)).any (·.1)=false:=by rfl):EV X (.Call (.Name x p) (e::es) [] pos) σ H Q:=by
 obtain⟨f,fd,hm,hb,F⟩:=M.ex;intro ϵ s I;refine ant (jF I hg M.at_ ?_ hd);refine aol (h₀:=X.base) I.ok.mod.kin hm.kp (χ (h pos ϵ s I) λus s1 ⟨vs,H1,I1,r,q⟩=>⟨I1.kIn,?_⟩) hst hpl;exact ahz hm F ((hr.mono hk).nR hcc) hb hx I1 r q
end
structure OM(K:ϩ)(C:δ)(m qual:Str)(st:Ϩ):Prop where
 ex:∃f fd,cN K m qual st f fd/\Meth K C m f
structure OI(K:ϩ)(C:δ)(qual:Str)(st:Ϩ):Prop where
 ex:∃f fd,cN K "__init__" qual st f fd/\Mk K C f
structure OB(K:ϩ)(C:δ)(m qual:Str)(st:Ϩ):Prop where
 rd:anZ K C (.type "type")=true
 ga:aks K (.ref C) "__getattribute__"=some (some (.builtin "type.__getattribute__"))
 ex:∃f fd,cN K m qual st f fd/\an0 K (.ref C) (.type "type") m=some (.val (.ref f))
def FD(P:ϯ)(w:Ϭ)(K:ϩ)(mg:Str->Option ε)(base:ϫ)(cc:Bool)(k:Nat)(m qual:Str)(st:Ϩ)(ps:List Str)(sp:Sp):Prop:=
 ∀f fd,cN K m qual st f fd->Binds K fd ps []/\cO P w K mg base (bL P w) cc k f fd ps sp
section
variable{P:ϯ}{w:Ϭ}{K:ϩ}{mg:Str->Option ε}{base:ϫ}{cc:Bool}{k:Nat}{x m qual:Str}{C:δ}{st:Ϩ}{ps N:List Str}{sp:Sp}
theorem au(S:Γ N ps (υ st))(body:∀(f:δ)(Ϲ:ε)(A:ϲ)(outer:List Env)(s:μ)(H:Hp)(vs:List V)(Q:VK)(E:XK),ϙ cc k (A.deeper (envOfC qual (υ st) s.heap.objs.size f Ϲ))->sp vs H Q E->
   let X:=iR cc P w K mg base N qual (υ st) f Ϲ A outer s H E;Κ X (ϝ st) {nx:=λ_ H'=>Q .non H',rt:=Q} (start N vs) H)(hb:∀(kV doc pm:ε)(an:Option δ)(Ϲ ct:ε)(us:List ε),us.length=ps.length->bindArgs (aoE m qual (jl st) (ϝ st) (υ st) .none kV doc pm an Ϲ ct) ⟨us,[]⟩=pure (ps.zip us):=by walk_at"bb")(len:∀vs H Q E,sp vs H Q E->vs.length=ps.length:=by walk_at"ln"):FD P w K mg base cc (k+1) m qual st ps sp:=
 λf fd F=>⟨F.binds hb,uO F S len λϹ A outer s H vs Q E hr h=>body f Ϲ A outer s H vs Q E hr h⟩
theorem FD.meth(F:FD P w K mg base cc k m qual st ps sp)(c:ϗ K C)(O:OM K C m qual st):ak P w K mg base cc k C m ps sp:=by
 obtain⟨f,fd,h1,h2⟩:=O.ex;exact⟨c,f,fd,h2,F f fd h1⟩
theorem FD.make(F:FD P w K mg base cc k "__init__" qual st ps sp)(hm:mg x=some (.ref C))(O:OI K C qual st):fK P w K mg base cc k x C ps sp:=by
 obtain⟨f,fd,h1,h2⟩:=O.ex;exact⟨hm,f,fd,h2,F f fd h1⟩
theorem FD.asked(F:FD P w K mg base cc k m qual st ps sp)(hm:mg x=some (.ref C))(O:OB K C m qual st):oF P w K mg base cc k x m ps sp:=by
 obtain⟨f,fd,h1,h2⟩:=O.ex;obtain⟨h3,h4⟩:=F f fd h1;exact⟨C,f,fd,hm,O.rd,h2,O.ga,h1.kp,h3,h4⟩
theorem Wj{f:δ}{fd:akn}(h:mg x=some (.ref C))(F:cN K m qual st f fd)(a:aeB K (.ref C) m=some (some (.ref f)))(b:aoB K (.ref f)=true):OM K (η mg x) m qual st:=by
 rw[bZ h];exact⟨f,fd,F,a,b,F.kp⟩
theorem abB{f:δ}{fd:akn}(h:mg x=some (.ref C))(F:cN K "__init__" qual st f fd)(a:aeB K (.ref C) "__init__"=some (some (.ref f)))(b:aoB K (.ref f)=true)(c:ao0 K C=true)(d:anl K (.ref C)=true):OI K (η mg x) qual st:=by
 rw[bZ h];exact⟨f,fd,F,c,a,b,d⟩
theorem YT{f:δ}{fd:akn}(h:mg x=some (.ref C))(F:cN K m qual st f fd)(a:an0 K (.ref C) (.type "type") m=some (.val (.ref f)))(b:anZ K C (.type "type")=true)(c:aks K (.ref C) "__getattribute__"=some (some (.builtin "type.__getattribute__"))):OB K (η mg x) m qual st:=by
 rw[bZ h];exact⟨b,c,f,fd,F,a⟩
theorem Nu(h:mg x=some (.ref C))(a:anN K C Str.empty=true)(b:amG K C=true)(c:an8 K C=true)(d:aeB K (.ref C) "__setattr__"=some (some (.builtin "object.__setattr__"))):ϗ K (η mg x):=by
 rw[bZ h];exact⟨a,b,c,d⟩
end
theorem nZ{X:Cx}{σ:St}{H:Hp}{D:Ends}{elts:List π}{k:Nat}{tp pos:Pos}{value:π}(h:EV X value σ H λv H1=>EG X (.Tuple elts k tp) v σ H1 λσ' H'=>D.nx σ' H')(hs:swapsWithSole [.Tuple elts k tp] value pos.line X.env=pure false:=by rfl)(hw:swappedStores [.Tuple elts k tp] value X.env=pure none:=by rfl):SX X (.Assign [.Tuple elts k tp] value pos) D σ H:=by
 intro ϵ s I;refine Assign_Tuple (χ (h ϵ s I) λu s1 hZ=>?_) hs hw;obtain⟨v,H1,I1,r1,q1⟩:=hZ;exact χ (q1 ϵ s1 u I1 r1) λ_ s2 ⟨σ',H',I2,q2⟩=>⟨σ',H',I2,q2⟩
structure OT(K:ϩ)(C:δ):Prop where
 ty:∀(H:Hp)(a dx:δ)(fs:List (Str×V)),H a=some (.ins C dx fs)->cG K H (.ref a) (.ref C)
theorem W5{K:ϩ}{mg:Str->Option ε}{x:Str}{C:δ}(h:mg x=some (.ref C))(c:ϗ K (η mg x))(a1:aeB K (.ref C) "__class__"=some (some (.builtin "object.__class__")))(a2:aks K (.builtin "object.__class__") "__get__"=some (some (.builtin "getset_descriptor.__get__")))(a3:aoi K (.builtin "object.__class__")=some true)(a4:amQ K C (.type "object")=some true):OT K (η mg x):=by
 rw[bZ h]at c⊢;exact⟨λH a dx fs e=>.ins e c a1 a2 a3 a4⟩
section
variable{X:Cx}{σ:St}{H:Hp}{Q:VK}{D:Ends}{pos tpos:Pos}{o i value:π}
end
section
variable{prog:ϯ}{w:Ϭ}{A:ϲ}{E:ε->μ->Prop}{s:μ}
end
section
variable{X:Cx}{H:Hp}{Q:VK}{D:Ends}{σ σ':St}{e a b c elt tg:π}{scope:ai8}{pos spos py p p':Pos}{x y:Str}{j:Nat}
end
section
variable{X:Cx}{σ:St}{H:Hp}{Q:VK}{D:Ends}{pos pos' tpos apos ϻ:Pos}{o i e f value:π}{y v:V}{a:δ}{r:Option V}
theorem iZ(h:∀p,H p=none->Q (.ref p) (upd H p (.dK []))):EV X (.Dict [] [] pos) σ H Q:=aj ajn h
theorem wJ(hu:X.A.units+1<cLine)(g:ώ H a y r)(q:Q (.bl r.isSome) H):OP X (adJ .In) y (.ref a) H Q:=by
 refine aX (r:=λx z H Q=>∃a o,z=.ref a/\ώ H a x o/\Q (.bl o.isSome) H) ?_ ⟨a,r,rfl,g,q⟩;intro ϵ s σ H x z v u Q I rx rz h;obtain⟨a,o,rfl,g,q⟩:=h;cases(show u=Value.ref a from rz);exact aaQ hu I g rx λs' I'=>⟨.bl o.isSome,H,I',rfl,q⟩
theorem Pn(hu:X.A.units+1<cLine)(g:ώ H a y r)(q:Q (.bl (!r.isSome)) H):OP X (adJ .NotIn) y (.ref a) H Q:=by
 refine aX (r:=λx z H Q=>∃a o,z=.ref a/\ώ H a x o/\Q (.bl (!o.isSome)) H) ?_ ⟨a,r,rfl,g,q⟩;intro ϵ s σ H x z v u Q I rx rz h;obtain⟨a,o,rfl,g,q⟩:=h;cases(show u=Value.ref a from rz);exact agL hu I g rx λs' I'=>⟨.bl (!o.isSome),H,I',rfl,q⟩
theorem gW(hu:X.A.units+1<cLine)(h:EV X value σ H λv H1=>EV X o σ H1 λx H2=>EV X i σ H2 λy H3=>∃a H4,x=.ref a/\cJ H3 a y v H4/\D.nx σ H4)(hs:alk value (some (.Subscript o i pos')) pos.line X.env=pure false:=by rfl):SX X (.Assign [.Subscript o i pos'] value pos) D σ H:=
 nu (aah hu Υ Υ Υ hs) h
theorem ZZ(hu:X.A.units+1<cLine)(m:M1 X o "get" apos e ϻ)(h:EV X o σ H λx H1=>∃a,x=.ref a/\jM H1 a/\EV X e σ H1 λy H2=>∃o,ώ H2 a y o/\Q (o.getD .non) H2):EV X (.Call (.Attribute o "get" apos) [e] [] ϻ) σ H Q:=
 aj (ahq hu Υ Υ m) h
theorem adA(hu:X.A.units+1<cLine)(m:M2 X o "get" apos e f ϻ)(h:EV X o σ H λx H1=>∃a,x=.ref a/\jM H1 a/\EV X e σ H1 λy H2=>EV X f σ H2 λz H3=>∃o,ώ H3 a y o/\Q (o.getD z) H3):EV X (.Call (.Attribute o "get" apos) [e,f] [] ϻ) σ H Q:=
 aj (aaX hu Υ Υ Υ m) h
theorem qU(h:EV X o σ H λx H1=>∃a,x=.ref a/\jM H1 a/\EV X e σ H1 λy H2=>∃Ϸ k v,H2 a=some (.dK Ϸ)/\y=kV k/\ϓ Ϸ k=some v/\Q v (upd H2 a (.dK (dH Ϸ k))))(m:M1 X o "pop" apos e ϻ:=by constructor<;>rfl):EV X (.Call (.Attribute o "pop" apos) [e] [] ϻ) σ H Q:=
 aj (aa0 Υ Υ m) h
theorem afZ{Ϸ:List (Key×V)}(e:H a=some (.dK Ϸ))(q:∀p,H p=none->Q (.ref p) (upd H p (.dK Ϸ))):CL X (.type "dict") [.ref a] H Q:=by
 refine c7 (r:=λxs H Q=>∃a Ϸ,xs=[V.ref a]/\H a=some (.dK Ϸ)/\∀p,H p=none->Q (.ref p) (upd H p (.dK Ϸ))) ?_ ⟨a,Ϸ,rfl,e,q⟩;intro ϵ s σ H xs us Q I r h;obtain⟨a,Ϸ,rfl,e,q⟩:=h;obtain⟨u,rfl,ru⟩:=vals1 r;cases(show u=Value.ref a from ru);exact aaC I (.inl e) λp s' hp I'=>⟨.ref p,_,I',rfl,q p hp⟩
end
end L2
namespace My
open PySem
abbrev SGs:Str:=Str.ofString "-0123456789abcdefghijklmnopqrstuvwxyz"
abbrev uG:Str:=Str.ofString "abcdefghijklmnopqrstuvwxyz0123456789-"
def SG:List Nat:=SGs.cps.toList
def TS:List Nat:=uG.cps.toList
theorem Ad:∀c∈SG,c∈TS:=by decide+kernel
def tb:List Nat->List Nat->Bool
 |[],[]=>false
 |[],_::_=>true
 |_::_,[]=>false
 |x::xs,y::ys=>if x=y then tb xs ys else decide (SG.idxOf x<SG.idxOf y)
end My
namespace L2
open PySem PySem.Spec PyProof.Rows
theorem Tg{α:Type}{xs:List α}{f:α->V}{i:Int}(d:α)(h0:0<=i)(h1:i<xs.length):ό (xs.map f) i=some (f (xs.getD i.toNat d)):=by
 have e:i=((i.toNat:Nat):Int):=by omega
 have hl:i.toNat<xs.length:=by omega
 have h2:(xs.map f)[i.toNat]?=some (f (xs.getD i.toNat d)):=by
  rw[acy,aak hl];simp[hl]
 have:=ϔ h2;rw[<-e]at this;exact this
theorem Ij{α:Type}{xs:List α}{i:Int}(h0:0<=i)(h1:i<xs.length):∃v,ό xs i=some v/\v∈xs:=by
 have hl:i.toNat<xs.length:=by omega
 have e:i=((i.toNat:Nat):Int):=by omega
 have:=ϔ (aak hl);rw[<-e]at this;exact⟨_,this,aj9 hl⟩
theorem Ob:∀l:List Nat,((l.map λc=>(⟨#[c]⟩:Str)).map (·.length)).sum=l.length
 |[]=>rfl
 |c::r=>by
  rw[List.map_cons,List.map_cons,List.sum_cons,Ob r,List.length_cons];show 1+r.length=_;omega
theorem Kz:∀l:List Nat,Str.join ("":Str) (l.map λc=>⟨#[c]⟩)=⟨l.toArray⟩
 |[]=>rfl
 |[c]=>rfl
 |c::d::r=>by
  have ih:=Kz (d::r);show(⟨#[c]⟩:Str)++Str.ofString ""++Str.join ("":Str) ((d::r).map λc=>⟨#[c]⟩)=_;rw[ih];have e0:("":Str)=⟨#[]⟩:=by decide+kernel
  rw[e0];show(⟨(#[c]++ #[])++(d::r).toArray⟩:Str)=⟨(c::d::r).toArray⟩;simp
theorem jD{x y:Str}(h:x.cps.toList=y.cps.toList):x=y:=by
 obtain⟨⟨a⟩⟩:=x;obtain⟨⟨b⟩⟩:=y;simp only at h;rw[h]
theorem cR(x y:Str):(x++y).cps.toList=x.cps.toList++y.cps.toList:=by
 show(x.cps++y.cps).toList=_;simp
theorem len_list(z:Str):z.length=z.cps.toList.length:=by simp[Str.length]
theorem len_app(x y:Str):(x++y).length=x.length+y.length:=by rw[len_list,cR,adI,len_list,len_list]
theorem uw(z:Str)(lo hi:Option Int):(Ϗ z lo hi).length<=z.length:=by
 unfold Ϗ Str.length;simp;omega
theorem yx(z:Str)(lo hi:Option Int):(Ϗ z lo hi).cps.toList=(z.cps.toList.drop (HT.ϋ z.length 0 lo)).take (HT.ϋ z.length z.length hi-HT.ϋ z.length 0 lo):=by
 unfold Ϗ;simp
theorem Ci(z:Str)(k:Nat):(Ϗ z (some (k:Int)) none).cps.toList=z.cps.toList.drop k:=by
 rw[yx,HT.sH,HT.FZ];have hl:=len_list z;by_cases h:k<=z.length
 .rw[anz h,akk (by rw[afz];omega)]
 .have h':z.length<=k:=by omega
  rw[aod h',aof (by omega),aof (by omega)];simp
theorem yK(z:Str)(k:Nat):(Ϗ z none (some (k:Int))).cps.toList=z.cps.toList.take k:=by
 rw[yx,HT.sH,HT.FZ,aos,aoS];have hl:=len_list z;by_cases h:k<=z.length
 .rw[anz h]
 .have h':z.length<=k:=by omega
  rw[aod h',akk (by omega),akk (by omega)]
theorem Mi(z:Str)(c:Nat):Txt.startswith z ⟨#[c]⟩=decide (z.cps.toList[0]?=some c):=by
 rw[agp,decide_eq_true_eq, <-StrLaws.subAt_one];unfold Txt.startswith
 rw[aaV,decide_eq_true_eq]
end L2
namespace Vl
open PySem L2 PyProof.Rows My NumText
def scalar:V->Bool
 |.non|.int _|.str _=>true
 |_=>false
def kW:V->Bool
 |.int _=>true
 |_=>false
def isNum:V->Bool
 |.int i=>decide (-1000000000000000000<=i/\i<=1000000000000000000)
 |_=>false
def dI(z g:Str):Bool:=z.cps.toList.all λc=>decide (c∈g.cps.toList)
def fG:V->Bool
 |.str z=>decide (z.length<=20)&&dI z uG
 |_=>false
def isVal(kind:Str):V->Bool
 |.non=>true
 |v=>if kind="number" then isNum v else fG v
def before:V->V->Bool
 |_,.non=>false
 |.non,_=>true
 |.int i,.int j=>decide (i<j)
 |.str x,.str y=>decide (x.cps.toList<y.cps.toList)
 |_,_=>false
def short:V->Prop
 |.str z=>z.length<=4000
 |_=>True
def air:Sp:=λvs H Q _=>∃v,vs=[v]/\scalar v=true/\Q (.bl (kW v)) H
def Uz:Sp:=λvs H Q _=>∃z g:Str,vs=[.str z,.str g]/\z.length<=4000/\∀H',ζ H H'->Q (.bl (dI z g)) H'
def aji:Sp:=λvs H Q _=>∃v,vs=[v]/\scalar v=true/\Q (.bl (isNum v)) H
def aj2:Sp:=λvs H Q _=>∃v,vs=[v]/\scalar v=true/\short v/\∀H',ζ H H'->Q (.bl (fG v)) H'
def aiS:Sp:=λvs H Q _=>∃(k:Str)(v:V),vs=[.str k,v]/\scalar v=true/\short v/\∀H',ζ H H'->Q (.bl (isVal k v)) H'
def YD:Sp:=λvs H Q _=>∃x y:V,vs=[x,y]/\(x=.non\/y=.non\/(∃i j,x=.int i/\y=.int j)\/∃i j,x=.str i/\y=.str j)/\Q (.bl (before x y)) H
def vO(c:Nat):Bool:=decide (48<=c/\c<=57)
abbrev Hl:Str:=Str.ofString "0123456789"
theorem aiY:∀c:Nat,c∈Hl.cps.toList↔(48<=c/\c<=57):=by
 intro c;have e:Hl.cps.toList=[48,49,50,51,52,53,54,55,56,57]:=by decide+kernel
 rw[e];simp only[List.mem_cons,List.not_mem_nil,or_false];omega
theorem ahn(z:Str):dI z Hl=z.cps.toList.all vO:=by
 unfold dI vO
 congr 1
 funext c;rw[decide_eq_decide];exact aiY c
def cZ(l:List Nat):Bool:=decide (l=[48])||(decide (l≠[])&&(decide (l[0]? ≠some 48)&&l.all vO))
def pA(l:List Nat):Bool:=if l[0]?=some 45 then decide (l.drop 1≠[48])&&cZ (l.drop 1)else cZ l
def lZ(l:List Nat):Int:=if l[0]?=some 45 then -((digitsVal (l.drop 1):Nat):Int)else((digitsVal l:Nat):Int)
theorem JR{l:List Nat}(h:cZ l=true):AllDigits l/\l≠[]:=by
 unfold cZ at h;rw[anx,aaV,aaV,decide_eq_true_eq,decide_eq_true_eq]at h;obtain h|⟨h1,_,h2⟩:=h
 .subst h;exact⟨λc hc=>by simp at hc;omega,by simp⟩
 .exact⟨λc hc=>of_decide_eq_true (ady.mp h2 c hc),h1⟩
def fj(l:List Nat):Option Int:=if pA l=true/\l.length<=20/\ -1000000000000000000<=lZ l/\lZ l<=1000000000000000000 then some (lZ l)else none
def iJ(z:Str):Option Str:=if z.cps.toList[0]?=some 39/\fG (.str (Ϗ z (some 1) none))=true then some (Ϗ z (some 1) none)else none
def wV:Option Int->Option V
 |some i=>some (.int i)
 |none=>none
def Cg:Option Str->Option V
 |some i=>some (.str i)
 |none=>none
def dN(kind word:Str):Option V:=if word="?" then some .non else if kind="number" then wV (fj word.cps.toList)else Cg (iJ word)
def wordOf:V->Str
 |.non=>"?"
 |.str z=>Str.ofString "'"++z
 |.int i=>Str.ofString (toString i)
 |_=>""
def agc:Sp:=λvs H Q _=>∃z,vs=[.str z]/\z.length<=4000/\∀H',ζ H H'->Q (.bl (cZ z.cps.toList)) H'
def zL(c:ε)(r:Option V)(H:Hp)(Q:VK)(E:XK):=∀H',ζ H H'->match r with
 |some v=>Q v H'
 |none=>E c (none,true) H'
def acv(c:ε):Sp:=λvs H Q E=>∃z,vs=[.str z]/\z.length<=4000/\zL c (wV (fj z.cps.toList)) H Q E
def acq(c:ε):Sp:=λvs H Q E=>∃z,vs=[.str z]/\z.length<=4000/\zL c (Cg (iJ z)) H Q E
def X8(c:ε):Sp:=λvs H Q E=>∃k z,vs=[.str k,.str z]/\z.length<=4000/\zL c (dN k z) H Q E
def cj(n:Nat)(z:Str):Prop:=z.length<=n/\∀c∈z.cps.toList,c<1114112
theorem cj.lit{z:Str}{n:Nat}(h:(decide (z.length<=n)&&z.cps.toList.all λc=>decide (c<1114112))=true):cj n z:=by
 rw[aaV,decide_eq_true_eq,ady]at h;exact⟨h.1,λc hc=>of_decide_eq_true (h.2 c hc)⟩
theorem cj.lay{n:Nat}{z:Str}(h:cj n z):(PyData.str z).canLay0=true:=by
 show PyData.strOk z=true;unfold PyData.strOk;rw[Array.all_eq_true_iff_forall_mem];intro c hc;exact decide_eq_true (h.2 c (by simpa using hc))
theorem cj.sg{n:Nat}{z:Str}(hl:z.length<=n)(h:∀c∈z.cps.toList,c∈SG):cj n z:=⟨hl,λc hc=>by
 have:∀c∈SG,c<1114112:=by decide+kernel
 exact this c (h c hc)⟩
def dV:V->alY
 |.bl b=>.bool b
 |.int i=>.int i
 |.str x=>.str x
 |_=>.none
def iH:V->Bool
 |.non|.int _|.str _|.bl _=>true
 |_=>false
theorem U3{K:PySem.W.Frag}{H:Hp}{v:V}(h:iH v=true):RD K H v (dV v):=by
 cases v with
 |non=>exact .non
 |bl b=>exact .bl b
 |int i=>exact .int i
 |str x=>exact .str x
 |_=>cases h
theorem Ay{K:PySem.W.Frag}{H:Hp}:∀{xs:List V},xs.all iH=true->bW K H xs (xs.map dV)
 |[],_=>.nil
 |x::xs,h=>by
  rw[List.all_cons,aaV]at h;exact .cons (U3 h.1) (Ay h.2)
theorem j5{i:Int}(h:i.natAbs<10^60):i.natAbs.log2<1920:=by
 by_cases h0:i.natAbs=0
 .rw[h0];decide
 .rw[Nat.log2_lt h0];refine adz h ?_;decide+kernel
theorem tQ(m:Nat):(Str.ofString (toString ((m:Nat):Int))).cps.toList=(apg 10 m).map Char.toNat:=PySem.W.KIN.signs_num m
theorem vy(m:Nat):∀c∈(Str.ofString (toString ((m:Nat):Int))).cps.toList,48<=c/\c<=57:=by
 rw[tQ];intro c hc;obtain⟨d,hd,rfl⟩:=acL.mp hc;have:=Nat.isDigit_of_mem_toDigits (b:=10) (n:=m) (by decide) (by decide) hd;simp only[Char.isDigit,aaV,decide_eq_true_eq]at this;have h1:(48:UInt32).toNat<=d.val.toNat:=this.1;have h2:d.val.toNat<=(57:UInt32).toNat:=this.2;exact⟨h1,h2⟩
theorem tH{m k:Nat}(hk:1<=k)(h:m<10^k):(Str.ofString (toString ((m:Nat):Int))).length<=k:=by
 rw[L2.len_list,tQ,ϱ];exact PyProof.Rows.digits10_le hk h
theorem vo(m:Nat)(h:0<m):Str.ofString (toString (-((m:Nat):Int)))=Str.ofString "-"++Str.ofString (toString ((m:Nat):Int)):=by
 obtain⟨k,rfl⟩:∃k,m=k+1:=⟨m-1,by omega⟩;have e:(-((k+1:Nat):Int))=Int.negSucc k:=rfl;rw[e];apply jD;rw[cR];rw[PyProof.Rows.signs_ofString,PyProof.Rows.signs_ofString,PyProof.Rows.signs_ofString];show(("-"++Nat.repr (k+1)).toList.map Char.toNat)="-".toList.map Char.toNat++(Nat.repr (k+1)).toList.map Char.toNat;rw[String.toList_append,agF]
end Vl
namespace Lw
open PySem L2 PyProof.Rows My NumText
def xO(ns:List Int)(k:Int):Int:=if 0<ns.length then ns.getD (k % (ns.length:Int)).toNat 0 else 0
def Χ(ns:List Int)(k m:Int):Int:=(xO ns k % 1000003+31*k*k+1)*48271 % 999983*7919 % 524287 % m
theorem aJ(ns:List Int)(k:Int){m:Int}(h:0<m):0<=Χ ns k m:=anA _ (by omega)
theorem aK(ns:List Int)(k:Int){m:Int}(h:0<m):Χ ns k m<m:=amj _ h
def aj6(K:PySem.W.Frag):Sp:=λvs H Q _=>∃(a:δ)(ns:List Int)(k m:Int),vs=[.ref a,.int k,.int m]/\θ K H a (ns.map V.int)/\ns.length<=63/\0<=k/\k<=100000/\0<m/\Q (.int (Χ ns k m)) H
end Lw
namespace Vl
open PySem L2 PyProof.Rows My NumText
inductive ψ {α β:Type} (R:α->β->Prop):List α->List β->Prop
 |nil:ψ R [] []
 |cons {a:α} {b:β} {l:List α} {m:List β}:R a b->ψ R l m->ψ R (a::l) (b::m)
section
variable{α β:Type}{R S:α->β->Prop}{l l':List α}{m m':List β}
theorem ψ.len(h:ψ R l m):l.length=m.length:=by
 induction h with
 |nil=>rfl
 |cons _ _ ih=>rw[List.length_cons,List.length_cons,ih]
theorem ψ.imp(f:∀a b,R a b->S a b)(h:ψ R l m):ψ S l m:=by
 induction h with
 |nil=>exact .nil
 |cons r _ ih=>exact .cons (f _ _ r) ih
theorem ψ.get(h:ψ R l m){i:Nat}{a:α}(e:l[i]?=some a):∃b,m[i]?=some b/\R a b:=by
 induction h generalizing i with
 |nil=>cases e
 |cons r _ ih=>
  cases i with
  |zero=>cases e;exact⟨_,rfl,r⟩
  |succ i=>exact ih e
theorem ψ.get'(h:ψ R l m){i:Nat}{b:β}(e:m[i]?=some b):∃a,l[i]?=some a/\R a b:=by
 induction h generalizing i with
 |nil=>cases e
 |cons r _ ih=>
  cases i with
  |zero=>cases e;exact⟨_,rfl,r⟩
  |succ i=>exact ih e
theorem ψ.app(h:ψ R l m)(g:ψ R l' m'):ψ R (l++l') (m++m'):=by
 induction h with
 |nil=>exact g
 |cons r _ ih=>exact .cons r ih
theorem ψ.drop(n:Nat)(h:ψ R l m):ψ R (l.drop n) (m.drop n):=by
 induction h generalizing n with
 |nil=>cases n<;>exact .nil
 |cons r t ih=>
  cases n with
  |zero=>exact .cons r t
  |succ n=>exact ih n
end
abbrev ς:=Str×Str
def ue(H:Hp)(v:V)(c:ς):=∃t,v=.ref t/\H t=some (.tup [.str c.1,.str c.2])
theorem ue.same{H H':Hp}{v:V}{c:ς}(h:ue H v c)(s:ζ H H'):ue H' v c:=by
 obtain⟨t,e,q⟩:=h;exact⟨t,e,s _ _ q⟩
def ϒ(H:Hp)(a:δ)(cs:List ς):=∃vs:List V,H a=some (.lst vs)/\ψ (ue H) vs cs
theorem ϒ.same{H H':Hp}{a:δ}{cs:List ς}(h:ϒ H a cs)(s:ζ H H'):ϒ H' a cs:=by
 obtain⟨vs,e,q⟩:=h;exact⟨vs,s _ _ e,q.imp λa b r=>r.same s⟩
abbrev fU:Str:=Str.ofString "abcdefghijklmnopqrstuvwxyz"
def isName(z:Str):Bool:=decide (1<=z.length/\z.length<=8)&&dI z fU
def gA(k:Str):Bool:=decide (k="number"\/k="text")
def Ϙ(cs:List ς):Bool:=decide (1<=cs.length/\cs.length<=6)&&(cs.all λc=>isName c.1&&gA c.2)&&decide ((cs.map Prod.fst).Nodup)
def T9:Sp:=λvs H Q _=>∃z,vs=[.str z]/\z.length<=4000/\∀H',ζ H H'->Q (.bl (isName z)) H'
def HB(cs:List ς):=∀c∈cs,c.1.length<=4000/\c.2.length<=4000
def ac5(c:ε):Sp:=λvs H Q E=>∃a cs,vs=[.ref a]/\ϒ H a cs/\cs.length<=4000/\HB cs/\∀H',ζ H H'->if Ϙ cs=true then Q .non H' else E c (none,true) H'
def eN:List ς->Str->Nat->V
 |[],_,_=>.non
 |c::r,z,i=>if c.1=z then .int i else eN r z (i+1)
def YM:Sp:=λvs H Q _=>∃a cs z,vs=[.ref a,.str z]/\ϒ H a cs/\∀H',ζ H H'->Q (eN cs z 0) H'
def Qd:V->Bool
 |.int i=>decide (0<=i/\i<=1000000000)
 |_=>false
def aew:Sp:=λvs H Q _=>∃v,vs=[v]/\scalar v=true/\Q (.bl (Qd v)) H
def kY:List ς->List V->Bool
 |c::cs,v::vs=>isVal c.2 v&&kY cs vs
 |_,_=>true
def wA(cs:List ς)(v:V)(xs:List V):Bool:=Qd v&&decide (xs.length=cs.length)&&kY cs xs
def agH:Sp:=λvs H Q _=>∃a cs v b xs,vs=[.ref a,v,.ref b]/\ϒ H a cs/\cs.length<=4000/\scalar v=true/\H b=some (.lst xs)/\(∀x∈xs,scalar x=true/\short x)/\∀H',ζ H H'->Q (.bl (wA cs v xs)) H'
theorem GQ:∀{xs:List V},(∀x∈xs,iH x=true/\∀z,x=.str z->cj 4000 z)->(PyData.list (xs.map dV)).canLay0=true
 |[],_=>rfl
 |x::xs,h=>by
  have ih:=GQ (xs:=xs) λd hd=>h d (by simp[hd])
  have h1:(dV x).canLay0=true:=by
   obtain⟨hs,hz⟩:=h x (by simp);cases x with
   |str z=>exact(hz z rfl).lay
   |_=>rfl
  show((dV x).canLay0&&PyData.canLayAll0 (xs.map dV))=true;rw[h1];exact ih
theorem CP:∀xs:List V,PyData.depthAll (xs.map dV)<=1
 |[]=>by show(0:Nat)<=1;omega
 |x::xs=>by
  have ih:=CP xs;have h1:(dV x).depth<=1:=by cases x<;>(show(_:Nat)<=1;exact akV rfl)
  show max (dV x).depth (PyData.depthAll (xs.map dV))<=1;omega
theorem Fy(xs:List V):(PyData.list (xs.map dV)).depth<=60:=by
 have:=CP xs;simp only[PyData.depth];omega
theorem Pa(xs:List V)(k:Nat):fH xs (some (k:Int)) none=xs.drop k:=by
 unfold fH;rw[HT.FZ,HT.sH];by_cases h:k<=xs.length
 .rw[show min k xs.length=k from anz h];exact akk (by rw[afz];exact Ϯ _)
 .rw[show min k xs.length=xs.length from aod (by omega),aog (Ϯ _),aog (by omega)];simp
end Vl
namespace Vl
open PySem L2 PyProof.Rows My NumText
theorem R6:∀(r:List Nat)(a:Nat),a*10^r.length<=r.foldl (λacc c=>acc*10+(c-48)) a
 |[],a=>by simp
 |c::r,a=>by
  have ih:=R6 r (a*10+(c-48));rw[List.foldl_cons,List.length_cons,Nat.pow_succ];refine ah6 ?_ ih;have h1:a*(10^r.length*10)=a*10*10^r.length:=by rw[apf (10^r.length) 10,Nat.mul_assoc]
  rw[h1];exact aoq _ (anm _ _)
theorem QR{l:List Nat}(h:cZ l=true)(h1:l≠[48]):10^(l.length-1)<=digitsVal l:=by
 obtain⟨hd,Ϻ⟩:=JR h;cases l with
 |nil=>exact absurd rfl Ϻ
 |cons c r=>
  have hc:=hd c acB;have hc2:c≠48:=by
   intro e;subst e;unfold cZ at h;rw[decide_eq_false h1,aoa]at h;simp at h
  have:=R6 r (0*10+(c-48));have h3:1*10^r.length<=(0*10+(c-48))*10^r.length:=aoq _ (by omega);unfold digitsVal;rw[List.foldl_cons];show 10^r.length<=_;omega
theorem Cr{l:List Nat}{m:Int}{k:Nat}(h:cZ l=true)(hm:((digitsVal l:Nat):Int)<=m)(hk:m<((10^k:Nat):Int))(h1:1<=k):l.length<=k:=by
 by_cases e:l=[48]
 .subst e;exact h1
 .have h2:=QR h e;have h3:10^(l.length-1)<10^k:=by omega
  have h4:=(Nat.pow_lt_pow_iff_right (a:=10) (by decide)).mp h3;omega
theorem Jo{l:List Nat}(h:cZ l=true):digitsVal l=0↔l=[48]:=by
 constructor
 .intro e;refine Classical.byContradiction λn=>?_
  have h2:=QR h n;have h3:0<10^(l.length-1):=Nat.pow_pos (by decide);omega
 .intro e;subst e;rfl
def gj(l:List Nat)(m:Int):Option Int:=if cZ l=true/\((digitsVal l:Nat):Int)<=m then some ((digitsVal l:Nat):Int)else none
def qZ:Option Int->V
 |none=>.non
 |some i=>.int i
def Ux:Sp:=λvs H Q _=>∃(z:Str)(m:Int)(k:Nat),vs=[.str z,.int m]/\z.length<=4000/\0<=m/\m.natAbs<10^60/\(Str.ofString (toString m)).length=k/\m<((10^k:Nat):Int)/\1<=k/\k<=600/\∀H',ζ H H'->Q (qZ (gj z.cps.toList m)) H'
theorem Iv{l:List Nat}(h0:¬l[0]?=some 45):fj l=gj l 1000000000000000000:=by
 unfold fj gj pA lZ;rw[if_neg h0,if_neg h0];by_cases h:cZ l=true/\((digitsVal l:Nat):Int)<=1000000000000000000
 .have :=Cr (k:=19) h.1 h.2 (by decide) (by decide);rw[if_pos h,if_pos ⟨h.1,by omega,by omega,h.2⟩]
 .rw[if_neg h,if_neg λx=>h ⟨x.1,x.2.2.2⟩]
theorem ab7{l:List Nat}(h0:l[0]?=some 45):fj l=match gj (l.drop 1) 1000000000000000000 with
  |some i=>if i=0 then none else some (-i)
  |none=>none:=by
 unfold fj gj pA lZ;rw[if_pos h0,if_pos h0];have hl:l.length=(l.drop 1).length+1:=by
  cases l with
  |nil=>simp at h0
  |cons c r=>simp
 rw[hl];generalize l.drop 1=r;by_cases h:cZ r=true/\((digitsVal r:Nat):Int)<=1000000000000000000
 .have h2:=Cr (k:=19) h.1 h.2 (by decide) (by decide);have h3:=Jo h.1;rw[if_pos h];show _=if((digitsVal r:Nat):Int)=0 then none else some (-((digitsVal r:Nat):Int));by_cases e:r=[48]
  .have hz:((digitsVal r:Nat):Int)=0:=by have:=h3.mpr e;omega
   rw[if_pos hz];refine if_neg λx=>?_
   rw[aaV,decide_eq_true_eq]at x;exact x.1.1 e
  .have hz:¬((digitsVal r:Nat):Int)=0:=λz=>e (h3.mp (by omega))
   rw[if_neg hz];exact if_pos ⟨by rw[decide_eq_true e,h.1];rfl,by omega,by omega,by omega⟩
 .rw[if_neg h];refine if_neg λx=>?_
  rw[aaV]at x;exact h ⟨x.1.2,by omega⟩
end Vl
namespace Vl
open PySem L2 PyProof.Rows My NumText
theorem qt{n:Int}(h:n.natAbs<10^60):(Str.ofString (toString n)).length<=70:=by
 by_cases h0:0<=n
 .obtain⟨m,rfl⟩:=adK h0;have:=tH (m:=m) (k:=60) (by decide) (by simpa using h);omega
 .have e:n= -((n.natAbs:Nat):Int):=by omega
  rw[e,vo n.natAbs (by omega),len_app];have:=tH (m:=n.natAbs) (k:=60) (by decide) h;have l1:("-":Str).length=1:=by decide+kernel
  omega
end Vl
namespace Vl
open PySem L2 PyProof.Rows My NumText
abbrev Ord:=Str×Bool
def tO(H:Hp)(v:V)(o:Ord):=∃t,v=.ref t/\H t=some (.tup [.str o.1,.bl o.2])
theorem tO.same{H H':Hp}{v:V}{o:Ord}(h:tO H v o)(s:ζ H H'):tO H' v o:=by
 obtain⟨t,e,q⟩:=h;exact⟨t,e,s _ _ q⟩
def dm(H:Hp)(a:δ)(os:List Ord):=∃vs:List V,H a=some (.lst vs)/\ψ (tO H) vs os
theorem dm.same{H H':Hp}{a:δ}{os:List Ord}(h:dm H a os)(s:ζ H H'):dm H' a os:=by
 obtain⟨vs,e,q⟩:=h;exact⟨vs,s _ _ e,q.imp λa b r=>r.same s⟩
def gU{α β:Type}(f:α->Option β):List α->Option (List β)
 |[]=>some []
 |x::r=>match f x,gU f r with
  |some y,some ys=>some (y::ys)
  |_,_=>none
theorem Ro{α β:Type}{f:α->Option β}:∀{l:List α}{x:α},x∈l->f x=none->gU f l=none
 |y::r,x,h,e=>by
  unfold gU;obtain z|z:=acG.mp h
  .subst z;rw[e]
  .rw[Ro z e];cases f y<;>rfl
 |[],x,h,_=>by simp at h
theorem Ql{α β:Type}{f:α->Option β}:∀{l:List α}{m:List β},l.length=m.length->(∀(i:Nat) x y,l[i]?=some x->m[i]?=some y->f x=some y)->gU f l=some m
 |[],[],_,_=>rfl
 |x::l,y::m,hl,h=>by
  have h1:=h 0 x y rfl rfl;have h2:=Ql (l:=l) (m:=m) (by simpa using hl) λi x y e1 e2=>h (i+1) x y (by simpa using e1) (by simpa using e2)
  unfold gU;rw[h1,h2]
 |[],_::_,hl,_=>by simp at hl
 |_::_,[],hl,_=>by simp at hl
theorem Iw{α β:Type}{f:α->Option β}{R:V->β->Prop}:∀{ws:List α}{xs:List V},xs.length=ws.length->(∀(i:Nat) v,xs[i]?=some v->∃z,ws[i]?=some z/\∃b,f z=some b/\R v b)->∃bs,gU f ws=some bs/\ψ R xs bs
 |[],[],_,_=>⟨[],rfl,.nil⟩
 |w::ws,x::xs,hl,h=>by
  obtain⟨z,e1,b,e2,r⟩:=h 0 x rfl;have e1':w=z:=by simpa using e1
  subst e1';obtain⟨bs,e3,t⟩:=Iw (ws:=ws) (xs:=xs) (by simpa using hl) λi v e=>by simpa using h (i+1) v (by simpa using e)
  refine⟨b::bs,?_,.cons r t⟩;unfold gU;rw[e2,e3]
 |[],_::_,hl,_=>by simp at hl
 |_::_,[],hl,_=>by simp at hl
def gQ(cs:List ς)(z:Str):Option Ord:=
 if(z.cps.toList[0]?=some 43\/z.cps.toList[0]?=some 45)/\eN cs (Ϗ z (some 1) none) 0≠.non then some (Ϗ z (some 1) none,decide (z.cps.toList[0]?=some 43))else none
def jA(cs:List ς)(z:Str):Option (List Ord):=
 if z="" then some []else if 4<(ϣ 32 z).length then none else match gU (gQ cs) (ϣ 32 z)with
  |none=>none
  |some os=>if(os.map Prod.fst).Nodup then some os else none
def Yx(c:ε):Sp:=λvs H Q E=>∃a cs z,vs=[.ref a,.str z]/\ϒ H a cs/\z.length<=4000/\
 (∀H',ζ H H'->gQ cs z=none->E c (none,true) H')/\∀p o H',ζ H H'->gQ cs z=some o->H' p=some (.tup [.str o.1,.bl o.2])->Q (.ref p) H'
def Yy(c:ε):Sp:=λvs H Q E=>∃a cs z,vs=[.ref a,.str z]/\ϒ H a cs/\z.length<=4000/\
 (∀H',ζ H H'->jA cs z=none->E c (none,true) H')/\∀p os H',ζ H H'->jA cs z=some os->H p=none->dm H' p os->Q (.ref p) H'
def aH(o:Ord):Str:=(if o.2=true then Str.ofString "+" else Str.ofString "-")++o.1
def bx(os:List Ord):Str:=Str.join " " (os.map aH)
def aep:Sp:=λvs H Q _=>∃a os,vs=[.ref a]/\dm H a os/\os.length<=4000/\(∀o∈os,o.1.length<=1000)/\∀H',ζ H H'->Q (.str (bx os)) H'
theorem Pq(c:Nat)(z:Str):(ϣ c z).length<=z.length+1:=by
 have h1:=Dt c z.cps.toList;unfold ϣ;rw[ϱ];have h2:z.cps.toList.length=z.length:=rfl;omega
theorem Xn{c:Nat}{z y:Str}(h:y∈ϣ c z):y.length<=z.length:=by
 have key:∀(l:List Nat) p,p∈cutAt c l->p.length<=l.length:=by
  intro l;induction l with
  |nil=>intro p hp;have:p=[]:=by simpa [cutAt]using hp
        subst this;simp
  |cons x r ih=>
   intro p hp;unfold cutAt at hp;split at hp
   .obtain z|z:=acG.mp hp
    .subst z;simp
    .have :=ih p z;simp;omega
   .split at hp
    .have :p=[x]:=by simpa using hp
     subst this;simp
    .rename_i a t e;rw[e]at ih;obtain z|z:=acG.mp hp
     .subst z;have:=ih a (by simp);simp;omega
     .have :=ih p (by simp[z]);simp;omega
 unfold ϣ at h;obtain⟨l,hl,rfl⟩:=acL.mp h;have:=key _ l hl;have h2:z.cps.toList.length=z.length:=rfl;show l.toArray.size<=_;simp;omega
end Vl
namespace Vl
open PySem L2 PyProof.Rows My NumText
def aL:List ς->Str->Nat
 |[],_=>0
 |c::r,z=>if c.1=z then 0 else aL r z+1
theorem Gs:∀{cs:List ς}{z:Str},(∃c∈cs,c.1=z)->aL cs z<cs.length
 |[],_,h=>by obtain⟨c,hc,_⟩:=h;simp at hc
 |d::r,z,h=>by
  unfold aL;split
  .simp
  .rename_i hd;have:=Gs (cs:=r) (z:=z) (by
    obtain⟨c,hc,e⟩:=h;obtain x|x:=acG.mp hc
    .subst x;exact absurd e hd
    .exact⟨c,x,e⟩)
   simp;omega
theorem Cq:∀{cs:List ς}{z:Str}(i:Nat),(∃c∈cs,c.1=z)->eN cs z i=.int ((i+aL cs z:Nat):Int)
 |[],_,_,h=>by obtain⟨c,hc,_⟩:=h;simp at hc
 |d::r,z,i,h=>by
  unfold eN aL;split
  .rfl
  .rename_i hd;rw[Cq (i+1) (by
    obtain⟨c,hc,e⟩:=h;obtain x|x:=acG.mp hc
    .subst x;exact absurd e hd
    .exact⟨c,x,e⟩)]
   congr 2
   omega
theorem zq:∀{cs:List ς}{z:Str},(∃c∈cs,c.1=z)->∃c,cs[aL cs z]?=some c/\c.1=z
 |[],_,h=>by obtain⟨c,hc,_⟩:=h;simp at hc
 |d::r,z,h=>by
  unfold aL;split
  .rename_i e;exact⟨d,rfl,e⟩
  .rename_i hd;obtain⟨c,h1,h2⟩:=zq (cs:=r) (z:=z) (by
    obtain⟨c,hc,e⟩:=h;obtain x|x:=acG.mp hc
    .subst x;exact absurd e hd
    .exact⟨c,x,e⟩)
   exact⟨c,by simpa using h1,h2⟩
def gf(cs:List ς)(xs:List V)(z:Str):V:=(xs[aL cs z]?).getD .non
def ϥ(cs:List ς)(os:List Ord)(xs:List V):List V:=os.map λo=>gf cs xs o.1
def fO(cs:List ς)(os:List Ord):=∀o∈os,∃c∈cs,c.1=o.1
def aeJ:Sp:=λvs H Q _=>∃a b n c cs os xs,vs=[.ref a,.ref b,.int n,.ref c]/\ϒ H a cs/\dm H b os/\H c=some (.lst xs)/\xs.length=cs.length/\cs.length<=4000/\os.length<=4000/\fO cs os/\
 ∀p l H',ζ H H'->H p=none->H l=none->H' l=some (.lst (ϥ cs os xs))->H' p=some (.tup [.ref l,.int n])->Q (.ref p) H'
def qP(x y:V):Prop:=x=.non\/y=.non\/(∃i j,x=.int i/\y=.int j)\/∃i j,x=.str i/\y=.str j
theorem Rm{x y:V}(hx:scalar x=true)(hy:scalar y=true):tM x y=true:=by
 cases x<;>cases y<;>first|rfl|(exact absurd hx abe)|(exact absurd hy abe)
def jO(H:Hp)(p:δ)(xs:List V)(n:Int):=∃l,H p=some (.tup [.ref l,.int n])/\H l=some (.lst xs)
theorem jO.same{H H':Hp}{p:δ}{xs:List V}{n:Int}(h:jO H p xs n)(s:ζ H H'):jO H' p xs n:=by
 obtain⟨l,h1,h2⟩:=h;exact⟨l,s _ _ h1,s _ _ h2⟩
theorem Bg{α:Type}{l:List α}{i:Nat}{x:α}(h:l[i]?=some x):l.drop i=x::l.drop (i+1):=by
 obtain⟨hi,e⟩:=aaF.mp h;rw[<-e];exact List.drop_eq_getElem_cons hi
end Vl
namespace Vl
open PySem L2 PyProof.Rows My NumText
theorem JX(m:Nat):cZ (Str.ofString (toString ((m:Nat):Int))).cps.toList=true/\digitsVal (Str.ofString (toString ((m:Nat):Int))).cps.toList=m:=by
 have hd:AllDigits (Str.ofString (toString ((m:Nat):Int))).cps.toList:=vy m;have hv:digitsVal (Str.ofString (toString ((m:Nat):Int))).cps.toList=m:=by rw[tQ];exact PySem.W.KIN.val_back m
 refine⟨?_,hv⟩;have Ϻ:(Str.ofString (toString ((m:Nat):Int))).cps.toList≠[]:=by rw[tQ];simp[Nat.toDigits_ne_nil]
 have hall:=toDigits_all _ hd;rw[hv]at hall;have e:=tQ m;generalize(Str.ofString (toString ((m:Nat):Int))).cps.toList=l at *;have hl:l.length=(apg 10 m).length:=by rw[e,ϱ]
 unfold cZ;rw[anx,aaV,aaV,decide_eq_true_eq,decide_eq_true_eq,decide_eq_true_eq];cases l with
 |nil=>exact absurd rfl Ϻ
 |cons c r=>
  by_cases h0:c=48
  .subst h0;left;rw[List.dropWhile_cons,if_pos (by decide)]at hall;cases q:r.dropWhile (· ==48)with
   |nil=>
    rw[q]at hall;rw[hall]at hl;have:r=[]:=by cases r with
     |nil=>rfl
     |cons _ _=>simp at hl
    rw[this]
   |cons d t=>
    rw[q]at hall;rw[hall,ϱ, <-q]at hl;have:=(List.dropWhile_sublist (p:=λx:Nat=>x==48) (l:=r)).length_le;rw[List.length_cons]at hl;omega
  .right;refine⟨by simp,by simpa using h0,?_⟩;rw[ady];exact λx hx=>decide_eq_true (hd x hx)
theorem X5{i:Int}(h1: -1000000000000000000<=i)(h2:i<=1000000000000000000):fj (Str.ofString (toString i)).cps.toList=some i:=by
 by_cases h0:0<=i
 .obtain⟨m,rfl⟩:=adK h0;obtain⟨a,b⟩:=JX m;have hd:=vy m;have hn:¬(Str.ofString (toString ((m:Nat):Int))).cps.toList[0]?=some 45:=λe=>by
   have:=hd 45 (abG e);omega
  have e:=Iv hn;unfold gj at e;rw[a,b,if_pos ⟨rfl,by omega⟩]at e;exact e
 .obtain⟨m,hm,rfl⟩:∃m:Nat,0<m/\i= -((m:Nat):Int):=⟨i.natAbs,by omega,by omega⟩;obtain⟨a,b⟩:=JX m;have hl:=tH (m:=m) (k:=19) (by decide) (by omega);have e:(Str.ofString (toString (-((m:Nat):Int)))).cps.toList=45::(Str.ofString (toString ((m:Nat):Int))).cps.toList:=by
   rw[vo m hm,cR];have:("-":Str).cps.toList=[45]:=by decide+kernel
   rw[this];rfl
  have hz:=Jo a;rw[b]at hz;rw[L2.len_list]at hl;rw[e];generalize(Str.ofString (toString ((m:Nat):Int))).cps.toList=l at a b hz hl⊢;have Ϻ:l≠[48]:=λq=>by have:=hz.mpr q;omega
  have w1:pA (45::l)=true:=by
   unfold pA;rw[if_pos (show(45::l)[0]?=some 45 from rfl)];show(decide (l≠[48])&&cZ l)=true;rw[a,decide_eq_true Ϻ];rfl
  have w2:lZ (45::l)= -((m:Nat):Int):=by
   unfold lZ;rw[if_pos (show(45::l)[0]?=some 45 from rfl)];show -((digitsVal l:Nat):Int)=_;rw[b]
  unfold fj;rw[w1,w2,if_pos ⟨rfl,by rw[List.length_cons];omega,h1,h2⟩]
theorem Bb(i:Int):∀c∈(Str.ofString (toString i)).cps.toList,c=45\/(48<=c/\c<=57):=by
 intro c hc;by_cases h0:0<=i
 .obtain⟨m,rfl⟩:=adK h0;exact .inr (vy m c hc)
 .obtain⟨m,hm,rfl⟩:∃m:Nat,0<m/\i= -((m:Nat):Int):=⟨i.natAbs,by omega,by omega⟩;rw[vo m hm,cR]at hc;obtain h|h:=aei.mp hc
  .left;have:("-":Str).cps.toList=[45]:=by decide+kernel
   rw[this]at h;simpa using h
  .exact .inr (vy m c h)
theorem ajI{i:Int}{k:Nat}(hk:1<=k)(h:i.natAbs<10^k):(Str.ofString (toString i)).length<=k+1:=by
 by_cases h0:0<=i
 .obtain⟨m,rfl⟩:=adK h0;have:=tH (m:=m) (k:=k) hk (by simpa using h);omega
 .obtain⟨m,hm,rfl⟩:∃m:Nat,0<m/\i= -((m:Nat):Int):=⟨i.natAbs,by omega,by omega⟩;have:=tH (m:=m) (k:=k) hk (by simpa using h);have e:("-":Str).length=1:=by decide+kernel
  rw[vo m hm,len_app,e];omega
theorem Ri:("?":Str).cps.toList=[63]:=by decide+kernel
theorem vB:("'":Str).cps.toList=[39]:=by decide+kernel
theorem adp{i:Int}(h1: -1000000000000000000<=i)(h2:i<=1000000000000000000):dN "number" (wordOf (.int i))=some (.int i):=by
 have hn:¬wordOf (.int i)="?":=λe=>by
  have h:63∈(Str.ofString (toString i)).cps.toList:=by
   have e':Str.ofString (toString i)=Str.ofString "?":=e;rw[e',Ri];simp
  have:=Bb i 63 h;omega
 unfold dN;rw[if_neg hn,if_pos rfl];show wV (fj (Str.ofString (toString i)).cps.toList)=_;rw[X5 h1 h2];rfl
theorem aaN{z:Str}(hl:z.length<=20)(h:∀c∈z.cps.toList,c∈SG):fG (.str z)=true:=by
 show(decide (z.length<=20)&&dI z uG)=true;rw[decide_eq_true hl,anb];unfold dI;rw[ady];exact λc hc=>decide_eq_true (Ad c (h c hc))
theorem ahT(z:Str):Ϗ (Str.ofString "'"++z) (some 1) none=z:=by
 apply jD;have:=Ci (Str.ofString "'"++z) 1;rw[show((1:Nat):Int)=1 from rfl]at this;rw[this,cR,vB];rfl
theorem aez:¬(("text":Str)="number"):=by decide+kernel
theorem ae3{z:Str}(hl:z.length<=20)(h:∀c∈z.cps.toList,c∈SG):dN "text" (wordOf (.str z))=some (.str z):=by
 have e:wordOf (.str z)=Str.ofString "'"++z:=rfl;have h0:(Str.ofString "'"++z).cps.toList[0]?=some 39:=by rw[cR,vB];rfl
 have hn:¬Str.ofString "'"++z="?":=λe=>by
  have e':Str.ofString "'"++z=Str.ofString "?":=e;rw[e',Ri]at h0;simp at h0
 rw[e];unfold dN;rw[if_neg hn,if_neg aez];unfold iJ;rw[ahT,if_pos ⟨h0,aaN hl h⟩];rfl
theorem HF{ps:List Str}(h:ps≠[])(hf:∀p∈ps,32∉p.cps.toList):ϣ 32 (Str.join " " ps)=ps:=by
 unfold ϣ;have e:(Str.join " " ps).cps.toList=jW 32 (ps.map λp=>p.cps.toList):=wM 32 ps;rw[e,De (by simpa using h) λp hp=>?_,afK]
 .have :((λl:List Nat=>(⟨l.toArray⟩:Str))∘λp:Str=>p.cps.toList)=id:=by
   funext p;rfl
  rw[this,ao2]
 .obtain⟨q,hq,rfl⟩:=acL.mp hp;exact hf q hq
theorem J9(x:Nat):∀(k:Nat)(acc:Array Nat),((ajq k #[x]).foldl (· ++ ·) acc).toList=acc.toList++ajq k x
 |0,acc=>by simp
 |k+1,acc=>by
  rw[anQ,List.foldl_cons,J9 x k,anQ];simp
theorem Wi(x:Nat)(n:Int)(h:0<=n):(nj (⟨#[x]⟩:Str) n).cps.toList=ajq n.toNat x:=by
 show((ajq n.toNat #[x]).foldl (· ++ ·) #[]).toList=_;rw[J9];simp
end Vl
namespace L2
open PySem PySem.Spec PyProof.Rows PySem.W
section
variable{X:Cx}{σ:St}{H:Hp}{Q:VK}{a:δ}
theorem Qe{h:ϫ}{d b:δ}{vs:List ε}{out:Array ε}(Ϻ:b≠d){o:Obj}(e:h.get? b=some o):(sortedHeap h d vs out).get? b=some o:=by
 unfold sortedHeap;rw[adv _ _ (Ne.symm Ϻ)];exact Heap.get?_push_of_some _ (Heap.get?_push_of_some _ ((adv _ _ (Ne.symm Ϻ)).trans e))
theorem JV{h:ϫ}{d:δ}{us vs:List ε}{out:Array ε}{n:Nat}(e:h.get? d=some (seqObj "list" us.toArray n)):∃c,(sortedHeap h d vs out).get? d=some (seqObj "list" out c):=by
 unfold sortedHeap;have h1:=get?_update_seq e (λ_=>(#[]:Array ε));have h2:=Heap.get?_push_of_some (seqObj "tuple" vs.toArray 0) h1;have h3:=Heap.get?_push_of_some (seqObj "list" #[] 0) h2;exact⟨_,get?_update_seq h3 (λ_=>out)⟩
theorem Kh{vs:List ε}{ns:List Int}(h:IntsAre vs ns):Vals (ns.map V.int) vs:=by
 induction h with
 |nil=>exact .nil
 |cons n t _ ih=>exact .cons ⟨t,rfl⟩ ih
theorem JN{ks:List Int}:∀{vs:List ε},vs.length=ks.length->(∀(j:Nat) v,vs[j]?=some v->∃i t,ks[j]?=some i/\v=Value.int i t)->IntsAre vs ks:=by
 induction ks with
 |nil=>intro vs h _;have:vs=[]:=by simpa using h
       subst this;exact .nil
 |cons k ks ih=>
  intro vs h g;cases vs with
  |nil=>simp at h
  |cons v vs=>
   obtain⟨i,t,e,rfl⟩:=g 0 v rfl;have:k=i:=by simpa using e
   subst this;exact .cons k t (ih (by simpa using h) λj v e=>by simpa using g (j+1) v (by simpa using e))
theorem Ov{prog:ϯ}{w:Ϭ}{A:ϲ}{E:ε->μ->Prop}{s:μ}{ty:String}{q d:δ}{n:Nat}{Pi:Nat->ε->Prop}{Ok:ϫ->Prop}{R:List ε->μ->Prop}(kd:KdlSrc prog w ty q d n Pi Ok)(h0:A.handled=none)(ho:Ok s.heap)(hz:n<=Ϫ)(g:∀(h2:ϫ)(k:Nat)(xs:Array ε),s.heap.objs.size<h2.objs.size->(∀b o,s.heap.get? b=some o->h2.get? b=some o)->ItemsOf Pi xs n->R xs.toList {s with heap:=h2,toks:=k}):ν (Ϧ prog w) A (collect (.ref q)) R E s:=by
 obtain⟨t1,t2⟩:=kd.there _ ho;let N:δ:=s.heap.objs.size;let Rz:Result->μ->Prop:=λr s2=>∃(h2:ϫ)(k:Nat)(xs:Array ε)(c:Nat),r=.ok (.ret (.ref N))/\s2={s with heap:=h2,toks:=k}/\(∀b o,s.heap.get? b=some o->h2.get? b=some o)/\h2.get? N=some {cls:=.type "list",dict:=none,data:=.seq xs c,slots:= #[]}/\ItemsOf Pi xs n
 have fin:∀s2:μ,Rz (.ok (.ret (.ref N))) s2->ν (Ϧ prog w) A (do
   let o<-load N
   match o.data with
   |.seq xs _=>pure xs.toList
   |_=>unsupported "internal:collect") R E s2:=by
  rintro s2 ⟨h2,k,xs,c, -,rfl,hk,hN,hI⟩
  exact ϧ (wpAny_load hN (ϭ (g h2 k xs (ϴ hN) hk hI)))
 have hn:(s.heap.push {cls:=.type "list",data:=.seq ([]:List ε).toArray}).get? N=some {cls:=.type "list",data:=.seq #[]}:=acM _ rfl;have ho2:Ok (s.heap.push {cls:=.type "list",data:=.seq ([]:List ε).toArray}):=kd.keep _ _ ho λ_ _ _ e=>Heap.get?_push_of_some _ e
 have run:=kdl_extend (A:=A) (s:={s with heap:=s.heap.push {cls:=.type "list",data:=.seq ([]:List ε).toArray}}) (R:=Rz) kd h0 ho2 N (aoQ t1) (aoQ t2) (.ref N) 0 hn
  (λh2 k xs c hk hN hI=>⟨h2,k,xs,c,rfl,rfl,λb o e=>hk b o (acT (ϴ e)) (Heap.get?_push_of_some _ e),hN,hI⟩) hz
 unfold collect;refine ϧ (wpAny_runValue (aki entry_proto_collect' ?_));rw[Around.under_plainId F.plain_proto_collect];refine ϧ (m:=newList []) (ak3 (ϭ ⟨plainId_quiet F.plain_list_iadd _,aki entry_list_iadd' ?_⟩));rw[Around.under_plainId F.plain_list_iadd];refine adL (t:=Builtin.List.listExtendWith (.ref N) (.ref q) (.ref N)) run (λr s2 hr=>?_) λe s2 hr=>?_
 .cases r with
  |done f=>
   obtain⟨h2,k,xs,c,e,rest⟩:=id hr;cases e;exact fin s2 hr
  |again c=>
   refine⟨hr.1,akK hr.2 λr2 s3 h3=>?_⟩;obtain⟨h2,k,xs,c2,e,rest⟩:=id h3;subst e;exact fin s3 h3
 .obtain⟨_,_,_,_,e2,_⟩:=hr;cases e2
theorem uY{Ϸ:List (Key×V)}{ks:List Int}(e:H a=some (.dK Ϸ))(hk:Ϸ.map (·.1)=ks.map Sum.inl)(h64:ks.length<64)(g:∀(p:δ)(ks':List Int),H p=none->ks'.Perm ks->ks'.Pairwise (· <= ·)->Q (.ref p) (upd H p (.lst (ks'.map V.int))))(hc:X.calm=true:=by rfl):CL X (.builtin "sorted") [.ref a] H Q:=by
 refine c7 (r:=λxs H Q=>∃(a:δ)(Ϸ:List (Key×V))(ks:List Int),xs=[.ref a]/\H a=some (.dK Ϸ)/\Ϸ.map (·.1)=ks.map Sum.inl/\ks.length<64/\∀(p:δ)(ks':List Int),H p=none->ks'.Perm ks->ks'.Pairwise (· <= ·)->Q (.ref p) (upd H p (.lst (ks'.map V.int)))) ?_ ⟨a,Ϸ,ks,rfl,e,hk,h64,g⟩;intro ϵ s σ H xs us Q I r h;obtain⟨a,Ϸ,ks,rfl,e,hk,h64,g⟩:=h;obtain⟨u,rfl,ru⟩:=vals1 r;cases ru;have hsz:=ϳ;obtain⟨z,lo,vs,qC,hd⟩:=rH I.hok e;obtain⟨ep,hm⟩:=hd.dictAt;have hkl:Ϸ.length=ks.length:=by have:=congrArg anE hk;simpa using this
 have hvl:=qC.length;have hvk:vs.map (·.1)=ks.map Sum.inl:=by rw[<-qC.keys];exact hk
 refine Calls.call_function_entry kind_sorted plain_sorted entry_sorted (args_sorted1 _) ?_;unfold amw.«sorted»;refine ϧ (m:=checkCount "sorted" 1 1 _) (ϭ ?_);refine ϧ (Ov (A:=X.A.in1) (kdl_dict lo) (I.ok.hd hc) hm (by omega) λh' tk acc hgr hkeep hacc=>?_);have hal:acc.toList.length=vs.length:=by rw[alS];exact hacc.1
 have hI:IntsAre acc.toList ks:=by
  refine JN (by omega) λj v ev=>?_
  obtain⟨k,x,e1,e2⟩:=hacc.2 j v (by rw[<-anJ];exact ev);have e3:(vs.map (·.1))[j]?=some k:=by rw[acy,e1];rfl
  rw[hvk,acy]at e3;cases e4:ks[j]? with
  |none=>rw[e4]at e3;cases e3
  |some i=>
   rw[e4]at e3;have e5:Sum.inl i=k:=by simpa using e3
   obtain⟨i',t,e6,rfl⟩|⟨y,t,e6,_⟩:=fV (k:=k) (v:=v) e2
   .rw[e6]at e5;cases e5;exact⟨i,t,rfl,rfl⟩
   .rw[e6]at e5;cases e5
 refine ϧ (wpAny_newList ?_ (by omega));have hoL:(h'.push (seqObj "list" acc.toList.toArray 0)).get? h'.objs.size=some (seqObj "list" acc.toList.toArray 0):=acM _ rfl;have hle:s.heap.objs.size<=h'.objs.size:=anT hgr;refine ϧ (ae5 (alR slot_list_sort ⟨_,hoL,rfl⟩ entry_list_sort (list_sort_tree hoL hI (by omega) λout ns' a1 a2 a3=>⟨_,rfl,?_⟩) (args_list_sort _)));refine ϭ ⟨_,rfl,?_⟩;obtain⟨c,hc'⟩:=JV (vs:=acc.toList) (out:=out) hoL;refine⟨.ref h'.objs.size,_,I.laid (t':=tk) (o:=.lst (ns'.map V.int)) (λb o eb=>Qe (acT (adz (ϴ eb) hle)) (Heap.get?_push_of_some _ (hkeep _ _ eb))) hle ⟨by rw[ϱ,a2.length_eq];omega,out.toList,c,Kh a1,by simpa using hc'⟩,rfl,g _ ns' (I.hok.fresh hle) a2 a3⟩
theorem bV{y v:V}(hu:X.A.units+1<cLine)(g:ώ H a y (some v))(q:Q v H):IX X (.ref a) y H Q:=by
 refine xH (r:=λx y H Q=>∃a v,x=.ref a/\ώ H a y (some v)/\Q v H) ?_ ⟨a,v,rfl,g,q⟩;intro value slice ϵ s σ H x y w u Q I rx ry h hs;obtain⟨a,v,rfl,g,q⟩:=h;obtain rfl:w=Value.ref a:=rx;have ty:=agK I g;have run:ν (Ϧ X.prog X.w) X.A (subscripted slice false (Value.ref a) u) (λr s2=>ν (Ϧ X.prog X.w) X.A (letTemporaryGo value (Value.ref a) r>>=λ_=>pure r) (EP X ϵ σ Q) X.xe s2) X.xe s:=by
  rw[hs];exact wpAny_operating (acX hu I g ry λr s2 I2 rr=>ϧ (wpAny_letTemporaryGo (ϭ ⟨v,H,I2,rr,q⟩)))
 unfold subscriptTail;refine ϧ ?_;rw[getitemInPython_of_ne ty.not_modules];refine ϧ (wpAny_specialOf ty F.slot_dict_getitem.lookup ?_)
 first
  |exact ϭ (ϧ run)
  |exact ϧ (ϭ (ϧ run))
  |exact ϧ run
end
end L2
namespace Vl
open PySem L2 PyProof.Rows My
section
variable{α β:Type}
def Α(m:List (Int×α))(i:Int):Option α:=(m.find? λp=>decide (p.1=i)).map (·.2)
def aN(m:List (Int×α))(i:Int)(x:α):List (Int×α):=if(m.any λp=>decide (p.1=i))=true then m.map (λp=>if p.1=i then(p.1,x)else p)else m++[(i,x)]
def bB(m:List (Int×α))(i:Int):List (Int×α):=m.filter λp=>decide (p.1≠i)
abbrev PR(R:V->α->Prop)(kv:Key×V)(p:Int×α):Prop:=kv.1=Sum.inl p.1/\R kv.2 p.2
def DictAt(R:V->α->Prop)(H:Hp)(a:δ)(m:List (Int×α)):=∃Ϸ,H a=some (.dK Ϸ)/\ψ (PR R) Ϸ m
theorem Sw(i j:Int):decide ((Sum.inl i:Key)=Sum.inl j)=decide (i=j):=by
 by_cases h:i=j
 .subst h;simp
 .have :¬(Sum.inl i:Key)=Sum.inl j:=λe=>h (Sum.inl.inj e)
  rw[decide_eq_false this,decide_eq_false h]
theorem t6{R:V->α->Prop}{Ϸ:List (Key×V)}{m:List (Int×α)}(h:ψ (PR R) Ϸ m):Ϸ.map (·.1)=(m.map (·.1)).map Sum.inl:=by
 induction h with
 |nil=>rfl
 |cons h _ ih=>rw[List.map_cons,List.map_cons,List.map_cons,ih,h.1]
theorem cY{R:V->α->Prop}{Ϸ:List (Key×V)}{m:List (Int×α)}(h:ψ (PR R) Ϸ m)(i:Int):(ϓ Ϸ (Sum.inl i)=none/\ Α m i=none)\/∃v x,ϓ Ϸ (Sum.inl i)=some v/\ Α m i=some x/\R v x:=by
 induction h with
 |nil=>exact .inl ⟨rfl,rfl⟩
 | @cons kv p l m h _ ih=>
   obtain⟨k,v⟩:=kv;obtain⟨j,x⟩:=p;obtain⟨hk,hr⟩:=h;have hk':k=Sum.inl j:=hk;subst hk';unfold ϓ Α at ih⊢;rw[List.find?_cons,List.find?_cons];show((match decide ((Sum.inl j:Key)=Sum.inl i)with|true=>_|false=>_:Option (Key×V)).map _=_/\_)\/_;rw[Sw];by_cases e:j=i
   .rw[decide_eq_true e];exact .inr ⟨v,x,rfl,rfl,hr⟩
   .rw[decide_eq_false e];exact ih
theorem ah2{R:V->α->Prop}{Ϸ:List (Key×V)}{m:List (Int×α)}(h:ψ (PR R) Ϸ m)(i:Int):(Ϸ.any λkv=>decide (kv.1=Sum.inl i))=m.any λp=>decide (p.1=i):=by
 induction h with
 |nil=>rfl
 | @cons kv p l m h _ ih=>rw[List.any_cons,List.any_cons,ih,h.1,Sw]
theorem jn{R:V->α->Prop}{Ϸ:List (Key×V)}{m:List (Int×α)}(h:ψ (PR R) Ϸ m)(i:Int){v:V}{x:α}(r:R v x):ψ (PR R) (putK Ϸ (Sum.inl i) v) (aN m i x):=by
 unfold putK aN;rw[ah2 h i];by_cases e:(m.any λp=>decide (p.1=i))=true
 .rw[if_pos e,if_pos e];clear e;induction h with
  |nil=>exact .nil
  | @cons kv p l m h _ ih=>
    refine .cons ?_ ih;obtain⟨hk,hr⟩:=h;show PR R (if kv.1=Sum.inl i then(kv.1,v)else kv) (if p.1=i then(p.1,x)else p);by_cases e:p.1=i
    .rw[if_pos e,if_pos (by rw[hk,e])];exact⟨hk,r⟩
    .rw[if_neg e,if_neg (by rw[hk];exact λz=>e (Sum.inl.inj z))];exact⟨hk,hr⟩
 .rw[if_neg e,if_neg e];exact ψ.app h (.cons ⟨rfl,r⟩ .nil)
theorem uD{R:V->α->Prop}{Ϸ:List (Key×V)}{m:List (Int×α)}(h:ψ (PR R) Ϸ m)(i:Int):ψ (PR R) (dH Ϸ (Sum.inl i)) (bB m i):=by
 unfold dH bB;induction h with
 |nil=>exact .nil
 | @cons kv p l m h _ ih=>
   obtain⟨hk,hr⟩:=h;rw[List.filter_cons,List.filter_cons];by_cases e:p.1=i
   .rw[if_neg (by rw[hk,e];simp),if_neg (by rw[e];simp)];exact ih
   .rw[if_pos (by rw[hk];simp[e]),if_pos (by simp[e])];exact .cons ⟨hk,hr⟩ ih
theorem ao{R S:V->α->Prop}{Ϸ:List (Key×V)}{m:List (Int×α)}(h:ψ (PR R) Ϸ m)(f:∀v x,R v x->S v x):ψ (PR S) Ϸ m:=ψ.imp (λ_ _ h=>⟨h.1,f _ _ h.2⟩) h
theorem vN{m:List (Int×α)}{i j:Int}{x:α}:Α (aN m i x) j=if j=i then some x else Α m j:=by
 unfold Α aN;induction m with
 |nil=>
  rw[List.any_nil,if_neg (by decide),List.nil_append,List.find?_cons];by_cases e:j=i
  .subst e;simp
  .have e':¬i=j:=λz=>e z.symm
   simp[e,e']
 |cons p r ih=>
  obtain⟨k,y⟩:=p;rw[List.any_cons];by_cases hk:k=i
  .subst hk;simp only[decide_true,apc,if_true,List.map_cons,List.find?_cons];by_cases e:j=k
   .subst e;simp
   .have e':¬k=j:=λz=>e z.symm
    simp only[e,e',decide_false,if_false];clear ih
    congr 1
    induction r with
    |nil=>rfl
    |cons q r ih2=>
     obtain⟨k2,y2⟩:=q;rw[List.map_cons,List.find?_cons,List.find?_cons,ih2];by_cases h2:k2=k
     .subst h2;simp[e']
     .simp[h2]
  .simp only[hk,decide_false,aoa];by_cases ha:(r.any λp=>decide (p.1=i))=true
   .rw[if_pos ha]at ih⊢;rw[List.map_cons,if_neg hk,List.find?_cons,List.find?_cons];by_cases e:k=j
    .subst e;simp[hk]
    .simp only[e,decide_false];exact ih
   .rw[if_neg ha]at ih⊢;rw[List.cons_append,List.find?_cons,List.find?_cons];by_cases e:k=j
    .subst e;simp[hk]
    .simp only[e,decide_false];exact ih
theorem tE{m:List (Int×α)}{i j:Int}:Α (bB m i) j=if j=i then none else Α m j:=by
 unfold Α bB;induction m with
 |nil=>simp
 |cons p r ih=>
  obtain⟨k,y⟩:=p;rw[List.filter_cons];by_cases hk:k=i
  .subst hk;simp only[ne_eq,not_true,decide_false,ajD,if_false,List.find?_cons];rw[ih];by_cases e:j=k
   .subst e;simp
   .have e':¬k=j:=λz=>e z.symm
    simp[e,e']
  .simp only[ne_eq,hk,not_false_eq_true,decide_true,if_true,List.find?_cons];by_cases e:k=j
   .subst e;simp[hk]
   .simp only[e,decide_false];exact ih
theorem ai6{m:List (Int×α)}{i:Int}{x:α}{k:Int}:k∈(aN m i x).map (·.1)↔k=i\/k∈m.map (·.1):=by
 unfold aN;by_cases ha:(m.any λp=>decide (p.1=i))=true
 .rw[if_pos ha];have:(m.map λp=>if p.1=i then(p.1,x)else p).map (·.1)=m.map (·.1):=by
   rw[afK];refine anq λp _=>?_
   show(if p.1=i then(p.1,x)else p).1=p.1;split <;>rfl
  rw[this];refine⟨.inr,λh=>h.elim (λe=>?_) id⟩;subst e;obtain⟨p,hp,e⟩:=al6.mp ha;exact acL.mpr ⟨p,hp,of_decide_eq_true e⟩
 .rw[if_neg ha,agF,aei];constructor
  .rintro(h|h)
   .exact .inr h
   .exact .inl (by simpa using h)
  .rintro(h|h)
   .exact .inr (by simpa using h)
   .exact .inl h
theorem R0{m:List (Int×α)}{i:Int}{x:α}(h:(m.map (·.1)).Nodup):((aN m i x).map (·.1)).Nodup:=by
 unfold aN;by_cases ha:(m.any λp=>decide (p.1=i))=true
 .rw[if_pos ha];have:(m.map λp=>if p.1=i then(p.1,x)else p).map (·.1)=m.map (·.1):=by
   rw[afK];refine anq λp _=>?_
   show(if p.1=i then(p.1,x)else p).1=p.1;split <;>rfl
  rw[this];exact h
 .rw[if_neg ha,agF];refine alf.mpr ⟨h,by simp,λa h1 b h2 e=>ha ?_⟩;have h2':b=i:=by simpa using h2
  subst e;subst h2';obtain⟨p,hp,e⟩:=acL.mp h1;exact al6.mpr ⟨p,hp,decide_eq_true e⟩
theorem SQ{m:List (Int×α)}{i:Int}(h:(m.map (·.1)).Nodup):((bB m i).map (·.1)).Nodup:=h.sublist (List.Sublist.map _ akC)
theorem YL{m:List (Int×α)}{i k:Int}(h:k∈(bB m i).map (·.1)):k∈m.map (·.1):=(List.Sublist.map _ akC).subset h
theorem iU{m:List (Int×α)}{i:Int}{x:α}(h:Α m i=some x):(i,x)∈m:=by
 unfold Α at h;cases e:m.find? λp=>decide (p.1=i)with
 |none=>rw[e]at h;cases h
 |some p=>
  rw[e]at h;have h1:=List.find?_some e;have h2:=List.mem_of_find?_eq_some e;obtain⟨k,y⟩:=p;have e1:k=i:=of_decide_eq_true h1;have e2:y=x:=by simpa using h
  subst e1;subst e2;exact h2
theorem rN{m:List (Int×α)}{i:Int}:Α m i=none↔i∉m.map (·.1):=by
 unfold Α;rw[Option.map_eq_none_iff,List.find?_eq_none];constructor
 .intro h hm;obtain⟨p,hp,e⟩:=acL.mp hm;exact h p hp (decide_eq_true e)
 .intro h p hp e;exact h (acL.mpr ⟨p,hp,of_decide_eq_true e⟩)
def Out(S:List δ)(H H':Hp):=∀b o,b∉S->H b=some o->H' b=some o
theorem Out.refl(S:List δ)(H:Hp):Out S H H:=λ_ _ _ h=>h
theorem Out.trans{S:List δ}{H H1 H2:Hp}(a:Out S H H1)(b:Out S H1 H2):Out S H H2:=λc o hc h=>b c o hc (a c o hc h)
theorem Out.of{S:List δ}{H H':Hp}(h:ζ H H'):Out S H H':=λb o _ e=>h b o e
theorem Out.upd{S:List δ}{H:Hp}{a:δ}{o:HO}(h:a∈S):Out S H (upd H a o):=λb u hb e=>by
 rw[ι (λz=>hb (by rw[z];exact h))];exact e
theorem Out.mono{S T:List δ}{H H':Hp}(h:Out S H H')(s:∀x∈S,x∈T):Out T H H':=λb o hb e=>h b o (λz=>hb (s b z)) e
def TupAt(H:Hp)(v:V)(xs:List V):=∃t,v=.ref t/\H t=some (.tup xs)
def iG(H:Hp)(v:V):Option (List V)->Prop
 |none=>v=.non
 |some xs=>TupAt H v xs
structure Φ where
 at_:Int
 row:Int
 was:Option (List V)
 is:Option (List V)
def ig(H:Hp)(v:V)(d:Φ):=∃t w u,v=.ref t/\H t=some (.tup [.int d.at_,.int d.row,w,u])/\iG H w d.was/\iG H u d.is
structure Bk where
 heads:List ς
 rows:List (Int×List V)
 touched:List (Int×Int)
 done:List Φ
 known:Int
 now:Int
structure BA where
 b:δ
 dx:δ
 h:δ
 r:δ
 t:δ
 d:δ
def sJ(v:V)(i:Int):Prop:=v=.int i
structure Μ(C:δ)(H:Hp)(A:BA)(B:Bk):Prop where
 ins:H A.b=some (.ins C A.dx [("heads",.ref A.h),("rows",.ref A.r),("touched",.ref A.t),("done",.ref A.d),("known",.int B.known),("now",.int B.now)])
 own:H A.dx=some (.own A.b)
 heads:ϒ H A.h B.heads
 rows:DictAt (TupAt H) H A.r B.rows
 touched:DictAt sJ H A.t B.touched
 done:∃xs,H A.d=some (.lst xs)/\ψ (ig H) xs B.done
 rt:A.r≠A.t
 hd:A.h≠A.d
def BA.fp(A:BA):List δ:=[A.b,A.r,A.t,A.d]
theorem TupAt.stay{H H':Hp}{v:V}{xs:List V}(h:TupAt H v xs)(s:∀b ys,H b=some (.tup ys)->H' b=some (.tup ys)):TupAt H' v xs:=by
 obtain⟨t,e,h⟩:=h;exact⟨t,e,s _ _ h⟩
theorem iG.stay{H H':Hp}{v:V}{o:Option (List V)}(h:iG H v o)(s:∀b ys,H b=some (.tup ys)->H' b=some (.tup ys)):iG H' v o:=by
 cases o with
 |none=>exact h
 |some xs=>exact TupAt.stay h s
theorem ig.stay{H H':Hp}{v:V}{d:Φ}(h:ig H v d)(s:∀b ys,H b=some (.tup ys)->H' b=some (.tup ys)):ig H' v d:=by
 obtain⟨t,w,u,e,h1,h2,h3⟩:=h;exact⟨t,w,u,e,s _ _ h1,h2.stay s,h3.stay s⟩
theorem ϒ.stay{H H':Hp}{a:δ}{cs:List ς}(h:ϒ H a cs)(h1:∀xs,H a=some (.lst xs)->H' a=some (.lst xs))(s:∀b ys,H b=some (.tup ys)->H' b=some (.tup ys)):ϒ H' a cs:=by
 obtain⟨vs,e,h2⟩:=h;exact⟨vs,h1 _ e,ψ.imp (λv c ⟨t,e,h⟩=>⟨t,e,s _ _ h⟩) h2⟩
theorem Μ.stay{C:δ}{H H':Hp}{A:BA}{B:Bk}(k:Μ C H A B)(s:∀b ys,H b=some (.tup ys)->H' b=some (.tup ys))(f:∀x o,x∈[A.b,A.dx,A.h,A.r,A.t,A.d]->H x=some o->H' x=some o):Μ C H' A B where
 ins:=f _ _ (by simp) k.ins
 own:=f _ _ (by simp) k.own
 heads:=k.heads.stay (λxs e=>f _ _ (by simp) e) s
 rows:=by
  obtain⟨Ϸ,e,h⟩:=k.rows;exact⟨Ϸ,f _ _ (by simp) e,ao h λv x h=>h.stay s⟩
 touched:=by
  obtain⟨Ϸ,e,h⟩:=k.touched;exact⟨Ϸ,f _ _ (by simp) e,h⟩
 done:=by
  obtain⟨xs,e,h⟩:=k.done;exact⟨xs,f _ _ (by simp) e,ψ.imp (λv d h=>h.stay s) h⟩
 rt:=k.rt
 hd:=k.hd
theorem Μ.same{C:δ}{H H':Hp}{A:BA}{B:Bk}(k:Μ C H A B)(s:ζ H H'):Μ C H' A B:=k.stay (λ_ _ e=>s _ _ e) λ_ _ _ e=>s _ _ e
section
variable{C:δ}{H H':Hp}{A:BA}{B:Bk}
theorem Μ.zU(k:Μ C H A B){b:δ}(hb:b∈A.fp):(∃fs,H b=some (.ins C A.dx fs))\/(∃Ϸ,H b=some (.dK Ϸ))\/∃xs,H b=some (.lst xs):=by
 have hb':b=A.b\/b=A.r\/b=A.t\/b=A.d:=by simpa [BA.fp]using hb
 obtain rfl|rfl|rfl|rfl:=hb'
 .exact .inl ⟨_,k.ins⟩
 .obtain⟨Ϸ,e,_⟩:=k.rows;exact .inr (.inl ⟨_,e⟩)
 .obtain⟨Ϸ,e,_⟩:=k.touched;exact .inr (.inl ⟨_,e⟩)
 .obtain⟨xs,e,_⟩:=k.done;exact .inr (.inr ⟨_,e⟩)
theorem Μ.tup(k:Μ C H A B)(o:Out A.fp H H'):∀b ys,H b=some (.tup ys)->H' b=some (.tup ys):=λb ys e=>o b _ (λhb=>by
 obtain⟨fs,z⟩|⟨Ϸ,z⟩|⟨xs,z⟩:=k.zU hb<;>rw[e]at z<;>cases z) e
theorem Μ.ne(k:Μ C H A B):A.b≠A.dx/\A.b≠A.h/\A.b≠A.r/\A.b≠A.t/\A.b≠A.d/\A.r≠A.dx/\A.r≠A.h/\A.r≠A.d/\A.t≠A.dx/\A.t≠A.h/\A.t≠A.d/\A.d≠A.dx:=by
 have h1:=k.ins;have h2:=k.own;obtain⟨_,h3,_⟩:=k.heads;obtain⟨_,h4,_⟩:=k.rows;obtain⟨_,h5,_⟩:=k.touched;obtain⟨_,h6,_⟩:=k.done;refine⟨?_,?_,?_,?_,?_,?_,?_,?_,?_,?_,?_,?_⟩<;>intro e
 .rw[e,h2]at h1;cases h1
 .rw[e,h3]at h1;cases h1
 .rw[e,h4]at h1;cases h1
 .rw[e,h5]at h1;cases h1
 .rw[e,h6]at h1;cases h1
 .rw[e,h2]at h4;cases h4
 .rw[e,h3]at h4;cases h4
 .rw[e,h6]at h4;cases h4
 .rw[e,h2]at h5;cases h5
 .rw[e,h3]at h5;cases h5
 .rw[e,h6]at h5;cases h5
 .rw[e,h2]at h6;cases h6
theorem Μ.BK(k:Μ C H A B)(kn nw:Int):Μ C (upd H A.b (.ins C A.dx [("heads",.ref A.h),("rows",.ref A.r),("touched",.ref A.t),("done",.ref A.d),("known",.int kn),("now",.int nw)])) A {B with known:=kn,now:=nw}:=by
 obtain⟨n1,n2,n3,n4,n5,_⟩:=k.ne;have st:∀b ys,H b=some (.tup ys)->(upd H A.b (.ins C A.dx [("heads",.ref A.h),("rows",.ref A.r),("touched",.ref A.t),("done",.ref A.d),("known",.int kn),("now",.int nw)])) b=some (.tup ys):=k.tup (Out.upd (by simp[BA.fp]));refine⟨ρ,?_,k.heads.stay (λxs e=>?_) st,?_,?_,?_,k.rt,k.hd⟩
 .rw[ι (Ne.symm n1)];exact k.own
 .rw[ι (Ne.symm n2)];exact e
 .obtain⟨Ϸ,e,h⟩:=k.rows;exact⟨Ϸ,by rw[ι (Ne.symm n3)];exact e,ao h λv x h=>h.stay st⟩
 .obtain⟨Ϸ,e,h⟩:=k.touched;exact⟨Ϸ,by rw[ι (Ne.symm n4)];exact e,h⟩
 .obtain⟨xs,e,h⟩:=k.done;exact⟨xs,by rw[ι (Ne.symm n5)];exact e,ψ.imp (λv d h=>h.stay st) h⟩
theorem Μ.qz{Ϸ:List (Key×V)}{m:List (Int×List V)}(k:Μ C H A B)(h:ψ (PR (TupAt H)) Ϸ m):Μ C (upd H A.r (.dK Ϸ)) A {B with rows:=m}:=by
 obtain⟨n1,n2,n3,n4,n5,n6,n7,n8,_⟩:=k.ne;have st:∀b ys,H b=some (.tup ys)->(upd H A.r (.dK Ϸ)) b=some (.tup ys):=k.tup (Out.upd (by simp[BA.fp]));refine⟨?_,?_,k.heads.stay (λxs e=>?_) st,⟨Ϸ,ρ,ao h λv x h=>h.stay st⟩,?_,?_,k.rt,k.hd⟩
 .rw[ι n3];exact k.ins
 .rw[ι (Ne.symm n6)];exact k.own
 .rw[ι (Ne.symm n7)];exact e
 .obtain⟨Ϸ,e,h⟩:=k.touched;exact⟨Ϸ,by rw[ι (Ne.symm k.rt)];exact e,h⟩
 .obtain⟨xs,e,h⟩:=k.done;exact⟨xs,by rw[ι (Ne.symm n8)];exact e,ψ.imp (λv d h=>h.stay st) h⟩
theorem Μ.Kv{Ϸ:List (Key×V)}{m:List (Int×Int)}(k:Μ C H A B)(h:ψ (PR sJ) Ϸ m):Μ C (upd H A.t (.dK Ϸ)) A {B with touched:=m}:=by
 obtain⟨n1,n2,n3,n4,n5,n6,n7,n8,n9,n10,qi,_⟩:=k.ne;have st:∀b ys,H b=some (.tup ys)->(upd H A.t (.dK Ϸ)) b=some (.tup ys):=k.tup (Out.upd (by simp[BA.fp]));refine⟨?_,?_,k.heads.stay (λxs e=>?_) st,?_,⟨Ϸ,ρ,h⟩,?_,k.rt,k.hd⟩
 .rw[ι n4];exact k.ins
 .rw[ι (Ne.symm n9)];exact k.own
 .rw[ι (Ne.symm n10)];exact e
 .obtain⟨Ϸ,e,h⟩:=k.rows;exact⟨Ϸ,by rw[ι k.rt];exact e,ao h λv x h=>h.stay st⟩
 .obtain⟨xs,e,h⟩:=k.done;exact⟨xs,by rw[ι (Ne.symm qi)];exact e,ψ.imp (λv d h=>h.stay st) h⟩
theorem Μ.XS{xs:List V}{ds:List Φ}(k:Μ C H A B)(h:ψ (ig H) xs ds):Μ C (upd H A.d (.lst xs)) A {B with done:=ds}:=by
 obtain⟨n1,n2,n3,n4,n5,n6,n7,n8,n9,n10,qi,n12⟩:=k.ne;have st:∀b ys,H b=some (.tup ys)->(upd H A.d (.lst xs)) b=some (.tup ys):=k.tup (Out.upd (by simp[BA.fp]));refine⟨?_,?_,k.heads.stay (λxs e=>?_) st,?_,?_,⟨xs,ρ,ψ.imp (λv d h=>h.stay st) h⟩,k.rt,k.hd⟩
 .rw[ι n5];exact k.ins
 .rw[ι (Ne.symm n12)];exact k.own
 .rw[ι k.hd];exact e
 .obtain⟨Ϸ,e,h⟩:=k.rows;exact⟨Ϸ,by rw[ι n8];exact e,ao h λv x h=>h.stay st⟩
 .obtain⟨Ϸ,e,h⟩:=k.touched;exact⟨Ϸ,by rw[ι qi];exact e,h⟩
end
end
end Vl
namespace L2
open PySem PySem.Spec PyProof.Rows PySem.W
section
variable{prog:ϯ}{w:Ϭ}{A:ϲ}{E:ε->μ->Prop}{s:μ}
variable{I:δ}{fp wr:List δ}{G:Array GenState->Array GenState->Prop}{n:Nat}{P:Nat->ε->Prop}{St:Nat->μ->Prop}
end
section
variable{X:Cx}{σ:St}{H:Hp}{Q:VK}{a:π}{p pos p' pos':Pos}
end
section
variable{X:Cx}{σ:St}{H:Hp}{Q:VK}{D:Ends}{o e f:π}{apos ϻ pos:Pos}
end
section
variable{X:Cx}{ϵ:List (δ×Obj)}{σ:St}{H:Hp}{s:μ}{d:δ}
end
section
variable{X:Cx}{σ:St}{H:Hp}{a e:π}{tg:π}{pos:Pos}{R:It->Hp->Prop}{D:Ends}
end
section
variable{X:Cx}{H:Hp}{Q:VK}{e C:δ}{D:Option δ}{k:Bool}
end
section
variable{X:Cx}{σ σ':St}{H:Hp}{Q:VK}{a b tg elt:π}{scope:ai8}{p p' pos:Pos}
end
section
variable{X:Cx}{H:Hp}{Q:VK}
end
section
variable{X:Cx}{H:Hp}{Q:VK}
variable{σ:St}{a b tg:π}{p p' pos:Pos}{D:Ends}
end
section
variable{X:Cx}{σ:St}{H:Hp}{Q:VK}{pos:Pos}
theorem Ur{k1 v1 k2 v2 k3 v3:π}(h:∀p,H p=none->EV X k1 σ (upd H p (.dK [])) λx1 H1=>EV X v1 σ H1 λy1 H2=>EV X k2 σ H2 λx2 H3=>EV X v2 σ H3 λy2 H4=>EV X k3 σ H4 λx3 H5=>EV X v3 σ H5 λy3 H6=>H6 p=some (.dK [])/\∃a1 a2 a3:Key,x1=kV a1/\x2=kV a2/\x3=kV a3/\Q (.ref p) (upd H6 p (.dK (iW [] [(a1,y1),(a2,y2),(a3,y3)])))):EV X (.Dict [some k1,some k2,some k3] [v1,v2,v3] pos) σ H Q:=by
 refine aj (aem (zx Υ Υ (zx Υ Υ (zx Υ Υ aiK))) rfl rfl (by simp) (by simp)) ?_;intro p hp;refine aa (h p hp) λx1 H1 q=>aa q λy1 H2 q=>aa q λx2 H3 q=>aa q λy2 H4 q=>aa q λx3 H5 q=>aa q λy3 H6 q=>?_
 obtain⟨e,a1,a2,a3,e1,e2,e3,q9⟩:=q;subst e1 e2 e3;exact⟨e,[(a1,y1),(a2,y2),(a3,y3)],rfl,by simp,q9⟩
end
end L2
namespace L2
open PySem PySem.Spec PyProof.Rows
section
variable{prog:ϯ}{w:Ϭ}{A:ϲ}{E:ε->μ->Prop}{s:μ}{env:Env}
end
section
variable{prog:ϯ}{w:Ϭ}{A:ϲ}{E:ε->μ->Prop}{s:μ}{env:Env}
variable{nm q:Str}{C N:δ}{bs bm:List ε}{hdct:Bool}{sn:List Str}{sub:List ε}{ab:Bool}{col:Option Bool}{dd:Option δ}{k0 k1 k2 k3 k5:Option ε}
end
section
variable{X:Cx}{Kx:St->XK}{D:Ends}{σ:St}{H:Hp}{rest:List amb}{pos np ynp ϻ rpos p0:Pos}{x y fld:Str}{cls c:ε}{d:Option δ×Bool}{a:π}{as:List π}{cc:Bool}{k k' j0:Nat}
end
end L2
namespace L2
open PySem PySem.Spec PyProof.Rows PySem.Builtin PySem.Builtin.Str
section
variable{X:Cx}{H:Hp}{Q:VK}{z:Str}
end
end L2
namespace L2
open PySem PySem.Spec PyProof.Rows
section
variable{X:Cx}{e c:π}{σ σ':St}{H:Hp}{Q:VK}{D:Ends}{pos spos py:Pos}{tg elt:π}{scope:ai8}{y:Str}{j:Nat}
end
section
variable{X:Cx}{e c:π}{es:List π}{σ σ':St}{H:Hp}{Q:VK}{D:Ends}{p pos spos py:Pos}{tg elt:π}{scope:ai8}{y:Str}{j:Nat}
end
section
variable{X:Cx}{Kx:St->XK}{D:Ends}{σ:St}{H:Hp}{rest:List amb}{pos ynp ϻ rpos p0 p1 p2 p3 tpos zp:Pos}{x1 x2 x3 y z:Str}{cls c1 c2 c3:ε}{d:Option δ×Bool}{kk j0 j1:Nat}{name:Option Str}{body:List Ϩ}
end
section
variable{X:Cx}{a e:π}{σ σ':St}{H:Hp}{Q:VK}{D:Ends}{pos spos py p p':Pos}{tg elt iter:π}{scope:ai8}{Kx:St->XK}{y:Str}{j:Nat}
end
section
variable{X:Cx}{Kx:St->XK}{D:Ends}{σ:St}{H:Hp}{cls:ε}{d:Option δ×Bool}
end
section
variable{X:Cx}{H:Hp}{Q:VK}{z:Str}
end
end L2
namespace L2
open PySem PySem.Spec PyProof.Rows PySem.W
section
variable{X:Cx}{ϵ:List (δ×Obj)}{σ:St}{H:Hp}{s:μ}{d:δ}
end
def Fx(d:δ)(o:Obj)(Ϸ:List (Key×V))(ks:List Int):It:=⟨λi H=>i<ks.length/\H d=some (.frz o (.dK Ϸ)),λi H x H'=>H'=H/\∃k,ks[i]?=some k/\x=.int k,λi H=>i=ks.length/\H d=some (.frz o (.dK Ϸ))⟩
theorem ai5{P:ϯ}{w:Ϭ}{K:ϩ}{tg:π}(it d:δ)(o:Obj)(Ϸ:List (Key×V))(ks:List Int)(vs:List (Key×ε))(ep:Nat)(hv:vs.map (·.1)=ks.map Sum.inl)(Ϻ:d≠it)(hat:∀h:ϫ,h.get? d=some o->h.DictAt (aZ P w) d vs ep):Turn P w K tg (Fx d o Ϸ ks) [it] it (λi h=>h.IsKeyIter it d i vs.length ep)where
 mem:=by simp
 obj:=λi h st b hb=>by
  have e:b=it:=by simpa using hb
  subst e;obtain⟨o,e,c,dd⟩:=st;exact⟨o,e,λv z=>by rw[dd]at z;cases z⟩
 keep:=λi h h' st k=>st.at λo e=>k it (by simp) o e
 item:=by
  intro X hP hw hK hc i ϵ s σ H E I hf st hg;subst hP hw hK;have hi:i<ks.length:=hg.1;have hD:=hat s.heap (show ϐ X.prog X.w H s.heap d (.frz o (.dK Ϸ))from I.hok d _ hg.2).1;have hvl:vs.length=ks.length:=by have:=congrArg anE hv;simpa using this
  have hx:vs[i]?=some (vs[i]'(by omega)):=aak _;have hk:(vs[i]'(by omega)).1=Sum.inl ks[i]:=by
   have e1:(vs.map (·.1))[i]?=some (vs[i]'(by omega)).1:=by rw[acy,hx];rfl
   rw[hv,acy,aak hi]at e1;simpa using e1.symm
  generalize vs[i]'(by omega)=kx at hx hk;obtain⟨k,x⟩:=kx;obtain⟨f0,f1,f2,f3,f4,f5⟩:=hf it (by simp);refine wpAny_pyNext_dict_item st hD hx λkey h' hkey hit' hs'=>?_
  have I1:Inv X ϵ σ H {s with heap:=h'}:=I.turned (t':=s.toks) (λb o hb e=>(hs'.2 b hb).trans e) f0 f1 f3 f4 f5;have hk':k=Sum.inl ks[i]:=hk;obtain⟨i',t,e6,rfl⟩|⟨y,t,e6,_⟩:=fV (k:=k) (v:=key) hkey
  .rw[hk']at e6;cases e6;obtain⟨o,e,c,dd⟩:=id hit';exact⟨_,rfl,qQ (s:={s with heap:=h'}) e c dd (by decide) ⟨.int ks[i],H,I1,⟨t,rfl⟩,⟨rfl,ks[i],aak hi,rfl⟩,hit',λb hb=>(hf b hb).1⟩⟩
  .rw[hk']at e6;cases e6
 done:=by
  intro X hP hw hK hc i ϵ s σ H E I hf st hg;subst hP hw hK;have e:i=ks.length:=hg.1;have hD:=hat s.heap (show ϐ X.prog X.w H s.heap d (.frz o (.dK Ϸ))from I.hok d _ hg.2).1;have hvl:vs.length=ks.length:=by have:=congrArg anE hv;simpa using this
  obtain⟨f0,f1,f2,f3,f4,f5⟩:=hf it (by simp);have hn:vs[i]?=none:=List.getElem?_eq_none (by omega);exact wpAny_pyNext_dict_end (I.ok.hd hc) st hD hn λh' eb=>⟨rfl,I.turned (t':=s.toks) (λb o hb e=>eb b o hb e) f0 f1 f3 f4 f5⟩
 self:=λ_ _ _ _ _ st h=>wpAny_pyIter_keyiter st h
section
variable{X:Cx}{σ:St}{H:Hp}{a e:π}{tg:π}{pos:Pos}{R:It->Hp->Prop}{D:Ends}
theorem Xu(h:EV X a σ H λv H1=>∃(d:δ)(o:Obj)(Ϸ:List (Key×V))(ks:List Int),v=.ref d/\H1 d=some (.frz o (.dK Ϸ))/\Ϸ.map (·.1)=ks.map Sum.inl/\R (Fx d o Ϸ ks) H1):EI X tg a σ H R:=by
 intro ϵ s I;refine χ (h ϵ s I) λv s1 hZ=>?_
 obtain⟨x,H1,I1,rx,d,o,Ϸ,ks,ex,hd,hk,q⟩:=hZ;subst ex;obtain rfl:v=Value.ref d:=rx;obtain⟨z,lo,vs,qC,hdo⟩:=gB I1.hok (.inr ⟨o,hd⟩);obtain⟨ep,hm⟩:=hdo.dictAt;have ho:=(show ϐ X.prog X.w H1 s1.heap d (.frz o (.dK Ϸ))from I1.hok d _ hd).1;refine wpAny_pyIter_dict lo hm ?_;refine⟨s1.heap.objs.size,[s1.heap.objs.size],_,Fx d o Ϸ ks,H1,rfl,I1.kept (t':=s1.toks) (λb o e=>Heap.get?_push_of_some _ e),ai5 s1.heap.objs.size d o Ϸ ks vs ep (by rw[<-qC.keys];exact hk) (acT hm.lt_size) (λh e=>hm.at' λo' e'=>by rw[ho]at e';cases e';exact e),⟨_,acM _ rfl,rfl,rfl⟩,λb hb=>?_,q⟩;have hb':b=s1.heap.objs.size:=by simpa using hb
 subst hb';exact I1.fpOk (Ϯ _) (I1.hok.fresh (Ϯ _))
theorem acs{body:List Ϩ}(hp:anv (Ϧ X.prog X.w) X.A X.env X.xe)(hc:X.calm=true)(hs:∀x,foldedSetIterable e X.env x=pure x)(h:EV X e σ H λv H1=>∃(d:δ)(o:Obj)(Ϸ:List (Key×V))(ks:List Int),v=.ref d/\H1 d=some (.frz o (.dK Ϸ))/\Ϸ.map (·.1)=ks.map Sum.inl/\∃Pv:Nat->St->Hp->Prop,Pv 0 σ H1/\(∀i σ' H',Pv i σ' H'->H' d=some (.frz o (.dK Ϸ)))/\
   (∀i k σ' H',ks[i]?=some k->Pv i σ' H'->EG X tg (.int k) σ' H' λσ2 H2=>Κ X body {D with nx:=Pv (i+1),ct:=Pv (i+1),bk:=D.nx} σ2 H2)/\∀σ' H',Pv ks.length σ' H'->D.nx σ' H'):SX X (.For tg e body [] pos) D σ H:=by
 refine rJ hp hc hs (Xu (aa h λv H1 q=>?_));obtain⟨d,o,Ϸ,ks,rfl,hd,hk,Pv,p0,hfz,hst,hdn⟩:=q;refine⟨d,o,Ϸ,ks,rfl,hd,hk,λi m σ H=>m=ks.length-i/\i<=ks.length/\Pv i σ H,⟨ks.length,by simp,ajg _,p0⟩,?_⟩
 rintro i m σ' H' ⟨rfl,hi,p⟩
 by_cases hlt:i<ks.length
 .refine .inr ⟨⟨hlt,hfz i _ _ p⟩,Pv (i+1),λσ2 H2 p2=>⟨ks.length-(i+1),by omega,rfl,hlt,p2⟩,λx H2 y=>?_⟩;obtain⟨rfl,k,hk,rfl⟩:=y;exact hst i k σ' _ hk p
 .have e:i=ks.length:=by omega
  refine .inl ⟨⟨e,hfz i _ _ p⟩,?_⟩;subst e;exact hdn σ' H' p
end
structure K6(lt:Nat->Nat->Bool):Prop where
 ir:∀i,lt i i=false
 tr:∀i j k,lt i j=true->lt j k=true->lt i k=true
 nt:∀i j k,lt i k=true->lt i j=true\/lt j k=true
section
variable{lt:Nat->Nat->Bool}{n:Nat}(W:K6 lt)
abbrev gt(p:Array Nat)(k:Nat):Nat:=p.getD k 0
end
section
variable{X:Cx}{ϵ:List (δ×Obj)}{σ:St}{H:Hp}{s:μ}
end
section
variable{X:Cx}{ϵ:List (δ×Obj)}{σ:St}{H H₁:Hp}{s:μ}{vs:List ε}{f:ε}{b:Bool}{Kp:Nat->ε->Hp->Prop}{lt:Nat->Nat->Bool}{kS D:δ}{e1:Nat}
end
section
variable{X:Cx}{ϵ:List (δ×Obj)}{σ:St}{H:Hp}{s:μ}{vs:List ε}{f:ε}{b:Bool}{Kp:Nat->ε->Hp->Prop}{lt:Nat->Nat->Bool}{l:δ}
end
section
variable{prog:ϯ}{w:Ϭ}{A:ϲ}{E:ε->μ->Prop}{s:μ}{x y:V}{u v:ε}
end
section
variable{X:Cx}{ϵ:List (δ×Obj)}{σ:St}{H:Hp}{s:μ}{a b:δ}{rx ry:List V}
end
section
variable{M:Model}{A:ϲ}{E:ε->μ->Prop}{s:μ}
end
section
variable{X:Cx}{σ:St}{n:Nat}
end
section
variable{X:Cx}{σ:St}{H:Hp}{Q:VK}{e ke re:π}{p pos kp rp:Pos}
end
section
variable{X:Cx}{σ:St}{H:Hp}{D:Ends}
end
theorem Wd{X:Cx}{H:Hp}{Q:VK}{z z':Str}(q:Q (.bl (decide (z'.cps.toList<z.cps.toList))) H):OP X (adJ .Gt) (.str z) (.str z') H Q:=by
 refine aX (r:=λx y H Q=>∃i j,x=.str i/\y=.str j/\Q (.bl (decide (j.cps.toList<i.cps.toList))) H) ?_ ⟨z,z',rfl,rfl,q⟩;intro ϵ s σ H x y v u Q I rx ry h;obtain⟨i,j,rfl,rfl,q⟩:=h;obtain⟨t,rfl⟩:=rx;obtain⟨t',rfl⟩:=ry;exact P.gt_str (Ϝ I q rfl)
theorem ϐ.Vp{P:ϯ}{w:Ϭ}{H H':Hp}{h:ϫ}{a:δ}{o:HO}(x:ϐ P w H h a o)(ho:∀b,H b=some (.own a)->H' b=some (.own a))(ht:∀b xs,H b=some (.tup xs)->H' b=some (.tup xs))(hz:∀b ob u vs,H b=some (.frz ob u)->ob.data=.fields vs->H' b=some (.frz ob u)):ϐ P w H' h a o:=by
 induction o with
 |lst xs=>obtain⟨z,ϸ,n,r,e⟩:=x;exact⟨z,ϸ,n,r,e⟩
 |tup xs=>obtain⟨z,ϸ,r,ob,e,c⟩:=x;exact⟨z,ϸ,r,ob,e,c⟩
 |dK Ϸ=>obtain⟨z,y,vs,r,ob,es,ep,e,c⟩:=x;exact⟨z,y,vs,r,ob,es,ep,e,c⟩
 |dT Ϸ=>
  obtain⟨z,y,xs,r,ob,es,ep,e,c⟩:=x;exact⟨z,y,xs,Paired.mapP r λp q z=>⟨z.1,ht _ _ z.2.1,z.2.2⟩,ob,es,ep,e,c⟩
 |set S n=>obtain⟨ob,es,ep,t,e,c⟩:=x;exact⟨ob,es,ep,t,e,c⟩
 |ins C dx fs=>
  obtain⟨d,z,ne,e,mA,⟨od,es,ep,e2,c⟩,r⟩:=x;exact⟨ho _ d,z,ne,e,mA,⟨od,es,ep,e2,c⟩,r⟩
 |own y=>obtain⟨ob,e⟩:=x;exact⟨ob,e⟩
 |xd fs=>obtain⟨mA,⟨od,es,ep,e,c⟩,r⟩:=x;exact⟨mA,⟨od,es,ep,e,c⟩,r⟩
 |rng lo hi=>obtain⟨t,u,v,e⟩:=x;exact⟨t,u,v,e⟩
 |frz ob u ih=>obtain⟨e,q⟩:=x;exact⟨e,ih q⟩
 |tbl ps=>
  obtain⟨qs,e,tr,z⟩:=x;refine⟨qs,e,tr,λp cv hc=>?_⟩;obtain⟨c,oc,u,q,t,vs,t',e1,e2,e3,e4,e5⟩:=z p cv hc;exact⟨c,oc,u,q,t,vs,t',e1,e2,hz _ _ _ _ e3 e4,e4,e5⟩
 |met f y=>
  have e:h.get? a=some (an7 (.ref f) (.ref y)):=x;show h.get? a=some (an7 (.ref f) (.ref y));exact e
 |ext φ=>obtain⟨p,⟨o,e⟩,st⟩:=x;exact⟨p,⟨o,e⟩,st⟩
section
variable{X:Cx}{ϵ:List (δ×Obj)}{σ:St}{H:Hp}{s:μ}{d:δ}
theorem Inv.aiy{Ϸ:List (Key×V)}(I:Inv X ϵ σ H s)(hn:H d=some (.dK Ϸ)):∃o,Inv X ϵ σ (upd H d (.frz o (.dK Ϸ))) s:=by
 obtain⟨z,lo,vs,qC,hdo⟩:=rH I.hok hn;obtain⟨o,es,ep,ho,_⟩:=id hdo;refine⟨o,?_⟩;have ne:∀b u,H b=some u->(∀ks,u≠.dK ks)->b≠d:=λb u e h z=>by rw[z,hn]at e;cases e;exact h _ rfl
 have st:∀b u,ϐ X.prog X.w H s.heap b u->ϐ X.prog X.w (upd H d (.frz o (.dK Ϸ))) s.heap b u:=λb u q=>q.stay (λ_ _ _ r=>r) (λc r=>by rw[ι (ne _ _ r nofun)];exact r) (λc xs r=>by rw[ι (ne _ _ r nofun)];exact r) λc ob v r=>by rw[ι (ne _ _ r nofun)];exact r
 have:=I.un (t':=s.toks) (h':=s.heap) (H':=upd H d (.frz o (.dK Ϸ))) ⟨λb o e _ _ _=>e,λb o e _ _ _=>⟨o.slots,e⟩,λb o _ n _=>by rw[ι (λz=>by rw[z,hn]at n;cases n)];exact n,λb o e _=>⟨o,e⟩,λb xs q=>by rw[ι (ne _ _ q nofun)];exact q,λb o u q=>by rw[ι (ne _ _ q nofun)];exact q,λb ps q=>⟨#[],by rw[ι (ne _ _ q nofun),q];simp⟩⟩ λb u q=>?_
 .exact this
 .by_cases z:b=d
  .subst z;rw[ρ]at q;cases q;exact⟨ho,st _ _ (I.hok _ _ hn)⟩
  .rw[ι z]at q;exact st b u (I.hok b u q)
theorem Inv.adm{Ϸ:List (Key×V)}{o:Obj}(I:Inv X ϵ σ H s)(hn:H d=some (.frz o (.dK Ϸ)))(h0:∀o u,¬X.H₀ d=some (.frz o u)):Inv X ϵ σ (upd H d (.dK Ϸ)) s:=by
 have ne:∀b u,H b=some u->(∀o v,u≠.frz o v)->b≠d:=λb u e h z=>by rw[z,hn]at e;cases e;exact h _ _ rfl
 have nn:∀b,H b=none->b≠d:=λb e z=>by rw[z,hn]at e;cases e
 refine⟨I.ok,I.os,I.bare,⟨I.base.keep,I.base.slot,λb o e n hx=>?_,I.base.there,λb xs e=>?_,λb o u e=>?_,λb ps e=>?_⟩,I.loc,I.cell,?_,λx c e=>?_,λp hp=>?_,λb u e=>?_,I.len⟩
 .have :=I.base.free b o e n hx;rw[ι (nn b this)];exact this
 .have :=I.base.tups b xs e;rw[ι (ne _ _ this (λ_ _ z=>by cases z))];exact this
 .rw[ι (λz=>h0 o u (by rw[<-z];exact e))];exact I.base.frzs b o u e
 .obtain⟨more,q⟩:=I.base.tbls b ps e;exact⟨more,by rw[ι (ne _ _ q (λ_ _ z=>by cases z))];exact q⟩
 .rw[ι (nn _ I.free)];exact I.free
 .rw[ι (nn _ (I.freeC x c e))];exact I.freeC x c e
 .obtain⟨p1,p2,p3⟩:=I.pin p hp;exact⟨p1,by rw[ι (nn _ p2)];exact p2,p3⟩
 .by_cases z:b=d
  .subst z;rw[ρ]at e;cases e;obtain⟨_,q⟩:=(I.hok b _ hn:ϐ X.prog X.w H s.heap b (.frz o (.dK Ϸ)));obtain⟨z,y,vs,r,ob,es,ep,e,c⟩:=q;exact⟨z,y,vs,r,ob,es,ep,e,c⟩
  .rw[ι z]at e;have k1:∀c,H c=some (.own b)->(upd H d (.dK Ϸ)) c=some (.own b):=λc q=>by rw[ι (ne _ _ q (λ_ _ z=>by cases z))];exact q
   have k2:∀c xs,H c=some (.tup xs)->(upd H d (.dK Ϸ)) c=some (.tup xs):=λc xs q=>by rw[ι (ne _ _ q (λ_ _ z=>by cases z))];exact q
   have k3:∀c ob v vs,H c=some (.frz ob v)->ob.data=.fields vs->(upd H d (.dK Ϸ)) c=some (.frz ob v):=λc ob v vs q hf=>by
    have z2:c≠d:=λz2=>by
     rw[z2,hn]at q;obtain⟨ho,_,_,_,_,Wa,es,ep,eb,_,hd,_⟩:=(I.hok d _ hn:ϐ X.prog X.w H s.heap d (.frz o (.dK Ϸ)));rw[ho]at eb;have e1:Wa=o:=(Option.some.inj eb).symm;have e2:ob=o:=by injection q with q;injection q with q1 q2;exact q1.symm
     rw[e1, <-e2,hf]at hd;cases hd
    rw[ι z2];exact q
   exact ϐ.Vp (H':=upd H d (.dK Ϸ)) (I.hok b u e) k1 k2 k3
theorem abb{body:List Ϩ}{D:Ends}{Ϸ:List (Key×V)}(hn:H d=some (.dK Ϸ))(h:∀o,Κ X body D σ (upd H d (.frz o (.dK Ϸ)))):Κ X body D σ H:=λϵ s I=>by
 obtain⟨o,I2⟩:=I.aiy hn;exact h o ϵ s I2
theorem Yk{body:List Ϩ}{D:Ends}{Ϸ:List (Key×V)}{o:Obj}(hn:H d=some (.frz o (.dK Ϸ)))(h0:∀o u,¬X.H₀ d=some (.frz o u))(h:Κ X body D σ (upd H d (.dK Ϸ))):Κ X body D σ H:=λϵ s I=>h ϵ s (I.adm hn h0)
end
def iM(keep:Nat->Bool)(n:Nat):List Nat:=(ad6 n).filter keep
theorem aaS(keep:Nat->Bool)(n:Nat):iM keep (n+1)=iM keep n++(if keep n=true then[n]else[]):=by
 unfold iM;rw[aon,aoG];by_cases h:keep n=true
 .simp[h]
 .have h':keep n=false:=by simpa using h
  simp[h']
theorem ag7(keep:Nat->Bool)(n:Nat):(iM keep n).length<=n:=by
 have:=ajl keep (ad6 n);rw[ahl]at this;exact this
section
variable{X:Cx}{e c:π}{σ σ':St}{H:Hp}{Q:VK}{D:Ends}{pos:Pos}{tg elt:π}{scope:ai8}
def J1(X:Cx)(N':List Str)(scope:ai8)(tg elt c:π)(σ':St)(H1:Hp)(Q:VK)(xs:List V):Prop:=
 ∃(Tp:St->Prop)(keep:Nat->Bool)(Pi:δ->Nat->V->Hp->Prop),Tp σ'/\
  (∀E i v H2 H3 ys,H2 E=some (.lst ys)->(∀b o,b≠E->H2 b=some o->H3 b=some o)->Pi E i v H2->Pi E i v H3)/\
  (∀(fp:List δ)(E C:δ)(s3:μ)(H0:Hp)(i:Nat)(τ:St)(x:V)(H2:Hp),H1 E=none->xs[i]?=some x->Tp τ->ζ H1 H2->(∃ys,H2 E=some (.lst ys))->
   EG (aP X N' scope (ϑ scope X.env) C s3 H0 fp) tg x τ H2 λτ2 H3=>ET (aP X N' scope (ϑ scope X.env) C s3 H0 fp) c τ2 H3 λk H4=>k=keep i/\Tp τ2/\ζ H2 H4/\(k=true->EV (aP X N' scope (ϑ scope X.env) C s3 H0 fp) elt τ2 H4 λv H5=>Pi E i v H5/\ζ H4 H5))/\
  ∀(E:δ)(H2:Hp)(us:List V),H1 E=none->H2 E=some (.lst us)->Vl.ψ (λu i=>Pi E i u H2) us (iM keep xs.length)->ζ H1 H2->Q (.ref E) H2
theorem W6{N':List Str}{l:δ}{xs:List V}(hn:xs.length<=Ϫ)(hl:θ X.K H l xs)(h:J1 X N' scope tg elt c σ' H Q xs):∀(fp:List δ)(E C:δ)(s3:μ),H E=none->fQ X (aP X N' scope (ϑ scope X.env) C s3 (upd H E (.lst [])) fp) tg elt [c] (iy X.K l) E σ' H (λH'=>Q (.ref E) H'):=by
 intro fp E C s3 hE;obtain⟨Tp,keep,Pi,t0,mono,step,fin⟩:=h;refine⟨λi m τ H1=>m=xs.length-i/\i<=xs.length/\ζ H H1/\Tp τ/\∃us,H1 E=some (.lst us)/\Vl.ψ (λu i=>Pi E i u H1) us (iM keep i),⟨xs.length,by simp,ajg _,ζ.upd hE,t0,[],ρ,.nil⟩,?_⟩
 rintro i m τ H1 ⟨rfl,hi,s1,hτ,us,eE,hA⟩
 by_cases hlt:i<xs.length
 .refine .inr ⟨⟨xs,xs[i],ζ.seq s1 hl,aak hlt⟩,λτ' H'=>ζ H H'/\Tp τ'/\∃us,H' E=some (.lst us)/\Vl.ψ (λu i=>Pi E i u H') us (iM keep (i+1)),λτ' H' ⟨a,b,d⟩=>⟨xs.length-(i+1),by omega,rfl,hlt,a,b,d⟩,λx H2 yl=>?_⟩;have hx:xs[i]?=some x:=yl.2 xs (ζ.seq s1 hl);have hH:H2=H1:=yl.1;subst hH;intro ϵ s u I r;refine χ (step fp E C s3 _ i τ x _ hE hx hτ s1 ⟨us,eE⟩ ϵ s u I r) λ_ s' ⟨τ2,H3,I3,q3⟩=>⟨τ2,H3,I3,Yg ?_⟩
  refine λϵ s I=>χ (q3 ϵ s I) λk s' ⟨H4,I4,hk,t2,s2,q⟩=>⟨H4,I4,?_⟩
  subst hk;have eK:=aaS keep i;have hkl:=ag7 keep i;have Ef:=hA.len;by_cases hkp:keep i=true
  .rw[if_pos hkp];rw[if_pos hkp]at eK;refine aa (q hkp) λv H5 ⟨pv,s5⟩=>⟨us,s5 _ _ (s2 _ _ eE),by omega,?_⟩
   have up:∀b o,b≠E->H5 b=some o->(upd H5 E (.lst (us++[v]))) b=some o:=λb o hb e=>by rw[ι hb];exact e
   refine⟨λb o e=>?_,t2,us++[v],ρ,?_⟩
   .rw[ι (Θ e hE)];exact s5 _ _ (s2 _ _ (s1 _ _ e))
   .rw[eK];refine Vl.ψ.app (hA.imp λu j p=>?_) (.cons (mono E i v H5 _ us (s5 _ _ (s2 _ _ eE)) up pv) .nil);exact mono E j u H5 _ us (s5 _ _ (s2 _ _ eE)) up (mono E j u H2 _ us eE (λb o _ e=>s5 _ _ (s2 _ _ e)) p)
  .rw[if_neg hkp];rw[if_neg hkp,List.append_nil]at eK;refine⟨s1.trans s2,t2,us,s2 _ _ eE,?_⟩;rw[eK];exact hA.imp λu j p=>mono E j u H2 _ us eE (λb o _ e=>s2 _ _ e) p
 .have e:i=xs.length:=by omega
  subst e;exact .inl ⟨⟨xs,ζ.seq s1 hl,Ϯ _⟩,fin E H1 us hE eE hA s1⟩
theorem Zd(N':List Str)(hσ:bf N' X.N σ scope=σ')(hc:X.calm=true)(S:bw X.env scope)(hs:∀x,foldedSetIterable e X.env x=pure x)(h:EV X e σ H λv H1=>∃l xs,v=.ref l/\θ X.K H1 l xs/\xs.length<=Ϫ/\J1 X N' scope tg elt c σ' H1 Q xs):EV X (.ListComp elt [⟨tg,e,[c],0⟩] scope pos) σ H Q:=by
 refine pU (N':=N') hc S hs (rD (aa h λv H1 q=>?_));obtain⟨l,xs,rfl,hl,hz,hw⟩:=q;refine⟨l,rfl,⟨xs,hl⟩,?_⟩;rw[hσ];exact W6 hz hl hw
end
section
variable{X:Cx}{D:Ends}{σ:St}{H:Hp}{rest:List amb}{suite:List Ϩ}{b₀:Ϩ}{pos np:Pos}{x n:Str}{c:ε}{C:δ}{d:Option δ×Bool}{i:Nat}
abbrev ajU(D:Ends)(i:Nat):Ends:=
 {nx:=λσ' H'=>D.nx (σ'.set i none) H',rt:=D.rt,bk:=λσ' H'=>D.bk (σ'.set i none) H',ct:=λσ' H'=>D.ct (σ'.set i none) H'}
theorem Mv(hN:X.N.Nodup)(hm:X.mg x=some c)(ex:anU X.K (.ref C) c=some true)(h:∀e pn,H e=none->Κ (X.fD (.ref e) (λ_ _=>False) pn) (b₀::suite) (ajU D i) (σ.set i (some (.ref e))) (upd H e (xw e C d.1)))(hi:nameAt X.N n=some i:=by rfl)(hloc:X.env.scope.names.lookup n=some .local:=by rfl)(hg:Gl X x:=by rfl)(hd:(x==("__debug__":Str))=false:=by decide):EH X (.ExceptHandler (some (.Name x np)) (some n) (b₀::suite) pos::rest) D σ (.ref C) d H:=by
 intro ϵ s e T I F ch;have hkind:(X.env.scope.kind==.class||(X.env.scope.kind==.module&&X.env.locals !=X.env.globals))=false:=by rw[I.ok.kind];rfl
 have hil:i<X.N.length:=(aaF.mp (jQ hi)).1;obtain⟨RT,ce⟩:=ch e (by simp);refine wpAny_handleBy_cons (Qk I F hg hm hd ex ?_) (by intro q;cases q);refine codeAny_handlers_suite_as (I.off F ch λs2 I2 F2=>?_);refine wz I2 hN (jQ hi) (.inl hloc) (v:=.ref e) rfl (λs3 I3 hb=>?_) (.inr hloc);obtain⟨a,sb,ha⟩:=hb;have hea:e≠a:=by
  obtain z|z:=ha
  .rw[z];exact ce.2.1
  .exact λy=>ce.2.2.1 n a z y.symm
 obtain⟨oe,vs,he,hcl,hdx,hdt,_⟩:=F2;have he3:s3.heap.get? e=some oe:=(sb.2 e hea).trans he;have I4:=I3.adopt RT ce (φ:=λh=>∃oe vs,h.get? e=some oe/\oe.cls=.ref C/\oe.dict=d.1/\oe.data=.fields vs) (aih he3 hcl hdx hdt);refine adL (h e (X.pn++ϵ) RT [] s3 I4.fD) (λf s4 q=>?_) λ_ _ q=>q.elim
 have gone:∀{σ':St}{H':Hp}{Q:Unit->μ->Prop},Inv X ϵ σ' H' s4->(∀s5,Inv X ϵ (σ'.set i none) H' s5->Q () s5)->ν (Ϧ X.prog X.w) X.A (do bindName X.env n .none;unbindBehindTheSuite X.env n pos) Q X.xe s4:=λ{σ' H' Q} J k=>by
  have J3:Inv X ϵ (σ'.set i none) H' s4:=J.weak (by simp) λj v e2=>by
   by_cases z:j=i
   .subst z;rw[amd (by rw[J.len];exact hil)]at e2;cases e2
   .rw[anL (Ne.symm z)]at e2;exact e2
  obtain⟨m,hn,hl⟩:=id J3.loc;refine wpAny_nameGoes_keeps (show X.env.kindOf n=some .local from hloc) hn hkind λh' v hn' hsb=>k _ ?_
  refine J3.aeA (m:=m) (m':=λx=>if x=n then v else m x) hN (jQ hi) (amd (by rw[J.len];exact hil)) hl hn' (λx hx=>by rw[if_neg hx]) (λb o hb q=>(hsb.2 b hb).trans q) ?_;obtain⟨o,_,_,ho,_⟩:=hn';exact⟨o,ho⟩
 cases f with
 |next=>
  obtain⟨σ',H',J,q2⟩:=q;exact gone (Inv.v7 I.ok J) λs5 I5=>⟨_,_,I5,q2⟩
 |brk=>
  obtain⟨σ',H',J,q2⟩:=q;exact gone (Inv.v7 I.ok J) λs5 I5=>⟨_,_,I5,q2⟩
 |cont=>
  obtain⟨σ',H',J,q2⟩:=q;exact gone (Inv.v7 I.ok J) λs5 I5=>⟨_,_,I5,q2⟩
 |ret u=>
  obtain⟨v,σ',H',J,r,q2⟩:=q;exact gone (Inv.v7 I.ok J) λs5 I5=>⟨v,_,_,I5,r,q2⟩
end
end L2
namespace L2
open PySem PySem.Spec PyProof.Rows
section
variable{X:Cx}{a b e:π}{σ σ':St}{H:Hp}{Q:VK}{D:Ends}{pos spos py p p':Pos}{tg elt iter:π}{scope:ai8}{Kx:St->XK}{y:Str}{j:Nat}
end
abbrev DX(K:ϩ)(mg:Str->Option ε)(x:Str)(st:Ϩ):Prop:=∃f fd,cN K x x st f fd/\mg x=some (.ref f)
section
variable{K:ϩ}{h:ϫ}{mg:Str->Option ε}(X:K.In h)(G:h.Ns mainGlobals mg){x y m qual fld:Str}{st:Ϩ}{f C D:δ}{od an:Option δ}{sl:Array (Option ε)}{oc kV dc pm cd ct:ε}{t:Tok}
abbrev bA(K:ϩ)(x:Str)(C:δ):Prop:=ao6 K mainGlobals x=some (some (.ref C))
abbrev oX(K:ϩ)(m qual:Str)(st:Ϩ)(f:δ)(od an:Option δ)(sl:Array (Option ε))(oc kV dc pm cd ct:ε):Prop:=K.lookup f=some ⟨oc,od,.func (aoE m qual (jl st) (ϝ st) (υ st) .none kV dc pm an cd ct),sl⟩
include X G
theorem afP(a:bA K x f)(l:oX K x x st f od an sl oc kV dc pm cd ct)(c:an9 K cd x=true)(k:anl K (.ref f)=true):DX K mg x st:=⟨_,_,qY (st:=st) l c k,als X G a⟩
theorem aiv{z:Str}(g:ao6 K mainGlobals x=some (some (.str z t))):Gc mg x (.str z):=⟨_,als X G g,_,rfl⟩
theorem aeD{z:Int}(g:ao6 K mainGlobals x=some (some (.int z t))):Gc mg x (.int z):=⟨_,als X G g,_,rfl⟩
theorem ada(z:ao6 K mainGlobals x=some none):mg x=none:=W.mg_none_of X G z
theorem V0(q:bA K x C):mg x=some (.ref (η mg x)):=by have e:=als X G q;rw[bZ e];exact e
theorem af6(q:bA K x C)(y:api K C dq "ValueError.__new__"=true):oJ K mg x:=abx (als X G q) y
theorem ad7{b:Bool}(q:bA K x C)(r:bA K y D)(v:anU K (.ref C) (.ref D)=some b):anU K (.ref (η mg x)) (.ref (η mg y))=some b:=by
 rw[bZ (als X G q),bZ (als X G r)];exact v
theorem ahj(q:bA K x C)(a1:anZ K C (.type "type")=true)(a2:an0 K (.ref C) (.type "type") "__init__"=some (.val (.builtin "ValueError.__init__")))(a3:aks K (.ref C) "__getattribute__"=some (some (.builtin "type.__getattribute__")))(a4:anM K (.ref C)=some (.type "type"))(a5:amQ K C (.type "BaseException")=some true):Bq K mg x:=aiQ (als X G q) a1 a2 a3 a4 a5
theorem acf(q:bA K x C)(r:bA K y D)(a1:iT K C D=true)(a2:anM K (.ref C)=some (.type "type"))(a3:amG K C=true)(a4:aeB K (.ref C) "__getattribute__"=some (some (.builtin "BaseException.__getattribute__")))(a5:aeB K (.ref C) "__getattr__"=some none)(a6:aeB K (.ref C) "__class__"=some (some (.builtin "object.__class__")))(a7:aks K (.builtin "object.__class__") "__get__"=some (some (.builtin "getset_descriptor.__get__")))(a8:aoi K (.builtin "object.__class__")=some true)(a9:amQ K C (.type "object")=some true)(a10:amQ K C (.type "BaseException")=some true):XC K mg y x:=aj0 (als X G q) (als X G r) a1 a2 a3 a4 a5 a6 a7 a8 a9 a10
theorem adt(q:bA K x C)(r:bA K y D)(a:aeB K (.ref C) "__init__"=some (some (.ref f)))(l:oX K "__init__" qual st f od an sl oc kV dc pm cd ct)(c:an9 K cd qual=true)(k:anl K (.ref f)=true)(a1:lB K C f=true)(a2:aoB K (.ref f)=true)(a3:aeB K (.ref C) "__setattr__"=some (some (.builtin "object.__setattr__")))(a4:anP K C fld=some none)(a5:iT K C D=true):jq K mg y x qual fld st:=Yc (als X G q) (als X G r) (qY (st:=st) l c k) a1 a2 a3 a4 a5
theorem Vh(q:bA K x C)(a:aeB K (.ref C) fld=some none):aeB K (.ref (η mg x)) fld=some none:=by rw[bZ (als X G q)];exact a
theorem Wn(q:bA K x C)(a:aeB K (.ref C) fld=some none):Ρ K (η mg x) fld:=by rw[bZ (als X G q)];exact a
theorem t_k(q:bA K x C)(a:anN K C Str.empty=true)(b:amG K C=true)(c:an8 K C=true)(d:aeB K (.ref C) "__setattr__"=some (some (.builtin "object.__setattr__"))):ϗ K (η mg x):=Nu (als X G q) a b c d
theorem agi(q:bA K x C)(a:aeB K (.ref C) "__init__"=some (some (.ref f)))(l:oX K "__init__" qual st f od an sl oc kV dc pm cd ct)(c:an9 K cd qual=true)(k:anl K (.ref f)=true)(b:aoB K (.ref f)=true)(d:ao0 K C=true)(e:anl K (.ref C)=true):OI K (η mg x) qual st:=abB (als X G q) (qY (st:=st) l c k) a b d e
theorem aax(q:bA K x C)(a:aeB K (.ref C) m=some (some (.ref f)))(l:oX K m qual st f od an sl oc kV dc pm cd ct)(c:an9 K cd qual=true)(k:anl K (.ref f)=true)(b:aoB K (.ref f)=true):OM K (η mg x) m qual st:=Wj (als X G q) (qY (st:=st) l c k) a b
theorem Vz(q:bA K x C)(a:an0 K (.ref C) (.type "type") m=some (.val (.ref f)))(l:oX K m qual st f od an sl oc kV dc pm cd ct)(c:an9 K cd qual=true)(k:anl K (.ref f)=true)(b:anZ K C (.type "type")=true)(d:aks K (.ref C) "__getattribute__"=some (some (.builtin "type.__getattribute__"))):OB K (η mg x) m qual st:=YT (als X G q) (qY (st:=st) l c k) a b d
theorem Y7(q:bA K x C)(r:bA K y D)(a:anN K C Str.empty=true)(b:amG K C=true)(c:an8 K C=true)(d:aeB K (.ref C) "__setattr__"=some (some (.builtin "object.__setattr__")))(a1:aeB K (.ref C) "__class__"=some (some (.builtin "object.__class__")))(a2:aks K (.builtin "object.__class__") "__get__"=some (some (.builtin "getset_descriptor.__get__")))(a3:aoi K (.builtin "object.__class__")=some true)(a4:amQ K C (.type "object")=some true)(u:aoD K (.ref C) (.ref D)=some true):OT K (η mg x)/\aoD K (.ref (η mg x)) (.ref (η mg y))=some true:=by
 refine⟨W5 (als X G q) (Nu (als X G q) a b c d) a1 a2 a3 a4,?_⟩;rw[bZ (als X G q),bZ (als X G r)];exact u
omit X G
inductive iB (mg:Str->Option ε):List δ->List δ->Prop
 |nil:iB mg [] []
 |cons {x:Str} {C:δ} {l m:List δ} (h:mg x=some (.ref C)) (t:iB mg l m):iB mg (η mg x::l) (C::m)
theorem iB.eq{l m:List δ}(h:iB mg l m):l=m:=by
 induction h with
 |nil=>rfl
 |cons h _ ih=>rw[bZ h,ih]
include X G
theorem gq{l m:List δ}(q:bA K x C)(t:iB mg l m):iB mg (η mg x::l) (C::m):=.cons (als X G q) t
omit X G
theorem af5{l m:List δ}(t:iB mg l m)(d:m.Nodup):l.Nodup:=by rw[t.eq];exact d
end
section
variable{X:Cx}{H:Hp}{Q:VK}{z y:Str}
end
end L2
namespace L2
open PySem PySem.Spec PyProof.Rows PySem.W
def kW(k:Int):ε->Bool
 |.int i _=>i==k
 |_=>false
theorem HW:∀{ns:List Int}{us:List ε},Vals (ns.map V.int) us->(∀u∈us,∃i t,u=Value.int i t)/\∀k,us.countP (kW k)=ns.count k
 |[],_,.nil=>⟨λu h=>by simp at h,λk=>rfl⟩
 |n::ns,_,.cons r t=>by
  obtain⟨tk,rfl⟩:=(show ∃t,_=Value.int n t from r);obtain⟨h1,h2⟩:=HW t;refine⟨λu hu=>?_,λk=>?_⟩
  .obtain rfl|hu:=acG.mp hu
   .exact⟨_,_,rfl⟩
   .exact h1 u hu
  .rw[List.countP_cons,List.count_cons,h2 k];rfl
section
variable{X:Cx}{H:Hp}{Q:VK}
theorem Z4{a:δ}{ns:List Int}{k:Int}(h:θ X.K H a (ns.map V.int))(g:Q (.int (ns.count k:Nat)) H):MT X "list.count" (.ref a) [.int k] H Q:=by
 refine dh (r:=λx xs H Q=>∃a ns k,x=.ref a/\xs=[.int k]/\θ X.K H a (ns.map V.int)/\Q (.int (ns.count k:Nat)) H) ?_ ⟨a,ns,k,rfl,rfl,h,g⟩;intro ϵ s σ H x xs v us Q I rx rs h;obtain⟨a,ns,k,rfl,rfl,h,g⟩:=h;cases rx;obtain⟨u,rfl,ru⟩:=vals1 rs;obtain⟨tk,rfl⟩:=(show ∃t,u=Value.int k t from ru);obtain⟨ϸ,r,⟨⟨cls,dd,data,sl⟩,n,e,hc,hd,hs⟩,hz⟩:=I.list h;simp only at hc hd hs;subst hc hd hs;obtain⟨h1,h2⟩:=HW r;refine call_meets F.slot_list_count ⟨_,e,rfl⟩ F.entry_list_count (F.args_list_count_2 _ _) (SeqAt.list_countAt a ϸ.toArray n _ sl (.int k tk) (kW k)) ⟨e,λy hy=>?_,?_⟩
 .obtain⟨i,t,rfl⟩:=h1 y (by simpa using hy);exact SeqAt.EqAt.int_int i t k tk
 .rw[show ϸ.toArray.toList=ϸ from rfl,h2];exact⟨.int _,H,I.tok _,⟨_,rfl⟩,g⟩
end
end L2
namespace L2
open PySem PySem.Spec PyProof.Rows
def du(t:akr)(hs:Array Int)(h:Int):Array Int×akr×Bool:=match t.freeSlot h with
 |some (j,wd)=>(SetTable.insertAt hs (t.put j).2 h,(t.put j).1.orStandIn (SetTable.insertAt hs (t.put j).2 h).size,wd)
 |none=>(hs.push h,t.standIn (hs.size+1),false)
def oH(t:akr)(hs:Array Int)(m:Nat):Array Int×akr:=match t.relaid hs m with
 |some (t',order)=>if coversAll order hs.size&&t'.fits (order.filterMap (hs[·]?)).size then(order.filterMap (hs[·]?),t')else(hs,t.standIn hs.size)
 |none=>(hs,t.standIn hs.size)
def gY(p:Array Int×akr)(h:Int):Array Int×akr:=
 if(!(du p.2 p.1 h).2.2&&(du p.2 p.1 h).2.1.tooFull)=true then oH (du p.2 p.1 h).2.1 (du p.2 p.1 h).1 (SetTable.grown (du p.2 p.1 h).1.size)else((du p.2 p.1 h).1,(du p.2 p.1 h).2.1)
def bJ(led:Bool)(q:List Int):Array Int×akr:=q.foldl gY (#[],.fresh 0 0 led)
def jd(t:akr):Nat->Nat
 |0=>0
 |i+1=>t.place.getD i 0+1
def ye(p:Array Int×akr):Bool:=p.2.plain&&(ad6 (p.1.size+1)).all λi=>SetTable.below p.2.place (jd p.2 i)==i
def pJ(U:List Int):Nat->List (List Int)
 |0=>[[]]
 |n+1=>[]::U.flatMap λa=>(pJ (U.filter (· !=a)) n).map (a:: ·)
theorem ins_map{α β:Type}(f:α->β)(xs:Array α)(p:Nat)(x:α):(SetTable.insertAt xs p x).map f=SetTable.insertAt (xs.map f) p (f x):=by
 unfold SetTable.insertAt;rw[Array.map_append,ao4,aoM,aoM,alG]
theorem aeu{α:Type}(xs:Array α)(p:Nat)(x:α){β:Type}(f:α->β):(SetTable.insertAt xs p x).size=(SetTable.insertAt (xs.map f) p (f x)).size:=by
 rw[<-ins_map,alG]
theorem V8(t:akr)(es:Array (Int×ε))(h:Int)(x:ε):(layNew t es h x).1.map (·.1)=(du t (es.map (·.1)) h).1/\(layNew t es h x).2.1=(du t (es.map (·.1)) h).2.1/\(layNew t es h x).2.2.1=(du t (es.map (·.1)) h).2.2:=by
 unfold layNew du;cases t.freeSlot h with
 |none=>
  refine⟨ao4 ..,?_,rfl⟩;show t.standIn (es.size+1)=t.standIn ((es.map (·.1)).size+1);rw[alG]
 |some p=>
  obtain⟨j,wd⟩:=p;refine⟨ins_map (·.1) es _ (h,x),?_,rfl⟩;show(t.put j).1.orStandIn (SetTable.insertAt es (t.put j).2 (h,x)).size=(t.put j).1.orStandIn (SetTable.insertAt (es.map (·.1)) (t.put j).2 h).size;rw[aeu es _ (h,x) (·.1)]
theorem Yt(t:akr)(es:Array (Int×ε))(m:Nat):(relayAll t es m).1.map (·.1)=(oH t (es.map (·.1)) m).1/\(relayAll t es m).2.1=(oH t (es.map (·.1)) m).2:=by
 unfold relayAll oH;cases t.relaid (es.map (·.1)) m with
 |none=>
  refine⟨rfl,?_⟩;show t.standIn es.size=t.standIn (es.map (·.1)).size;rw[alG]
 |some p=>
  obtain⟨t',order⟩:=p;have e1:(order.filterMap (es[·]?)).map (·.1)=order.filterMap ((es.map (·.1))[·]?):=by
   rw[Array.map_filterMap]
   congr 1
   funext i;rw[Array.getElem?_map]
  have e2:(order.filterMap (es[·]?)).size=(order.filterMap ((es.map (·.1))[·]?)).size:=by rw[<-e1,alG]
  dsimp only;rw[e2,alG];split
  .exact⟨e1,rfl⟩
  .exact⟨rfl,rfl⟩
def cM(led:Bool)(h:ϫ)(S:δ)(q:List Int):=∃(o:Obj)(es:Array (Int×ε))(ep:Nat),h.get? S=some o/\o.ExactSet/\o.data=.set es ep (bJ led q).2/\es.map (·.1)=(bJ led q).1/\(∀e∈es.toList,∃tk,e.2=Value.int e.1 tk)/\(es.toList.map (·.1)).Perm q/\(bJ led q).2.fits es.size=true
theorem cM.stay{led:Bool}{h h':ϫ}{S:δ}{q:List Int}(x:cM led h S q)(k:∀o,h.get? S=some o->h'.get? S=some o):cM led h' S q:=by
 obtain⟨o,es,ep,ho,rest⟩:=x;exact⟨o,es,ep,k _ ho,rest⟩
theorem cM.new(led:Bool){h:ϫ}{S:δ}(hS:h.get? S=some {cls:=.type "set",dict:=none,data:=.set #[] 0 (.fresh 0 0 led)}):cM led h S []:=
 ⟨_, #[],0,hS,⟨rfl,rfl,rfl⟩,rfl,(by show Array.map _ #[]= #[];simp),λe he=>by simp at he,List.Perm.refl _,by cases led<;>rfl⟩
section
variable{prog:ϯ}{w:Ϭ}{A:ϲ}{E:ε->μ->Prop}{s:μ}
theorem ae4{led:Bool}{S:δ}{q:List Int}{k:Int}{tk:Tok}{Q:Bool->μ->Prop}(hh:∀x,x∈k::q->hashInt x=x)(hl:q.length<4000)(hx:cM led s.heap S q)(h:∀(b:Bool)(h':ϫ),akS S s.heap h'->cM led h' S (if k∈q then q else q++[k])->Q b {s with heap:=h'}):ν (Ϧ prog w) A (setAddHashed S (.int k tk) (hashInt k)) Q E s:=by
 obtain⟨o,es,ep,ho,hex,hd,hm,hv,hp,hf⟩:=id hx;have hsz:es.size=q.length:=by have:=hp.length_eq;simpa using this
 have hin:∀e∈es.toList,e.1∈q:=λe he=>hp.mem_iff.mp (acL.mpr ⟨e,he,rfl⟩)
 have hel:ElemsOf (intKind prog w) es.toList:=λe he=>by
  obtain⟨t2,e2⟩:=hv e he;refine⟨⟨e.1,by rw[e2];exact intKind_is prog w e.1 t2,(hh e.1 (abN _ (hin e he))).symm⟩,by rw[e2];rfl⟩
 have hsb:es.size+1<scanBound:=by show _<4096;omega
 have hbs:byScan (.int k tk) es=true:=byScan_of (knd:=intKind prog w) rfl (by omega) hel;unfold setAddHashed setAddHashedIn;refine ae5 ?_;refine ϧ (anD ho hd hf ?_);simp only[hbs,if_true];unfold setAddByScan;refine ϧ (ϧ (wpAny_rule ?_));refine ϧ (wpAny_setScan_of (knd:=intKind prog w) (k:=k) (intKind_is prog w k tk) ho hd hf hel ?_);have same:({s with heap:=s.heap}:μ)=s:=by cases s;rfl
 cases hr:es.toList.findIdx? (λe=>(intKind prog w).is k e.2)with
 |some j=>
  obtain⟨hj,hpj,_⟩:=List.findIdx?_eq_some_iff_getElem.mp hr;obtain⟨t2,e2⟩:=hv _ (aj9 hj);have rF:k∈q:=by
   have e3:k=(es.toList[j]).1:=(intKind prog w).inj _ _ _ hpj (by rw[e2];exact intKind_is prog w _ t2);rw[e3];exact hin _ (aj9 hj)
  have:=h false s.heap (Heap.SameBut.refl S s.heap) (by rw[if_pos rF];exact hx);rw[same]at this;exact ϭ (ϭ this)
 |none=>
  have rF:k∉q:=λz=>by
   obtain⟨e,he,e1⟩:=acL.mp (hp.mem_iff.mpr z);obtain⟨t2,e2⟩:=hv e he;have:=List.findIdx?_eq_none_iff.mp hr e he;rw[e2,e1,intKind_is prog w k t2]at this;cases this
  have hgo:∀(h':ϫ),akS S s.heap h'->cM led h' S (q++[k])->Q true {s with heap:=h'}:=λh' a b=>h true h' a (by rw[if_neg rF];exact b)
  have hk0:hashInt k=k:=hh k (acB ..);have pG:bJ led (q++[k])=gY (bJ led q) k:=by unfold bJ;rw[am3];rfl
  dsimp only;obtain⟨l1,l2,l3⟩:=V8 (bJ led q).2 es (hashInt k) (.int k tk);have lp:=layNew_perm (bJ led q).2 es (hashInt k) (.int k tk);have lf:=layNew_fits (bJ led q).2 es (hashInt k) (.int k tk);rw[hm,hk0]at l1 l2 l3;rw[hk0]at lp lf⊢;generalize layNew (bJ led q).2 es k (.int k tk)=L at l1 l2 l3 lp lf⊢;obtain⟨es1,t1,wd,gave⟩:=L;dsimp only at l1 l2 l3 lp lf⊢;have sz1:es1.size=es.size+1:=by have:=lp.length_eq;simpa using this
  have hv1:∀e∈es1.toList,∃tk,e.2=Value.int e.1 tk:=λe he=>by
   have h1:=lp.mem_iff.mp he;rw[an5]at h1;obtain z|z:=aei.mp h1
   .exact hv e z
   .rw[ac8.mp z];exact⟨tk,rfl⟩
  have hp1:(es1.toList.map (·.1)).Perm (q++[k]):=by
   have h1:=lp.map (·.1);rw[an5,agF]at h1;exact h1.trans (hp.append_right [k])
  refine ϧ ?_;have gw:∀(Q':Unit->μ->Prop),Q' () s->ν (Ϧ prog w) A (match gave with|true=>rule "set.scan.the-table-gave-way" |false=>pure ()) Q' E s:=λQ' hq=>by
   cases gave
   .exact ϭ hq
   .exact wpAny_rule hq
  refine gw _ ?_;split
  all_goals
   refine ϧ ?_
   first
    |rw[hashByValue_scannable 8 rfl]
     refine ϭ ?_
    |refine ϭ ?_
   simp only[plainKind,if_true];refine ϧ (wpAny_storeSet_of ho hd ?_ (fits_of_scanBound (by omega)));have Lb:=Heap.SameBut.update s.heap S (Obj.putSet es1 t1);have g1:(s.heap.update S (Obj.putSet es1 t1)).get? S=some {o with data:=.set es1 (ep+1) t1}:=by
    rw[ad5 _ ho (by rw[putSet_of es1 t1 hd];rfl),putSet_of es1 t1 hd]
   by_cases lR:(!wd&&t1.tooFull)=true
   .rw[if_pos lR];obtain⟨r1,r2⟩:=Yt t1 es1 (SetTable.grown es1.size);have rp:=relayAll_perm t1 es1 (SetTable.grown es1.size);have rf:=relayAll_fits t1 es1 (SetTable.grown es1.size);have e3:gY (bJ led q) k=oH t1 (es1.map (·.1)) (SetTable.grown es1.size):=by
     unfold gY;rw[<-l3, <-l2,if_pos lR, <-l1,alG]
    generalize relayAll t1 es1 (SetTable.grown es1.size)=L at r1 r2 rp rf⊢;obtain⟨es2,t2,gv⟩:=L;dsimp only at r1 r2 rp rf⊢;have sz2:es2.size=es1.size:=by have:=rp.length_eq;simpa using this
    refine ϧ ?_;have ZF:∀(s1:μ)(Q':Unit->μ->Prop),Q' () s1->ν (Ϧ prog w) A (match gv with|true=>rule "set.scan.the-table-gave-way" |false=>pure ()) Q' E s1:=λs1 Q' hq=>by
     cases gv
     .exact ϭ hq
     .exact wpAny_rule hq
    refine ZF _ _ ?_;refine ϧ (wpAny_storeSet_of g1 rfl ?_ (fits_of_scanBound (by omega)));refine ϭ (ϭ (hgo _ (Lb.trans (Heap.SameBut.update _ S _)) ?_));refine⟨{o with data:=.set es2 (ep+1+1) t2},es2,ep+1+1,by rw[ad5 _ g1 (by rw[putSet_of (ep:=ep+1) (es:=es1) (t:=t1) es2 t2 rfl];rfl),putSet_of (ep:=ep+1) (es:=es1) (t:=t1) es2 t2 rfl],hex,?_,?_,λe he=>hv1 e (rp.mem_iff.mp he),(rp.map (·.1)).trans hp1,?_⟩
    .rw[pG,e3, <-r2]
    .rw[pG,e3];exact r1
    .rw[pG,e3, <-r2];exact rf
   .rw[if_neg lR];have e3:gY (bJ led q) k=(es1.map (·.1),t1):=by
     unfold gY;rw[<-l3, <-l2,if_neg lR, <-l1]
    refine ϭ (ϭ (hgo _ Lb ?_));refine⟨{o with data:=.set es1 (ep+1) t1},es1,ep+1,g1,hex,?_,?_,hv1,hp1,?_⟩
    .rw[pG,e3]
    .rw[pG,e3]
    .rw[pG,e3];exact lf
end
section
variable{prog:ϯ}{w:Ϭ}{A:ϲ}{E:ε->μ->Prop}{s:μ}{ns:List Int}{us:Array ε}
abbrev dF(w:Ϭ):Bool:= !w.params.followText "set-order"
theorem aeX(a:ε){Q:ε->μ->Prop}(h:Q (.ref s.heap.objs.size) {s with heap:=newSet s.heap (dF w)}):codeAny (Ϧ prog w) A (.call (.builtin "set.__new__") ⟨[.type "set",a],[]⟩) (wants Q E) s:=by
 have hsub:=sub_set_self;obtain⟨hp,g,d,tk,os⟩:=s;refine codeAny_of_tree (show ν _ A.in1 (checkBuiltinCall "set.__new__" ⟨[.type "set",a],[]⟩>>=λ_=>again (.builtin "set.__new__" ⟨[.type "set",a],[]⟩)) _ _ _ from ϧ (wpAny_of_eq (F.newCall_set_1 a) (ϭ ⟨plainId_quiet F.plain_set_new _,aki F.entry_set_new ?_⟩)));rw[Around.under_plainId F.plain_set_new _];unfold amw.«set.__new__» Builtin.Frozenset.newClass;dsimp only
 wp_walk
 refine ani (ϭ ?_);simp only[newObj];exact ϧ (wpAny_alloc (ϭ (ϭ h)))
def intAt(us:Array ε)(ns:List Int):=∀(i:Nat)(v:ε),us[i]?=some v->∃t z,v=.int z t/\ns[i]?=some z
theorem Zu{led:Bool}{R:Result->μ->Prop}{it:δ}{fp wr:List δ}{G:Array GenState->Array GenState->Prop}{St:Nat->μ->Prop}(W:WalksS prog w A.in1 it fp wr G us.size (λi v=>us[i]?=some v) St)(S:δ)(hS:S∉fp)(hz:intAt us ns)(hl:us.size=ns.length)(hb:us.size<4000)(hh:∀x∈ns,hashInt x=x)(d:Nat):∀(i:Nat)(s:μ),d+i=us.size->St i s->cM led s.heap S (Ϛ (ns.take i))->
   (∀s',Moved (S::wr) G s s'->cM led s'.heap S (Ϛ ns)->R (.ok (.ret .none)) s')->codeAny (Ϧ prog w) A (.builtin "set.update.loop" ⟨[.ref S,.ref it],[]⟩) R s:=by
 have hSw:S∉wr:=λh=>hS (W.sub _ h)
 have up:∀b∈wr,b∈S::wr:=λb hb=>abN _ hb
 induction d with
 |zero=>
  intro i s hi st ts hR;have e:i=us.size:=by omega
  subst e;refine aki F.entry_set_update_loop ?_;rw[Around.under_plainId F.plain_set_update_loop _];refine ϧ (m:=pyNext (.ref it)) (W.done s _ _ st λs' hm=>?_);refine ϭ (hR s' (hm.mono up) ?_);rw[hl,agC]at ts;exact ts.stay λo ho=>hm.heap S o hSw ho
 |succ d ih=>
  intro i s hi st ts hR;refine aki F.entry_set_update_loop ?_;rw[Around.under_plainId F.plain_set_update_loop _];refine ϧ (m:=pyNext (.ref it)) (W.item i s _ _ (by omega) st λv s' hv st' hm=>?_);obtain⟨t,z,rfl,ez⟩:=hz i v hv;have ts':=ts.stay (h':=s'.heap) λo ho=>hm.heap S o hSw ho
  show ν _ A.in1 (holding [Value.int z t] (setAdd S (.int z t))>>=_) _ _ s';refine ϧ (ae5 ?_);unfold setAdd;refine ae5 (ϧ ((intKind prog w).pyHash (k:=z) (intKind_is _ _ _ _) ?_));have et:ns.take (i+1)=ns.take i++[z]:=by rw[ah8,ez];rfl
  have le:=rQ _ (ns.take i) rfl;have le2:(ns.take i).length<=ns.length:=by simp;omega
  refine ae4 (s:={s' with toks:=s'.toks+1}) (λx hx=>?_) (by omega) ts' λb h' sb Fp=>?_
  .obtain rfl|hx:=acG.mp hx
   .exact hh _ (abG ez)
   .exact hh x (afU ((qH _ (ns.take i) rfl x).mp hx))
  have zX:cM led h' S (Ϛ (ns.take (i+1))):=by rw[et,mQ];exact Fp
  refine ϭ ⟨plainId_quiet F.plain_set_update_loop _,ih (i+1) _ (by omega) (W.frame _ s' _ _ st' (alE _) λb hb o e=>?_) zX λs2 hm2 Ft=>?_⟩
  .rw[sb.2 b (λh:b=S=>hS (h▸hb))];exact e
  .refine hR s2 (Moved.trans W.gtrans ((hm.mono up).then_heap (alE _) λb o hb e=>?_) hm2) Ft;rw[sb.2 b (λh:b=S=>hb (h▸acB))];exact e
theorem ajJ{led:Bool}{l S:δ}{Q:ε->μ->Prop}(h0:A.handled=none)(hl:s.heap.IsList l us)(hS:s.heap.get? S=some {cls:=.type "set",dict:=none,data:=.set #[] 0 (.fresh 0 0 led)})(hz:intAt us ns)(hn:us.size=ns.length)(hb:us.size<4000)(hh:∀x∈ns,hashInt x=x)(h:∀(h':ϫ)(tk:Nat),cM led h' S (Ϛ ns)->(∀b o,b≠S->s.heap.get? b=some o->h'.get? b=some o)->Q .none {s with heap:=h',toks:=tk}):codeAny (Ϧ prog w) A (.call (.builtin "set.__init__") ⟨[.ref S,.ref l],[]⟩) (wants Q E) s:=by
 have hT:s.TypeIs (.ref S) "set":=⟨_,hS,rfl⟩;refine aly F.called_set.init.plain F.entry_set_init (check_set_init_1 hT ?_);have hl0:=hl;obtain⟨⟨oc,od,odata,os⟩,hol,hc,nl,hd⟩:=hl;simp only at hc hd;subst hc hd;have f1:=F.sub_list_set;have f2:=F.sub_list_frozenset;have f3:(Value.type "list"==Value.type "dict")=false:=by decide
 unfold amw.«set.__init__» noKeywords Builtin.Frozenset.updateFrom;generalize hPI:pyIter=PI
 wp_walk
 subst hPI;refine anB hl0 (ϧ (wpAny_runValue ?_));have lS:S<s.heap.objs.size:=ϴ hS;have ll:l<s.heap.objs.size:=ϴ hol;have h3:A.in1.in1.handled=none:=by simp[h0]
 have hlS:S≠l:=λe=>by subst e;rw[hS]at hol;simp at hol
 refine Zu (us:=us) ((Walks.list h3 _ l (acT ll) us).toS) S (by simp only[List.mem_cons,List.not_mem_nil,or_false,not_or];exact⟨acT lS,hlS⟩) hz hn hb hh us.size 0 {s with heap:=s.heap.push {cls:=.type "list_iterator",data:=.fields #[.ref l,.int 0 0]}} (by omega)
  ⟨⟨_,acM _ rfl,rfl,rfl⟩,(hl0.push _)⟩ (cM.new led (Heap.get?_push_of_some _ hS)) ?_
 intro s' hm ts;obtain⟨h',g',d',tk',os'⟩:=s';have eg:g'=s.gens:=hm.gens;have ed:d'=s.drawn:=hm.drawn;have eo:os'=s.os:=hm.os;subst eg ed eo;refine ϭ ?_;show ν _ _ (ret Value.none) _ _ _;refine ϭ (h h' tk' ts λb o hb e=>?_);refine hm.heap b o ?_ (Heap.get?_push_of_some _ e);simp only[List.mem_cons,List.not_mem_nil,or_false,not_or];exact⟨hb,acT (ϴ e)⟩
theorem aeC{l:δ}{Q:ε->μ->Prop}(h0:A.handled=none)(hl:s.heap.IsList l us)(hz:intAt us ns)(hn:us.size=ns.length)(hb:us.size<4000)(hh:∀x∈ns,hashInt x=x)(h:∀(h':ϫ)(tk:Nat),cM (dF w) h' s.heap.objs.size (Ϛ ns)->(∀b o,s.heap.get? b=some o->h'.get? b=some o)->Q (.ref s.heap.objs.size) {s with heap:=h',toks:=tk}):ν (Ϧ prog w) A (call (.type "set") [.ref l]) Q E s:=by
 obtain⟨c,tl,hmro⟩:=F.called_set.mro;have hmade:=F.called_set.made;have hsub:=F.called_set.sub;have h1:=F.called_set.notType;have h2:=F.called_set.canCreate;have hct:=F.typeCall_set_1 (.ref l);refine anu (codeAny_of_tree ?_);show ν _ _ (callAny (.type "set") _) _ _ _;refine ϭ ⟨Code.quiet_builtin _ (by decide+kernel),aki F.entry_type_call ?_⟩;rw[Around.under_plain (weight_type_call_type "set" [.ref l] []) rfl]
 repeat (any_goals (first|assumption|wp_step))
 refine akK (aeX (.ref l) (E:=E) (Q:=λobj s₁=>obj=.ref s.heap.objs.size/\s₁={s with heap:=newSet s.heap (dF w)}) ⟨rfl,rfl⟩) λr s₁ hr=>?_
 rcases r with e|(_|_|_|obj)
 all_goals first|exact hr|exact hr.elim|skip
 obtain⟨rfl,rfl⟩:=hr;have hS:(newSet s.heap (dF w)).get? s.heap.objs.size=some {cls:=.type "set",dict:=none,data:=.set #[] 0 (.fresh 0 0 (dF w))}:=acM _ rfl;have hT:Shared.TypeIs {s with heap:=newSet s.heap (dF w)} (.ref s.heap.objs.size) "set":=⟨_,hS,rfl⟩;have hli:=F.called_set.init.lookup;have hbi:=F.called_set.init.bind (.ref s.heap.objs.size)
 repeat (any_goals (first|assumption|wp_step))
 refine akK (ajJ (E:=E) (s:={s with heap:=newSet s.heap (dF w)}) (Q:=λr s₂=>r=.none/\∃h' tk,s₂={s with heap:=h',toks:=tk}/\cM (dF w) h' s.heap.objs.size (Ϛ ns)/\∀b o,s.heap.get? b=some o->h'.get? b=some o) (by simp[h0]) (hl.push _) hS hz hn hb hh λh' tk ts k=>⟨rfl,h',tk,rfl,ts,λb o e=>k b o (acT (ϴ e)) (Heap.get?_push_of_some _ e)⟩) λr₂ s₂ hr₂=>?_
 rcases r₂ with e|(_|_|_|r)
 all_goals first|exact hr₂|exact hr₂.elim|skip
 obtain⟨rfl,h',tk,rfl,ts,k⟩:=hr₂
 repeat (any_goals (first|assumption|wp_step))
 exact h _ _ ts k
end
end L2
namespace L2
open PySem PySem.Spec PyProof.Rows PySem.W
theorem pI:Slot "set_iterator" "__next__" "set_iterator.__next__":=
 .of (owner:="set_iterator") (n:="__next__") (by rw[typeLookup_type,builtinLookup_eq_fast];kernel_rfl) (by decide+kernel) (by decide+kernel) (by decide+kernel) (by first|exact .inl (by decide+kernel)|exact .inr (by decide+kernel)) (by rw[isSubtype_type];kernel_rfl)
theorem Od:Slot "set_iterator" "__iter__" "set_iterator.__iter__":=
 .of (owner:="set_iterator") (n:="__iter__") (by rw[typeLookup_type,builtinLookup_eq_fast];kernel_rfl) (by decide+kernel) (by decide+kernel) (by decide+kernel) (by first|exact .inl (by decide+kernel)|exact .inr (by decide+kernel)) (by rw[isSubtype_type];kernel_rfl)
theorem Oc:entryFor table "set_iterator.__next__"=some amw.«set_iterator.__next__» :=entryFor_of_tree (by kernel_rfl)
theorem aaz:entryFor table "set_iterator.__iter__"=some amw.«dict_keyiterator.__iter__» :=entryFor_alias (id':="dict_keyiterator.__iter__") (by kernel_rfl) rfl (by decide+kernel) (by kernel_rfl)
theorem ab5:entryFor table "set.__iter__"=some amw.«frozenset.__iter__» :=entryFor_alias (id':="frozenset.__iter__") (by kernel_rfl) rfl (by decide+kernel) (by kernel_rfl)
theorem Pu:Manifest.owners.lookup (String.ofList "rotareti_tes".toList.reverse)=some Manifest.sig_set_iterator:=by kernel_rfl
theorem Km(a:ε):argsOk "set_iterator.__next__" ⟨[a],[]⟩:=by
 unfold argsOk;rw[signature?_of (id:="set_iterator.__next__") (n:="__txen__".toList) (o:="rotareti_tes".toList) (by kernel_rfl) Pu];kernel_rfl
theorem aaj(a:ε):argsOk "set_iterator.__iter__" ⟨[a],[]⟩:=by
 unfold argsOk;rw[signature?_of (id:="set_iterator.__iter__") (n:="__reti__".toList) (o:="rotareti_tes".toList) (by kernel_rfl) Pu];kernel_rfl
theorem Mh{α:Type}(f:Nat->Nat):∀(n k:Nat)(l:List α)(out:Array α),l.length=n->(pickOrder.go f n k l out).toList.Perm (out.toList++l)
 |0,k,l,out,h=>by
  rw[aeG.mp h,List.append_nil];exact List.Perm.refl _
 |n+1,k,l,out,h=>by
  have hlt:f k % l.length<l.length:=anO _ (by omega);unfold pickOrder.go;rw[aak hlt];refine(Mh f n (k+1) _ _ (by rw[List.length_eraseIdx_of_lt hlt];omega)).trans ?_;rw[an5,anG];refine List.Perm.append_left _ ?_;rw[List.eraseIdx_eq_take_drop_succ];refine(List.perm_middle (l₁:=l.take (f k % l.length)) (l₂:=l.drop (f k % l.length+1)) (a:=l[f k % l.length])).symm.trans ?_;rw[<-List.drop_eq_getElem_cons hlt,anK]
theorem ajO{α:Type}(f:Nat->Nat)(xs:Array α):(pickOrder f xs).toList.Perm xs.toList:=by
 have:=Mh f xs.size 0 xs.toList #[] (by simp);simpa [pickOrder]using this
structure d7(h:ϫ)(S:δ)(es:Array (Int×ε))(ep:Nat)(t:akr):Prop where
 at_:∃o,h.get? S=some o/\o.ExactSet/\o.data=.set es ep t
 fits:t.fits es.size=true
def ou(h:ϫ)(I S:δ)(slot i n ep:Nat):=∃o,h.get? I=some o/\o.cls=.type "set_iterator"/\o.data=.fields #[rawInt slot,rawInt i,.ref S,rawInt n,rawInt ep]
noncomputable def cD (w:Ϭ) (S:δ) (es:Array (Int×ε)) (ep:Nat):Array (Int×ε):=if w.params.followText "set-order"=true then pickOrder (w.params.setOrder S ep) es else es
def cC(w:Ϭ)(t:akr)(i:Nat):Nat:=if w.params.followText "set-order"=true then 0 else jd t i
section
variable{prog:ϯ}{w:Ϭ}{A:ϲ}{E:ε->μ->Prop}{s:μ}{S I:δ}{es:Array (Int×ε)}{ep:Nat}{t:akr}
theorem RN:(cD w S es ep).toList.Perm es.toList:=by
 unfold cD;split
 .exact ajO _ _
 .exact List.Perm.refl _
theorem vp:(cD w S es ep).size=es.size:=by simpa using(RN (w:=w) (S:=S) (es:=es) (ep:=ep)).length_eq
theorem aaE{Q:Array (Int×ε)->μ->Prop}(h:d7 s.heap S es ep t)(bt:w.params.followText "set-order"=true)(q:Q (cD w S es ep) s):ν (Ϧ prog w) A (setWalk S) Q E s:=by
 obtain⟨o,ho,hex,hd⟩:=h.at_;unfold setWalk;refine ϧ (anD ho hd h.fits ?_);unfold setsByText;refine ϧ (ϧ (ani (ϭ ?_)));show ν _ _ (if w.params.followText "set-order"=true then _ else _) _ _ _;rw[if_pos bt];refine ϧ (ani (ϭ ?_));unfold cD at q;rw[if_pos bt]at q;exact q
theorem Lf{i:Nat}{Q:Option (ε×Nat)->μ->Prop}(h:d7 s.heap S es ep t)(hl:w.params.followText "set-order"=false->t.led=true/\t.plain=true/\SetTable.below t.place (jd t i)=i)(hi:i<=es.size)(q:Q (((cD w S es ep)[i]?).map λe=>(e.2,cC w t (i+1))) s):ν (Ϧ prog w) A (setNext S (cC w t i) i ep) Q E s:=by
 obtain⟨o,ho,hex,hd⟩:=h.at_;unfold setNext;refine ϧ (anD ho hd h.fits ?_);unfold setsByText;refine ϧ (ϧ (ani (ϭ ?_)));show ν _ _ (if w.params.followText "set-order"=true then _ else _) _ _ _;by_cases bt:w.params.followText "set-order"=true
 .rw[if_pos bt];have e1:(ep !=ep)=false:=by simp
  simp only[e1,ajD,if_false];refine ϧ (aaE h bt (ϭ ?_));have e2:cC w t i=cC w t (i+1):=by unfold cC;rw[if_pos bt,if_pos bt]
  rw[e2];exact q
 .rw[if_neg bt];obtain⟨aiV,hpl,wO⟩:=hl (by simpa using bt);have es1:cC w t i=jd t i:=by unfold cC;rw[if_neg bt]
  have es2:cC w t (i+1)=jd t (i+1):=by unfold cC;rw[if_neg bt]
  have ew:cD w S es ep=es:=by unfold cD;rw[if_neg bt]
  rw[es2,ew]at q;rw[es1];have hps:t.place.size=es.size:=by
   have:=h.fits;simp only[SetTable.fits,aaV,beq_iff_eq]at this;exact this.1
  refine wpAny_ite_split (λz=>?_) (λ_=>?_)
  .exact absurd (show(!t.plain&&decide (es.size>1))=true from z) (by rw[hpl];exact abe)
  refine ϧ ?_;show ν _ _ (if(!t.led&& !es.isEmpty)=true then unsupported "set:maker-not-led" else pure ()) _ _ _;rw[aiV];refine ϭ (ϭ ?_);rw[wO];by_cases hlt:i<es.size
  .rw[alN hlt]at q⊢;rw[alN (show i<t.place.size by omega)];have e3:t.place.getD i 0=t.place[i]'(by omega):=by
    rw[Array.getD_eq_getD_getElem?,alN (show i<t.place.size by omega)];rfl
   have q':Q (some (es[i].2,t.place.getD i 0+1)) s:=q;rw[e3]at q';exact q'
  .rw[Array.getElem?_eq_none (by omega)]at q⊢;exact q
theorem Af{slot i n:Nat}(h:ou s.heap I S slot i n ep):s.TypeIs (.ref I) "set_iterator":=by
 obtain⟨o,ho,hc,_⟩:=h;exact⟨o,ho,hc⟩
theorem abn{slot i n:Nat}{Q:ε->μ->Prop}(h:ou s.heap I S slot i n ep)(q:Q (.ref I) s):ν (Ϧ prog w) A (pyIter (.ref I)) Q E s:=by
 have hT:=Af h;refine wpAny_pyIter_slot hT Od (alR Od hT aaz ?_ (aaj _));exact ϭ ⟨_,rfl,"set_iterator",_,hT,pI.lookup,q⟩
theorem ZS{i:Nat}{v:Int×ε}{Q:Option ε->μ->Prop}(h:d7 s.heap S es ep t)(hI:ou s.heap I S (cC w t i) i es.size ep)(hl:w.params.followText "set-order"=false->t.led=true/\t.plain=true/\SetTable.below t.place (jd t i)=i)(hv:(cD w S es ep)[i]?=some v)(q:∀h',ou h' I S (cC w t (i+1)) (i+1) es.size ep->akS I s.heap h'->Q (some v.2) {s with heap:=h'}):ν (Ϧ prog w) A (pyNext (.ref I)) Q E s:=by
 obtain⟨o,ho,hc,hd⟩:=id hI;obtain⟨oS,hoS,hex,hdS⟩:=h.at_;have hT:=Af hI;have hi:i<es.size:=by
  have:=(alp.mp hv).1;rw[vp]at this;exact this
 unfold pyNext;refine ϧ (wpAny_attempt (wpAny_callSpecial?_slot (name:=Str.ofString "__next__") hT pI (alR pI hT Oc ?_ (Km _))));unfold amw.«set_iterator.__next__»;refine ϧ (ϭ ?_);refine ϧ (wpAny_fieldsOf ho hd ?_);show ν _ _ (setEntries S>>=_) _ _ _;refine ϧ (wpAny_setEntries_of hoS hdS h.fits ?_);have e0:((es.size:Int) !=(es.size:Int))=false:=by simp
 simp only[rawInt,e0,ajD,if_false,anF];refine ϧ (Lf h hl (by omega) ?_);rw[hv];show ν _ _ (setField (.ref I) 0 (rawInt (cC w t (i+1):Nat))>>=_) _ _ _;refine ϧ (am0 ho hd (by simp) ?_);have ho1:=ad5 (Obj.mapFields (·.setIfInBounds 0 (rawInt (cC w t (i+1):Nat)))) ho (Obj.isFreed_of_fields (Obj.data_mapFields hd _));have hd1:=Obj.data_mapFields hd (·.setIfInBounds 0 (rawInt (cC w t (i+1):Nat)));show ν _ _ (setField (.ref I) 1 (rawInt ((i:Int)+1))>>=_) _ _ _;refine ϧ (am0 ho1 hd1 (by simp) ?_);have ho2:=ad5 (Obj.mapFields (·.setIfInBounds 1 (rawInt ((i:Int)+1)))) ho1 (Obj.isFreed_of_fields (Obj.data_mapFields hd1 _));have hd2:=Obj.data_mapFields hd1 (·.setIfInBounds 1 (rawInt ((i:Int)+1)));refine ϭ ⟨_,rfl,ϭ (q _ ⟨_,ho2,?_,?_⟩ ((Heap.SameBut.update ..).trans (Heap.SameBut.update ..)))⟩
 .rw[Obj.cls_mapFields,Obj.cls_mapFields];exact hc
 .rw[hd2];simp[rawInt]
end
section
variable{prog:ϯ}{w:Ϭ}{A:ϲ}{E:ε->μ->Prop}{s:μ}{S I:δ}{es:Array (Int×ε)}{ep:Nat}{t:akr}
def uf(w:Ϭ)(es:Array (Int×ε))(t:akr):Prop:=w.params.followText "set-order"=false->t.led=true/\t.plain=true/\∀i,i<=es.size->SetTable.below t.place (jd t i)=i
theorem aj7{Q:Option ε->μ->Prop}(h0:A.handled=none)(h:d7 s.heap S es ep t)(hI:ou s.heap I S (cC w t es.size) es.size es.size ep)(hl:uf w es t)(q:∀h',Heap.ExtBut I s.heap h'->Q none {s with heap:=h'}):ν (Ϧ prog w) A (pyNext (.ref I)) Q E s:=by
 obtain⟨o,ho,hc,hd⟩:=id hI;obtain⟨oS,hoS,hex,hdS⟩:=h.at_;have hT:=Af hI;unfold pyNext;refine ϧ (wpAny_attempt (wpAny_callSpecial?_slot (name:=Str.ofString "__next__") hT pI (alR pI hT Oc ?_ (Km _))));unfold amw.«set_iterator.__next__»;refine ϧ (ϭ ?_);refine ϧ (wpAny_fieldsOf ho hd ?_);show ν _ _ (setEntries S>>=_) _ _ _;refine ϧ (wpAny_setEntries_of hoS hdS h.fits ?_);have e0:((es.size:Int) !=(es.size:Int))=false:=by simp
 simp only[rawInt,e0,ajD,if_false,anF];refine ϧ (Lf h (λz=>⟨(hl z).1,(hl z).2.1,(hl z).2.2 _ (Ϯ _)⟩) (Ϯ _) ?_);rw[Array.getElem?_eq_none (by rw[vp];exact Ϯ _)];show ν _ _ (setField (.ref I) 2 .none>>=_) _ _ _;refine ϧ (am0 ho hd (by simp) ?_);show ν _ _ (newExc (.type "StopIteration") []>>=_) _ _ _;simp only[newExc,newTuple,raiseNew];refine ϧ (ϧ (ak3 ?_ (by size_fits)));refine ϧ (m:=firstArgMember _ _) (wpAny_of_eq (a:=Value.none) (by first|rfl|(simp only[firstArgMember];rfl)) (ak3 ?_ (by size_fits)));refine ϧ (wpAny_handled ?_);rw[show A.in1.handled=none from h0];refine ϧ (ϭ (wpAny_throw ?_));refine ϧ (wpAny_isInstance (T:="StopIteration") (b:=true) ⟨_,acM _ rfl,rfl⟩ isSubtype_stop (ϭ ?_));exact q _ (((Heap.SameBut.update ..).extBut.push _).push _)
theorem d7.stay{h h':ϫ}(x:d7 h S es ep t)(k:∀o,h.get? S=some o->h'.get? S=some o):d7 h' S es ep t:=by
 obtain⟨o,ho,r⟩:=x.at_;exact⟨⟨o,k _ ho,r⟩,x.fits⟩
theorem d7.type(h:d7 s.heap S es ep t):s.TypeIs (.ref S) "set":=by
 obtain⟨o,ho,hex,_⟩:=h.at_;exact⟨o,ho,hex.1⟩
theorem aeh(h0:A.handled=none)(Ϻ:S≠I)(hl:uf w es t):Walks prog w A I [I,S] [I] es.size (λi v=>∃e,(cD w S es ep)[i]?=some e/\v=e.2) (λi h=>ou h I S (cC w t i) i es.size ep/\d7 h S es ep t)where
 sub:=λb hb=>by simp at hb;simp[hb]
 frame:=λ_ _ _ st hk=>⟨let⟨o,ho,r⟩:=st.1;⟨o,hk I (by simp) o ho,r⟩,st.2.stay λo e=>hk S (by simp) o e⟩
 item:=λi s Q E hi st hQ=>by
  have hv:(cD w S es ep)[i]?=some ((cD w S es ep)[i]'(by rw[vp];exact hi)):=alN _;refine ZS st.2 st.1 (λz=>⟨(hl z).1,(hl z).2.1,(hl z).2.2 i (by omega)⟩) hv λh' hit' sb=>?_
  exact hQ _ h' s.toks ⟨_,hv,rfl⟩ ⟨hit',st.2.stay λo e=>by rw[sb.2 S Ϻ];exact e⟩ λb o hb e=>by rw[sb.2 b (λz=>hb (by simp[z]))];exact e
 done:=λs Q E st hQ=>aj7 h0 st.2 st.1 hl λh' he=>hQ h' s.toks λb o hb e=>he b o (λz=>hb (by simp[z])) e
 self:=λ_ _ _ _ st hQ=>abn st.1 hQ
theorem Wc{Q:ε->μ->Prop}(h:d7 s.heap S es ep t)(hl:uf w es t)(q:Q (.ref s.heap.objs.size) {s with heap:=s.heap.push {cls:=.type "set_iterator",data:=.fields #[rawInt 0,rawInt 0,.ref S,rawInt es.size,rawInt ep]}}):ν (Ϧ prog w) A (pyIter (.ref S)) Q E s:=by
 obtain⟨oS,hoS,hex,hdS⟩:=h.at_;refine wpAny_pyIter_slot h.type F.slot_set_iter (alR F.slot_set_iter h.type ab5 ?_ (F.args_set_iter_1 _));unfold amw.«frozenset.__iter__» Builtin.Frozenset.slot0 slotArgs Builtin.Frozenset.addrOf Builtin.Frozenset.sizeOf;simp only[List.isEmpty_nil,apb,ajD,if_false,List.length_nil,bne_self_eq_false];refine ϧ (ϧ (ϭ (ϭ ?_)));refine ϧ (ϧ (wpAny_setEntries_of hoS hdS h.fits (ϭ ?_)));have hdr:∀(Q':Bool->μ->Prop),Q' false s->ν (Ϧ prog w) A.in1 (setDrawn S) Q' (λe s'=>E e s') s:=λQ' hq=>by
  unfold setDrawn;refine ϧ (anD hoS hdS h.fits ?_);unfold setsByText;refine ϧ (ϧ (ani (ϭ (ϭ ?_))));show Q' (!w.params.followText "set-order"&&(!t.plain&&decide (es.size>1))) s;cases bt:w.params.followText "set-order" with
  |true=>exact hq
  |false=>rw[(hl bt).2.1];exact hq
 refine ϧ (hdr _ ?_);simp only[ajD,if_false];refine ϧ (ϭ ?_);refine ϧ (wpAny_setEpoch_of hoS hdS h.fits ?_);simp only[newFields];refine ϧ (ak3 (ϭ ⟨_,rfl,"set_iterator",_,⟨_,acM _ rfl,rfl⟩,pI.lookup,q⟩))
end
theorem aiH{prog:ϯ}{w:Ϭ}{A:ϲ}{E:ε->μ->Prop}{s:μ}{S:δ}{Q:Bool->μ->Prop}(hT:s.TypeIs (.ref S) "set")(h:Q false s):ν (Ϧ prog w) A (Builtin.List.listLengthHint (.ref S)) Q E s:=by
 unfold Builtin.List.listLengthHint;refine ϧ (wpAny_specialOf hT F.slot_set_len.lookup ?_);generalize hid:("set.__len__":String)=id0
 wp_delta
 rw[show splitId id0=some ("set","__len__")from by subst hid;decide+kernel];subst hid;refine ϧ (wpAny_isInstance (T:="set") (b:=true) hT (by rw[isSubtype_type];kernel_rfl) ?_);refine wpAny_ite_split (λz=>absurd z (by decide)) (λ_=>wpAny_ite_split (λ_=>?_) (λz=>absurd (by decide+kernel) z));exact ϧ (wpAny_typeOf hT (ϭ h))
theorem ajF{prog:ϯ}{w:Ϭ}{S:δ}{es:Array (Int×ε)}{ep:Nat}{t:akr}(hl:uf w es t):KdlSrc prog w "set" S S es.size (λi v=>∃e,(cD w S es ep)[i]?=some e/\v=e.2) (λh=>d7 h S es ep t)where
 type:=λ_ h=>h.type
 there:=λ_ h=>by obtain⟨o,ho,_⟩:=h.at_;exact⟨ϴ ho,ϴ ho⟩
 keep:=λ_ _ h k=>h.stay λo e=>k S (.inl rfl) o e
 notList:=by decide
 notTuple:=by decide
 hint:=λ_ _ _ _ h q=>aiH h.type q
 iter:=λA s h0 h=>⟨_,_,(λ_ _ q=>Wc h hl q),aeh h0 (by obtain⟨o,ho,_⟩:=h.at_;exact acT (ϴ ho)) hl,⟨⟨_,acM _ rfl,rfl,by unfold cC jd;simp⟩,h.stay λo e=>Heap.get?_push_of_some _ e⟩⟩
theorem MJ:∀(n:Nat)(U q:List Int),q.length<=n->q.Nodup->(∀x∈q,x∈U)->q∈pJ U n
 |0,U,q,h,_,_=>by rw[aeG.mp (Nat.le_zero.mp h)];simp[pJ]
 |n+1,U,[],_,_,_=>by simp[pJ]
 |n+1,U,a::q,h,hn,hu=>by
  have hn':=aiU.mp hn;have ih:=MJ n (U.filter (· !=a)) q (by simpa using h) hn'.2 λx hx=>akL.mpr ⟨hu x (abN _ hx),by simpa using λe=>hn'.1 (by rw[<-e];exact hx)⟩
  unfold pJ;refine abN _ (List.mem_flatMap.mpr ⟨a,hu a (acB ..),acL.mpr ⟨q,ih,rfl⟩⟩)
structure p6(U:List Int):Prop where
 len:U.length=5
 hash:∀x∈U,hashInt x=x
 good:((pJ U 5).all λq=>ye (bJ true q))=true
theorem acj:p6 [0,1,2,3,4]:=⟨rfl,by decide+kernel,by decide+kernel⟩
theorem aeI:p6 [1000000000,999999999,999999998,999999997,999999996]:=⟨rfl,by decide+kernel,by decide+kernel⟩
theorem Py{ns:List Int}:(Ϛ ns).Nodup:=by
 have:∀(n:Nat)(ks:List Int),ks.length=n->(Ϛ ks).Nodup:=λn=>by
  induction n with
  |zero=>intro ks h;rw[aeG.mp h];exact List.nodup_nil
  |succ n ih=>
   intro ks h;obtain⟨l,k,rfl⟩:∃l k,ks=l++[k]:=⟨_,_,(ae1 (aef h)).symm⟩;have ih:=ih l (by simpa using h);rw[mQ];split
   .exact ih
   .next hk=>exact alf.mpr ⟨ih,by simp,λa ha b hb e=>hk (by rw[<-ac8.mp hb, <-e];exact ha)⟩
 exact this _ ns rfl
theorem Ul(led:Bool)(q:List Int):(bJ led q).2.led=led:=by
 have st:∀(p:Array Int×akr)(h:Int),(gY p h).2.led=p.2.led:=λp h=>by
  have e1:(du p.2 p.1 h).2.1.led=p.2.led:=by
   unfold du;split
   .show(SetTable.orStandIn _ _).led=_;unfold SetTable.orStandIn;split <;>rfl
   .rfl
  unfold gY;split
  .unfold oH;split
   .next t' order e=>
    split
    .unfold SetTable.relaid SetTable.laid at e;cases e2:SetTable.layClean (SetTable.sizeAbove (SetTable.grown (du p.2 p.1 h).1.size)-1) (du p.2 p.1 h).1 with
     |none=>rw[e2]at e;cases e
     |some ow=>
      rw[e2]at e;have e3:=(Prod.mk.inj (Option.some.inj e)).1;rw[<-e3];exact e1
    .exact e1
   .exact e1
  .exact e1
 have:∀(l:List Int)(p:Array Int×akr),(l.foldl gY p).2.led=p.2.led:=λl=>by
  induction l with
  |nil=>intro p;rfl
  |cons a l ih=>intro p;rw[List.foldl_cons,ih,st]
 exact this q _
theorem Ko:∀{l m:List Int},l.Nodup->(∀x∈l,x∈m)->l.length<=m.length
 |[],m,_,_=>ajg _
 |a::r,m,h,s=>by
  have h':=aiU.mp h;have ha:=s a (acB ..);have hle:=Ko (l:=r) (m:=m.erase a) h'.2 λx hx=>(aor (λe=>h'.1 (by subst e;exact hx))).mpr (s x (abN _ hx))
  rw[an6 ha]at hle;have:=aoh ha;rw[List.length_cons];omega
section
variable{X:Cx}{H:Hp}{Q:VK}{ns U:List Int}
def jh(X:Cx)(S:δ)(q:List Int):HO:=.ext λh=>cM (dF X.w) h S q
theorem aar{q:δ}(hc:X.calm=true)(h:θ X.K H q (ns.map V.int))(hz:ns.length<1000)(F:p6 U)(hu:∀x∈ns,x∈U)(g:∀S,H S=none->Q (.ref S) (upd H S (jh X S (Ϛ ns)))):CL X (.type "set") [.ref q] H Q:=by
 refine c7 (r:=λxs H Q=>∃q ns,xs=[.ref q]/\θ X.K H q (ns.map V.int)/\ns.length<1000/\(∀x∈ns,hashInt x=x)/\∀S,H S=none->Q (.ref S) (upd H S (jh X S (Ϛ ns)))) ?_ ⟨q,ns,rfl,h,hz,λx hx=>F.hash x (hu x hx),g⟩;clear g hz hu h;intro ϵ s σ H xs us Q I r h;obtain⟨q,ns,rfl,h,hz,hh,g⟩:=h;obtain⟨u,rfl,ru⟩:=vals1 r;cases(show u=Value.ref q from ru);obtain⟨ϸ,rv,pl,_⟩:=I.list h;have hl:ϸ.length=ns.length:=by have:=rv.length;rw[ϱ]at this;exact this.symm
 have hat:intAt ϸ.toArray ns:=λi v e=>by
  have e':ϸ[i]?=some v:=by simpa using e
  have hi:i<ns.length:=by rw[<-hl];exact(aaF.mp e').1
  obtain⟨u,e1,e2⟩:=rv.get (i:=i) (x:=V.int ns[i]) (by simp[hi]);rw[e']at e1;cases e1;obtain⟨t,rfl⟩:=e2;exact⟨t,ns[i],rfl,aak hi⟩
 refine aeC (I.ok.hd hc) pl.isList hat (by simpa using hl) (by simp;omega) hh λh' tk ts k=>?_
 refine⟨.ref s.heap.objs.size,_,I.laid (t':=tk) (o:=jh X s.heap.objs.size (Ϛ ns)) k (Ϯ _) ⟨ts,?_,λh1 h2 ts hk=>ts.stay hk⟩,rfl,g _ (I.hok.fresh (Ϯ _))⟩;obtain⟨o,es,ep,ho,_⟩:=ts;exact⟨o,ho⟩
theorem abf{S:δ}(hc:X.calm=true)(e:H S=some (jh X S (Ϛ ns)))(F:p6 U)(hu:∀x∈ns,x∈U)(g:∀(p:δ)(ks':List Int),H p=none->ks'.Perm (Ϛ ns)->ks'.Pairwise (· <= ·)->Q (.ref p) (upd H p (.lst (ks'.map V.int)))):CL X (.builtin "sorted") [.ref S] H Q:=by
 have hn:=Py (ns:=ns);have hm:∀x∈Ϛ ns,x∈U:=λx hx=>hu x ((qH _ ns rfl x).mp hx)
 have h5:(Ϛ ns).length<=5:=by have:=Ko hn hm;rw[F.len]at this;exact this
 have hg:ye (bJ true (Ϛ ns))=true:=ady.mp F.good _ (MJ 5 U _ h5 hn hm);refine c7 (r:=λxs H Q=>∃(S:δ)(q:List Int),xs=[.ref S]/\H S=some (jh X S q)/\q.length<=5/\ye (bJ true q)=true/\∀(p:δ)(ks':List Int),H p=none->ks'.Perm q->ks'.Pairwise (· <= ·)->Q (.ref p) (upd H p (.lst (ks'.map V.int)))) ?_ ⟨S,Ϛ ns,rfl,e,h5,hg,g⟩;clear g hg h5 hm hn hu e;intro ϵ s σ H xs us Q I r h;obtain⟨S,q,rfl,e,h5,hg,g⟩:=h;obtain⟨u,rfl,ru⟩:=vals1 r;cases ru;have hsz:=ϳ;obtain⟨⟨o,es,ep,ho,hex,hd,hm,hv,hp,hf⟩,_⟩:=I.hok S _ e;have hes:es.size=q.length:=by simpa using hp.length_eq
 have hE:d7 s.heap S es ep (bJ (dF X.w) q).2:=⟨⟨o,ho,hex,hd⟩,hf⟩;have hT:uf X.w es (bJ (dF X.w) q).2:=λbt=>by
  have el:dF X.w=true:=by unfold dF;rw[bt];rfl
  have hms:(bJ (dF X.w) q).1.size=es.size:=by rw[<-hm,alG]
  rw[el]at hms⊢;unfold ye at hg;rw[aaV,ady]at hg;exact⟨Ul true q,hg.1,λi hi=>by simpa using hg.2 i (alD.mpr (by omega))⟩
 have Ka:=RN (w:=X.w) (S:=S) (es:=es) (ep:=ep);have hws:=vp (w:=X.w) (S:=S) (es:=es) (ep:=ep);refine Calls.call_function_entry kind_sorted plain_sorted entry_sorted (args_sorted1 _) ?_;unfold amw.«sorted»;refine ϧ (m:=checkCount "sorted" 1 1 _) (ϭ ?_);refine ϧ (Ov (A:=X.A.in1) (ajF hT) (I.ok.hd hc) hE (by omega) λh' tk acc hgr hkeep hacc=>?_);have hal:acc.toList.length=es.size:=by rw[alS];exact hacc.1
 have hI:IntsAre acc.toList ((cD X.w S es ep).toList.map (·.1)):=by
  have hwl:((cD X.w S es ep).toList.map (·.1)).length=es.size:=by rw[ϱ,alS,hws]
  refine JN (by omega) λj v ev=>?_
  obtain⟨p,e1,e2⟩:=hacc.2 j v (by rw[<-anJ];exact ev);have e1':(cD X.w S es ep).toList[j]?=some p:=by rw[anJ];exact e1
  obtain⟨tk2,e3⟩:=hv p (Ka.mem_iff.mp (abG e1'));exact⟨p.1,tk2,by rw[acy,e1'];rfl,by rw[e2,e3]⟩
 have hmp:((cD X.w S es ep).toList.map (·.1)).Perm q:=(Ka.map (·.1)).trans hp;refine ϧ (wpAny_newList ?_ (by omega));have hoL:(h'.push (seqObj "list" acc.toList.toArray 0)).get? h'.objs.size=some (seqObj "list" acc.toList.toArray 0):=acM _ rfl;have hle:s.heap.objs.size<=h'.objs.size:=anT hgr;refine ϧ (ae5 (alR slot_list_sort ⟨_,hoL,rfl⟩ entry_list_sort (list_sort_tree hoL hI (by omega) λout ns' a1 a2 a3=>⟨_,rfl,?_⟩) (args_list_sort _)));refine ϭ ⟨_,rfl,?_⟩;obtain⟨c,hc'⟩:=JV (vs:=acc.toList) (out:=out) hoL;have a4:=a2.trans hmp;refine⟨.ref h'.objs.size,_,I.laid (t':=tk) (o:=.lst (ns'.map V.int)) (λb o eb=>Qe (acT (adz (ϴ eb) hle)) (Heap.get?_push_of_some _ (hkeep _ _ eb))) hle ⟨by rw[ϱ,a4.length_eq];omega,out.toList,c,Kh a1,by simpa using hc'⟩,rfl,g _ ns' (I.hok.fresh hle) a4 a3⟩
end
end L2
namespace L2
open PySem PySem.Spec PyProof.Rows PySem.SeqAt AutoSeq1
section
variable{X:Cx}{H:Hp}{Q:VK}{σ σ':St}{D:Ends}{pos spos py:Pos}{tg elt e c:π}{scope:ai8}{y:Str}{j:Nat}
end
end L2
set_option compiler.extract_closed false
seal L2.EV L2.ET L2.EW L2.EA L2.SX L2.Κ L2.EG L2.lQ L2.EI L2.OP L2.UN L2.CL L2.IX L2.SL L2.MT L2.EJ L2.jU L2.EH
local macro_rules | `(tactic| walk_at "nm") => `(tactic| refine L2.aaO (by rfl) ?_)
local macro_rules | `(tactic| walk_at "gc") => `(tactic| refine L2.ae8 (by assumption) (by rfl) ?_ (by decide))
local macro_rules | `(tactic| walk_at "ty") => `(tactic| refine L2.abH (by rfl) (by rfl) (by assumption) ?_)
local macro_rules | `(tactic| walk_at "cb") => `(tactic| refine L2.ai0 (by rfl) (by rfl) (by assumption) (by rfl) (by rfl) ?_)
local macro_rules | `(tactic| walk_at "ct") => `(tactic| refine L2.Vg (by rfl) (by rfl) (by assumption) (by rfl) (by rfl) ?_)
local macro_rules | `(tactic| walk_at "xo") => `(tactic| first | exact L2.Ν | assumption | exact L2.aai rfl)
local macro_rules | `(tactic| walk_at "po") => `(tactic| first | exact L2.agO | assumption | exact PySem.PassesOwn.never)
local macro_rules | `(tactic| walk_at "cl") => `(tactic| first
 |refine L2.ajV (by assumption) (by assumption) (by first|decide|omega) (by decide) (by rfl) (by walk_at"xo") (by decide) (by rfl) (by rfl) ?_
 |refine L2.amN (by assumption) (by assumption) (by first|decide|omega) (by decide) (by rfl) (by walk_at"xo") (by decide) ?_)
local macro_rules | `(tactic| walk_at "bm") => `(tactic| first
 |refine L2.cH PySem.F.plainAttrs_str PySem.F.slot_str_join PySem.F.type_str_join (h:=?_)
 |refine L2.cH PySem.F.plainAttrs_str PySem.F.slot_str_index PySem.F.type_str_index (h:=?_)
 |refine L2.cH PySem.F.plainAttrs_str PySem.F.slot_str_startswith PySem.F.type_str_startswith (h:=?_))
local macro_rules | `(tactic| walk_at "e") => `(tactic| first
 |((with_reducible show L2.EV _ _ _ _ _);first
  |((with_reducible show L2.EV _ (PySem.Expr.Name _ _) _ _ _);first|(walk_at"nm")|(walk_at"gc")|(walk_at"ty"))
  |(with_reducible first|refine L2.Xp ?_|refine L2.QZ ?_|refine L2.ZC ?_)
  |((with_reducible show L2.EV _ (PySem.Expr.Call _ _ _ _) _ _ _);first
   |((with_reducible show L2.EV _ (PySem.Expr.Call (PySem.Expr.Name _ _) _ _ _) _ _ _);first|(walk_at"cb")|(walk_at"ct")|(walk_at"cl"))
   |(walk_at"bm"))
  |((with_reducible show L2.EV _ (PySem.Expr.Compare _ [_] [_] _) _ _ _);refine L2.Vd (by first|exact L2.SM _ (by decide) (by decide)|rfl) ?_)
  |((with_reducible show L2.EV _ (PySem.Expr.Compare _ [_,_] [_,_] _) _ _ _);refine L2.VL (by with_unfolding_all rfl) ?_)
  |(with_reducible first|refine L2.afl ?_|refine L2.aes ?_|refine L2.WY ?_)
  |((with_reducible show L2.EV _ (PySem.Expr.Subscript _ _ _) _ _ _);refine L2.abL (λ_ _=>by rfl) ?_)
  |(with_reducible first|refine L2.NP ?_|refine L2.Wu ?_|refine L2.aeR ?_|refine L2.ace ?_|refine L2.Zo ?_|refine L2.Vy ?_|refine L2.Gy ?_|refine L2.YK ?_|refine L2.T4 ?_))
 |((with_reducible show L2.EA _ _ _ _ _);first
  |(with_reducible refine L2.dX ?_)
  |(refine L2.eF (by rfl) ?_))
 |((with_reducible show L2.ET _ _ _ _ _);first
  |((with_reducible show L2.ET _ (PySem.Expr.Compare _ [_] [_] _) _ _ _);refine L2.ab9 (by first|exact L2.SM _ (by decide) (by decide)|rfl) ?_)
  |((with_reducible show L2.ET _ (PySem.Expr.Compare _ [_,_] [_,_] _) _ _ _);refine L2.Yu (by with_unfolding_all rfl) ?_)
  |(with_reducible refine L2.af1 ?_)
  |((with_reducible show L2.ET _ (PySem.Expr.BoolOp _ _ _) _ _ _);refine L2.YX ?_)
  |((with_reducible first|show L2.ET _ (PySem.Expr.Name _ _) _ _ _|show L2.ET _ (PySem.Expr.Call _ _ _ _) _ _ _|show L2.ET _ (PySem.Expr.Subscript _ _ _) _ _ _|show L2.ET _ (PySem.Expr.Constant _ _ _) _ _ _);refine L2.RP (λ_=>by rfl) ?_))
 |((with_reducible show L2.EW _ _ _ _ _);with_reducible first|refine L2.afh ?_|refine L2.agN ?_|refine L2.XF ?_|refine L2.acY ?_)
 |((with_reducible show L2.EO _ _ _ _ _);with_reducible first|refine L2.Zk ?_|refine L2.acz ?_)
 |((with_reducible show L2.jU _ _ _ _ _ _);first
  |((with_reducible show L2.jU _ (PySem.Expr.Constant _ _ _::_) _ _ _ _);refine L2.Mf (L2.QZ ⟨_,200,rfl,by decide+kernel,by omega,?_⟩))
  |((with_reducible show L2.jU _ (PySem.Expr.FormattedValue _ _ _ _::_) _ _ _ _);refine L2.Mf ?_)
  |(refine L2.Z1 (by omega) ?_)))
local macro_rules | `(tactic| walk_at "o") => `(tactic| with_reducible first
 |refine L2.aaB ?_|refine L2.ai3 ?_|refine L2.ado ?_|refine L2.aj5 ?_|refine L2.afu ?_|refine L2.W8 ?_
 |refine L2.ajL ?_|refine L2.ai9 ?_|refine L2.ag1 ?_|refine L2.aiI ?_|refine L2.akm ?_|refine L2.aby ?_
 |refine L2.ag9 ?_|refine L2.ajS ?_|refine L2.alb ?_|refine L2.alU ?_)
local macro_rules | `(tactic| walk_at "o2") => `(tactic| first
 |((with_reducible show L2.OP _ (PySem.compareOp PySem.CmpOp.Eq) _ _ _ _);refine L2.Dw (by rfl) ?_)
 |((with_reducible show L2.OP _ (PySem.compareOp PySem.CmpOp.NotEq) _ _ _ _);refine L2.agy (by rfl) ?_)
 |((with_reducible show L2.OP _ (PySem.binaryOp PySem.Operator.Mod) (L2.V.int _) (L2.V.int _) _ _);refine L2.agZ (by first|decide|omega) ?_)
 |((with_reducible show L2.OP _ (PySem.binaryOp PySem.Operator.Mult) (L2.V.int _) (L2.V.int _) _ _);refine L2.WQ (by first|exact Or.inr ⟨by decide,by decide⟩|exact Or.inl ⟨by decide,by decide⟩|exact Or.inl ⟨by omega,by omega⟩|exact Or.inr ⟨by omega,by omega⟩) ?_)
 |((with_reducible show L2.OP _ (PySem.binaryOp PySem.Operator.Pow) (L2.V.int _) (L2.V.int _) _ _);refine L2.Gg ⟨by decide,by decide,by decide⟩ ?_)
 |((with_reducible show L2.CL _ (PySem.Value.builtin "len") [L2.V.ref _] _ _);refine L2.uA (Or.inl (by assumption)) ?_)
 |((with_reducible show L2.CL _ (PySem.Value.builtin "len") [L2.V.str _] _ _);refine L2.aci (by omega) ?_)
 |((with_reducible show L2.CL _ (PySem.Value.builtin "ord") [L2.V.str _] _ _);refine L2.amv ?_)
 |((with_reducible show L2.CL _ (PySem.Value.builtin "isinstance") _ _ _);first|refine L2.Rh (k:=false) ?_|refine L2.Rh (k:=true) ?_))
local macro_rules | `(tactic| walk_at "t") => `(tactic| first
 |(with_reducible refine L2.afp ?_)
 |(with_reducible refine L2.T3 ?_)
 |(with_reducible refine L2.agd ?_)
 |(with_reducible refine L2.abQ ?_)
 |(with_reducible first|refine L2.aaq ?_|refine L2.U4 ?_|refine L2.anh ?_|refine L2.ajQ ?_|refine L2.amS ?_|refine L2.alA ?_|refine L2.akY ?_|refine L2.alv ?_|refine L2.amM ?_|refine L2.ak6 ?_)
 |((with_reducible show ∃k,L2.V.bl _=L2.V.bl k/\_);refine⟨_,rfl,?_⟩)
 |((with_reducible show ∃k,L2.vK _ (L2.V.bl _) _ k/\_);refine⟨_,rfl,?_⟩)
 |((with_reducible show ∃i,L2.V.int _=L2.V.int i/\_);refine⟨_,rfl,?_⟩)
 |((with_reducible show L2.oh _ _ (L2.V.str _) _/\_);refine⟨by rfl,?_⟩))
local macro_rules | `(tactic| walk_at "s") => `(tactic| first
 |(with_reducible refine L2.Δ ?_)
 |(with_reducible refine L2.ο ?_)
 |(with_reducible refine L2.ξ ?_)
 |(with_reducible refine L2.Η ?_)
 |(with_reducible refine L2.aky ?_)
 |(with_reducible refine L2.akW ?_)
 |(with_reducible refine L2.Τ ?_)
 |((with_reducible show L2.SX _ (PySem.Stmt.Assign [PySem.Expr.Name _ _] _ _) _ _ _);refine L2.Uo (by assumption) (by rfl) (by first|exact Or.inl rfl|exact Or.inr rfl) (by rfl) (by first|exact Or.inl rfl|exact Or.inr rfl) ?_)
 |((with_reducible show L2.SX _ (PySem.Stmt.Expr _ _) _ _ _);refine L2.ϟ ?_))
local macro_rules | `(tactic| walk_at "go") => `(tactic| repeat' (first | (walk_at "e") | (walk_at "o") | (walk_at "o2") | (walk_at "t") | (walk_at "s")))
local macro_rules | `(tactic| walk_at "ex") => `(tactic| repeat' (first | (walk_at "e") | (walk_at "o") | (walk_at "o2") | (walk_at "t")))
namespace L2
theorem jC{α:Type}{us:List α}(h:us.length=1):∃a,us=[a]:=match us,h with|[a],_=>⟨a,rfl⟩
theorem jy{α:Type}{us:List α}(h:us.length=2):∃a b,us=[a,b]:=match us,h with|[a,b],_=>⟨a,b,rfl⟩
theorem YJ{α:Type}{us:List α}(h:us.length=3):∃a b c,us=[a,b,c]:=match us,h with|[a,b,c],_=>⟨a,b,c,rfl⟩
theorem ahW{α:Type}{us:List α}(h:us.length=4):∃a b c d,us=[a,b,c,d]:=match us,h with|[a,b,c,d],_=>⟨a,b,c,d,rfl⟩
theorem ZM{α:Type}{us:List α}(h:us.length=5):∃a b c d e,us=[a,b,c,d,e]:=match us,h with|[a,b,c,d,e],_=>⟨a,b,c,d,e,rfl⟩
end L2
local macro_rules | `(tactic| walk_at "b1") => `(tactic| (intro _ _ _ _ _ _ us hl; obtain ⟨_, e⟩ := L2.jC hl; subst e; rfl))
local macro_rules | `(tactic| walk_at "b2") => `(tactic| (intro _ _ _ _ _ _ us hl; obtain ⟨_, _, e⟩ := L2.jy hl; subst e; rfl))
local macro_rules | `(tactic| walk_at "b3") => `(tactic| (intro _ _ _ _ _ _ us hl; obtain ⟨_, _, _, e⟩ := L2.YJ hl; subst e; rfl))
local macro_rules | `(tactic| walk_at "b4") => `(tactic| (intro _ _ _ _ _ _ us hl; obtain ⟨_, _, _, _, e⟩ := L2.ahW hl; subst e; rfl))
local macro_rules | `(tactic| walk_at "b5") => `(tactic| (intro _ _ _ _ _ _ us hl; obtain ⟨_, _, _, _, _, e⟩ := L2.ZM hl; subst e; rfl))
local macro_rules | `(tactic| walk_at "bb") => `(tactic| first | walk_at "b1" | walk_at "b2" | walk_at "b3" | walk_at "b4" | walk_at "b5")
local macro_rules | `(tactic| walk_at "ln") => `(tactic| (intro _ _ _ _ h; repeat (first | (obtain ⟨e, _⟩ := h; exact congrArg List.length e) | (obtain ⟨_, h⟩ := h))))
local macro_rules | `(tactic| walk_at "A") => `(tactic| (refine L2.ξ ?_; walk_at "s"; walk_at "ex"))
namespace K67
open PySem L2 PyProof.Rows
def top(i:Nat):Ϩ:=PySem.Challenge.pw_turnleaf_k67_who_stood.main.body.getD i (.Pass ⟨0,0,0,0⟩)
abbrev IV:Ϩ:=top 23
abbrev DG:Ϩ:=top 24
abbrev Ow:Ϩ:=top 25
abbrev Qg:Ϩ:=top 26
abbrev MP:Ϩ:=top 27
abbrev Om:Ϩ:=top 28
abbrev HH:Ϩ:=top 29
abbrev Fg:Ϩ:=top 30
abbrev G7:Ϩ:=top 31
abbrev DK:Ϩ:=top 32
abbrev Sg:Ϩ:=top 33
abbrev M6:Ϩ:=top 38
abbrev Eb:Ϩ:=top 39
abbrev Ln:Ϩ:=top 40
abbrev Pj:Ϩ:=top 41
abbrev Fd:Ϩ:=top 42
abbrev IK:Ϩ:=top 47
abbrev xn:Ϩ:=top 48
abbrev Cm:Ϩ:=top 49
abbrev zK:Ϩ:=top 51
abbrev u5:Ϩ:=top 77
abbrev Qm:Ϩ:=top 78
abbrev PJ:Ϩ:=top 79
abbrev KZ:Ϩ:=top 80
abbrev K5:Ϩ:=top 81
abbrev Jl:Ϩ:=top 82
abbrev K4:Ϩ:=top 83
abbrev Ku:Ϩ:=top 84
abbrev Rp:Ϩ:=top 85
abbrev QF:Ϩ:=top 87
abbrev zQ:Ϩ:=top 88
abbrev CJ:Ϩ:=top 89
abbrev Ey:Ϩ:=top 91
abbrev KQ:Ϩ:=top 92
abbrev Td:Ϩ:=top 93
abbrev K8:Ϩ:=top 96
abbrev vC:Ϩ:=top 97
abbrev pK:Ϩ:=top 98
abbrev Bl:Ϩ:=top 99
abbrev Et:Ϩ:=top 100
abbrev Ip:Ϩ:=top 101
abbrev zg:Ϩ:=top 102
abbrev Ds:Ϩ:=top 103
abbrev KR:Ϩ:=top 104
abbrev rC:Ϩ:=top 105
abbrev rB:Ϩ:=top 106
abbrev yr:Ϩ:=top 107
abbrev pR:Ϩ:=top 108
abbrev Mm:Ϩ:=top 109
abbrev G3:Ϩ:=top 110
abbrev QB:Ϩ:=top 111
abbrev sI:Ϩ:=top 112
abbrev lN:Ϩ:=top 113
abbrev Hz:Ϩ:=inClass (top 7) 0
abbrev Tv:Ϩ:=inClass (top 9) 0
abbrev Qx:Ϩ:=inClass (top 8) 0
abbrev Te:Ϩ:=inClass (top 10) 0
abbrev Hw:Ϩ:=inClass (top 11) 0
abbrev vf:Ϩ:=inClass (top 53) 0
abbrev zN:Ϩ:=inClass (top 53) 1
abbrev Gq:Ϩ:=inClass (top 55) 0
abbrev BX:Ϩ:=inClass (top 55) 1
abbrev oG:Ϩ:=inClass (top 56) 0
abbrev oW:Ϩ:=inClass (top 56) 1
abbrev Dk:Ϩ:=inClass (top 56) 2
abbrev yH:Ϩ:=inClass (top 58) 0
abbrev Gd:Ϩ:=inClass (top 59) 0
abbrev yw:Ϩ:=inClass (top 60) 0
abbrev yC:Ϩ:=inClass (top 61) 0
abbrev Ac:Ϩ:=inClass (top 61) 1
abbrev xm:Ϩ:=inClass (top 62) 0
abbrev zP:Ϩ:=inClass (top 63) 0
abbrev El:Ϩ:=inClass (top 64) 0
abbrev Ga:Ϩ:=inClass (top 94) 0
abbrev yJ:Ϩ:=inClass (top 94) 1
abbrev Cw:Ϩ:=inClass (top 94) 2
abbrev G4:Ϩ:=inClass (top 94) 3
abbrev xR:Ϩ:=inClass (top 94) 4
abbrev yO:Ϩ:=inClass (top 94) 5
abbrev zj:Ϩ:=inClass (top 94) 6
abbrev Av:Ϩ:=inClass (top 94) 7
abbrev zV:Ϩ:=inClass (top 94) 14
abbrev Gk:Ϩ:=inClass (top 94) 15
abbrev zR:Ϩ:=inClass (top 94) 16
abbrev yp:Ϩ:=inClass (top 94) 17
structure Txt(K:ϩ)(mg:Str->Option ε):Prop where
 yf:DX K mg "is_whole" IV
 qd:DX K mg "made_of" DG
 GC:DX K mg "is_number_value" Ow
 xU:DX K mg "is_text_value" Qg
 Gf:DX K mg "is_value" MP
 vg:DX K mg "value_before" Om
 Dc:DX K mg "are_figures" HH
 Ho:DX K mg "read_figures" Fg
 yV:DX K mg "read_number_word" G7
 Ao:DX K mg "read_text_word" DK
 Dl:DX K mg "read_value" Sg
 za:DX K mg "is_name" M6
 zG:DX K mg "ask_columns" Eb
 ug:DX K mg "place_of" Ln
 Ar:DX K mg "is_row_number" Pj
 Bd:DX K mg "is_row" Fd
 Gu:DX K mg "read_order_word" IK
 yL:DX K mg "read_order" xn
 vU:DX K mg "key_of" Cm
 Ai:DX K mg "let_through" zK
 oV:DX K mg "word_at" u5
 j8:DX K mg "text_between" Qm
 yq:DX K mg "read_column" PJ
 Fo:DX K mg "read_word" KZ
 GK:DX K mg "read_none" K5
 Gv:DX K mg "read_of_value" Jl
 Cy:DX K mg "read_of_sieves" K4
 K1:DX K mg "read_part" Ku
 acP:DX K mg "read_sieve" Rp
 Aj:DX K mg "key_through" QF
 vd:DX K mg "stood" zQ
 zZ:DX K mg "sights" CJ
 zB:DX K mg "told_rows" Ey
 Bf:DX K mg "told_values" KQ
 Df:DX K mg "put_back" Td
 gG:DX K mg "_law_draw" K8
 Bw:DX K mg "_law_names" vC
 CT:DX K mg "_law_columns" pK
 v8:DX K mg "_law_value" Bl
 zF:DX K mg "_law_values" Et
 G9:DX K mg "_law_order" Ip
 GR:DX K mg "_law_order_text" zg
 Ek:DX K mg "_law_sieve" Ds
 Ea:DX K mg "_law_word" KR
 xY:DX K mg "_law_sieve_text" rC
 xr:DX K mg "_law_lets" rB
 Ed:DX K mg "_law_key" yr
 yM:DX K mg "_law_deed" pR
 Br:DX K mg "_law_kept" Mm
 By:DX K mg "_law_due" G3
 Bu:DX K mg "_law_asked" QB
 Bj:DX K mg "_law_are_sights" sI
 ajy:DX K mg "law" lN
 zu:Gc mg "NUMBER" (.str "number")
 Qn:Gc mg "TEXT" (.str "text")
 Up:Gc mg "FIGURES" (.str "0123456789")
 ahL:Gc mg "LETTERS" (.str "abcdefghijklmnopqrstuvwxyz")
 UG:Gc mg "TEXT_SIGNS" (.str "abcdefghijklmnopqrstuvwxyz0123456789-")
 Nv:Gc mg "LARGEST" (.int 1000000000000000000)
 Z3:Gc mg "LONGEST" (.int 20)
 acE:Gc mg "NONE_WORD" (.str "?")
 agM:Gc mg "TEXT_AHEAD" (.str "'")
 afS:Gc mg "BELOW_AHEAD" (.str "-")
 aeV:Gc mg "MOST_COLUMNS" (.int 6)
 afm:Gc mg "LONGEST_NAME" (.int 8)
 ahI:Gc mg "LARGEST_ROW" (.int 1000000000)
 age:Gc mg "MOST_IN_ORDER" (.int 4)
 Us:Gc mg "UP_AHEAD" (.str "+")
 abd:Gc mg "DOWN_AHEAD" (.str "-")
 VJ:Gc mg "MOST_WORDS" (.int 60)
 GX:Gc mg "MOST_WITHIN" (.int 20)
 Rr:Gc mg "ALL" (.str "all")
 Iu:Gc mg "NONE" (.str "none")
 zM:Gc mg "IS" (.str "is")
 Ah:Gc mg "UNDER" (.str "under")
 FJ:Gc mg "OVER" (.str "over")
 FW:Gc mg "HOLDS" (.str "holds")
 u9:Gc mg "NOT" (.str "not")
 wI:Gc mg "BOTH" (.str "both")
 Wv:Gc mg "EITHER" (.str "either")
 Nr:mg "all"=none
 ah0:mg "bool"=none
 aae:mg "dict"=none
 adu:mg "enumerate"=none
 Eu:mg "int"=none
 ux:mg "isinstance"=none
 cQ:mg "len"=none
 ji:mg "list"=none
 acu:mg "min"=none
 mX:mg "range"=none
 aiJ:mg "reversed"=none
 Ep:mg "set"=none
 uB:mg "sorted"=none
 Gx:mg "str"=none
 O8:mg "tuple"=none
 ahB:mg "zip"=none
 vM:mg "Sieve"=some (.ref (η mg "Sieve"))
 agt:mg "AllSieve"=some (.ref (η mg "AllSieve"))
 Uq:mg "NoneSieve"=some (.ref (η mg "NoneSieve"))
 Ue:mg "IsSieve"=some (.ref (η mg "IsSieve"))
 acQ:mg "UnderSieve"=some (.ref (η mg "UnderSieve"))
 adQ:mg "OverSieve"=some (.ref (η mg "OverSieve"))
 abD:mg "HoldsSieve"=some (.ref (η mg "HoldsSieve"))
 aiu:mg "NotSieve"=some (.ref (η mg "NotSieve"))
 aeq:mg "BothSieve"=some (.ref (η mg "BothSieve"))
 acK:mg "EitherSieve"=some (.ref (η mg "EitherSieve"))
 Ye:mg "Book"=some (.ref (η mg "Book"))
 Nk:oJ K mg "NoValue"
 rY:oJ K mg "NoColumns"
 w6:oJ K mg "NoOrder"
 qu:Bq K mg "LeafError"
 tD:XC K mg "LeafError" "Gone"
 xP:XC K mg "LeafError" "Later"
 vP:jq K mg "LeafError" "NoSieve" "NoSieve.__init__" "at" Hz
 wk:jq K mg "LeafError" "Absent" "Absent.__init__" "row" Tv
 xj:jq K mg "LeafError" "Twice" "Twice.__init__" "row" Qx
 ym:jq K mg "LeafError" "Gone" "Gone.__init__" "known" Te
 vY:jq K mg "LeafError" "Later" "Later.__init__" "now" Hw
 Yd:aeB K (.ref (η mg "Gone")) "known"=some none
 aaR:aeB K (.ref (η mg "Later")) "now"=some none
 Wr:[η mg "LeafError",η mg "NoColumns",η mg "NoValue",η mg "NoOrder",η mg "NoRow",η mg "NoSieve",η mg "Twice",η mg "Absent",η mg "Gone",η mg "Later"].Nodup
 Th:ϗ K (η mg "AllSieve")
 Wl:OI K (η mg "AllSieve") "Sieve.__init__" vf
 T8:OM K (η mg "AllSieve") "lets" "Sieve.lets" zN
 ajs:Ρ K (η mg "AllSieve") "text"
 Fz:ϗ K (η mg "NoneSieve")
 aiB:OI K (η mg "NoneSieve") "NoneSieve.__init__" Gq
 Uk:OM K (η mg "NoneSieve") "lets" "NoneSieve.lets" BX
 aj8:Ρ K (η mg "NoneSieve") "text"
 Jf:Ρ K (η mg "NoneSieve") "place"
 wj:ϗ K (η mg "IsSieve")
 ajk:OI K (η mg "IsSieve") "ValueSieve.__init__" oG
 aje:OM K (η mg "IsSieve") "fits" "ValueSieve.fits" Dk
 abi:OM K (η mg "IsSieve") "lets" "ValueSieve.lets" oW
 ac7:Ρ K (η mg "IsSieve") "text"
 Rg:Ρ K (η mg "IsSieve") "place"
 Hs:Ρ K (η mg "IsSieve") "value"
 wZ:ϗ K (η mg "UnderSieve")
 abz:OI K (η mg "UnderSieve") "ValueSieve.__init__" oG
 Z2:OM K (η mg "UnderSieve") "fits" "UnderSieve.fits" yH
 acA:OM K (η mg "UnderSieve") "lets" "ValueSieve.lets" oW
 Z7:Ρ K (η mg "UnderSieve") "text"
 Nt:Ρ K (η mg "UnderSieve") "place"
 M5:Ρ K (η mg "UnderSieve") "value"
 vH:ϗ K (η mg "OverSieve")
 ahG:OI K (η mg "OverSieve") "ValueSieve.__init__" oG
 ajh:OM K (η mg "OverSieve") "fits" "OverSieve.fits" Gd
 ajX:OM K (η mg "OverSieve") "lets" "ValueSieve.lets" oW
 abE:Ρ K (η mg "OverSieve") "text"
 JS:Ρ K (η mg "OverSieve") "place"
 Qa:Ρ K (η mg "OverSieve") "value"
 wU:ϗ K (η mg "HoldsSieve")
 aaf:OI K (η mg "HoldsSieve") "ValueSieve.__init__" oG
 Vv:OM K (η mg "HoldsSieve") "fits" "HoldsSieve.fits" yw
 afD:OM K (η mg "HoldsSieve") "lets" "ValueSieve.lets" oW
 adY:Ρ K (η mg "HoldsSieve") "text"
 HS:Ρ K (η mg "HoldsSieve") "place"
 Ir:Ρ K (η mg "HoldsSieve") "value"
 G8:ϗ K (η mg "NotSieve")
 aeU:OI K (η mg "NotSieve") "NotSieve.__init__" yC
 agv:OM K (η mg "NotSieve") "lets" "NotSieve.lets" Ac
 aiR:Ρ K (η mg "NotSieve") "text"
 Je:Ρ K (η mg "NotSieve") "one"
 wD:ϗ K (η mg "BothSieve")
 ajC:OI K (η mg "BothSieve") "PairSieve.__init__" xm
 W2:OM K (η mg "BothSieve") "lets" "BothSieve.lets" zP
 XR:Ρ K (η mg "BothSieve") "text"
 Jx:Ρ K (η mg "BothSieve") "one"
 JG:Ρ K (η mg "BothSieve") "other"
 wQ:ϗ K (η mg "EitherSieve")
 aab:OI K (η mg "EitherSieve") "PairSieve.__init__" xm
 aiP:OM K (η mg "EitherSieve") "lets" "EitherSieve.lets" El
 aj4:Ρ K (η mg "EitherSieve") "text"
 Q8:Ρ K (η mg "EitherSieve") "one"
 QC:Ρ K (η mg "EitherSieve") "other"
 aA:ϗ K (η mg "Book")
 ade:OI K (η mg "Book") "Book.__init__" Ga
 Oa:OM K (η mg "Book") "ask_row" "Book.ask_row" Cw
 Oe:OM K (η mg "Book") "ask_there" "Book.ask_there" G4
 acU:OM K (η mg "Book") "change" "Book.change" zj
 WR:OM K (η mg "Book") "columns" "Book.columns" yJ
 Ub:OM K (η mg "Book") "deeds" "Book.deeds" yp
 Di:OM K (η mg "Book") "do" "Book.do" xR
 Es:OM K (η mg "Book") "done_behind" "Book.done_behind" Gk
 abJ:OM K (η mg "Book") "let_go" "Book.let_go" zV
 aaa:OM K (η mg "Book") "put" "Book.put" yO
 X4:OM K (η mg "Book") "rows_at" "Book.rows_at" zR
 aiG:OM K (η mg "Book") "take" "Book.take" Av
 BZ:Ρ K (η mg "Book") "heads"
 uy:Ρ K (η mg "Book") "rows"
 Ik:Ρ K (η mg "Book") "touched"
 xF:Ρ K (η mg "Book") "done"
 Fe:Ρ K (η mg "Book") "known"
 DN:Ρ K (η mg "Book") "now"
 yj:OB K (η mg "Sieve") "__init__" "Sieve.__init__" vf
abbrev abF:List Str:=["self","text"]
theorem agu:Γ abF ["self","text"] (υ vf):=by walk_at"sc"
abbrev aau:List Str:=["self","values"]
theorem Xj:Γ aau ["self","values"] (υ zN):=by walk_at"sc"
abbrev af4:List Str:=["self","text","place"]
theorem WN:Γ af4 ["self","text","place"] (υ Gq):=by walk_at"sc"
abbrev ac0:List Str:=["self","values"]
theorem T5:Γ ac0 ["self","values"] (υ BX):=by walk_at"sc"
abbrev ahJ:List Str:=["self","text","place","value"]
theorem aeW:Γ ahJ ["self","text","place","value"] (υ oG):=by walk_at"sc"
abbrev ahf:List Str:=["self","values","value"]
theorem Lz:Γ ahf ["self","values"] (υ oW):=by walk_at"sc"
abbrev Wm:List Str:=["self","value"]
theorem ac9:Γ Wm ["self","value"] (υ Dk):=by walk_at"sc"
abbrev U6:List Str:=["self","value"]
theorem adh:Γ U6 ["self","value"] (υ yH):=by walk_at"sc"
abbrev Zi:List Str:=["self","value"]
theorem aiF:Γ Zi ["self","value"] (υ Gd):=by walk_at"sc"
abbrev Xk:List Str:=["self","value"]
theorem aa3:Γ Xk ["self","value"] (υ yw):=by walk_at"sc"
abbrev ahM:List Str:=["self","text","one"]
theorem Ym:Γ ahM ["self","text","one"] (υ yC):=by walk_at"sc"
abbrev aag:List Str:=["self","values"]
theorem aaG:Γ aag ["self","values"] (υ Ac):=by walk_at"sc"
abbrev XM:List Str:=["self","text","one","other"]
theorem ahr:Γ XM ["self","text","one","other"] (υ xm):=by walk_at"sc"
abbrev ahy:List Str:=["self","values"]
theorem aju:Γ ahy ["self","values"] (υ zP):=by walk_at"sc"
abbrev aey:List Str:=["self","values"]
theorem aid:Γ aey ["self","values"] (υ El):=by walk_at"sc"
abbrev aiL:List Str:=["self","columns"]
theorem Xb:Γ aiL ["self","columns"] (υ Ga):=by walk_at"sc"
abbrev YQ:List Str:=["self"]
theorem aeE:Γ YQ ["self"] (υ yJ):=by walk_at"sc"
abbrev ahb:List Str:=["self","row","values"]
theorem aa6:Γ ahb ["self","row","values"] (υ Cw):=by walk_at"sc"
abbrev Zt:List Str:=["self","row"]
theorem ad0:Γ Zt ["self","row"] (υ G4):=by walk_at"sc"
abbrev af9:List Str:=["self","row","values","was"]
theorem RG:Γ af9 ["self","row","values"] (υ xR):=by walk_at"sc"
abbrev aat:List Str:=["self","row","values"]
theorem aiW:Γ aat ["self","row","values"] (υ yO):=by walk_at"sc"
abbrev aga:List Str:=["self","row","values"]
theorem ahw:Γ aga ["self","row","values"] (υ zj):=by walk_at"sc"
abbrev ajR:List Str:=["self","row"]
theorem Um:Γ ajR ["self","row"] (υ Av):=by walk_at"sc"
abbrev Xy:List Str:=["self","moment"]
theorem agJ:Γ Xy ["self","moment"] (υ zV):=by walk_at"sc"
abbrev afd:List Str:=["self","moment"]
theorem U7:Γ afd ["self","moment"] (υ Gk):=by walk_at"sc"
abbrev V1:List Str:=["self","moment","rows","deed"]
theorem KD:Γ V1 ["self","moment"] (υ zR):=by walk_at"sc"
abbrev abh:List Str:=["self","moment","behind"]
theorem Ni:Γ abh ["self","moment"] (υ yp):=by walk_at"sc"
abbrev aja:List Str:=["self","at"]
theorem Vx:Γ aja ["self","at"] (υ Hz):=by walk_at"sc"
abbrev agE:List Str:=["self","row"]
theorem adw:Γ agE ["self","row"] (υ Tv):=by walk_at"sc"
abbrev Vf:List Str:=["self","row"]
theorem abq:Γ Vf ["self","row"] (υ Qx):=by walk_at"sc"
abbrev Vi:List Str:=["self","known"]
theorem af0:Γ Vi ["self","known"] (υ Te):=by walk_at"sc"
abbrev Ut:List Str:=["self","now"]
theorem ad4:Γ Ut ["self","now"] (υ Hw):=by walk_at"sc"
abbrev abt:List Str:=["value"]
theorem afA:Γ abt ["value"] (υ IV):=by walk_at"sc"
abbrev ad9:List Str:=["text","signs"]
theorem adU:Γ ad9 ["text","signs"] (υ DG):=by walk_at"sc"
abbrev aif:List Str:=["value"]
theorem abZ:Γ aif ["value"] (υ Ow):=by walk_at"sc"
abbrev ahx:List Str:=["value"]
theorem UJ:Γ ahx ["value"] (υ Qg):=by walk_at"sc"
abbrev aa1:List Str:=["kind","value"]
theorem ahS:Γ aa1 ["kind","value"] (υ MP):=by walk_at"sc"
abbrev agh:List Str:=["one","other"]
theorem ahm:Γ agh ["one","other"] (υ Om):=by walk_at"sc"
abbrev Vo:List Str:=["word"]
theorem TY:Γ Vo ["word"] (υ HH):=by walk_at"sc"
abbrev afc:List Str:=["word","most","number"]
theorem Tn:Γ afc ["word","most"] (υ Fg):=by walk_at"sc"
abbrev Vw:List Str:=["word","below","number"]
theorem IW:Γ Vw ["word"] (υ G7):=by walk_at"sc"
abbrev Y5:List Str:=["word"]
theorem JM:Γ Y5 ["word"] (υ DK):=by walk_at"sc"
abbrev X7:List Str:=["kind","word"]
theorem YW:Γ X7 ["kind","word"] (υ Sg):=by walk_at"sc"
abbrev Wk:List Str:=["name"]
theorem aee:Γ Wk ["name"] (υ M6):=by walk_at"sc"
abbrev aaK:List Str:=["columns","name","kind","names"]
theorem O6:Γ aaK ["columns"] (υ Eb):=by walk_at"sc"
abbrev Xl:List Str:=["columns","name","place","column"]
theorem Kr:Γ Xl ["columns","name"] (υ Ln):=by walk_at"sc"
abbrev Zn:List Str:=["row"]
theorem Uj:Γ Zn ["row"] (υ Pj):=by walk_at"sc"
abbrev afB:List Str:=["columns","row","values"]
theorem J8:Γ afB ["columns","row","values"] (υ Fd):=by walk_at"sc"
abbrev ajB:List Str:=["columns","word","sign","name"]
theorem Ph:Γ ajB ["columns","word"] (υ IK):=by walk_at"sc"
abbrev ZK:List Str:=["columns","text","words","order","names"]
theorem QV:Γ ZK ["columns","text"] (υ xn):=by walk_at"sc"
abbrev aht:List Str:=["columns","order","row","values"]
theorem Xa:Γ aht ["columns","order","row","values"] (υ Cm):=by walk_at"sc"
abbrev acr:List Str:=["sieve","rows"]
theorem agB:Γ acr ["sieve","rows"] (υ zK):=by walk_at"sc"
abbrev ahX:List Str:=["words","place"]
theorem ajx:Γ ahX ["words","place"] (υ u5):=by walk_at"sc"
abbrev abr:List Str:=["words","start","behind"]
theorem aaU:Γ abr ["words","start","behind"] (υ Qm):=by walk_at"sc"
abbrev abl:List Str:=["columns","words","place","column"]
theorem NZ:Γ abl ["columns","words","place"] (υ PJ):=by walk_at"sc"
abbrev X6:List Str:=["kind","words","place","word","value"]
theorem J0:Γ X6 ["kind","words","place"] (υ KZ):=by walk_at"sc"
abbrev agV:List Str:=["columns","words","start","column"]
theorem Tj:Γ agV ["columns","words","start"] (υ K5):=by walk_at"sc"
abbrev abk:List Str:=["columns","words","start","word","column","kind","value","text"]
theorem QS:Γ abk ["columns","words","start"] (υ Jl):=by walk_at"sc"
abbrev agQ:List Str:=["columns","words","start","within","word","one","behind","other","text"]
theorem pQ:Γ agQ ["columns","words","start","within"] (υ K4):=by walk_at"sc"
abbrev ajr:List Str:=["columns","words","start","within","word"]
theorem vZ:Γ ajr ["columns","words","start","within"] (υ Ku):=by walk_at"sc"
abbrev aeb:List Str:=["columns","text","words","sieve","behind"]
theorem Q5:Γ aeb ["columns","text"] (υ Rp):=by walk_at"sc"
abbrev Vq:List Str:=["columns","order","sieve","row","values"]
theorem acS:Γ Vq ["columns","order","sieve","row","values"] (υ QF):=by walk_at"sc"
abbrev afo:List Str:=["book","order","sieve","moment","columns","ordered","through","keys","row","values","made","was","now"]
theorem TJ:Γ afo ["book","order","sieve","moment"] (υ zQ):=by walk_at"sc"
abbrev ag2:List Str:=["told","times","sight"]
theorem MF:Γ ag2 ["told"] (υ CJ):=by walk_at"sc"
abbrev Wf:List Str:=["rows"]
theorem Xg:Γ Wf ["rows"] (υ Ey):=by walk_at"sc"
abbrev V9:List Str:=["values"]
theorem V2:Γ V9 ["values"] (υ KQ):=by walk_at"sc"
abbrev acx:List Str:=["rows","row","was"]
theorem ahA:Γ acx ["rows","row","was"] (υ Td):=by walk_at"sc"
abbrev WX:List Str:=["_law_script","_law_k","_law_many","_law_cell","_law_seed"]
theorem P0:Γ WX ["_law_script","_law_k","_law_many"] (υ K8):=by walk_at"sc"
abbrev Xm:List Str:=["_law_script","_law_many","_law_letters","_law_word_here","_law_size","_law_at","_law_first","_law_some","_law_k","_law_name","_law_sign"]
theorem KN:Γ Xm ["_law_script","_law_many"] (υ vC):=by walk_at"sc"
abbrev aeK:List Str:=["_law_script","_law_many","_law_names_here","_law_some"]
theorem Qh:Γ aeK ["_law_script"] (υ pK):=by walk_at"sc"
abbrev aib:List Str:=["_law_script","_law_k","_law_kind","_law_way","_law_cell","_law_sign"]
theorem Rq:Γ aib ["_law_script","_law_k","_law_kind"] (υ Bl):=by walk_at"sc"
abbrev Uw:List Str:=["_law_script","_law_k","_law_columns_here"]
theorem Yq:Γ Uw ["_law_script","_law_k","_law_columns_here"] (υ Et):=by walk_at"sc"
abbrev UW:List Str:=["_law_script","_law_k","_law_columns_here","_law_first","_law_order_here","_law_n","_law_name"]
theorem Jr:Γ UW ["_law_script","_law_k","_law_columns_here"] (υ Ip):=by walk_at"sc"
abbrev aia:List Str:=["_law_order_here"]
theorem abV:Γ aia ["_law_order_here"] (υ zg):=by walk_at"sc"
abbrev VG:List Str:=["_law_script","_law_k","_law_columns_here","_law_way","_law_at","_law_value_here"]
theorem LC:Γ VG ["_law_script","_law_k","_law_columns_here"] (υ Ds):=by walk_at"sc"
abbrev WK:List Str:=["_law_value_here"]
theorem Yi:Γ WK ["_law_value_here"] (υ KR):=by walk_at"sc"
abbrev O5:List Str:=["_law_sieve_here","_law_columns_here","_law_words"]
theorem CV:Γ O5 ["_law_sieve_here","_law_columns_here"] (υ rC):=by walk_at"sc"
abbrev Rj:List Str:=["_law_sieve_here","_law_values_here","_law_value_here"]
theorem Be:Γ Rj ["_law_sieve_here","_law_values_here"] (υ rB):=by walk_at"sc"
abbrev ack:List Str:=["_law_columns_here","_law_order_here","_law_one","_law_names_here"]
theorem PB:Γ ack ["_law_columns_here","_law_order_here","_law_one"] (υ yr):=by walk_at"sc"
abbrev aal:List Str:=["_law_script","_law_k","_law_columns_here","_law_book","_law_state","_law_row","_law_way","_law_values_here"]
theorem OJ:Γ aal ["_law_script","_law_k","_law_columns_here","_law_book","_law_state"] (υ pR):=by walk_at"sc"
abbrev ajY:List Str:=["_law_state","_law_rows","_law_row"]
theorem JP:Γ ajY ["_law_state"] (υ Mm):=by walk_at"sc"
abbrev ag6:List Str:=["_law_columns_here","_law_order_here","_law_sieve_here","_law_kept_here","_law_moment","_law_due_here","_law_row","_law_values_here","_law_stays","_law_rows"]
theorem Px:Γ ag6 ["_law_columns_here","_law_order_here","_law_sieve_here","_law_kept_here","_law_moment"] (υ G3):=by walk_at"sc"
abbrev aa9:List Str:=["_law_book","_law_texts","_law_moment","_law_found","e"]
theorem Ox:Γ aa9 ["_law_book","_law_texts","_law_moment"] (υ QB):=by walk_at"sc"
abbrev ajM:List Str:=["_law_script","_law_numbers","_law_some","_law_number","_law_due_here","_law_handed","_law_found"]
theorem Sv:Γ ajM ["_law_script"] (υ sI):=by walk_at"sc"
abbrev Aa:List Str:=["_law_script","_law_columns_here","_law_book","_law_order_here","_law_sieve_here","_law_texts","_law_state","_law_kept_here","_law_k","_law_moment","_law_found","_law_due_here","_law_oldest"]
theorem KY:Γ Aa ["_law_script"] (υ lN):=by walk_at"sc"
section
variable{P:ϯ}{w:Ϭ}{K:ϩ}{mg:Str->Option ε}{base:ϫ}{cc:Bool}{k:Nat}{sp:Sp}
theorem SN(T:Txt K mg){cc:Bool}:lE P w K mg base cc 1 "NoSieve" "at":=by
 refine uH T.vP Vx (by walk_at"b2") rfl (λf Ϲ A outer s H vs Q E hi hr h=>?_);obtain⟨e,n,rfl,hn,he,q⟩:=h;have hsz:=ϳ;refine ξ (ϟ ?_);refine rK (pl:=_) T.qu.toXBase ?_;walk_at"go";refine tK ?_;walk_at"e";refine⟨n,rfl,Vl.j5 hn,_,70,rfl,Vl.qt hn,by omega,?_⟩;walk_at"go";intro zz;refine dX (t8 hi he ?_);refine ο (tG T.vP.sa T.vP.xc T.vP.tk ?_);walk_at"e";walk_at"e";refine⟨e,rfl,he,λD hD cX=>q D _ cX hD (λb o hb r=>?_) ρ ?_⟩
 .rw[ι hb,ι (Θ r hD)];exact r
 .rw[ι cX,ρ]
theorem aad(T:Txt K mg){cc:Bool}:lE P w K mg base cc 1 "Absent" "row":=by
 refine uH T.wk adw (by walk_at"b2") rfl (λf Ϲ A outer s H vs Q E hi hr h=>?_);obtain⟨e,n,rfl,hn,he,q⟩:=h;have hsz:=ϳ;refine ξ (ϟ ?_);refine rK (pl:=_) T.qu.toXBase ?_;walk_at"go";refine tK ?_;walk_at"e";refine⟨n,rfl,Vl.j5 hn,_,70,rfl,Vl.qt hn,by omega,?_⟩;walk_at"go";intro zz;refine dX (t8 hi he ?_);refine ο (tG T.wk.sa T.wk.xc T.wk.tk ?_);walk_at"e";walk_at"e";refine⟨e,rfl,he,λD hD cX=>q D _ cX hD (λb o hb r=>?_) ρ ?_⟩
 .rw[ι hb,ι (Θ r hD)];exact r
 .rw[ι cX,ρ]
theorem aiw(T:Txt K mg){cc:Bool}:lE P w K mg base cc 1 "Twice" "row":=by
 refine uH T.xj abq (by walk_at"b2") rfl (λf Ϲ A outer s H vs Q E hi hr h=>?_);obtain⟨e,n,rfl,hn,he,q⟩:=h;have hsz:=ϳ;refine ξ (ϟ ?_);refine rK (pl:=_) T.qu.toXBase ?_;walk_at"go";refine tK ?_;walk_at"e";refine⟨n,rfl,Vl.j5 hn,_,70,rfl,Vl.qt hn,by omega,?_⟩;walk_at"go";intro zz;refine dX (t8 hi he ?_);refine ο (tG T.xj.sa T.xj.xc T.xj.tk ?_);walk_at"e";walk_at"e";refine⟨e,rfl,he,λD hD cX=>q D _ cX hD (λb o hb r=>?_) ρ ?_⟩
 .rw[ι hb,ι (Θ r hD)];exact r
 .rw[ι cX,ρ]
theorem aj1(T:Txt K mg){cc:Bool}:lE P w K mg base cc 1 "Gone" "known":=by
 refine uH T.ym af0 (by walk_at"b2") rfl (λf Ϲ A outer s H vs Q E hi hr h=>?_);obtain⟨e,n,rfl,hn,he,q⟩:=h;have hsz:=ϳ;refine ξ (ϟ ?_);refine rK (pl:=_) T.qu.toXBase ?_;walk_at"go";refine tK ?_;walk_at"e";refine⟨n,rfl,Vl.j5 hn,_,70,rfl,Vl.qt hn,by omega,?_⟩;walk_at"go";intro zz;refine dX (t8 hi he ?_);refine ο (tG T.ym.sa T.ym.xc T.ym.tk ?_);walk_at"e";walk_at"e";refine⟨e,rfl,he,λD hD cX=>q D _ cX hD (λb o hb r=>?_) ρ ?_⟩
 .rw[ι hb,ι (Θ r hD)];exact r
 .rw[ι cX,ρ]
theorem VB(T:Txt K mg){cc:Bool}:lE P w K mg base cc 1 "Later" "now":=by
 refine uH T.vY ad4 (by walk_at"b2") rfl (λf Ϲ A outer s H vs Q E hi hr h=>?_);obtain⟨e,n,rfl,hn,he,q⟩:=h;have hsz:=ϳ;refine ξ (ϟ ?_);refine rK (pl:=_) T.qu.toXBase ?_;walk_at"go";refine tK ?_;walk_at"e";refine⟨n,rfl,Vl.j5 hn,_,70,rfl,Vl.qt hn,by omega,?_⟩;walk_at"go";intro zz;refine dX (t8 hi he ?_);refine ο (tG T.vY.sa T.vY.xc T.vY.tk ?_);walk_at"e";walk_at"e";refine⟨e,rfl,he,λD hD cX=>q D _ cX hD (λb o hb r=>?_) ρ ?_⟩
 .rw[ι hb,ι (Θ r hD)];exact r
 .rw[ι cX,ρ]
end
end K67
namespace K67
open PySem L2 PyProof.Rows My Vl Lw
section
variable{P:ϯ}{w:Ϭ}{K:ϩ}{mg:Str->Option ε}{base:ϫ}
theorem gG(T:Txt K mg):Def P w K mg base true 1 "_law_draw" ["_law_script","_law_k","_law_many"] (aj6 K):=by
 refine Ο T.gG P0 (λ_ _ _ _ _ H vs Q E hr h=>?_);intro X;obtain⟨a,ns,k,m,rfl,hS,hl,hk0,hk1,hm,q⟩:=h;have n1:=T.cQ;have nd:=P0.nd;have cA:(ns.map V.int).length=ns.length:=ϱ ..;refine ξ ?_;walk_at"go";rw[cA];have fin:∀c:Int,c=xO ns k->Q (.int ((c % 1000003+31*k*k+1)*48271 % 999983*7919 % 524287 % m)) H:=λc e=>by rw[e];exact q
 refine Ζ (λh=>?_) (λh=>?_)
 .walk_at "go";rw[cA];walk_at"go";refine ϖ hS (Tg 0 (anA _ (by omega)) (amj _ (by omega))) ?_;walk_at"go";exact fin _ (by unfold xO;rw[if_pos (by omega)])
 .walk_at "go";exact fin _ (by unfold xO;rw[if_neg (by omega)])
theorem Jy:fU.cps.toList=List.range' 97 26:=by decide+kernel
theorem abR(c:Nat):c∈fU.cps.toList↔97<=c/\c<=122:=by
 rw[Jy,List.mem_range'_1];omega
theorem RM{k:Nat}(h:k<26):fU.cps.toList[k]?=some (97+k):=by
 rw[Jy,List.getElem?_range' h];simp
theorem afO{z:Str}(h1:1<=z.length)(h8:z.length<=8)(h:∀c∈z.cps.toList,97<=c/\c<=122):isName z=true:=by
 unfold isName dI;rw[aaV,decide_eq_true_eq,ady];exact⟨⟨h1,h8⟩,λc hc=>decide_eq_true ((abR c).mpr (h c hc))⟩
def bC(W:Str)(at_ size first:Nat)(b:Bool)(j:Nat):Str:=
 if b=true then Ϗ W none (some (at_:Int))++⟨#[97+(first+7*j) % 26]⟩++Ϗ W (some ((at_+1:Nat):Int)) (some (size:Int))else Ϗ W none (some ((j+1:Nat):Int))
theorem vh{W:Str}{at_ size first j:Nat}(hW:W.length=8)(ha:at_<size)(hs:size<=8):(bC W at_ size first true j).cps.toList=W.cps.toList.take at_++(97+(first+7*j) % 26)::(W.cps.toList.drop (at_+1)).take (size-(at_+1)):=by
 unfold bC;rw[if_pos rfl,cR,cR,yK,yx,HT.sH,HT.sH,hW,anz (by omega),anz (by omega),anG];rfl
theorem xX{W:Str}{at_ size first j:Nat}:(bC W at_ size first false j).cps.toList=W.cps.toList.take (j+1):=by
 unfold bC;rw[if_neg (by decide),yK]
theorem Xi{W:Str}{at_ size first j:Nat}{b:Bool}(hW:W.length=8)(ha:at_<size)(hs:size<=8)(hj:j<6):1<=(bC W at_ size first b j).length/\(bC W at_ size first b j).length<=8:=by
 have hl:=len_list W;rw[L2.len_list (bC W at_ size first b j)];cases b with
 |true=>
  rw[vh hW ha hs,adI,List.length_cons,afr,afr,afz];omega
 |false=>
  rw[xX,afr];omega
theorem U8{W:Str}{at_ size first j:Nat}{b:Bool}(hW:W.length=8)(ha:at_<size)(hs:size<=8)(hw:∀c∈W.cps.toList,97<=c/\c<=122):∀c∈(bC W at_ size first b j).cps.toList,97<=c/\c<=122:=by
 intro c hc;cases b with
 |true=>
  rw[vh hW ha hs]at hc;obtain h|h:=aei.mp hc
  .exact hw c (afU h)
  .obtain h|h:=acG.mp h
   .have :=anO (first+7*j) (show 0<26 by decide);omega
   .exact hw c (ajN (afU h))
 |false=>
  rw[xX]at hc;exact hw c (afU hc)
theorem adR{W:Str}{at_ size first i j:Nat}{b:Bool}(hW:W.length=8)(ha:at_<size)(hs:size<=8)(hi:i<6)(hj:j<6)(e:bC W at_ size first b i=bC W at_ size first b j):i=j:=by
 have hl:=len_list W;have e':=congrArg (λz:Str=>z.cps.toList) e;cases b with
 |true=>
  rw[vh hW ha hs,vh hW ha hs]at e';have h1:=(List.append_inj e' rfl).2;injection h1 with h2 _
  omega
 |false=>
  rw[xX,xX]at e';have:=congrArg anE e';rw[afr,afr]at this;omega
def ahD(K:ϩ):Sp:=λvs H Q _=>∃(a:δ)(ns:List Int)(m:Nat),vs=[.ref a,.int m]/\θ K H a (ns.map V.int)/\ns.length<=63/\m<=6/\∀(p:δ)(zs:List Str) H',ζ H H'->H p=none->H' p=some (.lst (zs.map V.str))->zs.length=m->zs.Nodup->(∀z∈zs,isName z=true)->Q (.ref p) H'
theorem Bw(T:Txt K mg):Def P w K mg base true 2 "_law_names" ["_law_script","_law_many"] (ahD K):=by
 refine Ο T.Bw KN (λ_ _ _ _ s H vs Q E hr h=>?_);intro X;obtain⟨a,ns,m,rfl,hS,hl,hm,q⟩:=h;have nd:=KN.nd;have n1:=T.mX;have hsz:=ϳ;have D1:= @gG P w K mg base T;have amJ:fU.length=26:=by decide+kernel
 refine ξ ?_;walk_at"go";refine Q4 ["_law_k","_law_letters","_law_script"] (σ':=[none,some (.str fU),some (.ref a)]) (bK (υ vC)) n1 ?_;walk_at"e";refine⟨8,rfl,by omega,by omega,λi v=>v=.str ⟨#[97+(Χ ns (100+(i:Int)) 26).toNat]⟩,λfp E' C s3 H0 i H2 hi sm=>?_,λE' H1 xs hE hl2 hx e2 Ε =>?_⟩
 .walk_at "go";refine⟨a,ns,100+i,26,rfl,sm.seq hS,hl,by omega,by omega,by decide,?_⟩;have h1:=aJ ns (100+i) (m:=26) (by decide);have h2:=aK ns (100+i) (m:=26) (by decide);refine p8 (by omega) (n:=97+(Χ ns (100+(i:Int)) 26).toNat) ?_ ⟨rfl,ζ.refl _⟩;have e:Χ ns (100+(i:Int)) 26=(((Χ ns (100+(i:Int)) 26).toNat:Nat):Int):=by omega
  have h3:=ϔ (RM (k:=(Χ ns (100+(i:Int)) 26).toNat) (by omega));rw[<-e]at h3;exact h3
 .have ex:=gb (ys:=ad6 8) (λi:Nat=>V.str ⟨#[97+(Χ ns (100+(i:Int)) 26).toNat]⟩) (by rw[hl2,ahl];rfl) (λi v e=>⟨i,?_,hx i v e⟩)
  .have lJ:xs=(((ad6 8).map λi:Nat=>97+(Χ ns (100+(i:Int)) 26).toNat).map λc=>(⟨#[c]⟩:Str)).map V.str:=by
    rw[ex,afK,afK];rfl
   subst lJ;walk_at"go";refine rE (θ.of e2) ?_ ?_
   .have e0:("":Str).length=0:=by decide+kernel
    rw[Ob,ϱ,ϱ,ahl,e0];omega
   rw[Kz];have hwl:(⟨((ad6 8).map λi:Nat=>97+(Χ ns (100+(i:Int)) 26).toNat).toArray⟩:Str).length=8:=by rw[L2.len_list];simp
   have Oi:∀c∈(⟨((ad6 8).map λi:Nat=>97+(Χ ns (100+(i:Int)) 26).toNat).toArray⟩:Str).cps.toList,97<=c/\c<=122:=λc hc=>by
    have hc':c∈(ad6 8).map λi:Nat=>97+(Χ ns (100+(i:Int)) 26).toNat:=by simpa using hc
    obtain⟨i,_,rfl⟩:=acL.mp hc';have h1:=aJ ns (100+i) (m:=26) (by decide);have h2:=aK ns (100+i) (m:=26) (by decide);omega
   generalize(⟨((ad6 8).map λi:Nat=>97+(Χ ns (100+(i:Int)) 26).toNat).toArray⟩:Str)=W at hwl Oi⊢;refine ξ ?_;walk_at"go";refine⟨a,ns,112,8,rfl,Ε.seq hS,hl,by decide,by decide,by decide,?_⟩;have s0:=aJ ns 112 (m:=8) (by decide);have s1:=aK ns 112 (m:=8) (by decide);obtain⟨sz,es⟩:∃sz:Nat,1+ Χ ns 112 8=(sz:Int):=⟨(1+ Χ ns 112 8).toNat,by omega⟩;walk_at"go";rw[es];refine⟨a,ns,113,_,rfl,Ε.seq hS,hl,by decide,by decide,by omega,?_⟩;have a0:=aJ ns 113 (m:=(sz:Int)) (by omega);have a1:=aK ns 113 (m:=(sz:Int)) (by omega);obtain⟨at_,ea⟩:=adK a0;rw[ea]at a1⊢;walk_at"go";refine⟨a,ns,114,26,rfl,Ε.seq hS,hl,by decide,by decide,by decide,?_⟩;have f0:=aJ ns 114 (m:=26) (by decide);have f1:=aK ns 114 (m:=26) (by decide);obtain⟨fi,ef⟩:=adK f0;rw[ef]at f1⊢;walk_at"go";refine⟨by show 0<=Ϫ;omega,λp hp=>?_⟩;have pn:H p=none:=Ε.free hp;have aG:ζ H (upd H1 p (.lst [])):=Ε.trans (ζ.upd hp);have ep:(upd H1 p (.lst [])) p=some (.lst []):=ρ;generalize upd H1 p (.lst [])=H2 at aG ep⊢;have yI:at_<sz:=by omega
   have Bm:sz<=8:=by omega
   refine ξ ?_;refine rT (by walk_at"po") (by rfl) (by rfl) n1 (by rfl) ?_;walk_at"go";refine⟨by omega,by omega,λi σ H'=>(∃o8 o9 aD,σ=[some (.ref a),some (.int m),some (.str fU),some (.str W),some (.int sz),some (.int at_),some (.int fi),some (.ref p),o8,o9,aD])/\ζ H H'/\H' p=some (.lst (((ad6 i).map (bC W at_ sz fi (decide (Χ ns 110 2=1)))).map V.str)),
    ⟨⟨none,none,none,rfl⟩,aG,ep⟩,λi σ H' hi hP=>?_,λσ H' hP=>?_⟩
   .obtain⟨⟨o8,o9,aD,rfl⟩,sm,ep'⟩:=hP
    have hi6:i<6:=by have:i<m:=by simpa using hi
                     omega
    refine Ι nd (by rfl) (.inl rfl) (.inl rfl) ?_
    have tail:∀(z:Str)(aD:Option V),z=bC W at_ sz fi (decide (Χ ns 110 2=1)) i->∀(bk:L2.St->Hp->Prop),Κ X ((ZL (tR (ϝ vC) 6)).drop 2)
      {nx:=λσ H'=>(∃o8 o9 aD,σ=[some (.ref a),some (.int m),some (.str fU),some (.str W),some (.int sz),some (.int at_),some (.int fi),some (.ref p),o8,o9,aD])/\ζ H H'/\H' p=some (.lst (((ad6 (i+1)).map (bC W at_ sz fi (decide (Χ ns 110 2=1)))).map V.str)),rt:=Q,bk:=bk,
       ct:=λσ H'=>(∃o8 o9 aD,σ=[some (.ref a),some (.int m),some (.str fU),some (.str W),some (.int sz),some (.int at_),some (.int fi),some (.ref p),o8,o9,aD])/\ζ H H'/\H' p=some (.lst (((ad6 (i+1)).map (bC W at_ sz fi (decide (Χ ns 110 2=1)))).map V.str))}
      [some (.ref a),some (.int m),some (.str fU),some (.str W),some (.int sz),some (.int at_),some (.int fi),some (.ref p),some (.int i),some (.str z),aD] H':=by
     intro z aD hz bk;refine ο (ϟ (cH F.plainAttrs_list F.slot_list_append F.type_list_append (h:=?_)));walk_at"go";refine⟨.inl ⟨rfl,_,θ.of ep'⟩,?_⟩;walk_at"go";refine dh fX ⟨p,_,_,rfl,rfl,ep',by rw[ϱ,ϱ,ahl];omega,?_⟩;refine⟨⟨_,_,_,rfl⟩,λb o e=>?_,?_⟩
     .rw[ι (Θ e pn)];exact sm _ _ e
     .rw[ρ,aon,agF,agF,hz];rfl
    refine ξ ?_;walk_at"go";refine jt ?_;walk_at"go";refine⟨a,ns,110,2,rfl,sm.seq hS,hl,by decide,by decide,by decide,?_⟩;walk_at"go";refine Ζ (λh=>?_) (λh=>?_)
    .have h':Χ ns 110 2=1:=by injection h
     have l1:=uw W none (some (at_:Int));have l2:=uw W (some ((at_:Int)+1)) (some (sz:Int));have ls:(⟨#[97+(fi+7*i) % 26]⟩:Str).length=1:=rfl;have l3:=len_app (Ϗ W none (some (at_:Int))) ⟨#[97+(fi+7*i) % 26]⟩;refine ξ ?_;walk_at"go";rw[show((fi:Int)+7*(i:Int)) % 26=(((fi+7*i) % 26:Nat):Int)by omega];refine p8 (by omega) (ϔ (RM (anO _ (by decide)))) ?_;refine ο ?_;walk_at"s";walk_at"go";refine jt ?_;walk_at"go";refine my (by omega) ?_;walk_at"go";refine jt ?_;refine my (by omega) ?_;refine tail _ _ ?_ _;unfold bC;rw[decide_eq_true h',if_pos rfl];rfl
    .have h':¬ Χ ns 110 2=1:=λe=>h (by rw[e])
     refine Δ (tail _ _ ?_ _);unfold bC;rw[decide_eq_false h',if_neg (by decide)];rfl
   .obtain⟨⟨o8,o9,aD,rfl⟩,sm,ep'⟩:=hP;rw[anF]at ep';generalize decide (Χ ns 110 2=1)=b at ep';have hnd:((ad6 m).map (bC W at_ sz fi b)).Nodup:=by
     unfold apk;rw[aoN];refine List.Pairwise.imp_of_mem (λ{x y} hx hy hxy e=>?_) (aoW (n:=m));have hx':=alD.mp hx;have hy':=alD.mp hy;exact hxy (adR hwl yI Bm (by omega) (by omega) e)
    have hnm:∀z∈(ad6 m).map (bC W at_ sz fi b),isName z=true:=λz hz=>by
     obtain⟨j,hj,rfl⟩:=acL.mp hz;have hj':=alD.mp hj;have:=Xi (first:=fi) (b:=b) hwl yI Bm (show j<6 by omega);exact afO this.1 this.2 (U8 hwl yI Bm Oi)
    have mL:((ad6 m).map (bC W at_ sz fi b)).length=m:=by rw[ϱ,ahl]
    generalize(ad6 m).map (bC W at_ sz fi b)=zs at ep' hnd hnm mL;refine ξ ?_;walk_at"go";refine⟨a,ns,111,2,rfl,sm.seq hS,hl,by decide,by decide,by decide,?_⟩;walk_at"go";refine Ζ (λh=>?_) (λh=>?_)
    .refine ο (ϟ (acD F.plainAttrs_list F.slot_list_reverse F.type_list_reverse (by rfl) (by rfl) ?_));walk_at"go";refine⟨.inl ⟨rfl,_,θ.of ep'⟩,?_⟩;refine dh ag0 ⟨p,_,rfl,rfl,ep',?_⟩;walk_at"go";rw[<-List.map_reverse];exact q p zs.reverse _ (λb o e=>by rw[ι (Θ e pn)];exact sm _ _ e) pn ρ (by rw[aov];exact mL) (List.pairwise_reverse.mpr (hnd.imp λh=>Ne.symm h)) (λz hz=>hnm z (aoV.mp hz))
    .walk_at "go";exact q p zs H' sm pn ep' mL hnd hnm
  .have :i<xs.length:=(aaF.mp e).1;rw[anr (by simp at hl2;omega)]
def nine:List Str:=[Str.ofString "all",Str.ofString "none",Str.ofString "is",Str.ofString "not",Str.ofString "over",Str.ofString "under",Str.ofString "holds",Str.ofString "both",Str.ofString "either"]
theorem ahR:∀z∈nine,isName z=true:=by decide+kernel
theorem aho:nine.Nodup:=by decide+kernel
theorem xJ{i:Nat}(h:i<9):nine[i]?=some (nine.getD i ""):=by
 have h9:i<nine.length:=h;rw[anj,aak h9];rfl
theorem adD{i j:Nat}(hi:i<9)(hj:j<9)(e:nine.getD i ""=nine.getD j ""):i=j:=by
 have e1:=xJ hi;have e2:=xJ hj;rw[e]at e1;have h9:i<nine.length:=hi;have g9:j<nine.length:=hj;have a1:nine[i]=nine.getD j "":=by
  have:=aak h9;rw[this]at e1;exact Option.some.inj e1
 have a2:nine[j]=nine.getD j "":=by
  have:=aak g9;rw[this]at e2;exact Option.some.inj e2
 exact(aoc aho).mp (a1.trans a2.symm)
theorem ajb{cs:List ς}(h1:1<=cs.length)(h6:cs.length<=6)(hn:(cs.map Prod.fst).Nodup)(h:∀c∈cs,isName c.1=true/\(c.2="number"\/c.2="text")):Ϙ cs=true:=by
 unfold Ϙ gA;rw[aaV,aaV,decide_eq_true_eq,decide_eq_true_eq,ady];exact⟨⟨⟨h1,h6⟩,λc hc=>by rw[(h c hc).1,decide_eq_true (h c hc).2];rfl⟩,hn⟩
def ab6(K:ϩ):Sp:=λvs H Q _=>∃(a:δ)(ns:List Int),vs=[.ref a]/\θ K H a (ns.map V.int)/\ns.length<=63/\∀p cs H',ζ H H'->H p=none->ϒ H' p cs->Ϙ cs=true->Q (.ref p) H'
theorem CT(T:Txt K mg):Def P w K mg base true 3 "_law_columns" ["_law_script"] (ab6 K):=by
 refine Ο T.CT Qh (λ_ _ _ _ s H vs Q E hr h=>?_);intro X;obtain⟨a,ns,rfl,hS,hl,q⟩:=h;have nd:=Qh.nd;have n1:=T.mX;have n2:=T.cQ;have hsz:=ϳ;have D1:= @gG P w K mg base T;have D2:= @Bw P w K mg base T;have eU:(["_law_k","_law_names_here","_law_script"]:List Str).Nodup:=by decide+kernel
 have fin:∀(m:Nat)(L:δ)(zs:List Str)(H1:Hp)(o3:Option V),1<=m->m<=6->ζ H H1->H1 L=some (.lst (zs.map V.str))->zs.length=m->zs.Nodup->(∀z∈zs,isName z=true)->
   Κ X ((ϝ pK).drop 4) {nx:=λ_ H'=>Q .non H',rt:=Q} [some (.ref a),some (.int m),some (.ref L),o3] H1:=by
  intro m L zs H1 o3 hm1 uQ Ε hL lV BW Bs;have yU:(zs.map V.str).length=zs.length:=ϱ ..;have SL:θ K H1 L (zs.map V.str):=θ.of hL;refine ο (Η ?_);refine Sh ["_law_k","_law_names_here","_law_script"] (σ':=[none,some (.ref L),some (.ref a)]) (bK (υ pK)) n1 ?_;walk_at"go";rw[yU];refine⟨by omega,by omega,λτ=>∃o1,τ=[o1,some (.ref L),some (.ref a)],λE2 i u H'=>∃kk:Str,(kk="number"\/kk="text")/\∃t,u=.ref t/\t≠E2/\H' t=some (.tup [.str (zs.getD i ""),.str kk]),⟨none,rfl⟩,λE2 i u H2 H3 ys _ y2 y3=>?_,λfp E2 C s3 H0 i τ x H4 H3 bU hi hτ Ξ hys hG=>?_,λL2 H2 ys hL2 hl2 hx2 e2 Λ =>?_⟩
  .obtain⟨kk,hk,t,rfl,ht,hq⟩:=y3;exact⟨kk,hk,t,rfl,ht,y2 _ _ ht hq⟩
  .obtain⟨o1,rfl⟩:=hτ;obtain⟨rfl,rfl⟩:=hG;have hi':i<zs.length:=by simpa using hi
   have hz:(zs.map V.str)[i]?=some (V.str (zs.getD i "")):=by
    rw[acy,anj,aak hi'];rfl
   refine Ι eU (by rfl) (.inl rfl) (.inr rfl) ?_;walk_at"go";refine ϖ (Ξ.seq SL) (ϔ hz) ?_;walk_at"go";refine⟨by show 2<=Ϫ;omega,λk hk=>?_⟩;obtain⟨wY,ek⟩:=ϊ hk (.lst [.str "number",.str "text"]);generalize upd H4 k (.lst [.str "number",.str "text"])=H5 at wY ek⊢;walk_at"go";refine⟨a,ns,10+i,2,rfl,((Ε.trans Ξ).trans wY).seq hS,hl,by omega,by omega,by decide,?_⟩;have k0:=aJ ns (10+i) (m:=2) (by decide);have k1:=aK ns (10+i) (m:=2) (by decide);obtain⟨kd,e1,e2⟩:=Ij (xs:=[V.str "number",V.str "text"]) k0 (by show _<(2:Int);omega);refine ϖ (θ.of ek) e1 ?_;walk_at"go";obtain⟨kk,rfl,hkk⟩:∃kk:Str,kd=.str kk/\(kk="number"\/kk="text"):=by
    obtain e|e:=acG.mp e2
    .exact⟨_,e,.inl rfl⟩
    .exact⟨"text",by simpa using e,.inr rfl⟩
   refine⟨by show 2<=Ϫ;omega,λtp htp=>?_⟩;refine⟨⟨_,rfl⟩,⟨kk,hkk,tp,rfl,λe=>?_,ρ⟩,wY.trans (ζ.upd htp)⟩;obtain⟨zs',hz'⟩:=hys;rw[e,wY _ _ hz']at htp;cases htp
  .have hyl:ys.length=zs.length:=by rw[hl2];simp
   have hex:∀(k:Nat)(ys:List V)(zs:List Str),ys.length=zs.length->(∀(i:Nat) u,ys[i]?=some u->∃kk:Str,(kk="number"\/kk="text")/\∃t,u=.ref t/\H2 t=some (.tup [.str (zs.getD i ""),.str kk]))->∃cs:List ς,ψ (ue H2) ys cs/\cs.map Prod.fst=zs/\∀c∈cs,c.2="number"\/c.2="text":=by
    intro _ ys;induction ys with
    |nil=>
     intro zs hl _;cases zs with
     |nil=>exact⟨[],.nil,rfl,λc hc=>by simp at hc⟩
     |cons _ _=>simp at hl
    |cons u ys ih=>
     intro zs hl h;cases zs with
     |nil=>simp at hl
     |cons z zs=>
      obtain⟨kk,hk,t,rfl,ht⟩:=h 0 u rfl;obtain⟨cs,h1,h2,h3⟩:=ih zs (by simpa using hl) λi u e=>by
       have:=h (i+1) u (by simpa using e);simpa using this
      refine⟨(z,kk)::cs,.cons ⟨t,rfl,by simpa using ht⟩ h1,by simp[h2],λc hc=>?_⟩;obtain e|e:=acG.mp hc
      .subst e;exact hk
      .exact h3 c e
   obtain⟨cs,h1,h2,h3⟩:=hex 0 ys zs hyl λi u e=>by
    obtain⟨kk,hk,t,e1,_,e3⟩:=hx2 i u e;exact⟨kk,hk,t,e1,e3⟩
   have hcl:cs.length=zs.length:=by rw[<-h2,ϱ]
   refine q L2 cs H2 (Ε.trans Λ) (Ε.free hL2) ⟨ys,e2,h1⟩ (ajb (by omega) (by omega) (by rw[h2];exact BW) λc hc=>⟨Bs _ ?_,h3 c hc⟩);rw[<-h2];exact List.mem_map_of_mem hc
 have mid:∀(m:Nat),1<=m->m<=6->Κ X ((ϝ pK).drop 2) {nx:=λ_ H'=>Q .non H',rt:=Q} [some (.ref a),some (.int m),none,none] H:=by
  intro m hm1 uQ;refine ξ ?_;walk_at"go";refine⟨a,ns,m,rfl,hS,hl,uQ,λL zs H1 Ε hLn hL lV BW Bs=>?_⟩;have yU:(zs.map V.str).length=zs.length:=ϱ ..;refine ξ ?_;walk_at"go";refine⟨a,ns,9,4,rfl,Ε.seq hS,hl,by decide,by decide,by decide,?_⟩;walk_at"go";refine Ζ (λh=>?_) (λh=>?_)
  .refine ξ ?_;walk_at"go";refine⟨by show 9<=Ϫ;omega,λy hy=>?_⟩;obtain⟨mV,ey⟩:=ϊ hy (.lst (nine.map V.str));change Κ _ _ _ _ (upd H1 y (.lst (nine.map V.str)));generalize upd H1 y (.lst (nine.map V.str))=H2 at mV ey⊢;have SL:θ K H2 L (zs.map V.str):=θ.of (mV _ _ hL);refine ο ?_;walk_at"s";refine Q4 ["_law_k","_law_script","_law_some"] (σ':=[none,some (.ref a),some (.ref y)]) (bK (υ pK)) n1 ?_;walk_at"go";rw[yU];have d0:=aJ ns 8 (m:=9) (by decide);have d1:=aK ns 8 (m:=9) (by decide);obtain⟨d,ed⟩:=adK d0;have hd:d<9:=by omega
   refine⟨by omega,by omega,λi v=>v=.str (nine.getD ((d+2*i) % 9) ""),λfp E' C s3 H0 i H3 hi sm=>?_,λE' H3 xs hE hl2 hx e2 sm=>?_⟩
   .walk_at "go";refine⟨a,ns,8,9,rfl,((Ε.trans mV).trans sm).seq hS,hl,by decide,by decide,by decide,?_⟩;rw[ed];walk_at"go";rw[show((d:Int)+2*(i:Int)) % 9=(((d+2*i) % 9:Nat):Int)by omega];have hg:(nine.map V.str)[(d+2*i) % 9]?=some (V.str (nine.getD ((d+2*i) % 9) "")):=by
     rw[acy,xJ (anO _ (by decide))];rfl
    exact ϖ (θ.of (sm _ _ ey)) (ϔ hg) ⟨rfl,ζ.refl _⟩
   .have ex:=gb (ys:=ad6 zs.length) (λi:Nat=>V.str (nine.getD ((d+2*i) % 9) "")) (by rw[hl2,ahl];simp) (λi v e=>⟨i,?_,hx i v e⟩)
    .have lJ:xs=((ad6 zs.length).map λi:Nat=>nine.getD ((d+2*i) % 9) "").map V.str:=by
      rw[ex,afK];rfl
     subst lJ;refine fin m E' _ H3 _ hm1 uQ ((Ε.trans mV).trans sm) e2 (by rw[ϱ,ahl];exact lV) ?_ λz hz=>?_
     .unfold apk;rw[aoN];refine List.Pairwise.imp_of_mem (λ{x y} hx hy hxy e=>?_) (aoW (n:=zs.length));have hx':=alD.mp hx;have hy':=alD.mp hy;have:=adD (anO _ (by decide)) (anO _ (by decide)) e;omega
     .obtain⟨i,_,rfl⟩:=acL.mp hz;have h9:(d+2*i) % 9<9:=anO _ (by decide);exact ahR _ (abG (xJ h9))
    .have :i<xs.length:=(aaF.mp e).1;rw[anr (by simp at hl2;omega)]
  .refine Δ ?_;exact fin m L zs H1 _ hm1 uQ Ε hL lV BW Bs
 refine ξ ?_;walk_at"go";refine⟨a,ns,0,4,rfl,hS,hl,by decide,by decide,by decide,?_⟩;have c0:=aJ ns 0 (m:=4) (by decide);have c1:=aK ns 0 (m:=4) (by decide);obtain⟨m,em⟩:∃m:Nat,1+ Χ ns 0 4=(m:Int):=⟨(1+ Χ ns 0 4).toNat,by omega⟩;walk_at"go";rw[em];refine⟨a,ns,7,8,rfl,hS,hl,by decide,by decide,by decide,?_⟩;walk_at"go";refine Ζ (λh=>?_) (λh=>?_)
 .refine ο ?_;walk_at"s";walk_at"go";refine⟨a,ns,6,2,rfl,hS,hl,by decide,by decide,by decide,?_⟩;have c2:=aJ ns 6 (m:=2) (by decide);have c3:=aK ns 6 (m:=2) (by decide);obtain⟨m',Xf⟩:∃m:Nat,5+ Χ ns 6 2=(m:Int):=⟨(5+ Χ ns 6 2).toNat,by omega⟩;walk_at"ex";rw[Xf];exact mid m' (by omega) (by omega)
 .exact Δ (mid m (by omega) (by omega))
def aB(kd:Str)(v:V):Prop:=v=.non\/(kd="number"/\∃i,v=.int i/\ -1000000000000000000<=i/\i<=1000000000000000000)\/(¬kd="number"/\∃z,v=.str z/\z.length<=20/\∀c∈z.cps.toList,c∈SG)
theorem aB.sc{kd:Str}{v:V}(h:aB kd v):scalar v=true:=by
 obtain rfl|⟨_,i,rfl,_⟩|⟨_,z,rfl,_⟩:=h<;>rfl
theorem aB.iH{kd:Str}{v:V}(h:aB kd v):iH v=true/\∀z,v=.str z->cj 4000 z:=by
 obtain rfl|⟨_,i,rfl,_⟩|⟨_,z,rfl,hl,hz⟩:=h
 .exact⟨rfl,λz e=>by cases e⟩
 .exact⟨rfl,λz e=>by cases e⟩
 .exact⟨rfl,λy e=>by cases e;exact cj.sg (by omega) hz⟩
def qj:List Str:=[Str.ofString "",Str.ofString "a",Str.ofString "b",Str.ofString "ab",Str.ofString "a-",Str.ofString "0",Str.ofString "z9",Str.ofString "aa"]
theorem Xd:∀z∈qj,z.length<=20/\∀c∈z.cps.toList,c∈SG:=by decide+kernel
def abm(K:ϩ):Sp:=λvs H Q _=>∃(a:δ)(ns:List Int)(k:Int)(kd:Str),vs=[.ref a,.int k,.str kd]/\θ K H a (ns.map V.int)/\ns.length<=63/\0<=k/\k<=50000/\∀v H',ζ H H'->aB kd v->Q v H'
theorem v8(T:Txt K mg):Def P w K mg base true 2 "_law_value" ["_law_script","_law_k","_law_kind"] (abm K):=by
 refine Ο T.v8 Rq (λ_ _ _ _ _ H vs Q E hr h=>?_);intro X;obtain⟨a,ns,k,kd,rfl,hS,hl,hk0,hk1,q⟩:=h;have nd:=Rq.nd;have n1:=T.cQ;have hsz:=ϳ;have cA:(ns.map V.int).length=ns.length:=ϱ ..;have D1:= @gG P w K mg base T;have tail:∀(way cell:Int),Κ X ((ϝ Bl).drop 3) {nx:=λ_ H'=>Q .non H',rt:=Q} [some (.ref a),some (.int k),some (.str kd),some (.int way),some (.int cell),none] H:=by
  intro way cell;refine ξ ?_;walk_at"go";refine Ζ (λh=>?_) (λh=>?_)
  .have hn:kd="number":=by injection h
   walk_at"go";refine Ζ (λh1=>?_) (λh1=>?_)
   .walk_at "go";refine⟨a,ns,k+1,3,rfl,hS,hl,by omega,by omega,by decide,?_⟩;have c0:=aJ ns (k+1) (m:=3) (by decide);have c1:=aK ns (k+1) (m:=3) (by decide);generalize Χ ns (k+1) 3=d at c0 c1⊢;walk_at"go";exact q _ _ (ζ.refl _) (.inr (.inl ⟨hn,_,rfl,by omega,by omega⟩))
   .walk_at "go";refine Ζ (λh2=>?_) (λh2=>?_)
    .walk_at "go";have c0:=anA cell (b:=2*1000000000000000000+1) (by decide);have c1:=amj cell (b:=2*1000000000000000000+1) (by decide);exact q _ _ (ζ.refl _) (.inr (.inl ⟨hn,_,rfl,by omega,by omega⟩))
    .walk_at "go";refine⟨a,ns,k+1,4,rfl,hS,hl,by omega,by omega,by decide,?_⟩;have c0:=aJ ns (k+1) (m:=4) (by decide);have c1:=aK ns (k+1) (m:=4) (by decide);generalize Χ ns (k+1) 4=d at c0 c1⊢;walk_at"go";exact q _ _ (ζ.refl _) (.inr (.inl ⟨hn,_,rfl,by omega,by omega⟩))
  .have hn:¬kd="number":=λe=>h (by rw[e])
   walk_at"go";refine Ζ (λh1=>?_) (λh1=>?_)
   .have z3:∀j,j<3->("z9-":Str).cps.toList[j]?=some (("z9-":Str).cps.toList.getD j 0):=by decide+kernel
    have z4:∀j,j<4->("a0-z":Str).cps.toList[j]?=some (("a0-z":Str).cps.toList.getD j 0):=by decide+kernel
    have g3:∀j,j<3->("z9-":Str).cps.toList.getD j 0∈SG:=by decide+kernel
    have g4:∀j,j<4->("a0-z":Str).cps.toList.getD j 0∈SG:=by decide+kernel
    refine ξ ?_;walk_at"go";refine⟨a,ns,k+1,3,rfl,hS,hl,by omega,by omega,by decide,?_⟩;have c0:=aJ ns (k+1) (m:=3) (by decide);have c1:=aK ns (k+1) (m:=3) (by decide);obtain⟨d,ed⟩:=adK c0;rw[ed];have hd:d<3:=by omega
    refine p8 (by decide+kernel) (ϔ (z3 d hd)) ?_;have gd:=g3 d hd;generalize("z9-":Str).cps.toList.getD d 0=x at gd⊢;refine ο ?_;walk_at"go";refine Zh (by decide) (by decide) (by show 0<1;decide) (by show 1*19<=Ϫ;omega) ?_;have r1:=Wi x 19 (by decide);have r2:(nj (⟨#[x]⟩:Str) 19).length=19:=by rw[L2.len_list,r1,aok];rfl
    walk_at"go";refine⟨a,ns,k+2,4,rfl,hS,hl,by omega,by omega,by decide,?_⟩;have e0:=aJ ns (k+2) (m:=4) (by decide);have e1:=aK ns (k+2) (m:=4) (by decide);obtain⟨d2,gC⟩:=adK e0;rw[gC];have hd2:d2<4:=by omega
    refine p8 (by decide+kernel) (ϔ (z4 d2 hd2)) ?_;have Sd:=g4 d2 hd2;generalize("a0-z":Str).cps.toList.getD d2 0=y at Sd⊢;have r3:(⟨#[y]⟩:Str).length=1:=rfl;have r4:=len_app (nj (⟨#[x]⟩:Str) 19) ⟨#[y]⟩;refine my (by omega) ?_;refine q _ _ (ζ.refl _) (.inr (.inr ⟨hn,_,rfl,by omega,λc hc=>?_⟩));rw[cR,r1]at hc;obtain e|e:=aei.mp hc
    .rw[List.eq_of_mem_replicate e];exact gd
    .have :c=y:=by simpa using e
     rw[this];exact Sd
   .walk_at "go";refine⟨by show 8<=Ϫ;omega,λp hp=>?_⟩;obtain⟨Ψ,ep⟩:=ϊ hp (.lst (qj.map V.str));change EV _ _ _ (upd H p (.lst (qj.map V.str))) _;generalize upd H p (.lst (qj.map V.str))=H2 at Ψ ep⊢;walk_at"go";refine⟨a,ns,k+1,8,rfl,Ψ.seq hS,hl,by omega,by omega,by decide,?_⟩;have c0:=aJ ns (k+1) (m:=8) (by decide);have c1:=aK ns (k+1) (m:=8) (by decide);obtain⟨v,e1,e2⟩:=Ij (xs:=qj.map V.str) c0 (by show _<(8:Int);omega);refine ϖ (θ.of ep) e1 ?_;obtain⟨z,hz,rfl⟩:=acL.mp e2;exact q _ _ Ψ (.inr (.inr ⟨hn,z,rfl,Xd z hz⟩))
 refine ξ ?_;walk_at"go";refine⟨a,ns,k,8,rfl,hS,hl,by omega,by omega,by decide,?_⟩;walk_at"go";refine Ζ (λh0=>?_) (λh0=>?_)
 .walk_at "go";exact q _ _ (ζ.refl _) (.inl rfl)
 .walk_at "go";rw[cA];refine Ζ (λh3=>?_) (λh3=>?_)
  .walk_at "go";rw[cA];walk_at"go";refine ϖ hS (Tg 0 (anA _ (by omega)) (amj _ (by omega))) ?_;exact tail _ _
  .walk_at "ex";exact tail _ _
def Wg(K:ϩ):Sp:=λvs H Q _=>∃(a:δ)(ns:List Int)(k:Int)(b:δ)(cs:List ς),vs=[.ref a,.int k,.ref b]/\θ K H a (ns.map V.int)/\ns.length<=63/\0<=k/\k<=40000/\ϒ H b cs/\cs.length<=6/\∀p xs H',ζ H H'->H p=none->H' p=some (.lst xs)->ψ (λc x=>aB c.2 x) cs xs->Q (.ref p) H'
theorem qN{α β:Type}{R:α->β->Prop}:∀{l:List α}{m:List β},m.length=l.length->(∀(i:Nat) b,m[i]?=some b->∃a,l[i]?=some a/\R a b)->ψ R l m
 |[],[],_,_=>.nil
 |[],_::_,h,_=>by simp at h
 |_::_,[],h,_=>by simp at h
 |a::l,b::m,h,g=>by
  obtain⟨a',e,r⟩:=g 0 b rfl;have:a=a':=by simpa using e
  subst this;exact .cons r (qN (by simpa using h) λi x e=>by simpa using g (i+1) x (by simpa using e))
theorem zF(T:Txt K mg):Def P w K mg base true 3 "_law_values" ["_law_script","_law_k","_law_columns_here"] (Wg K):=by
 refine Ο T.zF Yq (λ_ _ _ _ _ H vs Q E hr h=>?_);intro X;obtain⟨a,ns,k,b,cs,rfl,hS,hl,hk0,hk1,hC,hc6,q⟩:=h;have n1:=T.mX;have n2:=T.cQ;have hsz:=ϳ;have D1:= @v8 P w K mg base T;have eU:(["_law_n","_law_columns_here","_law_k","_law_script"]:List Str).Nodup:=by decide+kernel
 obtain⟨vs,hb,hvs⟩:=id hC;have hvl:=hvs.len;have SB:θ K H b vs:=θ.of hb;refine ο (Η ?_);refine Sh ["_law_n","_law_columns_here","_law_k","_law_script"] (σ':=[none,some (.ref b),some (.int k),some (.ref a)]) (bK (υ Et)) n1 ?_;walk_at"go";refine⟨by omega,by omega,λτ=>∃o1,τ=[o1,some (.ref b),some (.int k),some (.ref a)],λE2 i u H'=>∃c,cs[i]?=some c/\aB c.2 u,⟨none,rfl⟩,λE2 i u H2 H3 ys _ _ p=>p,λfp E2 C s3 H0 i τ x H4 H3 bU hi hτ Ξ hys hG=>?_,λL H1 ys hL hl2 hx2 e1 Ε =>?_⟩
 .obtain⟨o1,rfl⟩:=hτ;obtain⟨rfl,rfl⟩:=hG;have hil:i<vs.length:=by simpa using hi
  have hg:vs[i]?=some vs[i]:=aak hil;obtain⟨c,hc,t,ev,ht⟩:=hvs.get hg;refine Ι eU (by rfl) (.inl rfl) (.inr rfl) ?_;walk_at"go";refine ϖ (Ξ.seq SB) (ϔ hg) ?_;rw[ev];walk_at"go";refine Ω (ω.of (Ξ _ _ ht)) (show ό [V.str c.1,V.str c.2] 1=some (V.str c.2)from rfl) ?_;walk_at"go";refine⟨a,ns,_,c.2,rfl,Ξ.seq hS,hl,by omega,by omega,λv H5 aW hv=>?_⟩;exact⟨⟨_,rfl⟩,⟨c,hc,hv⟩,aW⟩
 .exact q L ys H1 Ε hL e1 (qN (by rw[hl2, <-hvl];simp) hx2)
def Z5(K:ϩ)(mg:Str->Option ε):Sp:=λvs H Q E=>∃(a:δ)(ws:List Str)(p:Nat),vs=[.ref a,.int p]/\θ K H a (ws.map V.str)/\ws.length<=4000/\p<=100000/\
 (¬(p<ws.length/\p<60)->∀e H',ζ H H'->H' e=some (.xd [("at",.int p)])->E (.ref (η mg "NoSieve")) (some e,true) H')/\∀z,ws[p]?=some z->p<60->Q (.str z) H
theorem oV(T:Txt K mg):Def P w K mg base true 3 "word_at" ["words","place"] (Z5 K mg):=by
 refine Ο T.oV ajx (λ_ _ _ _ _ H vs Q E hr h=>?_);intro X;obtain⟨a,ws,p,rfl,hS,hl,hp,bad,q⟩:=h;have n1:=T.cQ;have g1:=T.VJ;have cA:(ws.map V.str).length=ws.length:=ϱ ..;have rest:¬(p<ws.length/\p<60)->Κ X [tR (Su (tR (ϝ u5) 0)) 0] {nx:=λσ' H'=>Κ X ((ϝ u5).drop 1) {nx:=λ_ H'=>Q .non H',rt:=Q} σ' H',rt:=Q} [some (.ref a),some (.int p)] H:=by
  intro hb;refine ο (pP (SN T (cc:=true)) hr (λ_=>rfl) Ν ?_);walk_at"go";exact⟨p,rfl,by omega,λe H' sm he=>bad hb e H' sm he⟩
 refine ξ ?_;walk_at"go";rw[cA];refine Ζ (λh=>?_) (λh=>?_)
 .exact rest (by omega)
 .walk_at "go";refine Ζ (λh2=>?_) (λh2=>?_)
  .exact rest (by omega)
  .walk_at "go";have hlt:p<ws.length:=by omega
   have hg:ws[p]?=some ws[p]:=aak hlt;refine ϖ hS (ϔ (by rw[acy,hg];rfl)) ?_;exact q _ hg (by omega)
def bO(ws:List Str)(s b:Nat):Str:=Str.join " " ((ws.drop s).take (b-s))
def ain(K:ϩ):Sp:=λvs H Q _=>∃(a:δ)(ws:List Str)(s b:Nat),vs=[.ref a,.int s,.int b]/\θ K H a (ws.map V.str)/\ws.length<=4000/\(∀z∈ws,z.length<=1000)/\s<=b/\b<=ws.length/\∀H',ζ H H'->Q (.str (bO ws s b)) H'
theorem JZ:∀{l:List Str},(∀z∈l,z.length<=1000)->(l.map (·.length)).sum<=l.length*1000
 |[],_=>by simp
 |z::l,h=>by
  have h1:=JZ (l:=l) λy hy=>h y (by simp[hy])
  have h2:=h z (by simp);simp only[List.map_cons,List.sum_cons,List.length_cons];omega
theorem j8(T:Txt K mg):Def P w K mg base true 1 "text_between" ["words","start","behind"] (ain K):=by
 refine Ο T.j8 aaU (λ_ _ _ _ _ H vs Q E hr h=>?_);intro X;obtain⟨a,ws,i,j,rfl,hS,hl,hz,hij,hj,q⟩:=h;have lb:(" ":Str).length=1:=by decide+kernel
 have hsz:=ϳ;refine ο (Η ?_);walk_at"go";refine Fj hS λp hp=>?_
 have e:fH (ws.map V.str) (some (i:Int)) (some (j:Int))=((ws.drop i).take (j-i)).map V.str:=by
  unfold fH;have cA:(ws.map V.str).length=ws.length:=ϱ ..;have e1:HT.ϋ (ws.map V.str).length 0 (some (i:Int))=i:=by
   rw[cA];unfold HT.ϋ;split
   .rename_i h;cases h
   .rename_i h;cases h;rw[if_neg (by omega)];omega
  have e2:HT.ϋ (ws.map V.str).length (ws.map V.str).length (some (j:Int))=j:=by
   rw[cA];unfold HT.ϋ;split
   .rename_i h;cases h
   .rename_i h;cases h;rw[if_neg (by omega)];omega
  rw[e1,e2, <-List.map_drop, <-List.map_take]
 rw[e];obtain⟨sm,ep⟩:=ϊ hp (.lst (((ws.drop i).take (j-i)).map V.str));generalize upd H p (.lst (((ws.drop i).take (j-i)).map V.str))=H2 at sm ep⊢;walk_at"go";refine rE (θ.of ep) ?_ (q H2 sm);have h1:=JZ (l:=(ws.drop i).take (j-i)) λz h=>hz z (ajN (afU h))
 have h2:((ws.drop i).take (j-i)).length<=4000:=by
  rw[afr,afz];omega
 rw[lb];omega
theorem ahC{cs:List ς}{z:Str}:∀{i:Nat}{c:ς}(j:Nat),cs[i]?=some c->(∀k c,k<i->cs[k]?=some c->¬c.1=z)->c.1=z->eN cs z j=.int ((j+i:Nat):Int):=by
 induction cs with
 |nil=>intro i c j e;simp at e
 |cons d r ih=>
  intro i c j e h hz;unfold eN;cases i with
  |zero=>
   simp at e;subst e;rw[if_pos hz];rfl
  |succ i=>
   rw[if_neg (h 0 d (by omega) rfl)];rw[ih (j+1) (by simpa using e) (λk c hk e'=>h (k+1) c (by omega) (by simpa using e')) hz]
   congr 2
   omega
theorem Nx{cs:List ς}{z:Str}:∀(j:Nat),(∀c∈cs,¬c.1=z)->eN cs z j=.non:=by
 induction cs with
 |nil=>intro j h;rfl
 |cons d r ih=>
  intro j h;unfold eN;rw[if_neg (h d (by simp)),ih (j+1) λc hc=>h c (by simp[hc])]
theorem ug(T:Txt K mg):Def P w K mg base true 1 "place_of" ["columns","name"] YM:=by
 refine Ο T.ug Kr (λ_ _ _ _ _ H vs Q E hr h=>?_);intro X;obtain⟨a,cs,z,rfl,⟨vs,ha,hvs⟩,q⟩:=h;have n1:=T.adu;have nd:=Kr.nd;refine ξ ?_;refine ahp (by walk_at"po") (by rfl) (by rfl) n1 (by rfl) ?_;walk_at"go";refine⟨a,vs,rfl,ha,λi σ H'=>(∃o1 o2,σ=[some (.ref a),some (.str z),o1,o2])/\ζ H H'/\∀k c,k<i->cs[k]?=some c->¬c.1=z,⟨⟨none,none,rfl⟩,ζ.refl _,λk c hk=>by omega⟩,λi σ H' hi hP=>.inl (.inl (hP.2.1 _ _ ha)),λi x T' σ H' hx hP hT=>?_,λσ H' hP=>?_⟩
 .obtain⟨⟨o1,o2,rfl⟩,sm,hn⟩:=hP;obtain⟨c,hc,t,rfl,ht⟩:=hvs.get hx;have Λ :=sm.trans (ζ.upd (o:=.tup [.int i,.ref t]) hT);have eT:(upd H' T' (.tup [.int i,.ref t])) T'=some (.tup [.int i,.ref t]):=ρ;generalize upd H' T' (.tup [.int i,.ref t])=H2 at Λ eT⊢;refine bQ (ω.of eT) (ϕ (Ι nd (by rfl) (.inl rfl) (.inl rfl) (ϕ (Ι nd (by rfl) (.inl rfl) (.inl rfl) (b7 ?_)))));refine ο ?_;walk_at"go";refine Ω (ω.of (Λ _ _ ht)) (show ό [V.str c.1,V.str c.2] 0=some (V.str c.1)from rfl) ?_;walk_at"go";refine Ζ (λh=>?_) (λh=>?_)
  .have hz:c.1=z:=by injection h
   walk_at"go";have:=ahC 0 hc hn hz;rw[aoo]at this;rw[<-this];exact q H2 Λ
  .have hz:¬c.1=z:=λe=>h (by rw[e])
   walk_at"go";refine⟨⟨_,_,rfl⟩,Λ,λk d hk hd=>?_⟩;by_cases e:k=i
   .subst e;rw[hc]at hd;cases hd;exact hz
   .exact hn k d (by omega) hd
 .obtain⟨⟨o1,o2,rfl⟩,sm,hn⟩:=hP;refine ο ?_;walk_at"go";have:=Nx (cs:=cs) (z:=z) 0 λc hc=>by
   obtain⟨k,hk,e⟩:=anp hc;exact hn k c (by rw[hvs.len];exact hk) (by rw[<-e];exact aak hk)
  rw[<-this];exact q H' sm
def dZ(cs:List ς)(ws:List Str)(p:Nat):Option Nat:=if p<60 then match ws[p]? with
 |none=>none
 |some z=>if cs.any (λc=>decide (c.1=z))=true then some (aL cs z)else none
 else none
def afR(K:ϩ)(mg:Str->Option ε):Sp:=λvs H Q E=>∃(b:δ)(cs:List ς)(a:δ)(ws:List Str)(p:Nat),vs=[.ref b,.ref a,.int p]/\ϒ H b cs/\θ K H a (ws.map V.str)/\ws.length<=4000/\p<=100000/\
 (dZ cs ws p=none->∀e H',ζ H H'->H' e=some (.xd [("at",.int p)])->E (.ref (η mg "NoSieve")) (some e,true) H')/\∀i H',ζ H H'->dZ cs ws p=some i->Q (.int (i:Nat)) H'
theorem yq(T:Txt K mg):Def P w K mg base true 4 "read_column" ["columns","words","place"] (afR K mg):=by
 refine Ο T.yq NZ (λ_ _ _ _ _ H vs Q E hr h=>?_);intro X;obtain⟨b,cs,a,ws,p,rfl,hC,hS,hl,hp,bad,q⟩:=h;have nd:=NZ.nd;have D1:= @ug P w K mg base T;have D2:= @oV P w K mg base T;refine ξ ?_;walk_at"go";refine⟨a,ws,p,rfl,hS,hl,hp,λhb e H' sm he=>bad ?_ e H' sm he,λz hz pY=>?_⟩
 .unfold dZ;by_cases pY:p<60
  .rw[if_pos pY,List.getElem?_eq_none (by omega)]
  .rw[if_neg pY]
 .walk_at "go";refine⟨b,cs,z,rfl,hC,λH2 sm=>?_⟩;by_cases hin:∃c∈cs,c.1=z
  .have e:dZ cs ws p=some (aL cs z):=by
    unfold dZ;rw[if_pos pY,hz];exact if_pos (by rw[al6];obtain⟨c,hc,e⟩:=hin;exact⟨c,hc,decide_eq_true e⟩)
   rw[Cq 0 hin,aoo];walk_at"go";exact q _ H2 sm e
  .have e:dZ cs ws p=none:=by
    unfold dZ;rw[if_pos pY,hz];exact if_neg (by rw[al6];rintro⟨c,hc,e⟩;exact hin ⟨c,hc,of_decide_eq_true e⟩)
   rw[Nx 0 λc hc e=>hin ⟨c,hc,e⟩];refine ξ ?_;walk_at"go";refine pP (SN T (cc:=true)) hr (λ_=>rfl) Ν ?_;walk_at"go";exact⟨p,rfl,by omega,λe' H' sm' he=>bad e e' H' (sm.trans sm') he⟩
theorem vg(T:Txt K mg):Def P w K mg base true 1 "value_before" ["one","other"] YD:=by
 refine Ο T.vg ahm (λ_ _ _ _ _ H vs Q E hr h=>?_);intro X;obtain⟨x,y,rfl,hs,q⟩:=h;refine ξ ?_;walk_at"go";refine Ζ (λh=>?_) (λh=>?_)
 .subst h;walk_at"go";have e:before x .non=false:=by cases x<;>rfl
  rw[e]at q;exact q
 .walk_at "go";refine Ζ (λh2=>?_) (λh2=>?_)
  .subst h2;walk_at"go";have e:before .non y=true:=by cases y<;>first|rfl|exact absurd rfl h
   rw[e]at q;exact q
  .obtain e|e|⟨i,j,rfl,rfl⟩|⟨i,j,rfl,rfl⟩:=hs
   .exact absurd e h2
   .exact absurd e h
   .walk_at "go";exact q
   .walk_at "go";exact q
def nU(K:ϩ):Sp:=λvs H Q _=>∃(a C dx:δ)(fs:List (Str×V))(z:Str),vs=[.ref a,.str z]/\H a=some (.ins C dx fs)/\ϗ K C/\ Ρ K C "text"/\fs.length<900/\Q .non (upd H a (.ins C dx (Ϟ "text" (.str z) fs)))
theorem qw{cc:Bool}:FD P w K mg base cc 1 "__init__" "Sieve.__init__" vf ["self","text"] (nU K):=by
 refine au agu (λ_ _ _ _ _ H vs Q E hr h=>?_);intro X;obtain⟨a,C,dx,fs,z,rfl,ha,hc,hn,hl,q⟩:=h;refine ο (di ?_);walk_at"e";walk_at"e";exact⟨a,C,dx,fs,rfl,ha,hc,hn,by omega,q⟩
def Nb(K:ϩ):Sp:=λvs H Q _=>∃(a C dx:δ)(fs:List (Str×V))(z:Str)(p:V),vs=[.ref a,.str z,p]/\H a=some (.ins C dx fs)/\ϗ K C/\ Ρ K C "text"/\ Ρ K C "place"/\fs.length<800/\
 Q .non (upd (upd H a (.ins C dx (Ϟ "text" (.str z) fs))) a (.ins C dx (Ϟ "place" p (Ϟ "text" (.str z) fs))))
theorem afw(T:Txt K mg){cc:Bool}:FD P w K mg base cc 2 "__init__" "NoneSieve.__init__" Gq ["self","text","place"] (Nb K):=by
 refine au WN (λ_ _ _ _ _ H vs Q E hr h=>?_);intro X;obtain⟨a,C,dx,fs,z,p,rfl,ha,hc,hn,hn2,hl,q⟩:=h;have B:oF P w K mg base cc 1 "Sieve" "__init__" ["self","text"] (nU K):=qw.asked T.vM T.yj;have hz:=iY "text" (V.str z) fs;refine ξ (ϟ ?_);refine wL (pl:=_) B hr id Ν ?_;walk_at"go";refine⟨a,C,dx,fs,z,rfl,ha,hc,hn,by omega,?_⟩;refine ο (di ?_);walk_at"e";walk_at"e";exact⟨a,C,dx,_,rfl,ρ,hc,hn2,by omega,q⟩
def uh(K:ϩ):Sp:=λvs H Q _=>∃(a C dx:δ)(fs:List (Str×V))(z:Str)(p v:V),vs=[.ref a,.str z,p,v]/\H a=some (.ins C dx fs)/\ϗ K C/\ Ρ K C "text"/\ Ρ K C "place"/\ Ρ K C "value"/\fs.length<800/\
 ∀H',H' a=some (.ins C dx (Ϟ "value" v (Ϟ "place" p (Ϟ "text" (.str z) fs))))->(∀b o,b≠a->H b=some o->H' b=some o)->Q .non H'
theorem uP(T:Txt K mg){cc:Bool}:FD P w K mg base cc 2 "__init__" "ValueSieve.__init__" oG ["self","text","place","value"] (uh K):=by
 refine au aeW (λ_ _ _ _ _ H vs Q E hr h=>?_);intro X;obtain⟨a,C,dx,fs,z,p,v,rfl,ha,hc,hn,hn2,wN,hl,q⟩:=h;have B:oF P w K mg base cc 1 "Sieve" "__init__" ["self","text"] (nU K):=qw.asked T.vM T.yj;have hz:=iY "text" (V.str z) fs;have hz2:=iY "place" p (Ϟ "text" (V.str z) fs);refine ξ (ϟ ?_);refine wL (pl:=_) B hr id Ν ?_;walk_at"go";refine⟨a,C,dx,fs,z,rfl,ha,hc,hn,by omega,?_⟩;refine ξ (di ?_);walk_at"e";walk_at"e";refine⟨a,C,dx,_,rfl,ρ,hc,hn2,by omega,?_⟩;refine ο (di ?_);walk_at"e";walk_at"e";refine⟨a,C,dx,_,rfl,ρ,hc,wN,by omega,q _ ρ λb o hb e=>?_⟩;rw[ι hb,ι hb,ι hb];exact e
inductive Lk|is|under|over|holds
def lY:Lk->V->V->Bool
 |.is,x,v=>decide (x=v)
 |.under,x,v=>before x v
 |.over,x,v=>before v x
 |.holds,.str x,.str v=> !(Builtin.Str.occurrences x v 0 x.length 1).isEmpty
 |.holds,_,_=>false
abbrev F3(z:Str)(p:Nat)(v:V):List (Str×V):=[("text",.str z),("place",.int p),("value",v)]
def zT:Lk->V->V->Prop
 |.holds,x,v=>∃y z,x=.str y/\v=.str z
 |_,x,v=>scalar x=true/\scalar v=true/\qP x v
def su(l:Lk)(C:δ):Sp:=λvs H Q _=>∃(a dx:δ)(z:Str)(p:Nat)(x v:V),vs=[.ref a,x]/\H a=some (.ins C dx (F3 z p v))/\zT l x v/\Q (.bl (lY l x v)) H
theorem aiO{cc:Bool}{C:δ}(c:ϗ K C)(n:Ρ K C "value"):FD P w K mg base cc 2 "fits" "ValueSieve.fits" Dk ["self","value"] (su .is C):=by
 refine au ac9 (λ_ _ _ _ _ H vs Q E hr h=>?_);intro X;obtain⟨a,dx,z,p,x,v,rfl,ha,⟨sx,sv,hl⟩,q⟩:=h;refine ο (Η ?_);walk_at"e";walk_at"e";refine Ϣ ?_;walk_at"e";refine⟨a,C,dx,_,v,rfl,ha,c,n,rfl,?_⟩;refine Dw (Rm sx sv) ?_;exact q
theorem ae0{x y:V}(h:qP x y):qP y x:=by
 obtain h|h|⟨i,j,a,b⟩|⟨i,j,a,b⟩:=h
 .exact .inr (.inl h)
 .exact .inl h
 .exact .inr (.inr (.inl ⟨j,i,b,a⟩))
 .exact .inr (.inr (.inr ⟨j,i,b,a⟩))
theorem We(T:Txt K mg){C:δ}(c:ϗ K C)(n:Ρ K C "value"):FD P w K mg base true 2 "fits" "UnderSieve.fits" yH ["self","value"] (su .under C):=by
 refine au adh (λ_ _ _ _ _ H vs Q E hr h=>?_);intro X;obtain⟨a,dx,z,p,x,v,rfl,ha,⟨sx,sv,hl⟩,q⟩:=h;have D1:= @vg P w K mg base T;refine ο (Η ?_);walk_at"go";refine Ϣ ?_;walk_at"e";refine⟨a,C,dx,_,v,rfl,ha,c,n,rfl,?_⟩;walk_at"go";exact⟨x,v,rfl,hl,q⟩
theorem ab8(T:Txt K mg){C:δ}(c:ϗ K C)(n:Ρ K C "value"):FD P w K mg base true 2 "fits" "OverSieve.fits" Gd ["self","value"] (su .over C):=by
 refine au aiF (λ_ _ _ _ _ H vs Q E hr h=>?_);intro X;obtain⟨a,dx,z,p,x,v,rfl,ha,⟨sx,sv,hl⟩,q⟩:=h;have D1:= @vg P w K mg base T;refine ο (Η ?_);walk_at"go";refine Ϣ ?_;walk_at"e";refine⟨a,C,dx,_,v,rfl,ha,c,n,rfl,?_⟩;walk_at"go";exact⟨v,x,rfl,ae0 hl,q⟩
theorem ae2{cc:Bool}{C:δ}(c:ϗ K C)(n:Ρ K C "value"):FD P w K mg base cc 2 "fits" "HoldsSieve.fits" yw ["self","value"] (su .holds C):=by
 refine au aa3 (λ_ _ _ _ _ H vs Q E hr h=>?_);intro X;obtain⟨a,dx,z,p,x,v,rfl,ha,⟨y,u,rfl,rfl⟩,q⟩:=h;refine ο (Η ?_);walk_at"e";refine Ϣ ?_;walk_at"e";refine⟨a,C,dx,_,_,rfl,ha,c,n,rfl,?_⟩;walk_at"go";exact q
def RC(K:ϩ)(l:Lk)(C:δ):Sp:=λvs H Q _=>∃(a dx:δ)(z:Str)(p:Nat)(v:V)(b:δ)(xs:List V)(x:V),vs=[.ref a,.ref b]/\H a=some (.ins C dx (F3 z p v))/\θ K H b xs/\xs[p]?=some x/\(x=.non\/zT l x v)/\Q (.bl (!decide (x=.non)&&lY l x v)) H
theorem xQ{l:Lk}{C:δ}(M:ak P w K mg base true 2 C "fits" ["self","value"] (su l C))(n:Ρ K C "place"):FD P w K mg base true 3 "lets" "ValueSieve.lets" oW ["self","values"] (RC K l C):=by
 refine au Lz (λ_ _ _ _ _ H vs Q E hr h=>?_);intro X;obtain⟨a,dx,z,p,v,b,xs,x,rfl,ha,hb,hx,hl,q⟩:=h;have nd:=Lz.nd;refine ξ ?_;walk_at"go";refine Ϣ ?_;walk_at"e";refine⟨a,C,dx,_,_,rfl,ha,M.cls,n,rfl,?_⟩;refine ϖ hb (ϔ hx) ?_;walk_at"go";refine jJ (λh=>?_) (λh=>?_)
 .have hx':¬x=.non:=by simpa using h
  refine NP ?_;refine aM (pl:=_) hr Ν (h:=?_);walk_at"e";refine⟨a,C,dx,_,_,_,_,_,rfl,ha,rfl,M,by decide,λ_=>rfl,?_⟩;walk_at"go";refine⟨a,dx,z,p,x,v,rfl,ha,hl.resolve_left hx',?_⟩;rw[h,anb]at q;exact q
 .rw[h]at q;exact q
theorem qd(T:Txt K mg):Def P w K mg base true 1 "made_of" ["text","signs"] Uz:=by
 refine Ο T.qd adU (λ_ _ _ _ _ H vs Q E hr h=>?_);intro X;obtain⟨z,g,rfl,hz,q⟩:=h;have n1:=T.Nr;refine ο (Η ?_);walk_at"e";walk_at"e";refine Vj ["sign","signs"] (σ':=[none,some (.str g)]) (by rfl) (by rfl) (bK (υ DG)) (by decide+kernel) (by rfl) (by rfl) (by intro _;rfl) ?_;walk_at"e";refine⟨z,rfl,?_,λi v=>∃c,z.cps.toList[i]?=some c/\v=.bl (decide (c∈g.cps.toList)),λfp E' C s3 H0 i c H2 hc sm=>?_,λE' H2 xs hE hl hx e2 sm=>?_⟩
 .have :z.cps.size=z.length:=rfl;have h2:Ϫ=16777216:=ϳ;omega
 .walk_at "go";exact⟨⟨c,hc,by rw[StrLaws.found_one]⟩,ζ.refl _⟩
 .have ex:=gb (ys:=z.cps.toList) (λc=>V.bl (decide (c∈g.cps.toList))) (by rw[hl];simp) hx;have lJ:xs=(z.cps.toList.map λc=>decide (c∈g.cps.toList)).map V.bl:=by rw[ex,afK];rfl
  subst lJ;walk_at"go";refine Qq (by rfl) (θ.of e2) ?_;have e3:(z.cps.toList.map λc=>decide (c∈g.cps.toList)).all id=dI z g:=by rw[List.all_map];rfl
  rw[e3];exact q _ sm
theorem xU(T:Txt K mg):Def P w K mg base true 2 "is_text_value" ["value"] aj2:=by
 refine Ο T.xU UJ (λ_ _ _ _ _ H vs Q E hr h=>?_);intro X;obtain⟨v,rfl,hs,hz,q⟩:=h;have g1:=T.Z3;have g2:=T.UG;have n1:=T.ux;have n2:=T.Gx;have n3:=T.cQ;have D1:= @qd P w K mg base T;have hsz:=ϳ;refine ο (Η ?_);cases v with
 |int i=>
  walk_at"go";exact q H (ζ.refl _)
 |non=>
  walk_at"go";exact q H (ζ.refl _)
 |str z=>
  have hz':z.length<=4000:=hz;walk_at"go";refine Ζ (λh=>?_) (λh=>?_)
  .walk_at "go";refine⟨z,_,rfl,hz',λH' sm=>?_⟩;have e:fG (.str z)=dI z uG:=by
    have h':z.length<=20:=by omega
    unfold fG;simp[h']
   rw[e]at q;exact q H' sm
  .have e:fG (.str z)=false:=by
    have h':¬z.length<=20:=by omega
    unfold fG;simp[h']
   rw[e]at q;exact q H (ζ.refl _)
 |_=>cases hs
theorem Dc(T:Txt K mg):Def P w K mg base true 2 "are_figures" ["word"] agc:=by
 refine Ο T.Dc TY (λ_ _ _ _ _ H vs Q E hr h=>?_);intro X;obtain⟨z,rfl,hz,q⟩:=h;have g1:=T.Up;have D1:= @qd P w K mg base T;have hsz:=ϳ;have e0:("0":Str).cps.toList=[48]:=by decide+kernel
 have e1:("":Str).cps.toList=[]:=by decide+kernel
 unfold cZ at q;refine ο (Η ?_);walk_at"go";refine Ζ (λh=>?_) (λh=>?_)
 .have h':z.cps.toList=[48]:=by cases h;exact e0
  rw[h']at q;exact q H (ζ.refl _)
 .have h':¬z.cps.toList=[48]:=λh2=>h (by rw[jD (h2.trans e0.symm)])
  rw[decide_eq_false h',aoa]at q;walk_at"go";refine mj (λh2=>?_) (λh2=>?_)
  .have h2':z.cps.toList≠[]:=λh3=>h2 (by rw[jD (h3.trans e1.symm)])
   rw[decide_eq_true h2',anb]at q;obtain⟨c,r,hc⟩:=List.exists_cons_of_ne_nil h2';have hc0:z.cps.toList[0]?=some c:=by rw[hc];rfl
   walk_at"go";refine p8 (by omega) (ϔ (j:=0) hc0) ?_;walk_at"go";rw[hc0]at q;refine mj (λh3=>?_) (λh3=>?_)
   .have h3':some c≠some 48:=λh4=>h3 (by cases h4;exact congrArg V.str (jD e0.symm))
    rw[decide_eq_true h3',anb]at q;walk_at"go";refine⟨z,_,rfl,hz,λH' sm=>?_⟩;rw[ahn];exact q H' sm
   .have h3':¬(some c≠some 48):=λh4=>h4 (by
     have:=congrArg (λv:V=>match v with|.str x=>x.cps.toList|_=>[]) h3;have h5:[c]=("0":Str).cps.toList:=this;rw[e0]at h5;cases h5;rfl)
    rw[decide_eq_false h3',ama]at q;exact q H (ζ.refl _)
  .have h2':¬z.cps.toList≠[]:=λh3=>h3 (by cases h2;exact e1)
   rw[decide_eq_false h2',ama]at q;exact q H (ζ.refl _)
theorem Ho(T:Txt K mg):Def P w K mg base true 3 "read_figures" ["word","most"] Ux:=by
 refine Ο T.Ho Tn (λ_ _ _ _ _ H vs Q E hr h=>?_);intro X;obtain⟨z,m,k,rfl,hz,m0,m1,hk,hmk,k1,k2,q⟩:=h;have n1:=T.cQ;have n2:=T.Gx;have n3:=T.Eu;have nd:=Tn.nd;have D1:= @Dc P w K mg base T;have hsz:=ϳ;have hl:=L2.len_list z;have out:∀(H1:Hp)(o:Option V),ζ H H1->gj z.cps.toList m=none->Κ X ((ϝ Fg).drop 1) {nx:=λ_ H'=>Q .non H',rt:=Q} [some (.str z),some (.int m),o] H1:=by
  intro H1 o sm e;have q1:=q H1 sm;rw[e]at q1;refine ο ?_;walk_at"go";exact q1
 refine ξ ?_;walk_at"go";refine⟨z,rfl,hz,λH1 Ε =>?_⟩;walk_at"go";refine jJ (λh1=>?_) (λh1=>?_)
 .walk_at "go";refine JH (j5 m1) ?_;walk_at"go";rw[hk];refine Ζ (λh2=>?_) (λh2=>?_)
  .walk_at "go";obtain⟨hd,Ϻ⟩:=JR h1;refine YG (intText_digits hd Ϻ (by omega)) (by omega) ?_;walk_at"go";refine Ζ (λh3=>?_) (λh3=>?_)
   .have q1:=q H1 Ε;have e:gj z.cps.toList m=some _:=if_pos ⟨h1,h3⟩;rw[e]at q1;walk_at"go";exact q1
   .exact Δ (out H1 _ Ε (if_neg λx=>h3 x.2))
  .refine Δ (out H1 _ Ε (if_neg λx=>h2 ?_));have:=Cr x.1 x.2 hmk k1;omega
 .exact Δ (out H1 _ Ε (if_neg λx=>by rw[h1]at x;exact abe x.1))
theorem yV(T:Txt K mg):Def P w K mg base true 4 "read_number_word" ["word"] (acv (.ref (η mg "NoValue"))):=by
 refine Ο T.yV IW (λ_ _ _ _ _ H vs Q E hr h=>?_);intro X;obtain⟨z,rfl,hz,q⟩:=h;have g1:=T.afS;have g2:=T.Nv;have nd:=IW.nd;have D1:= @Ho P w K mg base T;have hsz:=ϳ;have lm:(Str.ofString (toString (1000000000000000000:Int))).length=19:=by decide+kernel
 have rz:fj z.cps.toList=none->∀H1,ζ H H1->∀o1 o2 D,SX X (tR (Su (tR (ϝ G7) 2)) 0) D [some (.str z),o1,o2] H1:=by
  intro hn H1 sm o1 o2 D;refine fM Ν T.Nk ?_;walk_at"go";refine nJ ?_;walk_at"e";refine⟨z,rfl,by omega,_,4000,rfl,hz,by omega,?_⟩;walk_at"go";intro zz;walk_at"go";have q1:=q H1 sm;rw[hn]at q1;exact⟨by rw[hsz];simp,q1⟩
 refine ξ ?_;walk_at"go";refine K9 ?_;rw[show Txt.startswith z "-"=decide (z.cps.toList[0]?=some 45)from Mi z 45];walk_at"go";refine Ζ (λh0=>?_) (λh0=>?_)
 .rw[decide_eq_true h0];walk_at"go";refine jt ?_;walk_at"go";have hcl:=uw z (some 1) none;refine⟨_,_,19,rfl,by omega,by decide,by decide,lm,by decide,by decide,by decide,λH1 Ε =>?_⟩;rw[show(Ϗ z (some 1) none).cps.toList=z.cps.toList.drop 1 from Ci z 1];have er:=ab7 h0;cases e:gj (z.cps.toList.drop 1) 1000000000000000000 with
  |none=>
   rw[e]at er;simp only[qZ];walk_at"go";exact rz er H1 Ε _ _ _
  |some i=>
   rw[e]at er;dsimp only at er;simp only[qZ];walk_at"go";refine Ζ (λh1=>?_) (λh1=>?_)
   .have h2:i=0:=by injection h1
    rw[if_pos h2]at er;exact ο (rz er H1 Ε _ _ _)
   .have h2:¬i=0:=λe=>h1 (by rw[e])
    rw[if_neg h2]at er;have q1:=q H1 Ε;rw[er]at q1;refine Δ ?_;walk_at"go";exact q1
 .rw[decide_eq_false h0];walk_at"go";refine⟨_,_,19,rfl,by omega,by decide,by decide,lm,by decide,by decide,by decide,λH1 Ε =>?_⟩;have er:=Iv h0;cases e:gj z.cps.toList 1000000000000000000 with
  |none=>
   rw[e]at er;simp only[qZ];walk_at"go";exact rz er H1 Ε _ _ _
  |some i=>
   rw[e]at er;simp only[qZ];have q1:=q H1 Ε;rw[er]at q1;walk_at"go";exact q1
theorem Ao(T:Txt K mg):Def P w K mg base true 3 "read_text_word" ["word"] (acq (.ref (η mg "NoValue"))):=by
 refine Ο T.Ao JM (λ_ _ _ _ _ H vs Q E hr h=>?_);intro X;obtain⟨z,rfl,hz,q⟩:=h;have g1:=T.agM;have nd:=JM.nd;have D1:= @xU P w K mg base T;have hsz:=ϳ;have e1:Str.ofString "'"=⟨#[39]⟩:=by decide+kernel
 have lc:=uw z (some 1) none;have rz:iJ z=none->∀H1,ζ H H1->Κ X ((ϝ DK).drop 1) {nx:=λ_ H'=>Q .non H',rt:=Q} [some (.str z)] H1:=by
  intro hn H1 sm;refine ο (fM Ν T.Nk ?_);walk_at"go";refine nJ ?_;walk_at"e";refine⟨z,rfl,by omega,_,4000,rfl,hz,by omega,?_⟩;walk_at"go";intro zz;walk_at"go";have q1:=q H1 sm;rw[hn]at q1;exact⟨by rw[hsz];simp,q1⟩
 refine ξ ?_;walk_at"go";refine K9 ?_;walk_at"go";rw[e1,Mi];refine Ζ (λh1=>?_) (λh1=>?_)
 .walk_at "go";refine jt ?_;walk_at"go";refine⟨_,rfl,rfl,(show(Ϗ z (some 1) none).length<=4000 by omega),λH1 Ε =>?_⟩;walk_at"go";refine jJ (λh2=>?_) (λh2=>?_)
  .walk_at "go";refine jt ?_;have q1:=q H1 Ε;have er:iJ z=some (Ϗ z (some 1) none):=by
    unfold iJ;rw[if_pos ⟨h1,h2⟩]
   rw[er]at q1;exact q1
  .refine Δ (rz ?_ H1 Ε);unfold iJ;rw[if_neg λh4=>by rw[h2]at h4;exact abe h4.2]
 .refine Δ (rz ?_ H (ζ.refl _));unfold iJ;rw[if_neg λh4=>h1 h4.1]
theorem Dl(T:Txt K mg):Def P w K mg base true 5 "read_value" ["kind","word"] (X8 (.ref (η mg "NoValue"))):=by
 refine Ο T.Dl YW (λ_ _ _ _ _ H vs Q E hr h=>?_);intro X;obtain⟨k,z,rfl,hz,q⟩:=h;have g1:=T.acE;have g2:=T.zu;have D1:= @yV P w K mg base T;have D2:= @Ao P w K mg base T;refine ξ ?_;walk_at"go";refine Ζ (λh1=>?_) (λh1=>?_)
 .have h2:z="?":=by cases h1;rfl
  have q1:=q H (ζ.refl _);have er:dN k z=some .non:=by unfold dN;rw[if_pos h2]
  rw[er]at q1;walk_at"go";exact q1
 .have h2:¬z="?":=λe=>h1 (by rw[e])
  have er:dN k z=if k="number" then wV (fj z.cps.toList)else Cg (iJ z):=by unfold dN;rw[if_neg h2]
  rw[er]at q;walk_at"go";refine Ζ (λh3=>?_) (λh3=>?_)
  .have h4:k="number":=by cases h3;rfl
   rw[if_pos h4]at q;walk_at"go";exact⟨z,rfl,hz,q⟩
  .have h4:¬k="number":=λe=>h3 (by rw[e])
   rw[if_neg h4]at q;walk_at"go";exact⟨z,rfl,hz,q⟩
def agP(K:ϩ):Sp:=λvs H Q _=>∃(kd:Str)(a:δ)(ws:List Str)(p:Nat)(z:Str)(v:V),vs=[.str kd,.ref a,.int p]/\θ K H a (ws.map V.str)/\ws.length<=4000/\ws[p]?=some z/\p<60/\z.length<=4000/\dN kd z=some v/\¬v=.non/\∀H',ζ H H'->Q v H'
theorem Fo(T:Txt K mg):Def P w K mg base true 6 "read_word" ["kind","words","place"] (agP K):=by
 refine Ο T.Fo J0 (λ_ _ _ _ _ H vs Q E hr h=>?_);intro X;obtain⟨kd,a,ws,p,z,v,rfl,hS,hl,hz,hp,lV,hv,Ϻ,q⟩:=h;have nd:=J0.nd;have D1:= @oV P w K mg base T;have D2:= @Dl P w K mg base T;have hlt:=(aaF.mp hz).1;refine ξ ?_;walk_at"go";refine⟨a,ws,p,rfl,hS,hl,by omega,λhb=>absurd ⟨hlt,hp⟩ hb,λz' hz' _=>?_⟩;rw[hz]at hz';cases hz';refine ξ ?_;refine Ld (λ_ _ _ _=>False) rfl rfl (λF pn xo po=>?_) (λσ c d H' hK=>hK.elim);refine ο ?_;walk_at"go";refine⟨kd,z,rfl,lV,λH' sm=>?_⟩;rw[hv];refine Δ ?_;refine ξ ?_;walk_at"go";rw[decide_eq_false Ϻ];walk_at"go";exact q H' sm
inductive cL|all|none (p:Nat)|look (l:Lk) (p:Nat) (v:V)
def wB(mg:Str->Option ε):Lk->δ
 |.is=>η mg "IsSieve"
 |.under=>η mg "UnderSieve"
 |.over=>η mg "OverSieve"
 |.holds=>η mg "HoldsSieve"
def pO(mg:Str->Option ε)(H:Hp)(a:δ):cL->Str->Prop
 |.all,z=>∃dx,H a=some (.ins (η mg "AllSieve") dx [("text",.str z)])
 |.none p,z=>∃dx,H a=some (.ins (η mg "NoneSieve") dx [("text",.str z),("place",.int p)])
 |.look l p v,z=>∃dx,H a=some (.ins (wB mg l) dx (F3 z p v))
theorem pO.same{mg:Str->Option ε}{H H':Hp}{a:δ}{s:cL}{z:Str}(h:pO mg H a s z)(e:ζ H H'):pO mg H' a s z:=by
 cases s<;>obtain⟨dx,h⟩:=h<;>exact⟨dx,e _ _ h⟩
def zO(mg:Str->Option ε)(H:Hp)(p:δ)(s:cL)(z:Str)(n:Nat):=∃t,H p=some (.tup [.ref t,.int n])/\pO mg H t s z
def Zw(K:ϩ)(mg:Str->Option ε):Sp:=λvs H Q _=>∃(b:δ)(cs:List ς)(a:δ)(ws:List Str)(s i:Nat),vs=[.ref b,.ref a,.int s]/\ϒ H b cs/\θ K H a (ws.map V.str)/\ws.length<=4000/\(∀z∈ws,z.length<=1000)/\s+2<=ws.length/\dZ cs ws (s+1)=some i/\
 ∀p H',ζ H H'->zO mg H' p (.none i) (bO ws s (s+2)) (s+2)->Q (.ref p) H'
theorem GK(T:Txt K mg):Def P w K mg base true 5 "read_none" ["columns","words","start"] (Zw K mg):=by
 refine Ο T.GK Tj (λ_ _ _ _ _ H vs Q E hr h=>?_);intro X;obtain⟨b,cs,a,ws,s0,i,rfl,hC,hS,hl,hz,hs2,hi,q⟩:=h;have nd:=Tj.nd;have hsz:=ϳ;have D1:= @yq P w K mg base T;have D2:= @j8 P w K mg base T;have M:fK P w K mg base true 2 "NoneSieve" (η mg "NoneSieve") ["self","text","place"] (Nb K):=(afw T).make T.Uq T.aiB;refine ξ ?_;walk_at"go";refine⟨b,cs,a,ws,s0+1,by simp,hC,hS,hl,by omega,λe=>(by rw[hi]at e;cases e),λi' H2 Λ e=>?_⟩;rw[hi]at e;cases e;walk_at"go";refine gk M hr (by decide) (λ_=>rfl) Ν ?_;walk_at"go";refine⟨a,ws,s0,s0+2,by simp,Λ.seq hS,hl,hz,by omega,hs2,λH3 sm3=>?_⟩;walk_at"go";intro y dx hy hdx Ϻ;refine⟨y,_,dx,[],bO ws s0 (s0+2),_,rfl,ρ,T.Fz,T.aj8,T.Jf,by simp,rfl,?_⟩;walk_at"go";refine⟨by show 2<=Ϫ;omega,λp hp=>?_⟩;generalize hG:upd (upd (upd (upd H3 dx (.own y)) y (.ins (η mg "NoneSieve") dx [])) y _) y _=G at hp⊢;have b8:ζ H3 G:=λc o e=>by
  rw[<-hG,ι (Θ e hy),ι (Θ e hy),ι (Θ e hy),ι (Θ e hdx)];exact e
 have ey:G y=some (.ins (η mg "NoneSieve") dx [("text",.str (bO ws s0 (s0+2))),("place",.int i)]):=by
  rw[<-hG];exact ρ
 have Ψ :ζ G (upd G p (.tup [.ref y,.int (s0+2)])):=ζ.upd hp;exact q p _ (((Λ.trans sm3).trans b8).trans Ψ) ⟨y,ρ,dx,Ψ _ _ ey⟩
def aq:Lk->Str
 |.is=>"is"
 |.under=>"under"
 |.over=>"over"
 |.holds=>"holds"
def Vk(K:ϩ)(mg:Str->Option ε):Sp:=λvs H Q _=>∃(l:Lk)(b:δ)(cs:List ς)(a:δ)(ws:List Str)(s i:Nat)(c:ς)(z:Str)(v:V),vs=[.ref b,.ref a,.int s]/\ϒ H b cs/\θ K H a (ws.map V.str)/\ws.length<=4000/\(∀z∈ws,z.length<=1000)/\s+3<=ws.length/\s+2<60/\
 ws[s]?=some (aq l)/\dZ cs ws (s+1)=some i/\cs[i]?=some c/\(l=.holds->c.2="text")/\ws[s+2]?=some z/\dN c.2 z=some v/\¬v=.non/\
 ∀p H',ζ H H'->zO mg H' p (.look l i v) (bO ws s (s+3)) (s+3)->Q (.ref p) H'
theorem Gv(T:Txt K mg):Def P w K mg base true 7 "read_of_value" ["columns","words","start"] (Vk K mg):=by
 refine Ο T.Gv QS (λ_ _ _ _ _ H vs Q E hr h=>?_);intro X;obtain⟨l,b,cs,a,ws,s0,i,c,z,v,rfl,hC,hS,hl,hz,hs3,eY,hw,hi,hc,hh,jc,hv,Ϻ,q⟩:=h;have nd:=QS.nd;have hsz:=ϳ;have g1:=T.FW;have g2:=T.Qn;have g3:=T.zM;have g4:=T.Ah;have g5:=T.FJ;have D1:= @yq P w K mg base T;have D2:= @j8 P w K mg base T;have D3:= @Fo P w K mg base T;refine ξ ?_;walk_at"go";refine ϖ hS (ϔ (by rw[acy,hw];rfl)) ?_;walk_at"go";refine⟨b,cs,a,ws,s0+1,by simp,hC,hS,hl,by omega,λe=>(by rw[hi]at e;cases e),λi' H2 Λ e=>?_⟩;rw[hi]at e;cases e;obtain⟨vs,hb,hvs⟩:=hC.same Λ;obtain⟨cv,gc,t,rfl,ht⟩:=hvs.get' hc;refine ξ ?_;walk_at"go";refine ϖ (θ.of hb) (ϔ gc) ?_;walk_at"go";refine Ω (ω.of ht) (show ό [V.str c.1,V.str c.2] 1=some (V.str c.2)from rfl) ?_;cases l with
 |is=>
  have M:fK P w K mg base true 2 "IsSieve" (η mg "IsSieve") ["self","text","place","value"] (uh K):=(uP T).make T.Ue T.ajk;refine ξ ?_;walk_at"go";refine bc ?_;refine Δ ?_;refine ξ ?_;walk_at"go";refine⟨c.2,a,ws,s0+2,z,v,by simp,Λ.seq hS,hl,jc,eY,by have:=hz z (abG jc);omega,hv,Ϻ,λH3 sm3=>?_⟩;walk_at"go";refine⟨a,ws,s0,s0+3,by simp,(Λ.trans sm3).seq hS,hl,hz,by omega,hs3,λH4 Ξ =>?_⟩;refine ξ ?_;walk_at"go";refine cu ?_;walk_at"go";refine gk M hr (by decide) (λ_=>rfl) Ν ?_;walk_at"go";intro y dx hy hdx hne';refine⟨y,_,dx,[],bO ws s0 (s0+3),_,v,rfl,ρ,T.wj,T.ac7,T.Rg,T.Hs,by simp,λG eG hG=>⟨rfl,?_⟩⟩;walk_at"go";refine⟨by show 2<=Ϫ;omega,λp hp=>?_⟩;have b8:ζ H4 G:=λc o e=>hG c o (Θ e hy) (by rw[ι (Θ e hy),ι (Θ e hdx)];exact e)
  have Ψ :ζ G (upd G p (.tup [.ref y,.int (s0+3)])):=ζ.upd hp;exact q p _ ((((Λ.trans sm3).trans Ξ).trans b8).trans Ψ) ⟨y,ρ,dx,Ψ _ _ eG⟩
 |under=>
  have M:fK P w K mg base true 2 "UnderSieve" (η mg "UnderSieve") ["self","text","place","value"] (uh K):=(uP T).make T.acQ T.abz;refine ξ ?_;walk_at"go";refine bc ?_;refine Δ ?_;refine ξ ?_;walk_at"go";refine⟨c.2,a,ws,s0+2,z,v,by simp,Λ.seq hS,hl,jc,eY,by have:=hz z (abG jc);omega,hv,Ϻ,λH3 sm3=>?_⟩;walk_at"go";refine⟨a,ws,s0,s0+3,by simp,(Λ.trans sm3).seq hS,hl,hz,by omega,hs3,λH4 Ξ =>?_⟩;refine ξ ?_;walk_at"go";refine bc ?_;refine Δ ?_;refine ξ ?_;walk_at"go";refine cu ?_;walk_at"go";refine gk M hr (by decide) (λ_=>rfl) Ν ?_;walk_at"go";intro y dx hy hdx hne';refine⟨y,_,dx,[],bO ws s0 (s0+3),_,v,rfl,ρ,T.wZ,T.Z7,T.Nt,T.M5,by simp,λG eG hG=>⟨rfl,?_⟩⟩;walk_at"go";refine⟨by show 2<=Ϫ;omega,λp hp=>?_⟩;have b8:ζ H4 G:=λc o e=>hG c o (Θ e hy) (by rw[ι (Θ e hy),ι (Θ e hdx)];exact e)
  have Ψ :ζ G (upd G p (.tup [.ref y,.int (s0+3)])):=ζ.upd hp;exact q p _ ((((Λ.trans sm3).trans Ξ).trans b8).trans Ψ) ⟨y,ρ,dx,Ψ _ _ eG⟩
 |over=>
  have M:fK P w K mg base true 2 "OverSieve" (η mg "OverSieve") ["self","text","place","value"] (uh K):=(uP T).make T.adQ T.ahG;refine ξ ?_;walk_at"go";refine bc ?_;refine Δ ?_;refine ξ ?_;walk_at"go";refine⟨c.2,a,ws,s0+2,z,v,by simp,Λ.seq hS,hl,jc,eY,by have:=hz z (abG jc);omega,hv,Ϻ,λH3 sm3=>?_⟩;walk_at"go";refine⟨a,ws,s0,s0+3,by simp,(Λ.trans sm3).seq hS,hl,hz,by omega,hs3,λH4 Ξ =>?_⟩;refine ξ ?_;walk_at"go";refine bc ?_;refine Δ ?_;refine ξ ?_;walk_at"go";refine bc ?_;refine Δ ?_;refine ξ ?_;walk_at"go";refine cu ?_;walk_at"go";refine gk M hr (by decide) (λ_=>rfl) Ν ?_;walk_at"go";intro y dx hy hdx hne';refine⟨y,_,dx,[],bO ws s0 (s0+3),_,v,rfl,ρ,T.vH,T.abE,T.JS,T.Qa,by simp,λG eG hG=>⟨rfl,?_⟩⟩;walk_at"go";refine⟨by show 2<=Ϫ;omega,λp hp=>?_⟩;have b8:ζ H4 G:=λc o e=>hG c o (Θ e hy) (by rw[ι (Θ e hy),ι (Θ e hdx)];exact e)
  have Ψ :ζ G (upd G p (.tup [.ref y,.int (s0+3)])):=ζ.upd hp;exact q p _ ((((Λ.trans sm3).trans Ξ).trans b8).trans Ψ) ⟨y,ρ,dx,Ψ _ _ eG⟩
 |holds=>
  have M:fK P w K mg base true 2 "HoldsSieve" (η mg "HoldsSieve") ["self","text","place","value"] (uh K):=(uP T).make T.abD T.aaf;refine ξ ?_;walk_at"go";refine cu ?_;rw[hh rfl];walk_at"go";rw[decide_eq_true rfl];walk_at"t";refine Δ ?_;refine ξ ?_;walk_at"go";refine⟨"text",a,ws,s0+2,z,v,by simp,Λ.seq hS,hl,jc,eY,by have:=hz z (abG jc);omega,by rw[<-hh rfl];exact hv,Ϻ,λH3 sm3=>?_⟩;walk_at"go";refine⟨a,ws,s0,s0+3,by simp,(Λ.trans sm3).seq hS,hl,hz,by omega,hs3,λH4 Ξ =>?_⟩;refine ξ ?_;walk_at"go";refine bc ?_;refine Δ ?_;refine ξ ?_;walk_at"go";refine bc ?_;refine Δ ?_;refine ξ ?_;walk_at"go";refine bc ?_;walk_at"go";refine gk M hr (by decide) (λ_=>rfl) Ν ?_;walk_at"go";intro y dx hy hdx hne';refine⟨y,_,dx,[],bO ws s0 (s0+3),_,v,rfl,ρ,T.wU,T.adY,T.HS,T.Ir,by simp,λG eG hG=>⟨rfl,?_⟩⟩;walk_at"go";refine⟨by show 2<=Ϫ;omega,λp hp=>?_⟩;have b8:ζ H4 G:=λc o e=>hG c o (Θ e hy) (by rw[ι (Θ e hy),ι (Θ e hdx)];exact e)
  have Ψ :ζ G (upd G p (.tup [.ref y,.int (s0+3)])):=ζ.upd hp;exact q p _ ((((Λ.trans sm3).trans Ξ).trans b8).trans Ψ) ⟨y,ρ,dx,Ψ _ _ eG⟩
def nH(cs:List ς)(ws:List Str)(s:Nat):cL->Nat->Prop
 |.all,n=>ws[s]?=some "all"/\n=s+1
 |.none i,n=>ws[s]?=some "none"/\s+2<=ws.length/\dZ cs ws (s+1)=some i/\n=s+2
 |.look l i v,n=>s+3<=ws.length/\s+2<60/\ws[s]?=some (aq l)/\dZ cs ws (s+1)=some i/\(∃c z,cs[i]?=some c/\(l=.holds->c.2="text")/\ws[s+2]?=some z/\dN c.2 z=some v)/\(¬v=.non)/\n=s+3
theorem aaH{ws:List Str}{s:Nat}{z:Str}(h:ws[s]?=some z):bO ws s (s+1)=z:=by
 unfold bO;have e:(ws.drop s).take (s+1-s)=[z]:=by
  rw[show s+1-s=1 by omega,Bg h];rfl
 rw[e];exact join_one _ z
def agD(K:ϩ)(mg:Str->Option ε):Sp:=λvs H Q _=>∃(b:δ)(cs:List ς)(a:δ)(ws:List Str)(s n:Nat)(k:Int)(sv:cL),vs=[.ref b,.ref a,.int s,.int k]/\ϒ H b cs/\θ K H a (ws.map V.str)/\ws.length<=4000/\(∀z∈ws,z.length<=1000)/\s<60/\nH cs ws s sv n/\
 ∀p H',ζ H H'->zO mg H' p sv (bO ws s n) n->Q (.ref p) H'
theorem afq(T:Txt K mg):Def P w K mg base true 8 "read_part" ["columns","words","start","within"] (agD K mg):=by
 refine Ο T.K1 vZ (λ_ _ _ _ _ H vs Q E hr h=>?_);intro X;obtain⟨b,cs,a,ws,s0,n,k,sv,rfl,hC,hS,hl,hz,eY,hrd,q⟩:=h;have nd:=vZ.nd;have hsz:=ϳ;have g1:=T.FW;have g2:=T.Rr;have g3:=T.zM;have g4:=T.Ah;have g5:=T.FJ;have g6:=T.Iu;have D1:= @oV P w K mg base T;have D2:= @GK P w K mg base T;have D3:= @Gv P w K mg base T;have M:fK P w K mg base true 1 "AllSieve" (η mg "AllSieve") ["self","text"] (nU K):=qw.make T.agt T.Wl;have hw:∃z,ws[s0]?=some z:=by
  cases sv with
  |all=>exact⟨_,hrd.1⟩
  |none i=>exact⟨_,hrd.1⟩
  |look l i v=>exact⟨_,hrd.2.2.1⟩
 obtain⟨z0,hw⟩:=hw;have hlt:=(aaF.mp hw).1;refine ξ ?_;walk_at"go";refine⟨a,ws,s0,rfl,hS,hl,by omega,λhb=>absurd ⟨hlt,eY⟩ hb,λz' hz' _=>?_⟩;rw[hw]at hz';cases hz';refine ξ ?_;walk_at"go";cases sv with
 |all=>
  obtain⟨h1,rfl⟩:=hrd;rw[hw]at h1;cases h1;refine cu ?_;walk_at"go";refine gk M hr (by decide) (λ_=>rfl) Ν ?_;walk_at"go";intro y dx hy hdx Ϻ;refine⟨y,_,dx,[],_,rfl,ρ,T.Th,T.ajs,by simp,rfl,?_⟩;walk_at"go";refine⟨by show 2<=Ϫ;omega,λp hp=>?_⟩;generalize hG:upd (upd (upd H dx (.own y)) y (.ins (η mg "AllSieve") dx [])) y _=G at hp⊢;have b8:ζ H G:=λc o e=>by
   rw[<-hG,ι (Θ e hy),ι (Θ e hy),ι (Θ e hdx)];exact e
  have ey:G y=some (.ins (η mg "AllSieve") dx [("text",.str "all")]):=by
   rw[<-hG];exact ρ
  have Ψ :ζ G (upd G p (.tup [.ref y,.int (s0+1)])):=ζ.upd hp;refine q p _ (b8.trans Ψ) ⟨y,ρ,dx,?_⟩;rw[aaH hw];exact Ψ _ _ ey
 |none i=>
  obtain⟨h1,h2,h3,rfl⟩:=hrd;rw[hw]at h1;cases h1;refine bc ?_;refine Δ ?_;refine ξ ?_;walk_at"go";refine cu ?_;walk_at"go";exact⟨b,cs,a,ws,s0,i,rfl,hC,hS,hl,hz,h2,h3,λp H' sm hp=>q p H' sm hp⟩
 |look l i v=>
  obtain⟨h1,h2,h3,h4,⟨c,z,h5,h6,h7,h8⟩,h9,rfl⟩:=hrd;rw[hw]at h3;cases h3;have e1:¬V.str (aq l)=V.str ("all":Str):=by cases l<;>decide+kernel
  have e2:¬V.str (aq l)=V.str ("none":Str):=by cases l<;>decide+kernel
  have e3:gM (V.str (aq l)) [V.str ("is":Str),V.str ("under":Str),V.str ("over":Str),V.str ("holds":Str)]=true:=by cases l<;>decide+kernel
  refine Ζ (λh=>absurd h e1) (λ_=>?_);refine Δ ?_;refine ξ ?_;walk_at"go";refine Ζ (λh=>absurd h e2) (λ_=>?_);refine Δ ?_;refine ξ ?_;walk_at"go";refine⟨by show 4<=Ϫ;omega,λtp htp=>?_⟩;refine Fv (ω.of ρ) ?_;rw[e3];have ϛ:ζ H (upd H tp (.tup [.str "is",.str "under",.str "over",.str "holds"])):=ζ.upd htp;generalize upd H tp (.tup [.str "is",.str "under",.str "over",.str "holds"])=H2 at ϛ⊢;walk_at"go";exact⟨l,b,cs,a,ws,s0,i,c,z,v,rfl,hC.same ϛ,ϛ.seq hS,hl,hz,h1,h2,hw,h4,h5,h6,h7,h8,h9,λp H' sm hp=>q p H' (ϛ.trans sm) hp⟩
def ags:Sp:=λvs H Q _=>∃x y,vs=[x,y]/\Q (.bl true) H
theorem Xx{cc:Bool}:FD P w K mg base cc 1 "lets" "Sieve.lets" zN ["self","values"] ags:=by
 refine au Xj (λ_ _ _ _ _ H vs Q E hr h=>?_);intro X;obtain⟨x,y,rfl,q⟩:=h;refine ο ?_;walk_at"go";exact q
def ahh(K:ϩ):Sp:=λvs H Q _=>∃(a C dx:δ)(fs:List (Str×V))(p:Nat)(b:δ)(xs:List V)(x:V),vs=[.ref a,.ref b]/\H a=some (.ins C dx fs)/\ϗ K C/\ Ρ K C "place"/\fs.lookup ("place":Str)=some (V.int p)/\θ K H b xs/\xs[p]?=some x/\Q (.bl (decide (x=.non))) H
theorem ajd{cc:Bool}:FD P w K mg base cc 1 "lets" "NoneSieve.lets" BX ["self","values"] (ahh K):=by
 refine au T5 (λ_ _ _ _ _ H vs Q E hr h=>?_);intro X;obtain⟨a,C,dx,fs,p,b,xs,x,rfl,ha,hc,hn,hl,hb,hx,q⟩:=h;refine ο (Η ?_);walk_at"go";refine Ϣ ?_;walk_at"e";refine⟨a,C,dx,fs,_,rfl,ha,hc,hn,hl,?_⟩;refine ϖ hb (ϔ hx) ?_;walk_at"go";exact q
def Qj(K:ϩ):Sp:=λvs H Q _=>∃(a C dx:δ)(fs:List (Str×V))(z:Str)(p:V),vs=[.ref a,.str z,p]/\H a=some (.ins C dx fs)/\ϗ K C/\ Ρ K C "text"/\ Ρ K C "one"/\fs.length<800/\
 Q .non (upd (upd H a (.ins C dx (Ϟ "text" (.str z) fs))) a (.ins C dx (Ϟ "one" p (Ϟ "text" (.str z) fs))))
theorem ahU(T:Txt K mg){cc:Bool}:FD P w K mg base cc 2 "__init__" "NotSieve.__init__" yC ["self","text","one"] (Qj K):=by
 refine au Ym (λ_ _ _ _ _ H vs Q E hr h=>?_);intro X;obtain⟨a,C,dx,fs,z,p,rfl,ha,hc,hn,hn2,hl,q⟩:=h;have B:oF P w K mg base cc 1 "Sieve" "__init__" ["self","text"] (nU K):=qw.asked T.vM T.yj;have hz:=iY "text" (V.str z) fs;refine ξ (ϟ ?_);refine wL (pl:=_) B hr id Ν ?_;walk_at"go";refine⟨a,C,dx,fs,z,rfl,ha,hc,hn,by omega,?_⟩;refine ο (di ?_);walk_at"e";walk_at"e";exact⟨a,C,dx,_,rfl,ρ,hc,hn2,by omega,q⟩
def Gi(K:ϩ):Sp:=λvs H Q _=>∃(a C dx:δ)(fs:List (Str×V))(z:Str)(p v:V),vs=[.ref a,.str z,p,v]/\H a=some (.ins C dx fs)/\ϗ K C/\ Ρ K C "text"/\ Ρ K C "one"/\ Ρ K C "other"/\fs.length<800/\
 ∀H',H' a=some (.ins C dx (Ϟ "other" v (Ϟ "one" p (Ϟ "text" (.str z) fs))))->(∀b o,b≠a->H b=some o->H' b=some o)->Q .non H'
theorem JF(T:Txt K mg){cc:Bool}:FD P w K mg base cc 2 "__init__" "PairSieve.__init__" xm ["self","text","one","other"] (Gi K):=by
 refine au ahr (λ_ _ _ _ _ H vs Q E hr h=>?_);intro X;obtain⟨a,C,dx,fs,z,p,v,rfl,ha,hc,hn,hn2,wN,hl,q⟩:=h;have B:oF P w K mg base cc 1 "Sieve" "__init__" ["self","text"] (nU K):=qw.asked T.vM T.yj;have hz:=iY "text" (V.str z) fs;have hz2:=iY "one" p (Ϟ "text" (V.str z) fs);refine ξ (ϟ ?_);refine wL (pl:=_) B hr id Ν ?_;walk_at"go";refine⟨a,C,dx,fs,z,rfl,ha,hc,hn,by omega,?_⟩;refine ξ (di ?_);walk_at"e";walk_at"e";refine⟨a,C,dx,_,rfl,ρ,hc,hn2,by omega,?_⟩;refine ο (di ?_);walk_at"e";walk_at"e";refine⟨a,C,dx,_,rfl,ρ,hc,wN,by omega,q _ ρ λb o hb e=>?_⟩;rw[ι hb,ι hb,ι hb];exact e
inductive Tr
 |one (s:cL)
 |nt (t:Tr)
 |bo (t u:Tr)
 |ei (t u:Tr)
def Tr.dep:Tr->Nat
 |.one _=>0
 |.nt t=>t.dep+1
 |.bo t u=>max t.dep u.dep+1
 |.ei t u=>max t.dep u.dep+1
def Reads(cs:List ς)(ws:List Str):Tr->Nat->Nat->Prop
 |.one sv,s,e=>s<60/\nH cs ws s sv e
 |.nt t,s,e=>s<60/\ws[s]?=some "not"/\Reads cs ws t (s+1) e
 |.bo t u,s,e=>s<60/\ws[s]?=some "both"/\∃m,Reads cs ws t (s+1) m/\Reads cs ws u m e
 |.ei t u,s,e=>s<60/\ws[s]?=some "either"/\∃m,Reads cs ws t (s+1) m/\Reads cs ws u m e
theorem nH.le{cs:List ς}{ws:List Str}{s e:Nat}:∀{sv:cL},nH cs ws s sv e->s<e/\e<=ws.length
 |.all,h=>by
   obtain⟨h1,rfl⟩:=h;have:=(aaF.mp h1).1;omega
 |.none i,h=>by
   obtain⟨_,h2,_,rfl⟩:=h;omega
 |.look l i v,h=>by
   obtain⟨h1,_,_,_,_,_,rfl⟩:=h;omega
theorem Reads.le{cs:List ς}{ws:List Str}:∀{t:Tr}{s e:Nat},Reads cs ws t s e->s<e/\e<=ws.length
 |.one sv,s,e,h=>nH.le h.2
 |.nt t,s,e,h=>by have:=Reads.le (t:=t) h.2.2;omega
 |.bo t u,s,e,h=>by
   obtain⟨_,_,m,h1,h2⟩:=h;have:=Reads.le (t:=t) h1;have:=Reads.le (t:=u) h2;omega
 |.ei t u,s,e,h=>by
   obtain⟨_,_,m,h1,h2⟩:=h;have:=Reads.le (t:=t) h1;have:=Reads.le (t:=u) h2;omega
def bu(mg:Str->Option ε)(H:Hp):Tr->δ->Str->Prop
 |.one s,a,z=>pO mg H a s z
 |.nt t,a,z=>∃dx b y,H a=some (.ins (η mg "NotSieve") dx [("text",.str z),("one",.ref b)])/\bu mg H t b y
 |.bo t u,a,z=>∃dx b c y x,H a=some (.ins (η mg "BothSieve") dx [("text",.str z),("one",.ref b),("other",.ref c)])/\bu mg H t b y/\bu mg H u c x
 |.ei t u,a,z=>∃dx b c y x,H a=some (.ins (η mg "EitherSieve") dx [("text",.str z),("one",.ref b),("other",.ref c)])/\bu mg H t b y/\bu mg H u c x
theorem bu.same{mg:Str->Option ε}{H H':Hp}(e:ζ H H'):∀{t:Tr}{a:δ}{z:Str},bu mg H t a z->bu mg H' t a z
 |.one s,a,z,h=>pO.same h e
 |.nt t,a,z,h=>by
   obtain⟨dx,b,y,h1,h2⟩:=h;exact⟨dx,b,y,e _ _ h1,bu.same e h2⟩
 |.bo t u,a,z,h=>by
   obtain⟨dx,b,c,y,x,h1,h2,h3⟩:=h;exact⟨dx,b,c,y,x,e _ _ h1,bu.same e h2,bu.same e h3⟩
 |.ei t u,a,z,h=>by
   obtain⟨dx,b,c,y,x,h1,h2,h3⟩:=h;exact⟨dx,b,c,y,x,e _ _ h1,bu.same e h2,bu.same e h3⟩
theorem ahg{k:Nat}{x:Str}{ps:List Str}{sp sp':Sp}(F:Def P w K mg base true k x ps sp)(h:∀vs H Q E,sp' vs H Q E->sp vs H Q E):Def P w K mg base true k x ps sp':=by
 obtain⟨f,fd,h1,h2,h3,h4⟩:=F.ex;exact⟨f,fd,h1,h2,h3,⟨λvs H Q E z=>h4.len vs H Q E (h vs H Q E z),λA outer s H args us vs Q E hr e0 bt r z=>h4.run A outer s H args us vs Q E hr e0 bt r (h vs H Q E z)⟩⟩
theorem G5{k k':Nat}{C:δ}{x:Str}{ps:List Str}{sp sp':Sp}(F:ak P w K mg base true k C x ps sp)(hk:k<=k')(h:∀vs H Q E,sp' vs H Q E->sp vs H Q E):ak P w K mg base true k' C x ps sp':=by
 obtain⟨f,fd,h1,h2,h4⟩:=F.ex;have h4:=h4.mono hk;exact⟨F.cls,f,fd,h1,h2,⟨λvs H Q E z=>h4.len vs H Q E (h vs H Q E z),λA outer s H args us vs Q E hr e0 bt r z=>h4.run A outer s H args us vs Q E hr e0 bt r (h vs H Q E z)⟩⟩
def jb(K:ϩ)(mg:Str->Option ε)(t:Tr):Sp:=λvs H Q _=>∃(b:δ)(cs:List ς)(a:δ)(ws:List Str)(s e:Nat)(k:Int),vs=[.ref b,.ref a,.int s,.int k]/\ϒ H b cs/\θ K H a (ws.map V.str)/\ws.length<=4000/\(∀z∈ws,z.length<=1000)/\0<=k/\k+t.dep<=20/\Reads cs ws t s e/\
 ∀p v H',ζ H H'->H' p=some (.tup [.ref v,.int e])->bu mg H' t v (bO ws s e)->Q (.ref p) H'
def xK(K:ϩ)(mg:Str->Option ε)(t:Tr):Sp:=λvs H Q _=>∃(b:δ)(cs:List ς)(a:δ)(ws:List Str)(s e:Nat)(k:Int),vs=[.ref b,.ref a,.int s,.int k]/\ϒ H b cs/\θ K H a (ws.map V.str)/\ws.length<=4000/\(∀z∈ws,z.length<=1000)/\1<=k/\k+t.dep<=21/\k<=20/\Reads cs ws t s e/\
 ∀p v H',ζ H H'->H' p=some (.tup [.ref v,.int e])->bu mg H' t v (bO ws s e)->Q (.ref p) H'
theorem XX(T:Txt K mg)(sv:cL):Def P w K mg base true 8 "read_part" ["columns","words","start","within"] (jb K mg (.one sv)):=ahg (afq T) λvs H Q E h=>by
 obtain⟨b,cs,a,ws,s,e,k,rfl,hC,hS,hl,hz,hk0,hk,hr,q⟩:=h;refine⟨b,cs,a,ws,s,e,k,sv,rfl,hC,hS,hl,hz,hr.1,hr.2,λp H' sm hp=>?_⟩;obtain⟨v,h1,h2⟩:=hp;exact q p v H' sm h1 h2
def Gb:Tr->Option Str
 |.one _=>none
 |.nt _=>some "not"
 |.bo _ _=>some "both"
 |.ei _ _=>some "either"
theorem afn{cs:List ς}{ws:List Str}{t:Tr}{s e:Nat}{z:Str}(h:Reads cs ws t s e)(hw:Gb t=some z):s<60/\ws[s]?=some z:=by
 cases t with
 |one _=>cases hw
 |nt t=>cases hw;exact⟨h.1,h.2.1⟩
 |bo t u=>cases hw;exact⟨h.1,h.2.1⟩
 |ei t u=>cases hw;exact⟨h.1,h.2.1⟩
theorem vG{t:Tr}{z:Str}(hw:Gb t=some z):z="not"\/z="both"\/z="either":=by
 cases t with
 |one _=>cases hw
 |nt t=>cases hw;exact .inl rfl
 |bo t u=>cases hw;exact .inr (.inl rfl)
 |ei t u=>cases hw;exact .inr (.inr rfl)
theorem yF(T:Txt K mg){t:Tr}{z:Str}{lv:Nat}(hw:Gb t=some z)(D:Def P w K mg base true lv "read_of_sieves" ["columns","words","start","within"] (xK K mg t))(h3:3<=lv:=by omega):Def P w K mg base true (lv+1) "read_part" ["columns","words","start","within"] (jb K mg t):=by
 refine Ο T.K1 vZ (λ_ _ A _ _ H vs Q E hr h=>?_);intro X;obtain⟨b,cs,a,ws,s0,e,k,rfl,hC,hS,hl,hz,hk0,hk,hrd,q⟩:=h;have nd:=vZ.nd;have hsz:=ϳ;have g1:=T.FW;have g2:=T.Rr;have g3:=T.zM;have g4:=T.Ah;have g5:=T.FJ;have g6:=T.Iu;have g7:=T.u9;have g8:=T.wI;have g9:=T.Wv;have D1:= @oV P w K mg base T;obtain⟨eY,hws⟩:=afn hrd hw;have hlt:=(aaF.mp hws).1;have amu:1<=t.dep:=by
  cases t with
  |one _=>cases hw
  |nt t=>show 1<=t.dep+1;omega
  |bo t u=>show 1<=max t.dep u.dep+1;omega
  |ei t u=>show 1<=max t.dep u.dep+1;omega
 have e1:¬V.str z=V.str ("all":Str):=by obtain rfl|rfl|rfl:=vG hw<;>decide+kernel
 have e2:¬V.str z=V.str ("none":Str):=by obtain rfl|rfl|rfl:=vG hw<;>decide+kernel
 have e3:gM (V.str z) [V.str ("is":Str),V.str ("under":Str),V.str ("over":Str),V.str ("holds":Str)]=false:=by obtain rfl|rfl|rfl:=vG hw<;>decide+kernel
 have e4:gM (V.str z) [V.str ("not":Str),V.str ("both":Str),V.str ("either":Str)]=true:=by obtain rfl|rfl|rfl:=vG hw<;>decide+kernel
 walk_at"A";refine⟨a,ws,s0,rfl,hS,hl,by omega,λhb=>absurd ⟨hlt,eY⟩ hb,λz' hz' _=>?_⟩;rw[hws]at hz';cases hz';refine ξ (Τ ?_);walk_at"ex";refine Ζ (λh=>absurd h e1) (λ_=>?_);refine Δ (ξ (Τ ?_));walk_at"ex";refine Ζ (λh=>absurd h e2) (λ_=>?_);refine Δ (ξ (Τ ?_));walk_at"ex";refine⟨by show 4<=Ϫ;omega,λtp htp=>?_⟩;refine Fv (ω.of ρ) ?_;rw[e3];have ϛ:ζ H (upd H tp (.tup [.str "is",.str "under",.str "over",.str "holds"])):=ζ.upd htp;generalize upd H tp (.tup [.str "is",.str "under",.str "over",.str "holds"])=H2 at ϛ⊢;walk_at"ex";refine Δ (ξ (Τ ?_));walk_at"ex";refine⟨by show 3<=Ϫ;omega,λtq Vn=>?_⟩;refine Fv (ω.of ρ) ?_;rw[e4];have Pb:ζ H2 (upd H2 tq (.tup [.str "not",.str "both",.str "either"])):=ζ.upd Vn;generalize upd H2 tq (.tup [.str "not",.str "both",.str "either"])=H3 at Pb⊢;walk_at"ex";have sm3:=ϛ.trans Pb;refine ο (Η ?_);walk_at"ex";exact⟨b,cs,a,ws,s0,e,k+1,rfl,hC.same sm3,sm3.seq hS,hl,hz,by omega,by omega,by omega,hrd,λp v H' sm hp hv=>q p v H' (sm3.trans sm) hp hv⟩
theorem adf(T:Txt K mg){t:Tr}{lv l1:Nat}(D1:Def P w K mg base true l1 "read_part" ["columns","words","start","within"] (jb K mg t))(h1:l1<=lv)(h3:3<=lv):Def P w K mg base true (lv+1) "read_of_sieves" ["columns","words","start","within"] (xK K mg (.nt t)):=by
 refine Ο T.Cy pQ (λ_ _ _ _ s H vs Q E hr h=>?_);intro X;obtain⟨b,cs,a,ws,s0,e,k,rfl,hC,hS,hl,hz,hk0,hk,Ol,hrd,q⟩:=h;have nd:=pQ.nd;have hsz:=ϳ;have g1:=T.GX;have g2:=T.u9;have g3:=T.wI;have DB:= @j8 P w K mg base T;have hle:=hrd.le;have hd:k+(t.dep+1:Nat)<=21:=hk;obtain⟨eY,hws,jo⟩:=hrd;have TQ:=jo.le;have sw:θ K H a (ws.map V.str):=hS;have e1:(s0:Int)+1=((s0+1:Nat):Int):=by omega
 refine ξ (Τ ?_);walk_at"ex";refine Ζ (λh=>absurd h (by omega)) (λ_=>?_);refine Δ (ξ ?_);walk_at"s";walk_at"ex";refine ϖ sw (v:=.str ("not":Str)) (ϔ (by rw[acy,hws];rfl)) ?_;refine ξ (nZ ?_);walk_at"ex";rw[e1];refine⟨b,cs,a,ws,s0+1,_,k,rfl,hC,hS,hl,hz,by omega,by omega,jo,λp1 v1 H1 Ε hp1 hv1=>?_⟩;refine bQ (ω.of hp1) (ϕ (Ι nd (by rfl) (.inl rfl) (.inl rfl) (ϕ (Ι nd (by rfl) (.inl rfl) (.inl rfl) (b7 ?_)))));refine ξ (Τ ?_);walk_at"ex";refine cu ?_;refine ο (Η ?_);have M:fK P w K mg base true 2 "NotSieve" (η mg "NotSieve") ["self","text","one"] (Qj K):=(ahU T).make T.aiu T.aeU;walk_at"ex";refine gk M hr (by omega) (λ_=>rfl) Ν ?_;walk_at"ex";refine⟨a,ws,s0,e,rfl,Ε.seq hS,hl,hz,by omega,by omega,λH2 Λ =>?_⟩;walk_at"ex";intro y dx hy hdx Ϻ;refine⟨y,_,dx,[],_,_,rfl,ρ,T.G8,T.aiR,T.Je,by simp,rfl,?_⟩;walk_at"ex";refine⟨by show 2<=Ϫ;omega,λp hp=>?_⟩;generalize hG:upd (upd (upd (upd H2 dx (.own y)) y (.ins (η mg "NotSieve") dx [])) y _) y _=G at hp⊢;have b8:ζ H2 G:=λc o e=>by
  rw[<-hG,ι (Θ e hy),ι (Θ e hy),ι (Θ e hy),ι (Θ e hdx)];exact e
 have ey:G y=some (.ins (η mg "NotSieve") dx [("text",.str (bO ws s0 e)),("one",.ref v1)]):=by
  rw[<-hG];exact ρ
 have Ψ :ζ G (upd G p (.tup [.ref y,.int e])):=ζ.upd hp;exact q p y _ (((Ε.trans Λ).trans b8).trans Ψ) ρ ⟨dx,v1,_,Ψ _ _ ey,((hv1.same Λ).same b8).same Ψ⟩
theorem Vr(T:Txt K mg){t u:Tr}{lv l1 l2:Nat}(D1:Def P w K mg base true l1 "read_part" ["columns","words","start","within"] (jb K mg t))(h1:l1<=lv)(D2:True->Def P w K mg base true l2 "read_part" ["columns","words","start","within"] (jb K mg u))(h2:l2<=lv)(h3:3<=lv):Def P w K mg base true (lv+1) "read_of_sieves" ["columns","words","start","within"] (xK K mg (.bo t u)):=by
 refine Ο T.Cy pQ (λ_ _ A _ s H vs Q E hr h=>?_);intro X;obtain⟨b,cs,a,ws,s0,e,k,rfl,hC,hS,hl,hz,hk0,hk,Ol,hrd,q⟩:=h;have nd:=pQ.nd;have hsz:=ϳ;have g1:=T.GX;have g2:=T.u9;have g3:=T.wI;have DB:= @j8 P w K mg base T;have hle:=hrd.le;have hd:k+(max t.dep u.dep+1:Nat)<=21:=hk;obtain⟨eY,hws,m,jo,rm⟩:=hrd;have afC:=rm.le;have TQ:=jo.le;have sw:θ K H a (ws.map V.str):=hS;have e1:(s0:Int)+1=((s0+1:Nat):Int):=by omega
 refine ξ (Τ ?_);walk_at"ex";refine Ζ (λh=>absurd h (by omega)) (λ_=>?_);refine Δ (ξ ?_);walk_at"s";walk_at"ex";refine ϖ sw (v:=.str ("both":Str)) (ϔ (by rw[acy,hws];rfl)) ?_;refine ξ (nZ ?_);walk_at"ex";rw[e1];refine⟨b,cs,a,ws,s0+1,_,k,rfl,hC,hS,hl,hz,by omega,by omega,jo,λp1 v1 H1 Ε hp1 hv1=>?_⟩;refine bQ (ω.of hp1) (ϕ (Ι nd (by rfl) (.inl rfl) (.inl rfl) (ϕ (Ι nd (by rfl) (.inl rfl) (.inl rfl) (b7 ?_)))));refine ξ (Τ ?_);walk_at"ex";refine bc ?_;clear D1;have D2:=D2 trivial;refine Δ (ξ (nZ ?_));walk_at"ex";refine⟨b,cs,a,ws,m,e,k,rfl,hC.same Ε,Ε.seq hS,hl,hz,by omega,by omega,rm,λp2 v2 H2 Λ hp2 hv2=>?_⟩;refine bQ (ω.of hp2) (ϕ (Ι nd (by rfl) (.inl rfl) (.inl rfl) (ϕ (Ι nd (by rfl) (.inl rfl) (.inl rfl) (b7 ?_)))));have um:=Ε.trans Λ;walk_at"A";refine⟨a,ws,s0,e,rfl,um.seq hS,hl,hz,by omega,by omega,λH3 sm3=>?_⟩;have M:fK P w K mg base true 2 "BothSieve" (η mg "BothSieve") ["self","text","one","other"] (Gi K):=(JF T).make T.aeq T.ajC;refine ξ (Τ ?_);walk_at"ex";refine cu ?_;refine ο (Η ?_);walk_at"ex";refine gk M hr (by omega) (λ_=>rfl) Ν ?_;walk_at"ex";intro y dx hy hdx Ϻ;refine⟨y,_,dx,[],_,_,_,rfl,ρ,T.wD,T.XR,T.Jx,T.JG,by simp,λG ey keep=>⟨rfl,?_⟩⟩;walk_at"ex";refine⟨by show 2<=Ϫ;omega,λp hp=>?_⟩;have b8:ζ H3 G:=λc o e=>keep _ _ (Θ e hy) (by rw[ι (Θ e hy),ι (Θ e hdx)];exact e)
 have ey:G y=some (.ins (η mg "BothSieve") dx [("text",.str (bO ws s0 e)),("one",.ref v1),("other",.ref v2)]):=ey;have Ψ :ζ G (upd G p (.tup [.ref y,.int e])):=ζ.upd hp;have lq:=(sm3.trans b8).trans Ψ;exact q p y _ (um.trans lq) ρ ⟨dx,v1,v2,_,_,Ψ _ _ ey,(hv1.same Λ).same lq,hv2.same lq⟩
theorem agS(T:Txt K mg){t u:Tr}{lv l1 l2:Nat}(D1:Def P w K mg base true l1 "read_part" ["columns","words","start","within"] (jb K mg t))(h1:l1<=lv)(D2:True->Def P w K mg base true l2 "read_part" ["columns","words","start","within"] (jb K mg u))(h2:l2<=lv)(h3:3<=lv):Def P w K mg base true (lv+1) "read_of_sieves" ["columns","words","start","within"] (xK K mg (.ei t u)):=by
 refine Ο T.Cy pQ (λ_ _ A _ s H vs Q E hr h=>?_);intro X;obtain⟨b,cs,a,ws,s0,e,k,rfl,hC,hS,hl,hz,hk0,hk,Ol,hrd,q⟩:=h;have nd:=pQ.nd;have hsz:=ϳ;have g1:=T.GX;have g2:=T.u9;have g3:=T.wI;have DB:= @j8 P w K mg base T;have hle:=hrd.le;have hd:k+(max t.dep u.dep+1:Nat)<=21:=hk;obtain⟨eY,hws,m,jo,rm⟩:=hrd;have afC:=rm.le;have TQ:=jo.le;have sw:θ K H a (ws.map V.str):=hS;have e1:(s0:Int)+1=((s0+1:Nat):Int):=by omega
 refine ξ (Τ ?_);walk_at"ex";refine Ζ (λh=>absurd h (by omega)) (λ_=>?_);refine Δ (ξ ?_);walk_at"s";walk_at"ex";refine ϖ sw (v:=.str ("either":Str)) (ϔ (by rw[acy,hws];rfl)) ?_;refine ξ (nZ ?_);walk_at"ex";rw[e1];refine⟨b,cs,a,ws,s0+1,_,k,rfl,hC,hS,hl,hz,by omega,by omega,jo,λp1 v1 H1 Ε hp1 hv1=>?_⟩;refine bQ (ω.of hp1) (ϕ (Ι nd (by rfl) (.inl rfl) (.inl rfl) (ϕ (Ι nd (by rfl) (.inl rfl) (.inl rfl) (b7 ?_)))));refine ξ (Τ ?_);walk_at"ex";refine bc ?_;clear D1;have D2:=D2 trivial;refine Δ (ξ (nZ ?_));walk_at"ex";refine⟨b,cs,a,ws,m,e,k,rfl,hC.same Ε,Ε.seq hS,hl,hz,by omega,by omega,rm,λp2 v2 H2 Λ hp2 hv2=>?_⟩;refine bQ (ω.of hp2) (ϕ (Ι nd (by rfl) (.inl rfl) (.inl rfl) (ϕ (Ι nd (by rfl) (.inl rfl) (.inl rfl) (b7 ?_)))));have um:=Ε.trans Λ;walk_at"A";refine⟨a,ws,s0,e,rfl,um.seq hS,hl,hz,by omega,by omega,λH3 sm3=>?_⟩;have M:fK P w K mg base true 2 "EitherSieve" (η mg "EitherSieve") ["self","text","one","other"] (Gi K):=(JF T).make T.acK T.aab;refine ξ (Τ ?_);walk_at"ex";refine bc ?_;refine Δ (ο (Η ?_));walk_at"ex";refine gk M hr (by omega) (λ_=>rfl) Ν ?_;walk_at"ex";intro y dx hy hdx Ϻ;refine⟨y,_,dx,[],_,_,_,rfl,ρ,T.wQ,T.aj4,T.Q8,T.QC,by simp,λG ey keep=>⟨rfl,?_⟩⟩;walk_at"ex";refine⟨by show 2<=Ϫ;omega,λp hp=>?_⟩;have b8:ζ H3 G:=λc o e=>keep _ _ (Θ e hy) (by rw[ι (Θ e hy),ι (Θ e hdx)];exact e)
 have ey:G y=some (.ins (η mg "EitherSieve") dx [("text",.str (bO ws s0 e)),("one",.ref v1),("other",.ref v2)]):=ey;have Ψ :ζ G (upd G p (.tup [.ref y,.int e])):=ζ.upd hp;have lq:=(sm3.trans b8).trans Ψ;exact q p y _ (um.trans lq) ρ ⟨dx,v1,v2,_,_,Ψ _ _ ey,(hv1.same Λ).same lq,hv2.same lq⟩
theorem nG(T:Txt K mg):∀t:Tr,Def P w K mg base true (8+2*t.dep) "read_part" ["columns","words","start","within"] (jb K mg t)
 |.one sv=>XX T sv
 |.nt t=>by
   have h:=yF T (z:="not") (lv:=8+2*t.dep+1) rfl (adf T (lv:=8+2*t.dep) (nG T t) (Ϯ _) (by omega));have e:8+2*(Tr.nt t).dep=8+2*t.dep+1+1:=by show 8+2*(t.dep+1)=_;omega
   rw[e];exact h
 |.bo t u=>by
   have h:=yF T (z:="both") (lv:=8+2*max t.dep u.dep+1) rfl (Vr T (lv:=8+2*max t.dep u.dep) (nG T t) (by omega) (λ_=>nG T u) (by omega) (by omega));have e:8+2*(Tr.bo t u).dep=8+2*max t.dep u.dep+1+1:=by show 8+2*(max t.dep u.dep+1)=_;omega
   rw[e];exact h
 |.ei t u=>by
   have h:=yF T (z:="either") (lv:=8+2*max t.dep u.dep+1) rfl (agS T (lv:=8+2*max t.dep u.dep) (nG T t) (by omega) (λ_=>nG T u) (by omega) (by omega));have e:8+2*(Tr.ei t u).dep=8+2*max t.dep u.dep+1+1:=by show 8+2*(max t.dep u.dep+1)=_;omega
   rw[e];exact h
def afa(mg:Str->Option ε)(t:Tr):Sp:=λvs H Q _=>∃(b:δ)(cs:List ς)(z:Str),vs=[.ref b,.str z]/\ϒ H b cs/\z.length<=3000/\(∀y∈ϣ 32 z,y.length<=1000)/\t.dep<=20/\Reads cs (ϣ 32 z) t 0 (ϣ 32 z).length/\∀v H',ζ H H'->bu mg H' t v (bO (ϣ 32 z) 0 (ϣ 32 z).length)->Q (.ref v) H'
theorem ahi(T:Txt K mg)(t:Tr):Def P w K mg base true (9+2*t.dep) "read_sieve" ["columns","text"] (afa mg t):=by
 have e9:9+2*t.dep=(8+2*t.dep)+1:=by omega
 rw[e9];refine Ο T.acP Q5 (λ_ _ _ _ s H vs Q E hr h=>?_);intro X;obtain⟨b,cs,z,rfl,hC,hz,hzs,hdp,hrd,q⟩:=h;have nd:=Q5.nd;have n1:=T.cQ;have hsz:=ϳ;have D1:= @nG P w K mg base T t;have hcl:=Pq 32 z;refine ξ ?_;walk_at"s";refine cH F.plainAttrs_str F.slot_str_split F.type_str_split (h:=?_);walk_at"go";refine m_split (c:=32) (by omega) λp hp=>?_
 obtain⟨Ε,ep⟩:=ϊ hp (.lst ((ϣ 32 z).map V.str));generalize upd H p (.lst ((ϣ 32 z).map V.str))=H1 at Ε ep⊢;refine ξ (nZ ?_);walk_at"ex";refine⟨b,cs,p,ϣ 32 z,0,_,0,rfl,hC.same Ε,θ.of ep,by omega,hzs,by decide,by omega,hrd,λpr v H2 Λ WW hsv=>?_⟩;refine bQ (ω.of WW) (ϕ (Ι nd (by rfl) (.inl rfl) (.inl rfl) (ϕ (Ι nd (by rfl) (.inl rfl) (.inl rfl) (b7 ?_)))));have SP2:θ K H2 p ((ϣ 32 z).map V.str):=θ.of (Λ _ _ ep);have cA:((ϣ 32 z).map V.str).length=(ϣ 32 z).length:=ϱ ..;refine ξ ?_;walk_at"go";rw[cA];refine Ζ (λh=>absurd h (by omega)) (λ_=>?_);walk_at"go";exact q v H2 (Ε.trans Λ) hsv
def XQ(xs:List V):cL->Bool
 |.all=>true
 |.none p=>decide ((xs[p]?).getD .non=.non)
 |.look l p v=> !decide ((xs[p]?).getD .non=.non)&&lY l ((xs[p]?).getD .non) v
def Lp(xs:List V):cL->Prop
 |.all=>True
 |.none p=>p<xs.length
 |.look l p v=>∃x,xs[p]?=some x/\(x=.non\/zT l x v)
def ύ(xs:List V):Tr->Bool
 |.one s=>XQ xs s
 |.nt t=> !ύ xs t
 |.bo t u=>ύ xs t&&ύ xs u
 |.ei t u=>ύ xs t||ύ xs u
def jG(xs:List V):Tr->Prop
 |.one s=>Lp xs s
 |.nt t=>jG xs t
 |.bo t u=>jG xs t/\jG xs u
 |.ei t u=>jG xs t/\jG xs u
def dC(mg:Str->Option ε):Tr->δ
 |.one .all=>η mg "AllSieve"
 |.one (.none _)=>η mg "NoneSieve"
 |.one (.look l _ _)=>wB mg l
 |.nt _=>η mg "NotSieve"
 |.bo _ _=>η mg "BothSieve"
 |.ei _ _=>η mg "EitherSieve"
def cT(K:ϩ)(mg:Str->Option ε)(t:Tr):Sp:=λvs H Q _=>∃(a b:δ)(z:Str)(xs:List V),vs=[.ref a,.ref b]/\bu mg H t a z/\θ K H b xs/\jG xs t/\Q (.bl (ύ xs t)) H
theorem bu.ins{mg:Str->Option ε}{H:Hp}:∀{t:Tr}{a:δ}{z:Str},bu mg H t a z->∃dx fs,H a=some (.ins (dC mg t) dx fs)/\fs.lookup ("lets":Str)=none
 |.one .all,a,z,h=>by obtain⟨dx,h⟩:=h;exact⟨dx,_,h,rfl⟩
 |.one (.none p),a,z,h=>by obtain⟨dx,h⟩:=h;exact⟨dx,_,h,rfl⟩
 |.one (.look l p v),a,z,h=>by obtain⟨dx,h⟩:=h;exact⟨dx,_,h,rfl⟩
 |.nt t,a,z,h=>by obtain⟨dx,b,y,h,_⟩:=h;exact⟨dx,_,h,rfl⟩
 |.bo t u,a,z,h=>by obtain⟨dx,b,c,y,x,h,_⟩:=h;exact⟨dx,_,h,rfl⟩
 |.ei t u,a,z,h=>by obtain⟨dx,b,c,y,x,h,_⟩:=h;exact⟨dx,_,h,rfl⟩
theorem W9(T:Txt K mg)(l:Lk)(p:Nat)(v:V):ak P w K mg base true 3 (wB mg l) "lets" ["self","values"] (RC K l (wB mg l)):=by
 cases l with
 |is=>exact(xQ ((aiO T.wj T.Hs).meth T.wj T.aje) T.Rg).meth T.wj T.abi
 |under=>exact(xQ ((We T T.wZ T.M5).meth T.wZ T.Z2) T.Nt).meth T.wZ T.acA
 |over=>exact(xQ ((ab8 T T.vH T.Qa).meth T.vH T.ajh) T.JS).meth T.vH T.ajX
 |holds=>exact(xQ ((ae2 T.wU T.Ir).meth T.wU T.Vv) T.HS).meth T.wU T.afD
theorem ag4(T:Txt K mg){t:Tr}{lv:Nat}(M:ak P w K mg base true lv (dC mg t) "lets" ["self","values"] (cT K mg t)):FD P w K mg base true (lv+1) "lets" "NotSieve.lets" Ac ["self","values"] (cT K mg (.nt t)):=by
 refine au aaG (λ_ _ _ _ _ H vs Q E hr h=>?_);intro X;obtain⟨a,b,z,xs,rfl,⟨dx,c,y,ha,hc⟩,hS,hf,q⟩:=h;obtain⟨dc,fc,ec,lc⟩:=hc.ins;refine ο (Η ?_);walk_at"ex";refine aM (pl:=_) hr Ν (h:=?_);refine Ϣ ?_;walk_at"e";refine⟨a,_,_,_,_,rfl,ha,T.G8,T.Je,rfl,?_⟩;refine⟨c,dC mg t,dc,_,true,lv,_,cT K mg t,rfl,ec,lc,M,Ϯ _,id,?_⟩;walk_at"ex";refine⟨c,b,y,xs,rfl,hc,hS,hf,?_⟩;walk_at"ex";exact q
theorem Va(T:Txt K mg){t u:Tr}{lv l1 l2:Nat}(M1:ak P w K mg base true l1 (dC mg t) "lets" ["self","values"] (cT K mg t))(h1:l1<=lv)(M2:ak P w K mg base true l2 (dC mg u) "lets" ["self","values"] (cT K mg u))(h2:l2<=lv):FD P w K mg base true (lv+1) "lets" "BothSieve.lets" zP ["self","values"] (cT K mg (.bo t u)):=by
 refine au aju (λ_ _ _ _ _ H vs Q E hr h=>?_);intro X;obtain⟨a,b,z,xs,rfl,⟨dx,c,d,y,x,ha,hc,hd⟩,hS,hf,q⟩:=h;obtain⟨dc,fc,ec,lc⟩:=hc.ins;obtain⟨dd,fd,ed,ld⟩:=hd.ins;refine ο (Η ?_);walk_at"ex";refine aM (pl:=_) hr Ν (h:=?_);refine Ϣ ?_;walk_at"e";refine⟨a,_,_,_,_,rfl,ha,T.wD,T.Jx,rfl,?_⟩;refine⟨c,dC mg t,dc,_,true,l1,_,cT K mg t,rfl,ec,lc,M1,h1,id,?_⟩;walk_at"ex";refine⟨c,b,y,xs,rfl,hc,hS,hf.1,?_⟩;have q:Q (.bl (ύ xs t&&ύ xs u)) H:=q;generalize ύ xs t=bt at q⊢;cases bt with
 |true=>
  walk_at"ex";refine aM (pl:=_) hr Ν (h:=?_);refine Ϣ ?_;walk_at"e";refine⟨a,_,_,_,_,rfl,ha,T.wD,T.JG,rfl,?_⟩;refine⟨d,dC mg u,dd,_,true,l2,_,cT K mg u,rfl,ed,ld,M2,h2,id,?_⟩;walk_at"ex";refine⟨d,b,x,xs,rfl,hd,hS,hf.2,?_⟩;exact q
 |false=>
  walk_at"ex";exact q
theorem Xh(T:Txt K mg){t u:Tr}{lv l1 l2:Nat}(M1:ak P w K mg base true l1 (dC mg t) "lets" ["self","values"] (cT K mg t))(h1:l1<=lv)(M2:ak P w K mg base true l2 (dC mg u) "lets" ["self","values"] (cT K mg u))(h2:l2<=lv):FD P w K mg base true (lv+1) "lets" "EitherSieve.lets" El ["self","values"] (cT K mg (.ei t u)):=by
 refine au aid (λ_ _ _ _ _ H vs Q E hr h=>?_);intro X;obtain⟨a,b,z,xs,rfl,⟨dx,c,d,y,x,ha,hc,hd⟩,hS,hf,q⟩:=h;obtain⟨dc,fc,ec,lc⟩:=hc.ins;obtain⟨dd,fd,ed,ld⟩:=hd.ins;refine ο (Η ?_);walk_at"ex";refine aM (pl:=_) hr Ν (h:=?_);refine Ϣ ?_;walk_at"e";refine⟨a,_,_,_,_,rfl,ha,T.wQ,T.Q8,rfl,?_⟩;refine⟨c,dC mg t,dc,_,true,l1,_,cT K mg t,rfl,ec,lc,M1,h1,id,?_⟩;walk_at"ex";refine⟨c,b,y,xs,rfl,hc,hS,hf.1,?_⟩;have q:Q (.bl (ύ xs t||ύ xs u)) H:=q;generalize ύ xs t=bt at q⊢;cases bt with
 |false=>
  walk_at"ex";refine aM (pl:=_) hr Ν (h:=?_);refine Ϣ ?_;walk_at"e";refine⟨a,_,_,_,_,rfl,ha,T.wQ,T.QC,rfl,?_⟩;refine⟨d,dC mg u,dd,_,true,l2,_,cT K mg u,rfl,ed,ld,M2,h2,id,?_⟩;walk_at"ex";refine⟨d,b,x,xs,rfl,hd,hS,hf.2,?_⟩;exact q
 |true=>
  walk_at"ex";exact q
theorem lA(T:Txt K mg):∀t:Tr,ak P w K mg base true (3+t.dep) (dC mg t) "lets" ["self","values"] (cT K mg t)
 |.one .all=>G5 (Xx.meth T.Th T.T8) (by decide) λvs H Q E h=>by
   obtain⟨a,b,z,xs,rfl,_,_,_,q⟩:=h;exact⟨_,_,rfl,q⟩
 |.one (.none p)=>G5 (ajd.meth T.Fz T.Uk) (by show 1<=3+0;decide) λvs H Q E h=>by
   obtain⟨a,b,z,xs,rfl,⟨dx,ha⟩,hS,hf,q⟩:=h;have hp:p<xs.length:=hf;have e:xs[p]?=some xs[p]:=aak hp;refine⟨a,_,dx,_,p,b,xs,xs[p],rfl,ha,T.Fz,T.Jf,rfl,hS,e,?_⟩;have q:Q (.bl (decide ((xs[p]?).getD .non=.non))) H:=q;rw[e]at q;exact q
 |.one (.look l p v)=>G5 (W9 T l p v) (by show 3<=3+0;decide) λvs H Q E h=>by
   obtain⟨a,b,z,xs,rfl,⟨dx,ha⟩,hS,⟨x,hx,hf⟩,q⟩:=h;refine⟨a,dx,z,p,v,b,xs,x,rfl,ha,hS,hx,hf,?_⟩;have q:Q (.bl (!decide ((xs[p]?).getD .non=.non)&&lY l ((xs[p]?).getD .non) v)) H:=q;rw[hx]at q;exact q
 |.nt t=>(ag4 T (lA T t)).meth T.G8 T.agv
 |.bo t u=>(Va T (lv:=3+max t.dep u.dep) (lA T t) (by omega) (lA T u) (by omega)).meth T.wD T.W2
 |.ei t u=>(Xh T (lv:=3+max t.dep u.dep) (lA T t) (by omega) (lA T u) (by omega)).meth T.wQ T.aiP
theorem Gu(T:Txt K mg):Def P w K mg base true 2 "read_order_word" ["columns","word"] (Yx (.ref (η mg "NoOrder"))):=by
 refine Ο T.Gu Ph (λ_ _ _ _ _ H vs Q E hr h=>?_);intro X;obtain⟨a,cs,z,rfl,hC,hz,qe,q⟩:=h;have g1:=T.Us;have g2:=T.abd;have nd:=Ph.nd;have D1:= @ug P w K mg base T;have hsz:=ϳ;have hcl:=uw z (some 1) none;have e1:("+":Str).cps.toList=[43]:=by decide+kernel
 have e2:("-":Str).cps.toList=[45]:=by decide+kernel
 have es:(Ϗ z none (some 1)).cps.toList=z.cps.toList.take 1:=yK z 1;have key:∀c:Nat,z.cps.toList.take 1=[c]↔z.cps.toList[0]?=some c:=λc=>by
  cases z.cps.toList with
  |nil=>simp
  |cons x r=>simp
 have k1:V.str (Ϗ z none (some 1))=V.str "+"↔z.cps.toList[0]?=some 43:=by
  rw[<-key];constructor
  .intro h;have h2:Ϗ z none (some 1)=Str.ofString "+":=by injection h
   rw[<-es,h2,e1]
  .intro h;have h2:Ϗ z none (some 1)=Str.ofString "+":=jD (by rw[es,h,e1]);rw[h2]
 have k2:V.str (Ϗ z none (some 1))=V.str "-"↔z.cps.toList[0]?=some 45:=by
  rw[<-key];constructor
  .intro h;have h2:Ϗ z none (some 1)=Str.ofString "-":=by injection h
   rw[<-es,h2,e2]
  .intro h;have h2:Ϗ z none (some 1)=Str.ofString "-":=jD (by rw[es,h,e2]);rw[h2]
 refine ξ ?_;walk_at"go";refine jt ?_;walk_at"go";refine jt ?_;walk_at"go";refine⟨by show 2<=Ϫ;omega,λp hp=>?_⟩;obtain⟨aG,ep⟩:=ϊ hp (.tup [.str "+",.str "-"]);generalize upd H p (.tup [.str "+",.str "-"])=H0 at aG ep⊢;refine Mw (ω.of ep) ?_;have ei:gM (V.str (Ϗ z none (some 1))) [.str "+",.str "-"]=decide (z.cps.toList[0]?=some 43\/z.cps.toList[0]?=some 45):=by
  have e3:∀y:Str,dR (V.str y) (V.str (Ϗ z none (some 1)))=decide (V.str (Ϗ z none (some 1))=V.str y):=λy=>by
   rw[agp,decide_eq_true_eq];constructor
   .intro h;have:V.str y=V.str (Ϗ z none (some 1)):=by simpa [dR]using h
    exact this.symm
   .intro h;rw[h];simp[dR]
  rw[agp,decide_eq_true_eq, <-k1, <-k2];show((dR _ _||(dR _ _||false))=true)↔_;rw[e3,e3,aoF,anx,decide_eq_true_eq,decide_eq_true_eq]
 rw[ei];walk_at"go";refine mj (λh=>?_) (λh=>?_)
 .refine ο (fM Ν T.w6 ?_);walk_at"go";refine nJ ?_;walk_at"e";refine⟨z,rfl,by omega,_,4000,rfl,hz,by omega,?_⟩;walk_at"go";intro zz;walk_at"go";exact⟨by rw[hsz];simp,qe H0 aG (if_neg λx=>h x.1)⟩
 .refine Δ ?_;walk_at"go";refine⟨a,cs,_,rfl,hC.same aG,λH1 Ε =>?_⟩;have Λ :=aG.trans Ε;walk_at"go";refine Ζ (λh2=>?_) (λh2=>?_)
  .refine ο (fM Ν T.w6 ?_);walk_at"go";refine nJ ?_;walk_at"e";refine⟨_,rfl,by omega,_,4000,rfl,by omega,by omega,?_⟩;walk_at"go";intro zz;walk_at"go";exact⟨by rw[hsz];simp,qe H1 Λ (if_neg λx=>x.2 h2)⟩
  .refine Δ ?_;walk_at"go";refine⟨by show 2<=Ϫ;omega,λt ht=>?_⟩;refine q t _ _ (Λ.trans (ζ.upd ht)) (if_pos ⟨h,h2⟩) ?_;rw[ρ];have e4:decide (V.str (Ϗ z none (some 1))=V.str ("+":Str))=decide (z.cps.toList[0]?=some 43):=decide_eq_decide.mpr k1;rw[e4]
theorem yL(T:Txt K mg):Def P w K mg base true 3 "read_order" ["columns","text"] (Yy (.ref (η mg "NoOrder"))):=by
 refine Ο T.yL QV (λf _ _ _ s H vs Q E hr h=>?_);intro X;obtain⟨a,cs,z,rfl,hC,hz,qe,q⟩:=h;have g1:=T.age;have n1:=T.cQ;have n2:=T.Ep;have nd:=QV.nd;have qm:(["word","columns"]:List Str).Nodup:=by decide+kernel
 have dB:(["name","up"]:List Str).Nodup:=by decide+kernel
 have D1:= @Gu P w K mg base T;have hsz:=ϳ;unfold jA at qe q;refine ξ ?_;walk_at"go";refine Ζ (λh=>?_) (λh=>?_)
 .have h':z="":=by injection h
  walk_at"go";refine⟨by show 0<=Ϫ;omega,λp hp=>?_⟩;exact q p [] _ (ζ.upd hp) (if_pos h') hp ⟨[],ρ,.nil⟩
 .have h':¬z="":=λe=>h (by rw[e])
  rw[if_neg h']at qe q;refine Δ ?_;refine ξ ?_;walk_at"s";refine cH PySem.F.plainAttrs_str PySem.F.slot_str_split PySem.F.type_str_split (h:=?_);walk_at"go";refine m_split (c:=32) (by omega) λp1 hp1=>?_
  have hwl:=Pq 32 z;have hws:=λy=> @Xn 32 z y
  generalize ϣ 32 z=ws at qe q hwl hws⊢;obtain⟨Ε,jL⟩:=ϊ hp1 (.lst (ws.map V.str));generalize upd H p1 (.lst (ws.map V.str))=H1 at Ε jL⊢;have cA:(ws.map V.str).length=ws.length:=ϱ ..;have S1:θ K H1 p1 (ws.map V.str):=θ.of jL;walk_at"go";rw[cA];refine Ζ (λh2=>?_) (λh2=>?_)
  .refine ο (fM Ν T.w6 ?_);walk_at"go";exact⟨by rw[hsz];simp,qe H1 Ε (if_pos (by omega))⟩
  .rw[if_neg (by omega)]at qe q;refine Δ ?_;refine ξ ?_;refine ajw ["word","columns"] (σ':=[none,some (.ref a)]) (by rfl) Ν rfl rfl (by rfl) (by rfl) (bK (υ xn)) (by intro _;rfl) nd (by rfl) (by rfl) ?_;walk_at"go";refine⟨p1,_,rfl,S1,by rw[cA];omega,λτ=>∃o,τ=[o,some (.ref a)],λE' i v H'=>∃y,ws[i]?=some y/\∃o,gQ cs y=some o/\∃t,v=.ref t/\t≠E'/\H' t=some (.tup [.str o.1,.bl o.2]),⟨none,rfl⟩,λE' i v H2 H3 ys _ hk hp=>?_,λfp E' C s3 H0 F i τ x H2 H3 xo hE hi hτ Λ hys hG=>?_,λE' H2 xs hE hl hx e2 Λ =>?_⟩
   .obtain⟨y,a1,o,a2,t,a3,a4,a5⟩:=hp;exact⟨y,a1,o,a2,t,a3,a4,hk t _ a4 a5⟩
   .obtain⟨o,rfl⟩:=hτ;obtain⟨hx,rfl⟩:=hG;rw[acy]at hx;obtain⟨y,ey,rfl⟩:=afi.mp hx;have hyl:=hws y (abG ey);refine Ι qm (by rfl) (.inl rfl) (.inr rfl) ?_;walk_at"go";have sm3:=Ε.trans Λ;refine⟨a,cs,y,rfl,hC.same sm3,by omega,λH' Ξ e=>?_,λt o H' Ξ e et=>?_⟩
    .exact qe H' (sm3.trans Ξ) (by rw[Ro (abG ey) e])
    .obtain⟨ys,hy1,_⟩:=hys;refine⟨⟨_,rfl⟩,⟨y,ey,o,e,t,rfl,λz=>?_,et⟩,Ξ⟩;rw[z,Ξ _ _ hy1]at et;cases et
   .obtain⟨os,eo,ha⟩:=Iw (f:=gQ cs) (R:=tO H2) (ws:=ws) (xs:=xs) (by rw[hl,cA]) λi v e=>by
     obtain⟨y,a1,o,a2,t,a3,a4,a5⟩:=hx i v e;exact⟨y,a1,o,a2,t,a3,a5⟩
    rw[eo]at qe q;have hol:=ha.len;have sm3:=Ε.trans Λ;have YF:H E'=none:=by
     cases e:H E' with
     |none=>rfl
     |some u=>rw[Ε _ _ e]at hE;cases hE
    refine ξ ?_;refine zY ["name","up"] (σ':=[none,none]) (bK (υ xn)) nd ?_;walk_at"go";refine⟨E',xs,rfl,θ.of e2,by rw[hl,cA];omega,λτ=>∃o1 o2,τ=[o1,o2],λE2 i u H'=>∃c,os[i]?=some c/\u=.str c.1,⟨none,none,rfl⟩,λE2 i u H2 H3 ys _ _ p=>p,λfp E2 C s3 H0 i τ x H4 H3 bU hi hτ Ξ hys hG=>?_,λE2 H4 ys bU hl2 hx2 e4 Ξ =>?_⟩
    .obtain⟨o1,o2,rfl⟩:=hτ;obtain⟨bN,rfl⟩:=hG;obtain⟨c,hc,t,rfl,ht⟩:=ha.get bN;refine bQ (ω.of (Ξ _ _ ht)) (ϕ (Ι dB (by rfl) (.inl rfl) (.inr rfl) (ϕ (Ι dB (by rfl) (.inl rfl) (.inr rfl) (b7 ?_)))));walk_at"go";exact⟨⟨_,_,rfl⟩,⟨c,hc,rfl⟩,ζ.refl _⟩
    .have ey:=gb (ys:=os) (λc=>V.str c.1) (by rw[hl2,hol]) hx2;have fW:ys=(os.map Prod.fst).map V.str:=by rw[ey,afK];rfl
     subst fW;have hnl:(os.map Prod.fst).length<=4000:=by simp;omega
     refine ξ ?_;walk_at"go";refine Jq (by rfl) (θ.of e4) hnl λS hS=>?_
     walk_at"go";refine La ρ hnl ?_;walk_at"go";refine uA (.inl (θ.of ((ζ.upd hS) _ _ e4))) ?_;walk_at"go";have aW:ζ H2 (upd H4 S (ju X S (os.map Prod.fst))):=Ξ.trans (ζ.upd hS);have lR:=Cp _ (os.map Prod.fst) rfl;generalize upd H4 S (ju X S (os.map Prod.fst))=H5 at aW⊢;rw[ϱ (f:=V.str)];refine mj (λh3=>?_) (λh3=>?_)
     .have h4:¬(os.map Prod.fst).Nodup:=λz=>h3 (by rw[lR.mpr z])
      refine ο (fM Ν T.w6 ?_);walk_at"go";exact⟨by rw[hsz];simp,qe H5 (sm3.trans aW) (if_neg h4)⟩
     .have h4:(os.map Prod.fst).Nodup:=lR.mp (by injection h3 with h5;omega);refine Δ ?_;walk_at"go";exact q E' os H5 (sm3.trans aW) (if_pos h4) YF ⟨xs,aW _ _ e2,ha.imp λu c r=>r.same aW⟩
abbrev Row:=Int×List V
def uX(H:Hp)(v:V)(r:Row):=∃t l,v=.ref t/\H t=some (.tup [.int r.1,.ref l])/\H l=some (.lst r.2)
def K7(H:Hp)(a:δ)(rs:List Row):=∃vs:List V,H a=some (.lst vs)/\ψ (uX H) vs rs
def eQ(cs:List ς)(r:Row):Prop:=ψ (λc x=>aB c.2 x) cs r.2
def v5(cs:List ς)(z:Str):Str:=match cs[aL cs z]? with
 |some c=>c.2
 |none=>Str.ofString ""
def gr(cs:List ς)(os:List Ord)(xs:List V):Prop:=ψ (λ(o:Ord) x=>aB (v5 cs o.1) x) os xs
theorem uv{cs:List ς}{r:Row}(h:eQ cs r):∀{os:List Ord},fO cs os->gr cs os (ϥ cs os r.2)
 |[],_=>.nil
 |o::os,hin=>by
  refine .cons ?_ (uv h λx hx=>hin x (by simp[hx]));obtain⟨c,hc,_⟩:=zq (hin o (by simp));obtain⟨v,hv,hk⟩:=h.get hc;show aB (v5 cs o.1) (gf cs r.2 o.1);unfold v5 gf;rw[hc,hv];exact hk
theorem vU(T:Txt K mg):Def P w K mg base true 2 "key_of" ["columns","order","row","values"] aeJ:=by
 refine Ο T.vU Xa (λ_ _ _ _ _ H vs Q E hr h=>?_);intro X;obtain⟨a,b,n,c,cs,os,xs,rfl,hC,⟨ws,hb,hws⟩,hc,hxl,hcl,hol,hin,q⟩:=h;have rM:(["name","up","columns","values"]:List Str).Nodup:=by decide+kernel
 have hsz:=ϳ;have hwl:=hws.len;have D1:= @ug P w K mg base T;refine ο (Η ?_);refine Gy ?_;refine eF (by rfl) ?_;refine j9 ["name","up","columns","values"] (σ':=[none,none,some (.ref a),some (.ref c)]) (bK (υ Cm)) ?_;walk_at"e";refine⟨b,ws,rfl,θ.of hb,by omega,λτ=>∃o1 o2,τ=[o1,o2,some (.ref a),some (.ref c)],λE2 i u H'=>∃o,os[i]?=some o/\u=gf cs xs o.1,⟨none,none,rfl⟩,λE2 i u H2 H3 ys _ _ p=>p,λfp E2 C s3 H0 i τ x H4 H3 bU hi hτ Ξ hys hG=>?_,λE2 H4 ys bU hl2 hx2 e4 Ξ =>?_⟩
 .obtain⟨o1,o2,rfl⟩:=hτ;obtain⟨bN,rfl⟩:=hG;obtain⟨o,ho,t,rfl,ht⟩:=hws.get bN;refine bQ (ω.of (Ξ _ _ ht)) (ϕ (Ι rM (by rfl) (.inl rfl) (.inr rfl) (ϕ (Ι rM (by rfl) (.inl rfl) (.inr rfl) (b7 ?_)))));walk_at"go";refine⟨a,cs,o.1,rfl,hC.same Ξ,λH5 aW=>?_⟩;have hio:=hin o (abG ho);rw[Cq 0 hio,aoo];have hlt:=Gs hio;have hg:xs[aL cs o.1]?=some xs[aL cs o.1]:=aak (by omega);refine ϖ (θ.of (aW _ _ (Ξ _ _ hc))) (ϔ hg) ?_;exact⟨⟨_,_,rfl⟩,⟨o,ho,by unfold gf;rw[hg];rfl⟩,aW⟩
 .have ey:=gb (ys:=os) (λo=>gf cs xs o.1) (by rw[hl2,hwl]) hx2;walk_at"go";refine⟨by show 2<=Ϫ;omega,λp hp=>?_⟩;have pn:H p=none:=by
   cases e:H p with
   |none=>rfl
   |some u=>rw[Ξ _ _ e]at hp;cases hp
  have Ψ :ζ H4 (upd H4 p (.tup [.ref E2,.int n])):=ζ.upd hp;refine q p E2 _ (Ξ.trans Ψ) pn bU ?_ ρ;rw[Ψ _ _ e4,ey];rfl
theorem Mz{cs:List ς}(h:Ϙ cs=true):1<=cs.length/\cs.length<=6:=by
 unfold Ϙ at h;simp only[aaV,decide_eq_true_eq]at h;exact h.1.1
def akc(K:ϩ):Sp:=λvs H Q _=>∃(a:δ)(ns:List Int)(k:Int)(b:δ)(cs:List ς),vs=[.ref a,.int k,.ref b]/\θ K H a (ns.map V.int)/\ns.length<=63/\0<=k/\k<=40000/\ϒ H b cs/\Ϙ cs=true/\∀p os H',ζ H H'->H p=none->dm H' p os->os.length<=4->fO cs os->(os.map Prod.fst).Nodup->Q (.ref p) H'
theorem G9(T:Txt K mg):Def P w K mg base true 2 "_law_order" ["_law_script","_law_k","_law_columns_here"] (akc K):=by
 refine Ο T.G9 Jr (λ_ _ A _ _ H vs Q E hr h=>?_);intro X;obtain⟨a,ns,k,b,cs,rfl,hS,hl,hk0,hk1,⟨vs,hb,hvs⟩,hok,q⟩:=h;have nd:=Jr.nd;have n1:=T.mX;have n2:=T.cQ;have n3:=T.acu;have hsz:=ϳ;have D1:= @gG P w K mg base T;have hvl:=hvs.len;obtain⟨c1,c6⟩:=Mz hok;have qJ:θ K H b vs:=θ.of hb;walk_at"A";refine⟨a,ns,k+1,_,rfl,hS,hl,by omega,by omega,by omega,?_⟩;have a0:=aJ ns (k+1) (m:=(vs.length:Int)) (by omega);have a1:=aK ns (k+1) (m:=(vs.length:Int)) (by omega);generalize Χ ns (k+1) (vs.length:Int)=fs at a0 a1⊢;walk_at"A";refine⟨by show 0<=Ϫ;omega,λp hp=>?_⟩;obtain⟨aG,ep⟩:=ϊ hp (.lst []);generalize upd H p (.lst [])=H0 at aG ep⊢;refine ξ ?_;refine rT (by walk_at"po") (by rfl) (by rfl) n1 (by rfl) ?_;have alz:=aG.seq qJ;walk_at"ex";refine Zr (by rfl) ?_;walk_at"ex";have hm5:∀x:Int,x=(if(vs.length:Int)+1<5 then(vs.length:Int)+1 else 5)->1<=x/\x<=5:=λx e=>by
  rw[e];split <;>omega
 generalize hmm:(if(vs.length:Int)+1<5 then(vs.length:Int)+1 else 5)=mm;obtain⟨m1,m5⟩:=hm5 mm hmm.symm;refine⟨a,ns,k,mm,rfl,aG.seq hS,hl,by omega,by omega,by omega,?_⟩;have b0:=aJ ns k (m:=mm) (by omega);have b1:=aK ns k (m:=mm) (by omega);generalize Χ ns k mm=m at b0 b1⊢;walk_at"ex";refine⟨by omega,by omega,λi σ H'=>(∃o1 o2,σ=[some (.ref a),some (.int k),some (.ref b),some (.int fs),some (.ref p),o1,o2])/\ζ H H'/\∃os:List Ord,dm H' p os/\os.length=i/\fO cs os/\(os.map Prod.fst).Nodup/\∀o∈os,∃(jj q:Nat),jj<i/\(fs+(jj:Int)) % (vs.length:Int)=(q:Int)/\(cs.map Prod.fst)[q]?=some o.1,
  ⟨⟨none,none,rfl⟩,aG,[],⟨[],ep,.nil⟩,rfl,λo ho=>by simp at ho,by simp,λo ho=>by simp at ho⟩,λi σ H' hi hP=>?_,λσ H' hP=>?_⟩
 .obtain⟨⟨o1,o2,rfl⟩,sm,os,⟨ws,hp',hws⟩,hol,hin,hnd,hat⟩:=hP;have hwl:=hws.len;have hi':(i:Int)<m:=by omega
  have ajP:=sm.seq qJ;refine Ι nd (by rfl) (.inl rfl) (.inl rfl) ?_;walk_at"A";have e0:=anA (fs+(i:Int)) (show(vs.length:Int)≠0 by omega);have e1:=amj (fs+(i:Int)) (show(0:Int)<(vs.length:Int)by omega);obtain⟨j,ej⟩:=adK e0;rw[ej]at e1⊢;have hj:j<cs.length:=by omega
  have hcj:cs[j]?=some cs[j]:=aak hj;have zE:(cs.map Prod.fst)[j]?=some cs[j].1:=by rw[acy,hcj];rfl
  have Ϻ:∀o∈os,¬o.1=cs[j].1:=λo ho e=>by
   obtain⟨jj,q,h1,h2,h3⟩:=hat o ho;rw[e, <-zE]at h3;have hnc:(cs.map Prod.fst).Nodup:=by
    unfold Ϙ at hok;simp only[aaV,decide_eq_true_eq]at hok;exact hok.2
   have hjl:j<(cs.map Prod.fst).length:=by rw[ϱ];exact hj
   have hql:q<(cs.map Prod.fst).length:=by
    rw[aak hjl]at h3;exact(aaF.mp h3).1
   rw[aak hjl,aak hql]at h3;have hjq:=(aoc hnc).mp (Option.some.inj h3);have h5:(fs+(i:Int)) % (vs.length:Int)=(fs+(jj:Int)) % (vs.length:Int):=by rw[ej,h2,hjq]
   have h6:=Int.emod_eq_emod_iff_emod_sub_eq_zero.mp h5;rw[show fs+(i:Int)-(fs+(jj:Int))=(i:Int)-jj by omega,Int.emod_eq_of_lt (by omega) (by
    have:mm<=(vs.length:Int)+1:=by rw[<-hmm];split <;>omega
    omega)]at h6
   omega
  have hcm:cs[j]∈cs:=aj9 hj;obtain⟨cv,gc,t,rfl,ht⟩:=hvs.get' hcj;generalize cs[j]=cc at hcj hcm ht zE Ϻ;refine ϖ ajP (ϔ gc) ?_;walk_at"ex";refine Ω (ω.of (sm _ _ ht)) (show ό [V.str cc.1,V.str cc.2] 0=some (V.str cc.1)from rfl) ?_;refine ο (ϟ (cH F.plainAttrs_list F.slot_list_append F.type_list_append (h:=?_)));walk_at"e";refine⟨.inl ⟨rfl,_,θ.of hp'⟩,?_⟩;walk_at"ex";refine⟨a,ns,_,2,rfl,sm.seq hS,hl,by omega,by omega,by decide,?_⟩;walk_at"ex";refine⟨by show 2<=Ϫ;omega,λtp htp=>?_⟩;generalize decide (V.int (Χ ns (k+2+(i:Int)) 2)=V.int 0)=up at htp⊢;have ϛ:ζ H' (upd H' tp (.tup [.str cc.1,.bl up])):=ζ.upd htp;have vA:(upd H' tp (.tup [.str cc.1,.bl up])) tp=some (.tup [.str cc.1,.bl up]):=ρ;generalize upd H' tp (.tup [.str cc.1,.bl up])=H5 at ϛ vA⊢;walk_at"ex";have SJ:H5 p=some (.lst ws):=ϛ _ _ hp';refine dh fX ⟨p,ws,_,rfl,rfl,SJ,by omega,?_⟩;refine⟨⟨_,_,rfl⟩,λd o e=>?_,os++[(cc.1,up)],⟨ws++[.ref tp],ρ,ψ.app (hws.imp λu c x=>?_) (.cons ?_ .nil)⟩,by simp[hol],λo ho=>?_,?_,λo ho=>?_⟩
  .rw[ι (Θ e hp)];exact ϛ _ _ (sm _ _ e)
  .obtain⟨tq,rfl,hq⟩:=x;have Ϻ:tq≠p:=λe=>by subst e;rw[hp']at hq;cases hq
   exact⟨tq,rfl,by rw[ι Ϻ];exact ϛ _ _ hq⟩
  .have Ϻ:tp≠p:=λe=>by subst e;rw[SJ]at vA;cases vA
   exact⟨tp,rfl,by rw[ι Ϻ];exact vA⟩
  .obtain ho|ho:=aei.mp ho
   .exact hin o ho
   .have :o=(cc.1,up):=by simpa using ho
    subst this;exact⟨cc,hcm,rfl⟩
  .rw[agF];refine alf.mpr ⟨hnd,by simp,λx hx y hy e=>?_⟩;obtain⟨o,ho,rfl⟩:=acL.mp hx;have:y=cc.1:=by simpa using hy
   exact Ϻ o ho (by rw[e,this])
  .obtain ho|ho:=aei.mp ho
   .obtain⟨jj,q,h1,h2,h3⟩:=hat o ho;exact⟨jj,q,by omega,h2,h3⟩
   .have :o=(cc.1,up):=by simpa using ho
    subst this;exact⟨i,j,by omega,ej,zE⟩
 .obtain⟨⟨o1,o2,rfl⟩,sm,os,hO,hol,hin,hnd,_⟩:=hP;refine ο (Η ?_);walk_at"ex";have hol':os.length=m.toNat:=by simpa using hol
  exact q p os H' sm hp hO (by omega) hin hnd
theorem Rt:∀{cs:List ς}{z:Str}{m:Nat}{c:ς},m<aL cs z->cs[m]?=some c->¬c.1=z
 |[],_,_,_,h,_=>by simp[aL]at h
 |d::r,z,m,c,h,e=>by
  unfold aL at h;split at h
  .omega
  .rename_i hd;cases m with
   |zero=>simp at e;subst e;exact hd
   |succ m=>exact Rt (cs:=r) (m:=m) (by omega) (by simpa using e)
theorem Yn{cs:List ς}{z:Str}(h:∃c∈cs,c.1=z):(cs.map Prod.fst)[aL cs z]?=some z:=by
 obtain⟨c,e1,e2⟩:=zq h;rw[acy,e1, <-e2];rfl
theorem VF{cs:List ς}{z:Str}{m:Nat}{y:Str}(h:m<aL cs z)(e:(cs.map Prod.fst)[m]?=some y):¬y=z:=by
 rw[acy]at e;cases e2:cs[m]? with
 |none=>rw[e2]at e;cases e
 |some c=>
  rw[e2]at e;have e3:c.1=y:=by simpa using e
  rw[<-e3];exact Rt h e2
def YC(K:ϩ):Sp:=λvs H Q _=>∃(a b:δ)(v:V)(cs:List ς)(os:List Ord)(r:Row),vs=[.ref a,.ref b,v]/\ϒ H a cs/\dm H b os/\uX H v r/\r.2.length=cs.length/\cs.length<=1000/\os.length<=1000/\fO cs os/\
 ∀p k H',ζ H H'->H p=none->H k=none->H' p=some (.tup [.ref k,.int r.1])->H' k=some (.lst (ϥ cs os r.2))->Q (.ref p) H'
theorem Ed(T:Txt K mg):Def P w K mg base true 1 "_law_key" ["_law_columns_here","_law_order_here","_law_one"] (YC K):=by
 refine Ο T.Ed PB (λ_ _ _ _ s H vs Q E hr h=>?_);intro X;obtain⟨a,b,v,cs,os,r,rfl,⟨vs,ha,hvs⟩,⟨ws,hb,hws⟩,⟨t,l,rfl,ht,hv⟩,hxl,hcl,hol,hin,q⟩:=h;have nd:=PB.nd;have hsz:=ϳ;have qm:(["_law_column"]:List Str).Nodup:=by decide+kernel
 have rM:(["_law_name","_law_up","_law_names_here","_law_one"]:List Str).Nodup:=by decide+kernel
 have hvl:=hvs.len;have hwl:=hws.len;refine ξ ?_;walk_at"s";refine j9 ["_law_column"] (σ':=[none]) (bK (υ yr)) ?_;walk_at"e";refine⟨a,vs,rfl,θ.of ha,by omega,λτ=>∃o1,τ=[o1],λE2 i u H'=>∃c,cs[i]?=some c/\u=.str c.1,⟨none,rfl⟩,λE2 i u H2 H3 ys _ _ p=>p,λfp E2 C s3 H0 i τ x H4 H3 bU hi hτ Ξ hys hG=>?_,λL H1 ys hL hl2 hx2 e1 Ε =>?_⟩
 .obtain⟨o1,rfl⟩:=hτ;obtain⟨bN,rfl⟩:=hG;obtain⟨c,hc,t,rfl,ht⟩:=hvs.get bN;refine Ι qm (by rfl) (.inl rfl) (.inr rfl) ?_;walk_at"ex";refine Ω (ω.of (Ξ _ _ ht)) (show ό [V.str c.1,V.str c.2] 0=some (V.str c.1)from rfl) ?_;exact⟨⟨_,rfl⟩,⟨c,hc,rfl⟩,ζ.refl _⟩
 have ey:=gb (ys:=cs) (λc=>V.str c.1) (by rw[hl2,hvl]) hx2;have fW:ys=(cs.map Prod.fst).map V.str:=by rw[ey,afK];rfl
 subst fW;refine ο (Η ?_);refine Gy (eF (by rfl) ?_);refine j9 ["_law_name","_law_up","_law_names_here","_law_one"] (σ':=[none,none,some (.ref L),some (.ref t)]) (bK (υ yr)) ?_;walk_at"e";refine⟨b,ws,rfl,θ.of (Ε _ _ hb),by omega,λτ=>∃o1 o2,τ=[o1,o2,some (.ref L),some (.ref t)],λE2 i u H'=>∃o,os[i]?=some o/\u=gf cs r.2 o.1,⟨none,none,rfl⟩,λE2 i u H2 H3 ys _ _ p=>p,λfp E2 C s3 H0 i τ x H7 H8 bU hi hτ jX hys hG=>?_,λD H7 ys hD hl3 bN e7 jX=>?_⟩
 .obtain⟨o1,o2,rfl⟩:=hτ;obtain⟨bN,rfl⟩:=hG;obtain⟨o,ho,tp,rfl,htp⟩:=hws.get bN;have hio:=hin o (abG ho);have hlt:=Gs hio;have g1:r.2[aL cs o.1]?=some (gf cs r.2 o.1):=by
   have e:r.2[aL cs o.1]?=some (r.2[aL cs o.1]'(by omega)):=aak _;unfold gf;rw[e];rfl
  have kO:=Ε.trans jX;have Qs:=jX _ _ e1;refine bQ (ω.of (kO _ _ htp)) (ϕ (Ι rM (by rfl) (.inl rfl) (.inr rfl) (ϕ (Ι rM (by rfl) (.inl rfl) (.inr rfl) (b7 ?_)))));walk_at"e";walk_at"e";walk_at"e";walk_at"e";refine Ω (ω.of (kO _ _ ht)) (show ό [V.int r.1,V.ref l] 1=some (V.ref l)from rfl) ?_;refine cH F.plainAttrs_list F.slot_list_index F.type_list_index (h:=?_);walk_at"e";refine⟨.inl ⟨rfl,_,θ.of Qs⟩,?_⟩;walk_at"ex";refine acg (θ.of Qs) (Yn hio) (λm y h e=>VF h e) ?_;refine ϖ (θ.of (kO _ _ hv)) (ϔ g1) ?_;exact⟨⟨_,_,rfl⟩,⟨o,ho,rfl⟩,ζ.refl _⟩
 have ey:=gb (ys:=os) (λo=>gf cs r.2 o.1) (by rw[hl3,hwl]) bN;have fW:ys=ϥ cs os r.2:=ey;subst fW;have kO:=Ε.trans jX;walk_at"ex";refine Ω (ω.of (kO _ _ ht)) (show ό [V.int r.1,V.ref l] 0=some (V.int r.1)from rfl) ?_;walk_at"ex";refine⟨by show 2<=Ϫ;omega,λp hp=>?_⟩;have s8:ζ H7 (upd H7 p (.tup [.ref D,.int r.1])):=ζ.upd hp;exact q p D _ (kO.trans s8) (kO.free hp) (Ε.free hD) ρ (s8 _ _ e7)
def aF(B:Bk)(row:Int)(o:Option (List V)):Bk:=
 {B with rows:=(match o with|none=>bB B.rows row|some xs=>aN B.rows row xs),touched:=(match o with|none=>bB B.touched row|some _=>aN B.touched row (B.now+1)),
         done:=B.done++[⟨B.now+1,row,Α B.rows row,o⟩],now:=B.now+1}
def tZ(B:Bk):Prop:=B.rows.length<1000000/\B.touched.length<1000000/\B.done.length<1000000
def CN(B:Bk):=∀i,Α B.rows i=none↔ Α B.touched i=none
abbrev cB(mg:Str->Option ε):δ:=η mg "Book"
def j7(mg:Str->Option ε):Sp:=λvs H Q _=>∃(A:BA)(B:Bk)(row:Int)(v:V)(o:Option (List V)),vs=[.ref A.b,.int row,v]/\ Μ (cB mg) H A B/\iG H v o/\(o=none->Α B.rows row≠none/\ Α B.touched row≠none)/\tZ B/\
 ∀H',Out A.fp H H'->Μ (cB mg) H' A (aF B row o)->Q (.int (B.now+1)) H'
theorem Du(T:Txt K mg):FD P w K mg base true 1 "do" "Book.do" xR ["self","row","values"] (j7 mg):=by
 refine au RG (λf Ϲ A' outer s H vs Q E hr h=>?_);intro X;obtain⟨A,B,row,v,o,rfl,kB,hv,hno,⟨z1,z2,z3⟩,q⟩:=h;have nd:=RG.nd;have hsz:=ϳ;have hc:=T.aA;have a1:=T.uy;have a2:=T.Ik;have a3:=T.xF;have a4:=T.DN;have hu:_+1<cLine:=afY (afJ (by decide:1<=64) _) hr.units;have kR:=kB.rows;obtain⟨Ϸ,er,hR⟩:=id kR;obtain⟨tvs,et,hT⟩:=kB.touched;obtain⟨ds,ed,hD⟩:=kB.done;have kI:=kB.ins;refine ξ ?_;walk_at"s";refine ZZ hu (by constructor<;>rfl) ?_;refine Ϣ ?_;walk_at"e";refine⟨A.b,_,_,_,_,rfl,kI,hc,a1,rfl,A.r,rfl,.inl ⟨_,.inl er⟩,?_⟩;walk_at"e";refine⟨_,ώ.k (k:=Sum.inl row) er,?_⟩;have hw:iG H ((ϓ Ϸ (Sum.inl row)).getD .non) (Α B.rows row):=by
  obtain⟨e1,e2⟩|⟨u,x,e1,e2,r⟩:=cY hR row
  .rw[e1,e2];rfl
  .rw[e1,e2];exact r
 generalize(ϓ Ϸ (Sum.inl row)).getD .non=wv at hw⊢;refine ξ (ahk ?_);walk_at"e";refine⟨A.b,_,_,_,_,rfl,kI,hc,a4,rfl,?_⟩;walk_at"e";refine⟨_,_,rfl,rfl,_,_,kI,by show 6<1000;decide,?_⟩;have k1:=kB.BK B.known (B.now+1);have o1:Out A.fp H _:=Out.upd (H:=H) (a:=A.b) (o:=.ins (cB mg) A.dx [("heads",.ref A.h),("rows",.ref A.r),("touched",.ref A.t),("done",.ref A.d),("known",.int B.known),("now",.int (B.now+1))]) (by simp[BA.fp]);change Κ _ _ _ _ (upd H A.b (.ins (cB mg) A.dx [("heads",.ref A.h),("rows",.ref A.r),("touched",.ref A.t),("done",.ref A.d),("known",.int B.known),("now",.int (B.now+1))]));generalize upd H A.b _=H1 at k1 o1⊢;have jm:=k1.ins;have fin:∀(H2:Hp)(B2:Bk),Out A.fp H H2->Μ (cB mg) H2 A B2->B2={aF B row o with done:=B.done}->Κ X ((ϝ xR).drop 3) {nx:=λ_ H'=>Q .non H',rt:=Q} [some (.ref A.b),some (.int row),some v,some wv] H2:=by
  intro H2 B2 o2 k2 e2;have hB2:B2.now=B.now+1/\B2.done=B.done:=by rw[e2];exact⟨rfl,rfl⟩
  have jH:=k2.ins;obtain⟨Qp,gC,hD2⟩:=k2.done;have st:=kB.tup o2;have hwv:=hw.stay st;have yW:=hv.stay st;have hl2:=hD2.len;rw[hB2.2]at hl2 hD2;rw[hB2.1]at jH;refine ξ (ϟ (cH F.plainAttrs_list F.slot_list_append F.type_list_append (h:=?_)));refine Ϣ ?_;walk_at"e";refine⟨A.b,_,_,_,_,rfl,jH,hc,a3,rfl,.inl ⟨rfl,_,θ.of gC⟩,?_⟩;walk_at"go";refine Ϣ ?_;walk_at"e";refine⟨A.b,_,_,_,_,rfl,jH,hc,a4,rfl,?_⟩;walk_at"go";refine⟨by show 4<=Ϫ;omega,λt ht=>?_⟩;obtain⟨ϛ,lX⟩:=ϊ ht (.tup [.int (B.now+1),.int row,wv,v]);generalize upd H2 t (.tup [.int (B.now+1),.int row,wv,v])=H3 at ϛ lX⊢;have k3:=k2.same ϛ;walk_at"go";refine dh fX ⟨A.d,_,_,rfl,rfl,ϛ _ _ gC,by omega,?_⟩;have Yw:ψ (ig H3) (Qp++[V.ref t]) (B.done++[⟨B.now+1,row,Α B.rows row,o⟩]):=ψ.app (ψ.imp (λv d h=>h.stay λb ys e=>ϛ _ _ e) hD2) (.cons ⟨t,wv,v,rfl,lX,hwv.stay λb ys e=>ϛ _ _ e,yW.stay λb ys e=>ϛ _ _ e⟩ .nil);have k4:=k3.XS Yw;have o4:Out A.fp H _:=(o2.trans (Out.of ϛ)).trans (Out.upd (H:=H3) (a:=A.d) (o:=.lst (Qp++[V.ref t])) (by simp[BA.fp]));generalize upd H3 A.d _=H4 at k4 o4⊢;have ZG:=k4.ins;refine ο (Η ?_);refine Ϣ ?_;walk_at"e";refine⟨A.b,_,_,_,_,rfl,ZG,hc,a4,rfl,?_⟩;have e4:{B2 with done:=B.done++[⟨B.now+1,row,Α B.rows row,o⟩]}=aF B row o:=by rw[e2];rfl
  rw[e4]at k4;have:=q H4 o4 k4;show Q (.int B2.now) H4;rw[hB2.1];exact this
 obtain⟨uK,lL,il⟩:=k1.rows;obtain⟨alw,et1,hT1⟩:=k1.touched;have hrl:=il.len;have htl:=hT1.len;have z1':uK.length<1000000:=by rw[hrl];exact z1
 cases o with
 |none=>
  have hv':v=.non:=hv;subst hv';obtain⟨g1,g2⟩:=hno rfl;refine ξ ?_;walk_at"go";refine qU ?_;refine Ϣ ?_;walk_at"e";obtain⟨_,e2⟩|⟨u,x,e1,_,_⟩:=cY il row
  .exact absurd e2 g1
  refine⟨A.b,_,_,_,_,rfl,jm,hc,a1,rfl,A.r,rfl,.inl ⟨_,.inl lL⟩,?_⟩;walk_at"e";refine⟨uK,Sum.inl row,u,lL,rfl,e1,?_⟩;have k2:=k1.qz (uD il row);have o2:Out A.fp H _:=o1.trans (Out.upd (H:=H1) (a:=A.r) (o:=.dK (dH uK (Sum.inl row))) (by simp[BA.fp]));generalize upd H1 A.r _=H2 at k2 o2⊢;have jH:=k2.ins;obtain⟨uc,lX,hT2⟩:=k2.touched;refine ο (ϟ (qU ?_));refine Ϣ ?_;walk_at"e";obtain⟨_,e2⟩|⟨u2,x2,e3,_,_⟩:=cY hT2 row
  .exact absurd e2 g2
  refine⟨A.b,_,_,_,_,rfl,jH,hc,a2,rfl,A.t,rfl,.inl ⟨_,.inl lX⟩,?_⟩;walk_at"e";refine⟨uc,Sum.inl row,u2,lX,rfl,e3,?_⟩;have k3:=k2.Kv (uD hT2 row);have o3:Out A.fp H _:=o2.trans (Out.upd (H:=H2) (a:=A.t) (o:=.dK (dH uc (Sum.inl row))) (by simp[BA.fp]));generalize upd H2 A.t _=H3 at k3 o3⊢;exact fin H3 _ o3 k3 rfl
 |some xs=>
  obtain⟨t,rfl,ht⟩:=id hv;refine ξ ?_;walk_at"go";refine gW hu ?_;walk_at"e";refine Ϣ ?_;walk_at"e";refine⟨A.b,_,_,_,_,rfl,jm,hc,a1,rfl,?_⟩;walk_at"e";refine⟨A.r,_,rfl,cJ.k (k:=Sum.inl row) lL (by omega),?_⟩;have k2:=k1.qz (jn il row (v:=.ref t) (x:=xs) ⟨t,rfl,kB.tup o1 _ _ ht⟩);have o2:Out A.fp H _:=o1.trans (Out.upd (H:=H1) (a:=A.r) (o:=.dK (putK uK (Sum.inl row) (.ref t))) (by simp[BA.fp]));generalize upd H1 A.r _=H2 at k2 o2⊢;have jH:=k2.ins;obtain⟨uc,lX,hT2⟩:=k2.touched;have z2':uc.length<1000000:=by rw[hT2.len];exact z2
  refine ο (gW hu ?_);refine Ϣ ?_;walk_at"e";refine⟨A.b,_,_,_,_,rfl,jH,hc,a4,rfl,?_⟩;refine Ϣ ?_;walk_at"e";refine⟨A.b,_,_,_,_,rfl,jH,hc,a2,rfl,?_⟩;walk_at"e";refine⟨A.t,_,rfl,cJ.k (k:=Sum.inl row) lX (by omega),?_⟩;have k3:=k2.Kv (jn hT2 row (v:=.int (B.now+1)) (x:=B.now+1) rfl);have o3:Out A.fp H _:=o2.trans (Out.upd (H:=H2) (a:=A.t) (o:=.dK (putK uc (Sum.inl row) (.int (B.now+1)))) (by simp[BA.fp]));generalize upd H2 A.t _=H3 at k3 o3⊢;exact fin H3 _ o3 k3 rfl
theorem yf(T:Txt K mg):Def P w K mg base true 1 "is_whole" ["value"] air:=by
 refine Ο T.yf afA (λ_ _ _ _ _ H vs Q E hr h=>?_);intro X;obtain⟨v,rfl,hs,q⟩:=h;have n1:=T.ux;have n2:=T.Eu;have n3:=T.ah0;refine ο (Η ?_);cases v with
 |non=>
  walk_at"go";exact q
 |int i=>
  walk_at"go";exact q
 |str z=>
  walk_at"go";exact q
 |_=>cases hs
theorem GC(T:Txt K mg):Def P w K mg base true 2 "is_number_value" ["value"] aji:=by
 refine Ο T.GC abZ (λ_ _ _ _ _ H vs Q E hr h=>?_);intro X;obtain⟨v,rfl,hs,q⟩:=h;have g1:=T.Nv;have D1:= @yf P w K mg base T;refine ο (Η ?_);walk_at"go";refine⟨v,rfl,hs,?_⟩;walk_at"go";cases v with
 |int i=>
  refine jJ (λ_=>?_) (λh=>by cases h);walk_at"go";refine Ζ (λh=>?_) (λh=>?_)
  .walk_at "go";have e:isNum (.int i)=decide (i<=1000000000000000000):=by unfold isNum;simp[h]
   rw[e]at q;exact q
  .have e:isNum (.int i)=false:=by unfold isNum;simp[h]
   rw[e]at q;exact q
 |non=>exact jJ (λh=>by cases h) (λ_=>q)
 |str z=>exact jJ (λh=>by cases h) (λ_=>q)
 |_=>cases hs
theorem Gf(T:Txt K mg):Def P w K mg base true 3 "is_value" ["kind","value"] aiS:=by
 refine Ο T.Gf ahS (λ_ _ _ _ _ H vs Q E hr h=>?_);intro X;obtain⟨k,v,rfl,hs,hz,q⟩:=h;have g1:=T.zu;have D1:= @GC P w K mg base T;have D2:= @xU P w K mg base T;refine ξ ?_;walk_at"go";refine Ζ (λh=>?_) (λh=>?_)
 .subst h;walk_at"go";exact q H (ζ.refl _)
 .walk_at "go";have ev:isVal k v=if k="number" then isNum v else fG v:=by cases v<;>first|rfl|exact absurd rfl h
  refine Ζ (λh2=>?_) (λh2=>?_)
  .have h3:k="number":=by cases h2;rfl
   rw[if_pos h3]at ev;rw[ev]at q;walk_at"go";exact⟨v,rfl,hs,q H (ζ.refl _)⟩
  .have h3:¬k="number":=λe=>h2 (by rw[e])
   rw[if_neg h3]at ev;rw[ev]at q;walk_at"go";exact⟨v,rfl,hs,hz,q⟩
theorem za(T:Txt K mg):Def P w K mg base true 2 "is_name" ["name"] T9:=by
 refine Ο T.za aee (λ_ _ _ _ _ H vs Q E hr h=>?_);intro X;obtain⟨z,rfl,hz,q⟩:=h;have n1:=T.cQ;have g1:=T.afm;have g2:=T.ahL;have hsz:=ϳ;have D1:= @qd P w K mg base T;refine ο (Η ?_);walk_at"go";unfold isName at q;refine Ζ (λh=>?_) (λh=>?_)
 .walk_at "go";refine Ζ (λh2=>?_) (λh2=>?_)
  .walk_at "go";rw[decide_eq_true (show 1<=z.length/\z.length<=8 by omega)]at q;exact⟨z,_,rfl,hz,q⟩
  .rw[decide_eq_false (show ¬(1<=z.length/\z.length<=8)by omega)]at q;exact q H (ζ.refl _)
 .rw[decide_eq_false (show ¬(1<=z.length/\z.length<=8)by omega)]at q;walk_at"go";exact q H (ζ.refl _)
theorem aea(k a b:Str):gM (.str k) [.str a,.str b]=decide (k=a\/k=b):=by
 have e:∀a:Str,(a==k)=decide (k=a):=λa=>by rw[agp,beq_iff_eq,decide_eq_true_iff];exact eq_comm
 show((a==k)||((b==k)||false))=_;rw[e,e,aoF,Bool.decide_or]
theorem zG(T:Txt K mg):Def P w K mg base true 3 "ask_columns" ["columns"] (ac5 (.ref (η mg "NoColumns"))):=by
 refine Ο T.zG O6 (λ_ _ _ _ _ H vs Q E hr h=>?_);intro X;obtain⟨a,cs,rfl,⟨vs,ha,hvs⟩,hcl,hsc,q⟩:=h;have n1:=T.cQ;have n2:=T.Ep;have g1:=T.aeV;have g2:=T.zu;have g3:=T.Qn;have nd:=O6.nd;have hsz:=ϳ;have sa:θ K H a vs:=.inl (.inl ha);have jK:=hvs.len;have D1:= @za P w K mg base T;have dB:(["name","kind"]:List Str).Nodup:=by decide+kernel
 have bad:Ϙ cs=false->∀H',ζ H H'->E (.ref (η mg "NoColumns")) (none,true) H':=λe H' sm=>by
  have:=q H' sm;rw[e]at this;exact this
 refine ξ ?_;walk_at"go";have Jm:¬(1<=cs.length/\cs.length<=6)->Ϙ cs=false:=λh=>by
  unfold Ϙ;rw[decide_eq_false h];rfl
 refine Ζ (λh1=>?_) (λh1=>?_)
 .walk_at "go";refine mj (λh2=>?_) (λh2=>?_)
  .refine ο (fM Ν T.rY ?_);walk_at"go";exact⟨by rw[hsz];simp,bad (Jm (by omega)) H (ζ.refl _)⟩
  .refine Δ (ξ ?_);refine ie (by walk_at"po") (by rfl) (by intro _;rfl) ?_;walk_at"go";refine⟨a,vs,rfl,sa,λi σ H'=>(∃o1 o2 o3,σ=[some (.ref a),o1,o2,o3])/\ζ H H'/\∀k c,k<i->cs[k]?=some c->isName c.1=true/\gA c.2=true,⟨⟨none,none,none,rfl⟩,ζ.refl _,λk c hk=>by omega⟩,λi σ H' hi hP=>.inl (.inl (hP.2.1 _ _ ha)),λi x σ H' hx hP=>?_,λσ H' hP=>?_⟩
   .obtain⟨⟨o1,o2,o3,rfl⟩,sm,hn⟩:=hP;obtain⟨c,hc,t,rfl,ht⟩:=hvs.get hx;have hcm:=abG hc;have DR:=hsc c hcm;have Ja:¬(isName c.1&&gA c.2)=true->Ϙ cs=false:=λh=>by
     unfold Ϙ;have:(cs.all λc=>isName c.1&&gA c.2)=false:=by
      rw[Bool.eq_false_iff];intro e;exact h (ady.mp e c hcm)
     rw[this,ak5,ama]
    refine bQ (ω.of (sm _ _ ht)) (ϕ (Ι nd (by rfl) (.inl rfl) (.inl rfl) (ϕ (Ι nd (by rfl) (.inl rfl) (.inl rfl) (b7 ?_)))));refine ξ ?_;walk_at"go";refine⟨c.1,rfl,DR.1,λH2 Λ =>?_⟩;walk_at"go";have sm3:=sm.trans Λ;refine Cv (λh3=>?_) (λh3=>?_)
    .refine ο (fM Ν T.rY ?_);walk_at"go";refine nJ ?_;walk_at"e";refine⟨c.1,rfl,by omega,_,4000,rfl,DR.1,by omega,?_⟩;walk_at"go";intro zz;walk_at"go";exact⟨by rw[hsz];simp,bad (Ja (by rw[h3];simp)) H2 sm3⟩
    .refine Δ (ο ?_);walk_at"go";refine⟨by show 2<=Ϫ;omega,λp hp=>?_⟩;have Ξ :=sm3.trans (ζ.upd (o:=.tup [.str "number",.str "text"]) hp);refine Mw (ω.of ρ) ?_;walk_at"go";have ek:gM (.str c.2) [.str "number",.str "text"]=gA c.2:=aea _ _ _;rw[ek];refine Cv (λh4=>?_) (λh4=>?_)
     .refine ο (fM Ν T.rY ?_);walk_at"go";refine nJ ?_;walk_at"e";refine⟨c.2,rfl,by omega,_,4000,rfl,DR.2,by omega,?_⟩;walk_at"go";intro zz;walk_at"go";exact⟨by rw[hsz];simp,bad (Ja (by rw[h4];simp)) _ Ξ⟩
     .refine Δ ⟨⟨_,_,_,rfl⟩,Ξ,λk d hk hd=>?_⟩;by_cases e:k=i
      .subst e;rw[hc]at hd;cases hd;exact⟨h3,h4⟩
      .exact hn k d (by omega) hd
   .obtain⟨⟨o1,o2,o3,rfl⟩,sm,hn⟩:=hP;have hall:(cs.all λc=>isName c.1&&gA c.2)=true:=ady.mpr λc hc=>by
     obtain⟨k,hk,e⟩:=anp hc;have:=hn k c (by rw[jK];exact hk) (by rw[<-e];exact aak hk);rw[this.1,this.2];rfl
    have Kw:Ϙ cs=decide ((cs.map Prod.fst).Nodup):=by
     unfold Ϙ;rw[hall,decide_eq_true (show 1<=cs.length/\cs.length<=6 by omega)];rfl
    refine ξ ?_;refine zY ["name","kind"] (σ':=[none,none]) (bK (υ Eb)) nd ?_;walk_at"go";refine⟨a,vs,rfl,.inl (.inl (sm _ _ ha)),by omega,λτ=>∃o1 o2,τ=[o1,o2],λE' i u H'=>∃c,cs[i]?=some c/\u=.str c.1,⟨none,none,rfl⟩,λE' i u H2 H3 ys _ _ p=>p,λfp E' C s3 H0 i τ x H2 H3 hE hi hτ Λ hys hG=>?_,λE' H2 ys hE hl hx e2 Λ =>?_⟩
    .obtain⟨o1,o2,rfl⟩:=hτ;obtain⟨hx,rfl⟩:=hG;obtain⟨c,hc,t,rfl,ht⟩:=hvs.get hx;refine bQ (ω.of (Λ _ _ (sm _ _ ht))) (ϕ (Ι dB (by rfl) (.inl rfl) (.inr rfl) (ϕ (Ι dB (by rfl) (.inl rfl) (.inr rfl) (b7 ?_)))));walk_at"go";exact⟨⟨_,_,rfl⟩,⟨c,hc,rfl⟩,ζ.refl _⟩
    .have ey:=gb (ys:=cs) (λc=>V.str c.1) (by rw[hl,jK]) hx;have fW:ys=(cs.map Prod.fst).map V.str:=by rw[ey,afK];rfl
     subst fW;have hnl:(cs.map Prod.fst).length<=4000:=by simp;omega
     have sm3:=sm.trans Λ;refine ο ?_;walk_at"go";refine Jq (by rfl) (θ.of e2) hnl λS hS=>?_
     walk_at"go";refine La ρ hnl ?_;walk_at"go";refine uA (.inl (θ.of ((ζ.upd hS) _ _ e2))) ?_;walk_at"go";have Ξ :=sm3.trans (ζ.upd (o:=ju X S (cs.map Prod.fst)) hS);have R4:=Cp _ (cs.map Prod.fst) rfl;refine mj (λh5=>?_) (λh5=>?_)
     .refine ο (fM Ν T.rY ?_);walk_at"go";refine⟨by rw[hsz];simp,bad ?_ _ Ξ⟩;rw[Kw];refine decide_eq_false λhd=>h5 ?_
      rw[R4.mpr hd];simp
     .refine Δ ?_;have:=q _ Ξ;rw[Kw,if_pos]at this
      .exact this
      .refine decide_eq_true (R4.mp ?_);have h6:((Ϛ (cs.map Prod.fst)).length:Int)=((cs.map Prod.fst).map V.str).length:=by injection h5
       rw[ϱ]at h6;omega
 .walk_at "go";refine(fM Ν T.rY ?_);walk_at"go";exact⟨by rw[hsz];simp,bad (Jm (by omega)) H (ζ.refl _)⟩
theorem Ar(T:Txt K mg):Def P w K mg base true 2 "is_row_number" ["row"] aew:=by
 refine Ο T.Ar Uj (λ_ _ _ _ _ H vs Q E hr h=>?_);intro X;obtain⟨v,rfl,hv,q⟩:=h;have g1:=T.ahI;have D1:= @yf P w K mg base T;refine ο (Η ?_);walk_at"go";refine⟨v,rfl,hv,?_⟩;cases v with
 |int i=>
  change Q (.bl (decide (0<=i/\i<=1000000000))) H at q;rw[show kW (V.int i)=true from rfl];walk_at"go";refine Ζ (λh=>?_) (λh=>?_)
  .walk_at "go";rw[show decide (0<=i/\i<=1000000000)=decide (i<=1000000000)from by rw[decide_eq_decide];omega]at q;exact q
  .walk_at "go";rw[decide_eq_false (show ¬(0<=i/\i<=1000000000)by omega)]at q;exact q
 |non=>
  rw[show kW V.non=false from rfl];walk_at"go";exact q
 |str z=>
  rw[show kW (V.str z)=false from rfl];walk_at"go";exact q
 |_=>cases hv
theorem S8:∀{cs:List ς}{xs:List V}{bs:List Bool},xs.length=cs.length->bs.length=cs.length->(∀(i:Nat)(b:Bool),bs[i]?=some b->∃c x,cs[i]?=some c/\xs[i]?=some x/\b=isVal c.2 x)->bs.all id=kY cs xs
 |[],[],[],_,_,_=>rfl
 |c::cs,x::xs,b::bs,h1,h2,h=>by
  obtain⟨c',x',e1,e2,e3⟩:=h 0 b rfl;cases e1;cases e2;rw[List.all_cons];unfold kY;rw[S8 (by simpa using h1) (by simpa using h2) λi b e=>by simpa using h (i+1) b (by simpa using e)];rw[e3];rfl
 |[],_::_,_,h1,_,_=>by simp at h1
 |_::_,[],_,h1,_,_=>by simp at h1
 |[],[],_::_,_,h2,_=>by simp at h2
 |_::_,_::_,[],_,h2,_=>by simp at h2
theorem Qv:∀{xs:List V},(∀(i:Nat) v,xs[i]?=some v->∃b,v=.bl b)->∃bs:List Bool,xs=bs.map V.bl
 |[],_=>⟨[],rfl⟩
 |x::xs,h=>by
  obtain⟨b,rfl⟩:=h 0 x rfl;obtain⟨bs,rfl⟩:=Qv (xs:=xs) λi v e=>h (i+1) v (by simpa using e)
  exact⟨b::bs,rfl⟩
theorem Bd(T:Txt K mg):Def P w K mg base true 4 "is_row" ["columns","row","values"] agH:=by
 refine Ο T.Bd J8 (λ_ _ _ _ _ H vs Q E hr h=>?_);intro X;obtain⟨a,cs,v,b,xs,rfl,⟨vs,ha,hvs⟩,hcl,hv,hb,hxs,q⟩:=h;have n1:=T.cQ;have n2:=T.Nr;have n3:=T.ahB;have hsz:=ϳ;have nd:=J8.nd;have sa:θ K H a vs:=.inl (.inl ha);have sb:θ K H b xs:=.inl (.inl hb);have jK:=hvs.len;have D1:= @Ar P w K mg base T;have D2:= @Gf P w K mg base T;have dB:(["column","value"]:List Str).Nodup:=by decide+kernel
 unfold wA at q;refine ξ ?_;walk_at"go";refine⟨v,rfl,hv,?_⟩;walk_at"go";refine Cv (λh1=>?_) (λh1=>?_)
 .rw[h1,ama,ama]at q;walk_at"go";exact q H (ζ.refl _)
 .rw[h1,anb]at q;walk_at"go";refine mj (λh2=>?_) (λh2=>?_)
  .have h3:¬xs.length=cs.length:=λe=>h2 (by rw[jK,e])
   rw[decide_eq_false h3,ama]at q;walk_at"go";exact q H (ζ.refl _)
  .have h3:xs.length=cs.length:=by
    have:(xs.length:Int)=vs.length:=by injection h2
    omega
   rw[decide_eq_true h3,anb]at q;refine Δ (ο (Η ?_));walk_at"e";walk_at"e";refine ag3 ["column","value"] (σ':=[none,none]) (by rfl) (by rfl) (bK (υ Fd)) (by rfl) n3 (by rfl) (by rfl) ?_;walk_at"go";refine⟨a,b,vs,xs,rfl,rfl,ha,hb,by omega,λτ=>∃o1 o2,τ=[o1,o2],λE' i u H'=>∃c x,cs[i]?=some c/\xs[i]?=some x/\u=.bl (isVal c.2 x),⟨none,none,rfl⟩,λE' i u H2 H3 ys _ _ p=>p,λfp E' C s3 H0 i τ x H2 H3 hE hi hτ sm hys hG=>?_,λE' H2 ys hE hl hx e2 sm=>?_⟩
   .obtain⟨o1,o2,rfl⟩:=hτ;obtain⟨T',y,u,rfl,hT,rfl,hy,hu⟩:=hG;obtain⟨c,hc,t,rfl,ht⟩:=hvs.get hy;have Λ :ζ H2 (upd H2 T' (.tup [.ref t,u])):=ζ.upd hT;have eT:(upd H2 T' (.tup [.ref t,u])) T'=some (.tup [.ref t,u]):=ρ;generalize upd H2 T' (.tup [.ref t,u])=H4 at Λ eT⊢;refine bQ (ω.of eT) (ϕ (Ι dB (by rfl) (.inl rfl) (.inr rfl) (ϕ (Ι dB (by rfl) (.inl rfl) (.inr rfl) (b7 ?_)))));walk_at"go";refine Ω (ω.of (Λ _ _ (sm _ _ ht))) (show ό [V.str c.1,V.str c.2] 1=some (V.str c.2)from rfl) ?_;walk_at"go";have hu':=hxs u (abG hu);exact⟨c.2,u,rfl,hu'.1,hu'.2,λH5 aW=>⟨⟨_,_,rfl⟩,⟨c,u,hc,hu,rfl⟩,Λ.trans aW⟩⟩
   .obtain⟨bs,rfl⟩:=Qv λi v e=>by
     obtain⟨c,x,_,_,e⟩:=hx i v e;exact⟨_,e⟩
    have wO:bs.length=cs.length:=by rw[ϱ]at hl;omega
    have eb:bs.all id=kY cs xs:=S8 h3 wO λi b e=>by
     obtain⟨c,x,e1,e2,e3⟩:=hx i (.bl b) (by rw[acy,e];rfl);exact⟨c,x,e1,e2,by injection e3⟩
    walk_at"go";refine Qq (by rfl) (θ.of e2) ?_;rw[eb];exact q _ sm
def sW(cs:List ς)(row:Int)(xs:List V):Prop:=0<=row/\row<=1000000000/\ψ (λc x=>aB c.2 x) cs xs
theorem Ad:∀c∈SG,c∈uG.cps.toList:=by decide+kernel
theorem aB.is{kd:Str}{v:V}(h:aB kd v):isVal kd v=true/\scalar v=true/\short v:=by
 obtain rfl|⟨h1,i,rfl,h2,h3⟩|⟨h1,z,rfl,h2,h3⟩:=h
 .exact⟨rfl,rfl,trivial⟩
 .refine⟨?_,rfl,trivial⟩;show(if kd="number" then isNum (.int i)else fG (.int i))=true;rw[if_pos h1];exact decide_eq_true ⟨h2,h3⟩
 .refine⟨?_,rfl,by show z.length<=4000;omega⟩;show(if kd="number" then isNum (.str z)else fG (.str z))=true;rw[if_neg h1];show(decide (z.length<=20)&&dI z _)=true;rw[decide_eq_true h2,anb];exact ady.mpr λc hc=>decide_eq_true (Ad c (h3 c hc))
theorem QQ{cs:List ς}{xs:List V}(h:ψ (λ(c:ς) x=>aB c.2 x) cs xs):kY cs xs=true/\∀x∈xs,scalar x=true/\short x:=by
 induction h with
 |nil=>exact⟨rfl,λx hx=>by simp at hx⟩
 |cons h _ ih=>
  refine⟨?_,λx hx=>?_⟩
  .show(isVal _ _&&kY _ _)=true;rw[h.is.1,ih.1];rfl
  .obtain e|e:=acG.mp hx
   .rw[e];exact h.is.2
   .exact ih.2 x e
theorem sW.ok{cs:List ς}{row:Int}{xs:List V}(h:sW cs row xs):wA cs (.int row) xs=true:=by
 unfold wA;rw[(QQ h.2.2).1,decide_eq_true h.2.2.len.symm];show(decide (0<=row/\row<=1000000000)&&true&&true)=true;rw[decide_eq_true ⟨h.1,h.2.1⟩];rfl
def uC(mg:Str->Option ε):Sp:=λvs H Q _=>∃(A:BA)(B:Bk)(row:Int)(b:δ)(xs:List V),vs=[.ref A.b,.int row,.ref b]/\ Μ (cB mg) H A B/\H b=some (.lst xs)/\B.heads.length<=6/\sW B.heads row xs/\∀H',ζ H H'->Q .non H'
theorem TF(T:Txt K mg):FD P w K mg base true 5 "ask_row" "Book.ask_row" Cw ["self","row","values"] (uC mg):=by
 refine au aa6 (λf Ϲ A' outer s H vs Q E hr h=>?_);intro X;obtain⟨A,B,row,b,xs,rfl,kB,hb,h6,hg,q⟩:=h;have D1:= @Bd P w K mg base T;have hc:=T.aA;have a1:=T.BZ;have kI:=kB.ins;refine ο ?_;walk_at"go";refine Ϣ ?_;walk_at"e";refine⟨A.b,_,_,_,_,rfl,kI,hc,a1,rfl,?_⟩;walk_at"go";refine⟨A.h,B.heads,.int row,b,xs,rfl,kB.heads,by omega,rfl,hb,(QQ hg.2.2).2,λH' sm=>?_⟩;rw[hg.ok];walk_at"go";exact q H' sm
def sV(mg:Str->Option ε):Sp:=λvs H Q E=>∃(A:BA)(B:Bk)(row:Int),vs=[.ref A.b,.int row]/\ Μ (cB mg) H A B/\0<=row/\row<=1000000000/\
 (Α B.rows row=none->∀e H',ζ H H'->H' e=some (.xd [("row",.int row)])->E (.ref (η mg "Absent")) (some e,true) H')/\(Α B.rows row≠none->Q .non H)
theorem RV(T:Txt K mg):FD P w K mg base true 3 "ask_there" "Book.ask_there" G4 ["self","row"] (sV mg):=by
 refine au ad0 (λf Ϲ A' outer s H vs Q E hr h=>?_);intro X;obtain⟨A,B,row,rfl,kB,r0,r1,bad,q⟩:=h;have hc:=T.aA;have a1:=T.uy;have kI:=kB.ins;have hu:_+1<cLine:=afY (afJ (by decide:1<=64) _) hr.units;obtain⟨Ϸ,er,hR⟩:=kB.rows;refine ο ?_;walk_at"go";refine Ϣ ?_;walk_at"e";refine⟨A.b,_,_,_,_,rfl,kI,hc,a1,rfl,?_⟩;refine Pn hu (ώ.k (k:=Sum.inl row) er) ?_;obtain⟨e1,e2⟩|⟨u,x,e1,e2,_⟩:=cY hR row
 .rw[show(ϓ Ϸ (Sum.inl row)).isSome=false by rw[e1];rfl,Bool.not_false];walk_at"go";refine(pP (aad T (cc:=true)) hr (λ_=>rfl) Ν ?_);walk_at"go";exact⟨row,rfl,by omega,λe H' sm he=>bad e2 e H' sm he⟩
 .rw[show(ϓ Ϸ (Sum.inl row)).isSome=true by rw[e1];rfl,apb];walk_at"go";exact q (by rw[e2];simp)
def zm(mg:Str->Option ε):Sp:=λvs H Q E=>∃(A:BA)(B:Bk)(row:Int)(b:δ)(xs:List V),vs=[.ref A.b,.int row,.ref b]/\ Μ (cB mg) H A B/\H b=some (.lst xs)/\B.heads.length<=6/\sW B.heads row xs/\tZ B/\
 (Α B.rows row≠none->∀e H',ζ H H'->H' e=some (.xd [("row",.int row)])->E (.ref (η mg "Twice")) (some e,true) H')/\
 (Α B.rows row=none->∀H',Out A.fp H H'->Μ (cB mg) H' A (aF B row (some xs))->Q (.int (B.now+1)) H')
theorem R1{X:Cx}{H:Hp}{Q:VK}{p:δ}{ys:List V}(h:θ X.K H p ys)(g:∀l,H l=none->Q (.ref l) (upd H l (.tup ys))):CL X (.type "tuple") [.ref p] H Q:=c7 agj ⟨p,ys,rfl,.inl ⟨h,g⟩⟩
theorem U0(T:Txt K mg):FD P w K mg base true 6 "put" "Book.put" yO ["self","row","values"] (zm mg):=by
 refine au aiW (λf Ϲ A' outer s H vs Q E hr h=>?_);intro X;obtain⟨A,B,row,b,xs,rfl,kB,hb,h6,hg,hsm,bad,q⟩:=h;have M1:ak P w K mg base true 5 (cB mg) "ask_row" ["self","row","values"] (uC mg):=(TF T).meth T.aA T.Oa;have M2:ak P w K mg base true 1 (cB mg) "do" ["self","row","values"] (j7 mg):=(Du T).meth T.aA T.Di;have hc:=T.aA;have n1:=T.O8;have a1:=T.uy;have hu:_+1<cLine:=afY (afJ (by decide:1<=64) _) hr.units;refine ξ (ϟ ?_);refine aM (pl:=_) hr Ν (h:=?_);walk_at"e";refine⟨A.b,cB mg,A.dx,_,true,5,_,uC mg,rfl,kB.ins,by rfl,M1,by decide,id,?_⟩;walk_at"go";refine⟨A,B,row,b,xs,rfl,kB,hb,h6,hg,λH1 sm=>?_⟩;have k1:=kB.same sm;have jm:=k1.ins;have hb1:=sm _ _ hb;obtain⟨Ϸ,er,hR⟩:=k1.rows;refine ξ ?_;walk_at"go";refine Ϣ ?_;walk_at"e";refine⟨A.b,_,_,_,_,rfl,jm,hc,a1,rfl,?_⟩;refine wJ hu (ώ.k (k:=Sum.inl row) er) ?_;obtain⟨e1,e2⟩|⟨u,x,e1,e2,_⟩:=cY hR row
 .rw[show(ϓ Ϸ (Sum.inl row)).isSome=false by rw[e1];rfl];walk_at"go";refine aM (pl:=_) hr Ν (h:=?_);walk_at"e";refine⟨A.b,cB mg,A.dx,_,true,1,_,j7 mg,rfl,jm,by rfl,M2,by decide,id,?_⟩;walk_at"go";refine R1 (θ.of hb1) λt ht=>?_
  obtain⟨ϛ,et⟩:=ϊ ht (.tup xs);generalize upd H1 t (.tup xs)=H2 at ϛ et⊢;walk_at"go";refine⟨A,B,row,.ref t,some xs,rfl,k1.same ϛ,⟨t,rfl,et⟩,(λe=>by cases e),hsm,λH3 o3 k3=>?_⟩;exact q e2 H3 ((Out.of (sm.trans ϛ)).trans o3) k3
 .rw[show(ϓ Ϸ (Sum.inl row)).isSome=true by rw[e1];rfl];walk_at"go";refine(pP (aiw T (cc:=true)) hr (λ_=>rfl) Ν ?_);walk_at"go";exact⟨row,rfl,by have:=hg.1;have:=hg.2.1;omega,λe H' Λ he=>bad (by rw[e2];simp) e H' (sm.trans Λ) he⟩
def yS(mg:Str->Option ε):Sp:=λvs H Q E=>∃(A:BA)(B:Bk)(row:Int)(b:δ)(xs:List V),vs=[.ref A.b,.int row,.ref b]/\ Μ (cB mg) H A B/\H b=some (.lst xs)/\B.heads.length<=6/\sW B.heads row xs/\tZ B/\
 (Α B.rows row=none->∀e H',ζ H H'->H' e=some (.xd [("row",.int row)])->E (.ref (η mg "Absent")) (some e,true) H')/\
 (Α B.rows row≠none->∀H',Out A.fp H H'->Μ (cB mg) H' A (aF B row (some xs))->Q (.int (B.now+1)) H')
theorem ZP(T:Txt K mg):FD P w K mg base true 6 "change" "Book.change" zj ["self","row","values"] (yS mg):=by
 refine au ahw (λf Ϲ A' outer s H vs Q E hr h=>?_);intro X;obtain⟨A,B,row,b,xs,rfl,kB,hb,h6,hg,hsm,bad,q⟩:=h;have M1:ak P w K mg base true 5 (cB mg) "ask_row" ["self","row","values"] (uC mg):=(TF T).meth T.aA T.Oa;have M2:ak P w K mg base true 1 (cB mg) "do" ["self","row","values"] (j7 mg):=(Du T).meth T.aA T.Di;have M3:ak P w K mg base true 3 (cB mg) "ask_there" ["self","row"] (sV mg):=(RV T).meth T.aA T.Oe;have hc:=T.aA;have n1:=T.O8;refine ξ (ϟ ?_);refine aM (pl:=_) hr Ν (h:=?_);walk_at"e";refine⟨A.b,cB mg,A.dx,_,true,5,_,uC mg,rfl,kB.ins,by rfl,M1,by decide,id,?_⟩;walk_at"go";refine⟨A,B,row,b,xs,rfl,kB,hb,h6,hg,λH1 sm=>?_⟩;have k1:=kB.same sm;have jm:=k1.ins;have hb1:=sm _ _ hb;refine ξ (ϟ ?_);refine aM (pl:=_) hr Ν (h:=?_);walk_at"e";refine⟨A.b,cB mg,A.dx,_,true,3,_,sV mg,rfl,jm,by rfl,M3,by decide,id,?_⟩;walk_at"go";refine⟨A,B,row,rfl,k1,hg.1,hg.2.1,λe2 e H' Λ he=>bad e2 e H' (sm.trans Λ) he,λe2=>?_⟩;refine ο (Η ?_);refine aM (pl:=_) hr Ν (h:=?_);walk_at"e";refine⟨A.b,cB mg,A.dx,_,true,1,_,j7 mg,rfl,jm,by rfl,M2,by decide,id,?_⟩;walk_at"go";refine R1 (θ.of hb1) λt ht=>?_
 obtain⟨ϛ,et⟩:=ϊ ht (.tup xs);generalize upd H1 t (.tup xs)=H2 at ϛ et⊢;walk_at"go";refine⟨A,B,row,.ref t,some xs,rfl,k1.same ϛ,⟨t,rfl,et⟩,(λe=>by cases e),hsm,λH3 o3 k3=>?_⟩;exact q e2 H3 ((Out.of (sm.trans ϛ)).trans o3) k3
def Hi(mg:Str->Option ε):Sp:=λvs H Q E=>∃(A:BA)(B:Bk)(row:Int),vs=[.ref A.b,.int row]/\ Μ (cB mg) H A B/\0<=row/\row<=1000000000/\tZ B/\CN B/\
 (Α B.rows row=none->∀e H',ζ H H'->H' e=some (.xd [("row",.int row)])->E (.ref (η mg "Absent")) (some e,true) H')/\
 (Α B.rows row≠none->∀H',Out A.fp H H'->Μ (cB mg) H' A (aF B row none)->Q (.int (B.now+1)) H')
theorem ahN(T:Txt K mg):FD P w K mg base true 4 "take" "Book.take" Av ["self","row"] (Hi mg):=by
 refine au Um (λf Ϲ A' outer s H vs Q E hr h=>?_);intro X;obtain⟨A,B,row,rfl,kB,r0,r1,hsm,hwf,bad,q⟩:=h;have M2:ak P w K mg base true 1 (cB mg) "do" ["self","row","values"] (j7 mg):=(Du T).meth T.aA T.Di;have M3:ak P w K mg base true 3 (cB mg) "ask_there" ["self","row"] (sV mg):=(RV T).meth T.aA T.Oe;refine ξ (ϟ ?_);refine aM (pl:=_) hr Ν (h:=?_);walk_at"e";refine⟨A.b,cB mg,A.dx,_,true,3,_,sV mg,rfl,kB.ins,by rfl,M3,by decide,id,?_⟩;walk_at"go";refine⟨A,B,row,rfl,kB,r0,r1,bad,λe2=>?_⟩;refine ο (Η ?_);refine aM (pl:=_) hr Ν (h:=?_);walk_at"e";refine⟨A.b,cB mg,A.dx,_,true,1,_,j7 mg,rfl,kB.ins,by rfl,M2,by decide,id,?_⟩;walk_at"go";exact⟨A,B,row,.non,none,rfl,kB,rfl,λ_=>⟨e2,λz=>e2 ((hwf row).mpr z)⟩,hsm,q e2⟩
def Dy(mg:Str->Option ε):Sp:=λvs H Q _=>∃(A:BA)(B:Bk),vs=[.ref A.b]/\ Μ (cB mg) H A B/\∀p H',ζ H H'->H p=none->ϒ H' p B.heads->Q (.ref p) H'
theorem adV(T:Txt K mg):FD P w K mg base true 1 "columns" "Book.columns" yJ ["self"] (Dy mg):=by
 refine au aeE (λf Ϲ A' outer s H vs Q E hr h=>?_);intro X;obtain⟨A,B,rfl,kB,q⟩:=h;have hc:=T.aA;have n1:=T.ji;obtain⟨vs,eh,hv⟩:=kB.heads;refine ο (Η ?_);walk_at"go";refine Ϣ ?_;walk_at"e";refine⟨A.b,_,_,_,_,rfl,kB.ins,hc,T.BZ,rfl,?_⟩;walk_at"go";refine gn (.inl (θ.of eh)) λp hp=>?_
 have sm:=ζ.upd (H:=H) (o:=.lst vs) hp;exact q p _ sm hp ⟨vs,ρ,ψ.imp (λv c ⟨t,e,h⟩=>⟨t,e,sm _ _ h⟩) hv⟩
theorem CZ{cs:List ς}(h:Ϙ cs=true):1<=cs.length/\cs.length<=6:=by
 unfold Ϙ at h;rw[aaV,aaV,decide_eq_true_eq]at h;exact h.1.1
theorem aft{cs:List ς}(h:Ϙ cs=true):HB cs:=by
 unfold Ϙ gA at h;rw[aaV,aaV,ady]at h;intro c hc;have h1:=h.1.2 c hc;rw[aaV,decide_eq_true_eq]at h1;obtain⟨h2,h3⟩:=h1;unfold isName at h2;rw[aaV,decide_eq_true_eq]at h2;refine⟨by omega,?_⟩;obtain e|e:=h3<;>rw[e]
 .exact(by decide+kernel:("number":Str).length<=4000)
 .exact(by decide+kernel:("text":Str).length<=4000)
def aiz(mg:Str->Option ε):Sp:=λvs H Q _=>∃(y dx a:δ)(cs:List ς),vs=[.ref y,.ref a]/\H y=some (.ins (cB mg) dx [])/\H dx=some (.own y)/\ϒ H a cs/\Ϙ cs=true/\
 ∀(H':Hp)(A:BA),A.b=y->A.dx=dx->H A.h=none->H A.r=none->H A.t=none->H A.d=none->Out [y] H H'->Μ (cB mg) H' A ⟨cs,[],[],[],0,0⟩->Q .non H'
theorem acn(T:Txt K mg):FD P w K mg base true 4 "__init__" "Book.__init__" Ga ["self","columns"] (aiz mg):=by
 refine au Xb (λf Ϲ A' outer s H vs Q E hr h=>?_);intro X;obtain⟨y,dx,a,cs,rfl,hy,hdx,hC,hok,q⟩:=h;have D1:= @zG P w K mg base T;have hc:=T.aA;have n1:=T.ji;have hsz:=ϳ;refine ξ ?_;walk_at"go";refine⟨a,cs,rfl,hC,by have:=CZ hok;omega,aft hok,λH1 Ε =>?_⟩;rw[if_pos hok];obtain⟨vs,ha,hvs⟩:=hC;have hy1:=Ε _ _ hy;have Mg:dx≠y:=λe=>by rw[e,hy]at hdx;cases hdx
 refine ξ (di ?_);walk_at"go";refine gn (.inl (θ.of (Ε _ _ ha))) λh hh=>?_
 have Gh:ζ H (upd H1 h (.lst vs)):=Ε.trans (ζ.upd hh);have eh:(upd H1 h (.lst vs)) h=some (.lst vs):=ρ;have hn:H h=none:=Ε.free hh;generalize upd H1 h (.lst vs)=H2 at Gh eh⊢;walk_at"e";refine⟨y,_,dx,_,rfl,Gh _ _ hy,hc,T.BZ,by show 0<1000;decide,?_⟩;have yh:h≠y:=λe=>by rw[e,hy]at hn;cases hn
 have o3:Out [y] H (upd H2 y (.ins (cB mg) dx [("heads",.ref h)])):=(Out.of Gh).trans (Out.upd (by simp));have MK:(upd H2 y (.ins (cB mg) dx [("heads",.ref h)])) h=some (.lst vs):=by rw[ι yh];exact eh
 have Ak:(upd H2 y (.ins (cB mg) dx [("heads",.ref h)])) y=some (.ins (cB mg) dx [("heads",.ref h)]):=ρ;change Κ _ _ _ _ (upd H2 y (.ins (cB mg) dx [("heads",.ref h)]));generalize upd H2 y (.ins (cB mg) dx [("heads",.ref h)])=H3 at o3 MK Ak⊢;have step:∀(H':Hp)(p:δ)(o o1:HO),H' y=some o1->Out [y] H H'->H' p=none->(H p=none/\p≠y/\∀fs,Out [y] H (upd (upd H' p o) y fs)/\(upd (upd H' p o) y fs) y=some fs/\(upd (upd H' p o) y fs) p=some o/\∀b u,b≠y->H' b=some u->b≠p/\(upd (upd H' p o) y fs) b=some u):=by
  intro H' p o o1 ey ho hp;have hpy:p≠y:=λe=>by rw[e,ey]at hp;cases hp
  have keep:∀fs b u,b≠y->H' b=some u->b≠p/\(upd (upd H' p o) y fs) b=some u:=λfs b u hb e=>by
   have Ly:b≠p:=λz=>by rw[z,hp]at e;cases e
   refine⟨Ly,?_⟩;rw[ι hb,ι Ly];exact e
  refine⟨?_,hpy,λfs=>⟨λb u hb e=>?_,ρ,by rw[ι hpy];exact ρ,keep fs⟩⟩
  .cases e1:H p with
   |none=>rfl
   |some u=>
    have:=ho p u (by simpa using hpy) e1;rw[hp]at this;cases this
  .exact(keep fs b u (by simpa using hb) (ho b u hb e)).2
 refine ξ (di ?_);refine iZ λr hr'=>?_
 walk_at"e";obtain⟨rn,ry,sr⟩:=step H3 r (.dK []) _ Ak o3 hr';have ahe:(upd H3 r (.dK [])) y=some (.ins (cB mg) dx [("heads",.ref h)]):=by rw[ι (Ne.symm ry)];exact Ak
 refine⟨y,_,dx,_,rfl,ahe,hc,T.uy,by show 1<1000;decide,?_⟩;obtain⟨o4,Al,M8,k4⟩:=sr (.ins (cB mg) dx [("heads",.ref h),("rows",.ref r)]);change Κ _ _ _ _ (upd (upd H3 r (.dK [])) y (.ins (cB mg) dx [("heads",.ref h),("rows",.ref r)]));have OD:=(k4 _ _ yh MK).2;generalize upd (upd H3 r (.dK [])) y (.ins (cB mg) dx [("heads",.ref h),("rows",.ref r)])=H4 at o4 Al M8 OD⊢;refine ξ (di ?_);refine iZ λt ht'=>?_
 walk_at"e";obtain⟨tn,ty,sr⟩:=step H4 t (.dK []) _ Al o4 ht';have agG:(upd H4 t (.dK [])) y=some (.ins (cB mg) dx [("heads",.ref h),("rows",.ref r)]):=by rw[ι (Ne.symm ty)];exact Al
 refine⟨y,_,dx,_,rfl,agG,hc,T.Ik,by show 2<1000;decide,?_⟩;obtain⟨o5,Ag,TV,k5⟩:=sr (.ins (cB mg) dx [("heads",.ref h),("rows",.ref r),("touched",.ref t)]);change Κ _ _ _ _ (upd (upd H4 t (.dK [])) y (.ins (cB mg) dx [("heads",.ref h),("rows",.ref r),("touched",.ref t)]));have Jw:=(k5 _ _ yh OD).2;obtain⟨rt,Ms⟩:=k5 _ _ ry M8;generalize upd (upd H4 t (.dK [])) y (.ins (cB mg) dx [("heads",.ref h),("rows",.ref r),("touched",.ref t)])=H5 at o5 Ag TV Ms Jw⊢;refine ξ (di ?_);walk_at"go";refine⟨by show 0<=Ϫ;omega,λd hd'=>?_⟩;walk_at"e";obtain⟨dn,dy,sr⟩:=step H5 d (.lst []) _ Ag o5 hd';have Y0:(upd H5 d (.lst [])) y=some (.ins (cB mg) dx [("heads",.ref h),("rows",.ref r),("touched",.ref t)]):=by rw[ι (Ne.symm dy)];exact Ag
 refine⟨y,_,dx,_,rfl,Y0,hc,T.xF,by show 3<1000;decide,?_⟩;obtain⟨o6,S5,Ii,k6⟩:=sr (.ins (cB mg) dx [("heads",.ref h),("rows",.ref r),("touched",.ref t),("done",.ref d)]);change Κ _ _ _ _ (upd (upd H5 d (.lst [])) y (.ins (cB mg) dx [("heads",.ref h),("rows",.ref r),("touched",.ref t),("done",.ref d)]));obtain⟨hd2,Tw⟩:=k6 _ _ yh Jw;obtain⟨_,N5⟩:=k6 _ _ ry Ms;obtain⟨_,J6⟩:=k6 _ _ ty TV;generalize upd (upd H5 d (.lst [])) y (.ins (cB mg) dx [("heads",.ref h),("rows",.ref r),("touched",.ref t),("done",.ref d)])=H6 at o6 S5 Ii J6 N5 Tw⊢;refine ξ (di ?_);walk_at"e";walk_at"e";refine⟨y,_,dx,_,rfl,S5,hc,T.Fe,by show 4<1000;decide,?_⟩;refine ο (di ?_);walk_at"e";walk_at"e";refine⟨y,_,dx,_,rfl,ρ,hc,T.DN,by show 5<1000;decide,?_⟩;have fin:∀b u,b≠y->H6 b=some u->(upd (upd H6 y (.ins (cB mg) dx [("heads",.ref h),("rows",.ref r),("touched",.ref t),("done",.ref d),("known",.int 0)])) y (.ins (cB mg) dx [("heads",.ref h),("rows",.ref r),("touched",.ref t),("done",.ref d),("known",.int 0),("now",.int 0)])) b=some u:=λb u hb e=>by
  rw[ι hb,ι hb];exact e
 have R5:∀t' ys,H t'=some (.tup ys)->t'≠y:=λt' ys e z=>by rw[z,hy]at e;cases e
 refine q (upd (upd H6 y (.ins (cB mg) dx [("heads",.ref h),("rows",.ref r),("touched",.ref t),("done",.ref d),("known",.int 0)])) y (.ins (cB mg) dx [("heads",.ref h),("rows",.ref r),("touched",.ref t),("done",.ref d),("known",.int 0),("now",.int 0)])) ⟨y,dx,h,r,t,d⟩ rfl rfl hn rn tn dn (λb u hb e=>fin b u (by simpa using hb) (o6 b u hb e)) ?_;refine⟨ρ,fin _ _ Mg (o6 _ _ (by simpa using Mg) hdx),⟨vs,fin _ _ yh Tw,ψ.imp (λv c ⟨u,e,hu⟩=>⟨u,e,fin _ _ (R5 _ _ hu) (o6 _ _ (by simpa using R5 _ _ hu) hu)⟩) hvs⟩,⟨[],fin _ _ ry N5,.nil⟩,⟨[],fin _ _ ty J6,.nil⟩,⟨[],fin _ _ dy Ii,.nil⟩,rt,hd2⟩
def zH(H0 H:Hp)(v:V)(p:Int×List V):=∃t l,v=.ref t/\H t=some (.tup [.int p.1,.ref l])/\H l=some (.lst p.2)/\H0 l=none/\H0 t=none
def dO(rows:List (Int×List V))(ks:List Int):List (Int×List V):=ks.map λk=>(k,(Α rows k).getD [])
def afe(C:Unit):Sp:=λvs H Q _=>∃(a:δ)(rows:List (Int×List V)),vs=[.ref a]/\DictAt (TupAt H) H a rows/\rows.length<64/\∀p ys ks H',ζ H H'->H p=none->ks.Perm (rows.map (·.1))->ks.Pairwise (· <= ·)->H' p=some (.lst ys)->ψ (zH H H') ys (dO rows ks)->Q (.ref p) H'
theorem zB(T:Txt K mg):Def P w K mg base true 1 "told_rows" ["rows"] (afe ()):=by
 refine Ο T.zB Xg (λ_ _ _ _ _ H vs Q E hr h=>?_);intro X;obtain⟨a,rows,rfl,⟨Ϸ,ea,hR⟩,hl,q⟩:=h;have n1:=T.uB;have n2:=T.ji;have hsz:=ϳ;have hu:_+1<cLine:=afY (afJ (by decide:1<=64) _) hr.units;have eU:(["row","rows"]:List Str).Nodup:=by decide+kernel
 refine ο (Η ?_);refine j9 ["row","rows"] (σ':=[none,some (.ref a)]) (bK (υ Ey)) ?_;walk_at"cb";walk_at"go";refine uY (ks:=rows.map (·.1)) ea (t6 hR) (by rw[ϱ];exact hl) λL ks hL hp hs=>?_
 obtain⟨aG,eL⟩:=ϊ hL (.lst (ks.map V.int));generalize upd H L (.lst (ks.map V.int))=H1 at aG eL⊢;have hkl:ks.length=rows.length:=by rw[hp.length_eq,ϱ]
 have hkm:(ks.map V.int).length=ks.length:=ϱ ..;refine⟨L,_,rfl,θ.of eL,by omega,λτ=>∃o1,τ=[o1,some (.ref a)],λE2 i u H'=>∃k t l,ks[i]?=some k/\u=.ref t/\t≠E2/\l≠E2/\H' t=some (.tup [.int k,.ref l])/\H' l=some (.lst ((Α rows k).getD []))/\H l=none/\H t=none,⟨none,rfl⟩,λE2 i u H2 H3 ys y1 y2 y3=>?_,λfp E2 C s3 H0 i τ x H4 H3 bU hi hτ Ξ hys hG=>?_,λL2 H2 ys hL2 hl2 hx2 e2 Λ =>?_⟩
 .obtain⟨k,t,l,z1,z2,z3,z4,z5,z6,z7,z8⟩:=y3;exact⟨k,t,l,z1,z2,z3,z4,y2 _ _ z3 z5,y2 _ _ z4 z6,z7,z8⟩
 .obtain⟨o1,rfl⟩:=hτ;obtain⟨hx,rfl⟩:=hG;have Nm:i<ks.length:=by rw[hkm]at hi;exact hi
  have hk:ks[i]?=some ks[i]:=aak Nm;rw[acy,hk]at hx;have hx':x=.int ks[i]:=by simpa using hx.symm
  subst hx';have hmem:ks[i]∈rows.map (·.1):=hp.mem_iff.mp (aj9 Nm);have iz:=aG.trans Ξ;have ea4:=iz _ _ ea;refine Ι eU (by rfl) (.inl rfl) (.inr rfl) ?_;walk_at"go";rcases cY hR ks[i]with⟨_,e3⟩|⟨u,xs,e1,e3,t0,rfl,ht0⟩
  .exact absurd hmem (rN.mp e3)
  have g4:=ώ.k (k:=Sum.inl ks[i]) ea4;rw[e1]at g4;refine bV hu g4 ?_;walk_at"go";refine gn (.inr (ω.of (iz _ _ ht0))) λl vz=>?_
  obtain⟨vI,el⟩:=ϊ vz (.lst xs);generalize upd H4 l (.lst xs)=H5 at vI el⊢;walk_at"go";refine⟨by show 2<=Ϫ;omega,λt ht=>?_⟩;have ϛ:ζ H5 (upd H5 t (.tup [.int ks[i],.ref l])):=ζ.upd ht;obtain⟨Xc,hE⟩:=hys;refine⟨⟨_,rfl⟩,⟨ks[i],t,l,hk,rfl,λe=>?_,λe=>?_,ρ,?_,iz.free vz,(iz.trans vI).free ht⟩,vI.trans ϛ⟩
  .rw[e,vI _ _ hE]at ht;cases ht
  .rw[e,hE]at vz;cases vz
  .rw[e3];exact ϛ _ _ el
 .refine q L2 ys ks H2 (aG.trans Λ) (aG.free hL2) hp hs e2 (qN (R:=λv p=>zH H H2 v p) (l:=ys) (m:=dO rows ks) (by unfold dO;rw[ϱ,hl2,hkm]) λi p hp'=>?_);unfold dO at hp';rw[acy]at hp';have hi:i<ys.length:=by
   rw[hl2,hkm];cases e:ks[i]? with
   |none=>rw[e]at hp';cases hp'
   |some k=>exact(aaF.mp e).1
  have hy:ys[i]?=some ys[i]:=aak hi;obtain⟨k,t,l,z1,z2,z3,z4,z5,z6,z7,z8⟩:=hx2 i _ hy;rw[z1]at hp';have hp2:p=(k,(Α rows k).getD []):=by simpa using hp'.symm
  rw[hp2];exact⟨_,hy,t,l,z2,z5,z6,z7,z8⟩
theorem aB.word{kd:Str}{v:V}(h:aB kd v)(hk:kd="number"\/kd="text"):dN kd (wordOf v)=some v/\(wordOf v).length<=21/\32∉(wordOf v).cps.toList/\¬wordOf v=Str.ofString "*"/\(∀c∈(wordOf v).cps.toList,c<1114112):=by
 obtain rfl|⟨hn,i,rfl,h1,h2⟩|⟨hn,z,rfl,hl,hz⟩:=h
 .refine⟨?_,by decide+kernel,by decide+kernel,by decide+kernel,by decide+kernel⟩;unfold dN;rw[if_pos (show wordOf .non=Str.ofString "?" from rfl)]
 .subst hn;have hf:=Bb i;refine⟨adp h1 h2,?_,λh=>?_,λh=>?_,λc hc=>?_⟩
  .have :=ajI (i:=i) (k:=19) (by decide) (by omega);show(Str.ofString (toString i)).length<=21;omega
  .have :=hf 32 h;omega
  .have h':Str.ofString (toString i)=Str.ofString "*":=h;have e:("*":Str).cps.toList=[42]:=by decide+kernel
   have:=hf 42 (by rw[h',e];simp);omega
  .have :=hf c hc;omega
 .have hk':kd="text":=hk.resolve_left hn;subst hk';have e1:("'":Str).length=1:=by decide+kernel
  have e3:=len_app ("'":Str) z;have hsg:∀c∈SG,¬c=32/\c<1114112:=by decide+kernel
  have hmem:∀c∈(Str.ofString "'"++z).cps.toList,c=39\/c∈SG:=λc hc=>by
   rw[cR,vB]at hc;obtain h|h:=aei.mp hc
   .exact .inl (by simpa using h)
   .exact .inr (hz c h)
  refine⟨ae3 hl hz,by show(Str.ofString "'"++z).length<=21;omega,λh=>?_,λh=>?_,λc hc=>?_⟩
  .obtain e|e:=hmem 32 h
   .omega
   .exact(hsg 32 e).1 rfl
  .have h':Str.ofString "'"++z=Str.ofString "*":=h;have e:("*":Str).cps.toList=[42]:=by decide+kernel
   have h0:(Str.ofString "'"++z).cps.toList[0]?=some 39:=by rw[cR,vB];rfl
   rw[h',e]at h0;simp at h0
  .obtain e|e:=hmem c hc
   .omega
   .exact(hsg c e).2
def plainS(z:Str):=∀c∈z.cps.toList,32<=c/\c<=122/\c≠46/\c≠47
theorem plainS.app{a b:Str}(h:plainS a)(g:plainS b):plainS (a++b):=λc hc=>by
 rw[cR]at hc;obtain hc|hc:=aei.mp hc
 .exact h c hc
 .exact g c hc
theorem ad1:∀c∈SG,32<=c/\c<=122/\c≠46/\c≠47:=by decide+kernel
theorem aca(i:Int):plainS (Str.ofString (toString i)):=λc hc=>by
 have:=Bb i c hc;omega
theorem aB.plain{kd:Str}{v:V}(h:aB kd v):plainS (wordOf v):=by
 obtain rfl|⟨hn,i,rfl,h1,h2⟩|⟨hn,z,rfl,hl,hz⟩:=h
 .unfold plainS;decide+kernel
 .exact aca i
 .refine plainS.app (a:=Str.ofString "'") ?_ λc hc=>ad1 c (hz c hc)
  unfold plainS;decide+kernel
theorem KJ{z:Str}(h:isName z=true):plainS z:=by
 unfold isName at h;rw[aaV]at h;intro c hc;have h2:=h.2;unfold dI at h2;rw[ady]at h2;have h3:=of_decide_eq_true (h2 c hc);have key:∀c∈fU.cps.toList,32<=c/\c<=122/\c≠46/\c≠47:=by decide+kernel
 exact key c h3
theorem xV:∀ps:List Str,(Str.join " " ps).length<=(ps.map (·.length)).sum+ps.length
 |[]=>by show(0:Nat)<=_;omega
 |[p]=>by
  show p.length<=_;simp
 |p::q::r=>by
  have ih:=xV (q::r);have lb:(" ":Str).length=1:=by decide+kernel
  show(p++Str.ofString " "++Str.join " " (q::r)).length<=_;rw[len_app,len_app,lb];simp only[List.map_cons,List.sum_cons,List.length_cons]at ih⊢;omega
theorem vD(ps:List Str)(n:Nat)(h:∀p∈ps,p.length<=n):(ps.map (·.length)).sum<=ps.length*n:=by
 induction ps with
 |nil=>simp
 |cons p ps ih=>
  have h1:=ih λx hx=>h x (by simp[hx])
  have h2:=h p (by simp);simp only[List.map_cons,List.sum_cons,List.length_cons,ape];omega
theorem xZ{z:Str}(h:isName z=true):z.length<=8:=by
 unfold isName at h;rw[aaV]at h;exact(of_decide_eq_true h.1).2
theorem qp{cs:List ς}(hc:Ϙ cs=true){z:Str}(hz:z∈cs.map Prod.fst):isName z=true:=by
 obtain⟨c,hcm,e⟩:=acL.mp hz;unfold Ϙ at hc;simp only[aaV,ady]at hc;rw[<-e];exact(hc.1.2 c hcm).1
def dG(nm:Nat->Str):cL->List Str
 |.all=>["all"]
 |.none p=>["none",nm p]
 |.look l p v=>[aq l,nm p,wordOf v]
def wT(nm:Nat->Str):Tr->List Str
 |.one s=>dG nm s
 |.nt t=>"not"::wT nm t
 |.bo t u=>"both"::(wT nm t++wT nm u)
 |.ei t u=>"either"::(wT nm t++wT nm u)
def Β(cs:List ς)(p:Nat):Str:=match cs[p]? with
 |some c=>c.1
 |none=>Str.ofString ""
def tU(cs:List ς):cL->Prop
 |.all=>True
 |.none p=>p<cs.length
 |.look l p v=>∃c,cs[p]?=some c/\aB c.2 v/\v≠.non/\(l=.holds->c.2="text")
def bR(cs:List ς):Tr->Prop
 |.one s=>tU cs s
 |.nt t=>bR cs t
 |.bo t u=>bR cs t/\bR cs u
 |.ei t u=>bR cs t/\bR cs u
def AtW(nm:Nat->Str)(ws:List Str)(t:Tr)(s:Nat):=∃post,ws.drop s=wT nm t++post
theorem drop_cons{α:Type}{ws r:List α}{s:Nat}{x:α}(h:ws.drop s=x::r):ws[s]?=some x/\ws.drop (s+1)=r:=by
 have hs:s<ws.length:=by
  have h2:(ws.drop s).length=(x::r).length:=by rw[h]
  rw[afz,List.length_cons]at h2;omega
 rw[List.drop_eq_getElem_cons hs]at h;injection h with h1 h2
 exact⟨by rw[aak hs,h1],h2⟩
theorem MN{α:Type}{ws a r:List α}{s:Nat}(h:ws.drop s=a++r):ws.drop (s+a.length)=r:=by
 rw[<-aou,h];simp
theorem Ju{α:Type}{ws a r:List α}{s:Nat}(h:ws.drop s=a++r)(ha:a≠[]):s+a.length<=ws.length:=by
 have h2:(ws.drop s).length=(a++r).length:=by rw[h]
 rw[afz,adI]at h2;have:0<a.length:=aox.mpr ha;omega
theorem xx(nm:Nat->Str)(s:cL):dG nm s≠[]:=by cases s<;>simp[dG]
theorem Jp(nm:Nat->Str)(t:Tr):wT nm t≠[]:=by
 cases t with
 |one s=>exact xx nm s
 |nt t=>simp[wT]
 |bo t u=>simp[wT]
 |ei t u=>simp[wT]
theorem O4:∀{cs:List ς}{p:Nat}{c:ς},(cs.map Prod.fst).Nodup->cs[p]?=some c->aL cs c.1=p
 |d::r,0,c,hn,e=>by
  have:d=c:=by simpa using e
  subst this;show(if d.1=d.1 then 0 else aL r d.1+1)=0;rw[if_pos rfl]
 |d::r,p+1,c,hn,e=>by
  have e':r[p]?=some c:=by simpa using e
  have hn':=aiU.mp hn;have Ϻ:¬d.1=c.1:=λz=>hn'.1 (by rw[z];exact acL.mpr ⟨c,abG e',rfl⟩)
  show(if d.1=c.1 then 0 else aL r c.1+1)=p+1;rw[if_neg Ϻ,O4 hn'.2 e']
theorem pM{cs:List ς}{p:Nat}{c:ς}(e:cs[p]?=some c):Β cs p=c.1:=by
 unfold Β;rw[e]
theorem Q6{cs:List ς}(hn:(cs.map Prod.fst).Nodup){ws:List Str}{p s:Nat}{c:ς}(hp:cs[p]?=some c)(hs:s<60)(e:ws[s]?=some c.1):dZ cs ws s=some p:=by
 unfold dZ;rw[if_pos hs,e];show(if cs.any (λd=>decide (d.1=c.1))=true then some (aL cs c.1)else none)=some p;rw[if_pos (by rw[al6];exact⟨c,abG hp,decide_eq_true rfl⟩),O4 hn hp]
theorem adF{cs:List ς}(hok:Ϙ cs=true){ws post:List Str}{s:Nat}:∀{sv:cL},ws.drop s=dG (Β cs) sv++post->s+(dG (Β cs) sv).length<=60->tU cs sv->nH cs ws s sv (s+(dG (Β cs) sv).length)
 |.all,e,hl,_=>⟨(drop_cons (r:=post) e).1,rfl⟩
 |.none p,e,hl,hg=>by
   have hn:(cs.map Prod.fst).Nodup:=by
    unfold Ϙ at hok;simp only[aaV,decide_eq_true_eq]at hok;exact hok.2
   obtain⟨e1,e2⟩:=drop_cons (r:=[Β cs p]++post) e;obtain⟨e3,_⟩:=drop_cons (r:=post) e2;have mL:=Ju e (xx (Β cs) (.none p));have hl':s+2<=60:=hl;have hp:cs[p]?=some cs[p]:=aak hg;rw[pM hp]at e3;exact⟨e1,mL,Q6 hn hp (by omega) e3,rfl⟩
 |.look l p v,e,hl,hg=>by
   have hn:(cs.map Prod.fst).Nodup:=by
    unfold Ϙ at hok;simp only[aaV,decide_eq_true_eq]at hok;exact hok.2
   obtain⟨c,hc,hv,Ϻ,hh⟩:=hg;obtain⟨e1,e2⟩:=drop_cons (r:=[Β cs p,wordOf v]++post) e;obtain⟨e3,e4⟩:=drop_cons (r:=[wordOf v]++post) e2;obtain⟨e5,_⟩:=drop_cons (r:=post) e4;have mL:=Ju e (xx (Β cs) (.look l p v));have hl':s+3<=60:=hl;rw[pM hc]at e3;have hk:c.2="number"\/c.2="text":=by
    unfold Ϙ at hok;simp only[aaV,ady]at hok;have:=(hok.1.2 c (abG hc)).2;unfold gA at this;exact of_decide_eq_true this
   exact⟨mL,by omega,e1,Q6 hn hc (by omega) e3,⟨c,_,hc,hh,e5,(hv.word hk).1⟩,Ϻ,rfl⟩
theorem pC{cs:List ς}(hok:Ϙ cs=true){ws:List Str}:∀{t:Tr}{s:Nat},AtW (Β cs) ws t s->s+(wT (Β cs) t).length<=60->bR cs t->Reads cs ws t s (s+(wT (Β cs) t).length)
 |.one sv,s,e,hl,hg=>by
   obtain⟨post,e⟩:=e;have hp:0<(dG (Β cs) sv).length:=aox.mpr (xx (Β cs) sv);have hl':s+(dG (Β cs) sv).length<=60:=hl;exact⟨by omega,adF hok e hl hg⟩
 |.nt t,s,e,hl,hg=>by
   obtain⟨post,e⟩:=e;obtain⟨e1,e2⟩:=drop_cons (r:=wT (Β cs) t++post) e;have hl':s+((wT (Β cs) t).length+1)<=60:=hl;refine⟨by omega,e1,?_⟩;have:=pC hok (t:=t) ⟨post,e2⟩ (by omega) hg;have e3:s+(wT (Β cs) (.nt t)).length=s+1+(wT (Β cs) t).length:=by show s+((wT (Β cs) t).length+1)=_;omega
   rw[e3];exact this
 |.bo t u,s,e,hl,hg=>by
   obtain⟨post,e⟩:=e;obtain⟨e1,e2⟩:=drop_cons (r:=(wT (Β cs) t++wT (Β cs) u)++post) e;rw[anG]at e2;have e4:=MN e2;have hl2:(wT (Β cs) (.bo t u)).length=(wT (Β cs) t).length+(wT (Β cs) u).length+1:=by show((wT (Β cs) t++wT (Β cs) u).length+1)=_;rw[adI]
   rw[hl2]at hl⊢;refine⟨by omega,e1,s+1+(wT (Β cs) t).length,pC hok (t:=t) ⟨_,e2⟩ (by omega) hg.1,?_⟩;have:=pC hok (t:=u) ⟨_,e4⟩ (by omega) hg.2;rw[show s+((wT (Β cs) t).length+(wT (Β cs) u).length+1)=s+1+(wT (Β cs) t).length+(wT (Β cs) u).length by omega];exact this
 |.ei t u,s,e,hl,hg=>by
   obtain⟨post,e⟩:=e;obtain⟨e1,e2⟩:=drop_cons (r:=(wT (Β cs) t++wT (Β cs) u)++post) e;rw[anG]at e2;have e4:=MN e2;have hl2:(wT (Β cs) (.ei t u)).length=(wT (Β cs) t).length+(wT (Β cs) u).length+1:=by show((wT (Β cs) t++wT (Β cs) u).length+1)=_;rw[adI]
   rw[hl2]at hl⊢;refine⟨by omega,e1,s+1+(wT (Β cs) t).length,pC hok (t:=t) ⟨_,e2⟩ (by omega) hg.1,?_⟩;have:=pC hok (t:=u) ⟨_,e4⟩ (by omega) hg.2;rw[show s+((wT (Β cs) t).length+(wT (Β cs) u).length+1)=s+1+(wT (Β cs) t).length+(wT (Β cs) u).length by omega];exact this
theorem join_cons{x:Str}{b:List Str}(hb:b≠[]):Str.join " " (x::b)=x++Str.ofString " "++Str.join " " b:=by
 match b,hb with
 |y::r,_=>rfl
theorem Kg{z:Str}(h:isName z=true):32∉z.cps.toList:=λhm=>by
 unfold isName dI at h;rw[aaV,ady]at h;exact absurd (of_decide_eq_true (h.2 32 hm)) (by decide+kernel)
theorem U5{cs:List ς}(hok:Ϙ cs=true):∀{sv:cL},tU cs sv->∀z∈dG (Β cs) sv,z.length<=21/\32∉z.cps.toList/\plainS z
 |.all,_,z,hz=>by
   have:z=Str.ofString "all":=by simpa [dG]using hz
   subst this;exact⟨by decide+kernel,by decide+kernel,by unfold plainS;decide+kernel⟩
 |.none p,hg,z,hz=>by
   have hz':z=Str.ofString "none"\/z=Β cs p:=by simpa [dG]using hz
   obtain rfl|rfl:=hz'
   .exact⟨by decide+kernel,by decide+kernel,by unfold plainS;decide+kernel⟩
   .have hp:cs[p]?=some cs[p]:=aak hg;rw[pM hp];have hn:=qp hok (acL.mpr ⟨cs[p],aj9 hg,rfl⟩);exact⟨by have:=xZ hn;omega,λh=>by have:=(Kg hn);exact this h,KJ hn⟩
 |.look l p v,hg,z,hz=>by
   obtain⟨c,hc,hv,Ϻ,hh⟩:=hg;have hz':z=aq l\/z=Β cs p\/z=wordOf v:=by simpa [dG]using hz
   have hn:=qp hok (acL.mpr ⟨c,abG hc,rfl⟩);have hk:c.2="number"\/c.2="text":=by
    unfold Ϙ at hok;simp only[aaV,ady]at hok;have:=(hok.1.2 c (abG hc)).2;unfold gA at this;exact of_decide_eq_true this
   obtain rfl|rfl|rfl:=hz'
   .cases l<;>exact⟨by decide+kernel,by decide+kernel,by unfold plainS;decide+kernel⟩
   .rw[pM hc];exact⟨by have:=xZ hn;omega,Kg hn,KJ hn⟩
   .have hw:=hv.word hk;exact⟨hw.2.1,hw.2.2.1,hv.plain⟩
theorem jw{cs:List ς}(hok:Ϙ cs=true):∀{t:Tr},bR cs t->∀z∈wT (Β cs) t,z.length<=21/\32∉z.cps.toList/\plainS z
 |.one s,hg,z,hz=>U5 hok hg z hz
 |.nt t,hg,z,hz=>by
   obtain rfl|hz:=acG.mp hz
   .exact⟨by decide+kernel,by decide+kernel,by unfold plainS;decide+kernel⟩
   .exact jw hok (t:=t) hg z hz
 |.bo t u,hg,z,hz=>by
   obtain rfl|hz:=acG.mp hz
   .exact⟨by decide+kernel,by decide+kernel,by unfold plainS;decide+kernel⟩
   .obtain hz|hz:=aei.mp hz
    .exact jw hok hg.1 z hz
    .exact jw hok hg.2 z hz
 |.ei t u,hg,z,hz=>by
   obtain rfl|hz:=acG.mp hz
   .exact⟨by decide+kernel,by decide+kernel,by unfold plainS;decide+kernel⟩
   .obtain hz|hz:=aei.mp hz
    .exact jw hok hg.1 z hz
    .exact jw hok hg.2 z hz
def zf(cs:List ς)(z:Str)(n d:Nat):=∃t,bR cs t/\t.dep<=d/\z=Str.join " " (wT (Β cs) t)/\(wT (Β cs) t).length<=n
theorem zf.len{cs:List ς}(hok:Ϙ cs=true){z:Str}{n d:Nat}(h:zf cs z n d):z.length<=22*n:=by
 obtain⟨t,hg,_,rfl,hl⟩:=h;have h1:=vD (wT (Β cs) t) 21 λp hp=>(jw hok hg p hp).1
 have h2:=xV (wT (Β cs) t);omega
def bH(H:Hp)(v:V):Tr->Prop
 |.one .all=>∃t,v=.ref t/\H t=some (.tup [.str ("all":Str)])
 |.one (.none p)=>∃t,v=.ref t/\H t=some (.tup [.str ("none":Str),.int p])
 |.one (.look l p x)=>∃t,v=.ref t/\H t=some (.tup [.str (aq l),.int p,x])
 |.nt t=>∃a u,v=.ref a/\H a=some (.tup [.str ("not":Str),u])/\bH H u t
 |_=>False
theorem bH.same{H H':Hp}(s:ζ H H'):∀{t:Tr}{v:V},bH H v t->bH H' v t
 |.one .all,_,⟨t,e,h⟩=>⟨t,e,s _ _ h⟩
 |.one (.none p),_,⟨t,e,h⟩=>⟨t,e,s _ _ h⟩
 |.one (.look l p x),_,⟨t,e,h⟩=>⟨t,e,s _ _ h⟩
 |.nt t,_,⟨a,u,e,h,g⟩=>⟨a,u,e,s _ _ h,bH.same s g⟩
 |.bo _ _,_,h=>h.elim
 |.ei _ _,_,h=>h.elim
def jC:Tr->Prop
 |.one (.look l _ _)=>¬l=.holds
 |.one _=>True
 |_=>False
def jy:Tr->Prop
 |.nt t=>jC t
 |t=>jC t
theorem ajW{d:Int}(h0:0<=d)(h1:d<3):∃l:Lk,¬l=.holds/\ό [V.str ("is":Str),V.str ("under":Str),V.str ("over":Str)] d=some (.str (aq l)):=by
 by_cases e0:d=0
 .exact⟨.is,nofun,by rw[e0];rfl⟩
 .by_cases e1:d=1
  .exact⟨.under,nofun,by rw[e1];rfl⟩
  .exact⟨.over,nofun,by rw[show d=2 by omega];rfl⟩
theorem ahQ{d:Int}(h0:0<=d)(h1:d<2):∃l:Lk,¬l=.holds/\ό [V.str ("under":Str),V.str ("over":Str)] d=some (.str (aq l)):=by
 by_cases e0:d=0
 .exact⟨.under,nofun,by rw[e0];rfl⟩
 .exact⟨.over,nofun,by rw[show d=1 by omega];rfl⟩
def aas(K:ϩ):Sp:=λvs H Q _=>∃(a:δ)(ns:List Int)(k:Int)(b:δ)(cs:List ς),vs=[.ref a,.int k,.ref b]/\θ K H a (ns.map V.int)/\ns.length<=63/\0<=k/\k<=40000/\ϒ H b cs/\1<=cs.length/\cs.length<=6/\∀v t H',ζ H H'->bH H' v t->jy t->bR cs t->Q v H'
theorem Ek(T:Txt K mg):Def P w K mg base true 4 "_law_sieve" ["_law_script","_law_k","_law_columns_here"] (aas K):=by
 refine Ο T.Ek LC (λ_ _ A _ s H vs Q E hr h=>?_);intro X;obtain⟨a,ns,k,b,cs,rfl,hS,hl,hk0,hk1,⟨vs,hb,hvs⟩,c1,c6,q⟩:=h;have nd:=LC.nd;have n1:=T.cQ;have hsz:=ϳ;have hvl:=hvs.len;have qJ:θ K H b vs:=θ.of hb;have D1:= @gG P w K mg base T;have D2:= @v8 P w K mg base T;walk_at"A";refine⟨a,ns,k,8,rfl,hS,hl,by omega,by omega,by decide,?_⟩;have w0:=aJ ns k (m:=8) (by decide);have w1:=aK ns k (m:=8) (by decide);generalize Χ ns k 8=way at w0 w1⊢;walk_at"A";refine⟨a,ns,k+1,_,rfl,hS,hl,by omega,by omega,by omega,?_⟩;have a0:=aJ ns (k+1) (m:=(vs.length:Int)) (by omega);have a1:=aK ns (k+1) (m:=(vs.length:Int)) (by omega);generalize Χ ns (k+1) (vs.length:Int)=at_ at a0 a1⊢;obtain⟨p,rfl⟩:=adK a0;have hpv:p<vs.length:=by omega
 obtain⟨c,hc,tc,ec,htc⟩:=hvs.get (aak hpv);have mW:vs[p]?=some (.ref tc):=by rw[<-ec];exact aak hpv
 refine ξ (Τ ?_);walk_at"ex";refine Ζ (λ_=>?_) (λh3=>?_)
 .refine ο (Η ?_);walk_at"ex";refine⟨by show 1<=Ϫ;omega,λt ht=>?_⟩;exact q _ (.one .all) _ (ζ.upd ht) ⟨t,rfl,ρ⟩ trivial trivial
 refine Δ (ξ (Τ ?_));walk_at"ex";refine Ζ (λ_=>?_) (λh4=>?_)
 .refine ο (Η ?_);walk_at"ex";refine⟨by show 2<=Ϫ;omega,λt ht=>?_⟩;exact q _ (.one (.none p)) _ (ζ.upd ht) ⟨t,rfl,ρ⟩ trivial (by show p<cs.length;omega)
 have hw4:4<=way:=by
  have h4':¬way=3:=λe=>h4 (by rw[e])
  omega
 refine Δ (ξ ?_);walk_at"s";walk_at"ex";refine ϖ qJ (ϔ mW) ?_;walk_at"ex";refine Ω (ω.of htc) (show ό [V.str c.1,V.str c.2] 1=some (V.str c.2)from rfl) ?_;walk_at"ex";refine⟨a,ns,k+2,c.2,rfl,hS,hl,by omega,by omega,λx H1 s1 hx=>?_⟩;have fin:∀(y:V)(H2:Hp),ζ H H2->aB c.2 y->¬y=.non->Κ X ((ϝ Ds).drop 6) {nx:=λ_ H'=>Q .non H',rt:=Q} [some (.ref a),some (.int k),some (.ref b),some (.int way),some (.int p),some y] H2:=by
  intro y H2 s2 hy Ϻ;have good:∀l:Lk,¬l=.holds->tU cs (.look l p y):=λl hl=>⟨c,hc,hy,Ϻ,λe=>absurd e hl⟩
  refine ξ (Τ ?_);walk_at"ex";refine Ζ (λ_=>?_) (λh7=>?_)
  .refine ο (Η ?_);walk_at"ex";refine⟨by show 2<=Ϫ;omega,λz hz=>?_⟩;obtain⟨sz,ez⟩:=ϊ hz (.lst [.str ("under":Str),.str ("over":Str)]);generalize upd H2 z (.lst [.str ("under":Str),.str ("over":Str)])=H3 at sz ez⊢;walk_at"ex";refine⟨a,ns,k+5,2,rfl,(s2.trans sz).seq hS,hl,by omega,by omega,by decide,?_⟩;obtain⟨l,hl1,hl2⟩:=ahQ (aJ ns (k+5) (m:=2) (by decide)) (aK ns (k+5) (m:=2) (by decide));refine ϖ (θ.of ez) hl2 ?_;walk_at"ex";refine⟨by show 3<=Ϫ;omega,λt ht=>?_⟩;obtain⟨st,et⟩:=ϊ ht (.tup [.str (aq l),.int p,y]);generalize upd H3 t (.tup [.str (aq l),.int p,y])=H4 at st et⊢;walk_at"ex";refine⟨by show 2<=Ϫ;omega,λt2 fL=>?_⟩;have st2:ζ H4 (upd H4 t2 (.tup [.str ("not":Str),.ref t])):=ζ.upd fL;exact q _ (.nt (.one (.look l p y))) _ (((s2.trans sz).trans st).trans st2) ⟨t2,.ref t,rfl,ρ,t,rfl,st2 _ _ et⟩ hl1 (good l hl1)
  .have hw7:way<7:=by
    have h7':¬way=7:=λe=>h7 (by rw[e])
    omega
   refine Δ (ο (Η ?_));walk_at"ex";refine⟨by show 3<=Ϫ;omega,λz hz=>?_⟩;obtain⟨sz,ez⟩:=ϊ hz (.lst [.str ("is":Str),.str ("under":Str),.str ("over":Str)]);generalize upd H2 z (.lst [.str ("is":Str),.str ("under":Str),.str ("over":Str)])=H3 at sz ez⊢;walk_at"ex";obtain⟨l,hl1,hl2⟩:=ajW (d:=way-4) (by omega) (by omega);refine ϖ (θ.of ez) hl2 ?_;walk_at"ex";refine⟨by show 3<=Ϫ;omega,λt ht=>?_⟩;exact q _ (.one (.look l p y)) _ ((s2.trans sz).trans (ζ.upd ht)) ⟨t,rfl,ρ⟩ hl1 (good l hl1)
 refine ξ (Τ ?_);walk_at"ex";refine Ζ (λe=>?_) (λe=>Δ (fin x H1 s1 hx e));refine ο ?_;walk_at"s";walk_at"ex";refine ϖ (s1.seq qJ) (ϔ mW) ?_;walk_at"ex";refine Ω (ω.of (s1 _ _ htc)) (show ό [V.str c.1,V.str c.2] 1=some (V.str c.2)from rfl) ?_;walk_at"ex";refine Ζ (λe2=>?_) (λe2=>?_)
 .walk_at "ex";have hk:c.2="number":=by injection e2
  exact fin _ H1 s1 (.inr (.inl ⟨hk,0,rfl,by decide,by decide⟩)) nofun
 .walk_at "ex";have hk:¬c.2="number":=λz=>e2 (by rw[z])
  exact fin _ H1 s1 (.inr (.inr ⟨hk,_,rfl,by decide+kernel,by decide+kernel⟩)) nofun
def ajE:Sp:=λvs H Q _=>∃(v:V)(kd:Str),vs=[v]/\aB kd v/\Q (.str (wordOf v)) H
theorem Ea(T:Txt K mg):Def P w K mg base true 1 "_law_word" ["_law_value_here"] ajE:=by
 refine Ο T.Ea Yi (λ_ _ _ _ _ H vs Q E hr h=>?_);intro X;obtain⟨v,kd,rfl,hv,q⟩:=h;have n1:=T.ux;have n2:=T.Gx;have n3:=T.Eu;have hsz:=ϳ;have la:("'":Str).length=1:=by decide+kernel
 refine ξ (Τ ?_);walk_at"ex";obtain rfl|⟨_,i,rfl,h1,h2⟩|⟨_,z,rfl,hl,_⟩:=hv
 .refine cu ?_;refine ο (Η ?_);walk_at"ex";exact q
 .refine Ζ (λh=>nomatch h) (λ_=>?_);refine Δ (ο (Η ?_));walk_at"ex";refine JH (j5 ?_) ?_
  .have :(10:Nat)^60>1000000000000000000:=by decide
   omega
  exact q
 .refine Ζ (λh=>nomatch h) (λ_=>?_);refine Δ (ο (Η ?_));walk_at"ex";refine my (by omega) ?_;exact q
theorem Q7(l:Lk):¬V.str (aq l)=V.str ("all":Str)/\¬V.str (aq l)=V.str ("not":Str)/\¬V.str (aq l)=V.str ("none":Str)/\(aq l).length<=5:=by
 cases l<;>exact⟨by decide+kernel,by decide+kernel,by decide+kernel,by decide+kernel⟩
def JC(K:ϩ)(ok:Tr->Prop):Sp:=λvs H Q _=>∃(v:V)(b:δ)(cs:List ς)(t:Tr),vs=[v,.ref b]/\ϒ H b cs/\Ϙ cs=true/\bH H v t/\ok t/\bR cs t/\∀H',ζ H H'->Q (.str (Str.join " " (wT (Β cs) t))) H'
theorem Qu(T:Txt K mg){k:Nat}(hk:1<=k){f:δ}{Ϲ:ε}{A:ϲ}{outer:List Env}{s:μ}{H:Hp}{Q:VK}{E:XK}(hr:ϙ true k (A.deeper (envOfC "_law_sieve_text" (υ rC) s.heap.objs.size f Ϲ))){v:V}{b:δ}{cs:List ς}{t:Tr}(hC:ϒ H b cs)(hok:Ϙ cs=true)(hv:bH H v t)(hs:jC t)(hg:bR cs t)(q:∀H',ζ H H'->Q (.str (Str.join " " (wT (Β cs) t))) H'):Κ (iR true P w K mg base O5 "_law_sieve_text" (υ rC) f Ϲ A outer s H E) (ϝ rC) {nx:=λ_ H'=>Q .non H',rt:=Q} [some v,some (.ref b),none] H:=by
 have nd:=CV.nd;have n1:=T.cQ;have hsz:=ϳ;have lb:(" ":Str).length=1:=by decide+kernel
 have D1:= @Ea P w K mg base T;obtain⟨vs,hb,hvs⟩:=hC;have hvl:=hvs.len;have adC:=jw hok hg;have bound:((wT (Β cs) t).map (·.length)).sum+(wT (Β cs) t).length*(" ":Str).length<=16777216:=by
  have h1:=vD (wT (Β cs) t) 21 λp hp=>(adC p hp).1
  have h2:(wT (Β cs) t).length<=3:=by
   cases t with
   |one sv=>cases sv<;>simp[wT,dG]
   |_=>exact hs.elim
  rw[lb];omega
 cases t with
 |nt t=>exact hs.elim
 |bo t u=>exact hs.elim
 |ei t u=>exact hs.elim
 |one sv=>
  cases sv with
  |all=>
   obtain⟨t,rfl,ht⟩:=hv;refine ξ (Τ ?_);walk_at"ex";refine Ω (ω.of ht) (show ό [V.str ("all":Str)] 0=some (V.str ("all":Str))from rfl) ?_;walk_at"ex";refine cu ?_;refine ο (Η ?_);walk_at"ex";exact q H (ζ.refl _)
  |none p=>
   obtain⟨t,rfl,ht⟩:=hv;have hp:p<cs.length:=hg;obtain⟨c,hc,tc,ec,htc⟩:=hvs.get (aak (show p<vs.length by omega));have mW:vs[p]?=some (.ref tc):=by rw[<-ec];exact aak _
   have at0:ό [V.str ("none":Str),V.int (p:Int)] 0=some (V.str ("none":Str)):=rfl;have at1:ό [V.str ("none":Str),V.int (p:Int)] 1=some (V.int (p:Int)):=rfl;refine ξ (Τ ?_);walk_at"ex";refine Ω (ω.of ht) at0 ?_;walk_at"ex";refine bc ?_;refine Δ (ξ (Τ ?_));walk_at"ex";refine Ω (ω.of ht) at0 ?_;walk_at"ex";refine bc ?_;refine Δ (ξ ?_);walk_at"s";walk_at"ex";refine Ω (ω.of ht) at0 ?_;walk_at"ex";refine Ω (ω.of ht) at1 ?_;refine ϖ (θ.of hb) (ϔ mW) ?_;walk_at"ex";refine Ω (ω.of htc) (show ό [V.str c.1,V.str c.2] 0=some (V.str c.1)from rfl) ?_;walk_at"ex";refine⟨by show 2<=Ϫ;omega,λwl hwl=>?_⟩;obtain⟨s1,e1⟩:=ϊ hwl (.lst [.str ("none":Str),.str c.1]);generalize upd H wl (.lst [.str ("none":Str),.str c.1])=H1 at s1 e1⊢;refine ξ (Τ ?_);walk_at"ex";refine uA (.inr (ω.of (s1 _ _ ht))) ?_;walk_at"ex";refine Ζ (λh=>absurd h (by show ¬((2:Nat):Int)>2;decide)) (λ_=>?_);refine Δ (ο (Η ?_));walk_at"ex";refine rE (ys:=wT (Β cs) (.one (.none p))) ?_ bound (q H1 s1);refine θ.of ?_;rw[e1];show _=some (HO.lst [V.str ("none":Str),V.str (Β cs p)]);rw[pM hc]
  |look l p x=>
   obtain⟨t,rfl,ht⟩:=hv;obtain⟨c,hc,hx,Ϻ,hh⟩:=hg;obtain⟨wv,mW,tc,rfl,htc⟩:=hvs.get' hc;obtain⟨k1,k2,k3,k4⟩:=Q7 l;have at0:ό [V.str (aq l),V.int (p:Int),x] 0=some (V.str (aq l)):=rfl;have at1:ό [V.str (aq l),V.int (p:Int),x] 1=some (V.int (p:Int)):=rfl;have at2:ό [V.str (aq l),V.int (p:Int),x] 2=some x:=rfl;refine ξ (Τ ?_);walk_at"ex";refine Ω (ω.of ht) at0 ?_;walk_at"ex";refine Ζ (λh=>absurd h k1) (λ_=>?_);refine Δ (ξ (Τ ?_));walk_at"ex";refine Ω (ω.of ht) at0 ?_;walk_at"ex";refine Ζ (λh=>absurd h k2) (λ_=>?_);refine Δ (ξ ?_);walk_at"s";walk_at"ex";refine Ω (ω.of ht) at0 ?_;walk_at"ex";refine Ω (ω.of ht) at1 ?_;refine ϖ (θ.of hb) (ϔ mW) ?_;walk_at"ex";refine Ω (ω.of htc) (show ό [V.str c.1,V.str c.2] 0=some (V.str c.1)from rfl) ?_;walk_at"ex";refine⟨by show 2<=Ϫ;omega,λwl hwl=>?_⟩;obtain⟨s1,e1⟩:=ϊ hwl (.lst [.str (aq l),.str c.1]);generalize upd H wl (.lst [.str (aq l),.str c.1])=H1 at s1 e1⊢;refine ξ (Τ ?_);walk_at"ex";refine uA (.inr (ω.of (s1 _ _ ht))) ?_;walk_at"ex";refine Ζ (λ_=>?_) (λh=>absurd (by show((3:Nat):Int)>2;decide) h);refine ο (ϟ (cH F.plainAttrs_list F.slot_list_append F.type_list_append (h:=?_)));walk_at"ex";refine⟨.inl ⟨rfl,_,θ.of e1⟩,?_⟩;walk_at"ex";refine Ω (ω.of (s1 _ _ ht)) at2 ?_;walk_at"ex";refine⟨x,c.2,rfl,hx,?_⟩;walk_at"ex";refine dh fX ⟨wl,_,_,rfl,rfl,e1,by show 2<Ϫ;omega,?_⟩;have s2:ζ H (upd H1 wl (.lst ([.str (aq l),.str c.1]++[.str (wordOf x)]))):=λe u he=>by
    rw[ι (Θ he hwl)];exact s1 _ _ he
   refine ο (Η ?_);walk_at"ex";refine rE (ys:=wT (Β cs) (.one (.look l p x))) ?_ bound (q _ s2);refine θ.of ?_;rw[ρ];show _=some (HO.lst [V.str (aq l),V.str (Β cs p),V.str (wordOf x)]);rw[pM hc];rfl
theorem aaI(T:Txt K mg):Def P w K mg base true 2 "_law_sieve_text" ["_law_sieve_here","_law_columns_here"] (JC K jC):=by
 refine Ο T.xY CV (λ_ _ _ _ _ H vs Q E hr h=>?_);intro X;obtain⟨v,b,cs,t,rfl,hC,hok,hv,hs,hg,q⟩:=h;exact Qu T (Ϯ _) hr hC hok hv hs hg q
theorem xY(T:Txt K mg):Def P w K mg base true 3 "_law_sieve_text" ["_law_sieve_here","_law_columns_here"] (JC K jy):=by
 refine Ο T.xY CV (λ_ _ _ _ _ H vs Q E hr h=>?_);intro X;obtain⟨v,b,cs,t,rfl,hC,hok,hv,hs,hg,q⟩:=h;cases t with
 |one sv=>exact Qu T (by decide) hr hC hok hv hs hg q
 |bo t u=>exact hs.elim
 |ei t u=>exact hs.elim
 |nt t=>
  have hsz:=ϳ;have ln:("not ":Str).length=4:=by decide+kernel
  have D1:= @aaI P w K mg base T;obtain⟨a,u,rfl,ha,hu⟩:=hv;refine ξ (Τ ?_);walk_at"ex";refine Ω (ω.of ha) (show ό [V.str ("not":Str),u] 0=some (V.str ("not":Str))from rfl) ?_;walk_at"ex";refine bc ?_;refine Δ (ξ (Τ ?_));walk_at"ex";refine Ω (ω.of ha) (show ό [V.str ("not":Str),u] 0=some (V.str ("not":Str))from rfl) ?_;walk_at"ex";refine cu ?_;refine ο (Η ?_);walk_at"ex";refine Ω (ω.of ha) (show ό [V.str ("not":Str),u] 1=some u from rfl) ?_;walk_at"ex";refine⟨u,b,cs,t,rfl,hC,hok,hu,hs,hg,λH1 s1=>?_⟩;have hl:=zf.len hok (n:=(wT (Β cs) t).length) (d:=t.dep) ⟨t,hg,Ϯ _,rfl,Ϯ _⟩;have h3:(wT (Β cs) t).length<=3:=by
   cases t with
   |one sv=>cases sv<;>simp[wT,dG]
   |_=>exact hs.elim
  refine my (by omega) ?_;have e:Str.join " " (wT (Β cs) (.nt t))=Str.ofString "not "++Str.join " " (wT (Β cs) t):=by
   show Str.join " " (Str.ofString "not"::wT (Β cs) t)=_;rw[join_cons (Jp (Β cs) t)];rfl
  rw[e]at q;exact q H1 s1
def Ou(K:ϩ)(ok:Tr->Prop):Sp:=λvs H Q _=>∃(v:V)(b:δ)(cs:List ς)(t:Tr)(xs:List V),vs=[v,.ref b]/\bH H v t/\ok t/\bR cs t/\H b=some (.lst xs)/\ψ (λ(c:ς) x=>aB c.2 x) cs xs/\Q (.bl (ύ xs t)) H
theorem GR(T:Txt K mg):Def P w K mg base true 1 "_law_order_text" ["_law_order_here"] aep:=by
 refine Ο T.GR abV (λ_ _ _ _ _ H vs Q E hr h=>?_);intro X;obtain⟨a,os,rfl,⟨vs,ha,hvs⟩,hl,hn,q⟩:=h;have dB:(["_law_name","_law_up"]:List Str).Nodup:=by decide+kernel
 have hsz:=ϳ;have jK:=hvs.len;have lp:("+":Str).length=1:=by decide+kernel
 have lm:("-":Str).length=1:=by decide+kernel
 have lb:(" ":Str).length=1:=by decide+kernel
 refine ο (Η ?_);refine cH F.plainAttrs_str F.slot_str_join F.type_str_join (h:=?_);walk_at"e";refine⟨by rfl,eF (by rfl) ?_⟩;refine j9 ["_law_name","_law_up"] (σ':=[none,none]) (bK (υ zg)) ?_;walk_at"e";refine⟨a,vs,rfl,θ.of ha,by omega,λτ=>∃o1 o2,τ=[o1,o2],λE2 i u H'=>∃c,os[i]?=some c/\u=.str (aH c),⟨none,none,rfl⟩,λE2 i u H2 H3 ys _ _ p=>p,λfp E2 C s3 H0 i τ x H4 H3 bU hi hτ Ξ hys hG=>?_,λE2 H4 ys bU hl2 hx2 e4 Ξ =>?_⟩
 .obtain⟨o1,o2,rfl⟩:=hτ;obtain⟨bN,rfl⟩:=hG;obtain⟨c,hc,t,rfl,ht⟩:=hvs.get bN;have hcn:=hn c (abG hc);refine bQ (ω.of (Ξ _ _ ht)) (ϕ (Ι dB (by rfl) (.inl rfl) (.inr rfl) (ϕ (Ι dB (by rfl) (.inl rfl) (.inr rfl) (b7 ?_)))));walk_at"go";refine jJ (λh=>?_) (λh=>?_)
  .walk_at "go";refine my (by rw[lp];omega) ?_;exact⟨⟨_,_,rfl⟩,⟨c,hc,by unfold aH;rw[if_pos h]⟩,ζ.refl _⟩
  .walk_at "go";refine my (by rw[lm];omega) ?_;exact⟨⟨_,_,rfl⟩,⟨c,hc,by unfold aH;rw[if_neg (by rw[h];exact abe)]⟩,ζ.refl _⟩
 .have ey:=gb (ys:=os) (λc=>V.str (aH c)) (by rw[hl2,jK]) hx2;have fW:ys=(os.map aH).map V.str:=by rw[ey,afK];rfl
  subst fW;walk_at"go";refine rE (θ.of e4) ?_ (q H4 Ξ);rw[lb,ϱ];have hsum:∀l:List Ord,(∀o∈l,o.1.length<=1000)->((l.map aH).map (·.length)).sum<=l.length*1001:=by
   intro l;induction l with
   |nil=>intro _;simp
   |cons o l ih=>
    intro h;have h1:=ih λx hx=>h x (by simp[hx])
    have h2:=h o (by simp);have h3:(aH o).length<=1001:=by
     unfold aH;rw[len_app];split
     .rw[lp];omega
     .rw[lm];omega
    simp only[List.map_cons,List.sum_cons,List.length_cons];omega
  have:=hsum os hn;omega
theorem Q0(T:Txt K mg){k:Nat}{f:δ}{Ϲ:ε}{A:ϲ}{outer:List Env}{s:μ}{H:Hp}{Q:VK}{E:XK}(hr:ϙ true k (A.deeper (envOfC "_law_lets" (υ rB) s.heap.objs.size f Ϲ))){v:V}{b:δ}{cs:List ς}{t:Tr}{xs:List V}(hv:bH H v t)(hs:jC t)(hg:bR cs t)(hb:H b=some (.lst xs))(hxs:ψ (λ(c:ς) x=>aB c.2 x) cs xs)(q:Q (.bl (ύ xs t)) H):Κ (iR true P w K mg base Rj "_law_lets" (υ rB) f Ϲ A outer s H E) (ϝ rB) {nx:=λ_ H'=>Q .non H',rt:=Q} [some v,some (.ref b),none] H:=by
 have nd:=Be.nd;cases t with
 |nt t=>exact hs.elim
 |bo t u=>exact hs.elim
 |ei t u=>exact hs.elim
 |one sv=>
  cases sv with
  |all=>
   obtain⟨t,rfl,ht⟩:=hv;refine ξ (Τ ?_);walk_at"ex";refine Ω (ω.of ht) (show ό [V.str ("all":Str)] 0=some (V.str ("all":Str))from rfl) ?_;walk_at"ex";refine cu ?_;refine ο (Η ?_);walk_at"ex";exact q
  |none p=>
   obtain⟨t,rfl,ht⟩:=hv;have hp:p<cs.length:=hg;obtain⟨x,hx,pD⟩:=hxs.get (aak hp);have q':Q (.bl (decide (x=.non))) H:=by
    have e:ύ xs (.one (.none p))=decide (x=.non):=by
     show decide ((xs[p]?).getD .non=.non)=_;rw[hx];rfl
    rw[e]at q;exact q
   have at0:ό [V.str ("none":Str),V.int (p:Int)] 0=some (V.str ("none":Str)):=rfl;have at1:ό [V.str ("none":Str),V.int (p:Int)] 1=some (V.int (p:Int)):=rfl;refine ξ (Τ ?_);walk_at"ex";refine Ω (ω.of ht) at0 ?_;walk_at"ex";refine bc ?_;refine Δ (ξ (Τ ?_));walk_at"ex";refine Ω (ω.of ht) at0 ?_;walk_at"ex";refine bc ?_;refine Δ (ξ ?_);walk_at"s";walk_at"ex";refine Ω (ω.of ht) at1 ?_;refine ϖ (θ.of hb) (ϔ hx) ?_;refine ξ (Τ ?_);walk_at"ex";refine Ω (ω.of ht) at0 ?_;walk_at"ex";refine cu ?_;refine ο (Η ?_);walk_at"ex";refine Ω (ω.of ht) at0 ?_;walk_at"ex";refine cu ?_;walk_at"ex";exact q'
  |look l p y=>
   obtain⟨t,rfl,ht⟩:=hv;obtain⟨c,hc,hy,Ϻ,hh⟩:=hg;obtain⟨x,hx,pD⟩:=hxs.get hc;obtain⟨k1,k2,k3,k4⟩:=Q7 l;have e:ύ xs (.one (.look l p y))=(!decide (x=.non)&&lY l x y):=by
    show(!decide ((xs[p]?).getD .non=.non)&&lY l ((xs[p]?).getD .non) y)=_;rw[hx];rfl
   rw[e]at q;have at0:ό [V.str (aq l),V.int (p:Int),y] 0=some (V.str (aq l)):=rfl;have at1:ό [V.str (aq l),V.int (p:Int),y] 1=some (V.int (p:Int)):=rfl;have at2:ό [V.str (aq l),V.int (p:Int),y] 2=some y:=rfl;refine ξ (Τ ?_);walk_at"ex";refine Ω (ω.of ht) at0 ?_;walk_at"ex";refine Ζ (λh=>absurd h k1) (λ_=>?_);refine Δ (ξ (Τ ?_));walk_at"ex";refine Ω (ω.of ht) at0 ?_;walk_at"ex";refine Ζ (λh=>absurd h k2) (λ_=>?_);refine Δ (ξ ?_);walk_at"s";walk_at"ex";refine Ω (ω.of ht) at1 ?_;refine ϖ (θ.of hb) (ϔ hx) ?_;refine ξ (Τ ?_);walk_at"ex";refine Ω (ω.of ht) at0 ?_;walk_at"ex";refine Ζ (λh=>absurd h k3) (λ_=>?_);walk_at"ex";refine Ζ (λhn=>?_) (λhn=>?_)
   .refine ο (Η ?_);walk_at"ex";refine Ω (ω.of ht) at0 ?_;walk_at"ex";refine Ζ (λh=>absurd h k3) (λ_=>?_);rw[decide_eq_true hn]at q;have ek:decide (V.str (aq l)=V.str ("none":Str))=false:=decide_eq_false k3
    first
     |exact q
     |(rw[ek];exact q)
   rw[decide_eq_false hn]at q;have q:Q (.bl (lY l x y)) H:=q;refine Δ (ξ (Τ ?_));walk_at"ex";refine Ω (ω.of ht) at0 ?_;walk_at"ex";have sx:=pD.sc;have sy:=hy.sc;cases l with
   |holds=>exact absurd rfl hs
   |is=>
    refine cu ?_;refine ο (Η ?_);walk_at"ex";refine Ω (ω.of ht) at2 ?_;refine Dw (Rm sx sy) ?_;exact q
   |under=>
    refine bc ?_;refine Δ (ο (Η ?_));walk_at"ex";refine Ω (ω.of ht) at0 ?_;walk_at"ex";refine cu ?_;walk_at"ex";refine Ω (ω.of ht) at2 ?_;obtain rfl|⟨ek,i,rfl,_⟩|⟨ek,z,rfl,_⟩:=pD
    .exact absurd rfl hn
    .obtain rfl|⟨_,j,rfl,_⟩|⟨e2,z,rfl,_⟩:=hy
     .exact absurd rfl Ϻ
     .walk_at "ex";exact q
     .exact absurd ek e2
    .obtain rfl|⟨e2,j,rfl,_⟩|⟨_,z,rfl,_⟩:=hy
     .exact absurd rfl Ϻ
     .exact absurd e2 ek
     .walk_at "ex";exact q
   |over=>
    refine bc ?_;refine Δ (ο (Η ?_));walk_at"ex";refine Ω (ω.of ht) at0 ?_;walk_at"ex";refine bc ?_;walk_at"ex";refine Ω (ω.of ht) at2 ?_;obtain rfl|⟨ek,i,rfl,_⟩|⟨ek,z,rfl,_⟩:=pD
    .exact absurd rfl hn
    .obtain rfl|⟨_,j,rfl,_⟩|⟨e2,z,rfl,_⟩:=hy
     .exact absurd rfl Ϻ
     .walk_at "ex";exact q
     .exact absurd ek e2
    .obtain rfl|⟨e2,j,rfl,_⟩|⟨_,z,rfl,_⟩:=hy
     .exact absurd rfl Ϻ
     .exact absurd e2 ek
     .refine Wd ?_;exact q
theorem aix(T:Txt K mg):Def P w K mg base true 1 "_law_lets" ["_law_sieve_here","_law_values_here"] (Ou K jC):=by
 refine Ο T.xr Be (λ_ _ _ _ _ H vs Q E hr h=>?_);intro X;obtain⟨v,b,cs,t,xs,rfl,hv,hs,hg,hb,hxs,q⟩:=h;exact Q0 T hr hv hs hg hb hxs q
theorem xr(T:Txt K mg):Def P w K mg base true 2 "_law_lets" ["_law_sieve_here","_law_values_here"] (Ou K jy):=by
 refine Ο T.xr Be (λ_ _ _ _ _ H vs Q E hr h=>?_);intro X;obtain⟨v,b,cs,t,xs,rfl,hv,hs,hg,hb,hxs,q⟩:=h;cases t with
 |one sv=>exact Q0 T hr hv hs hg hb hxs q
 |bo t u=>exact hs.elim
 |ei t u=>exact hs.elim
 |nt t=>
  have D1:= @aix P w K mg base T;obtain⟨a,u,rfl,ha,hu⟩:=hv;refine ξ (Τ ?_);walk_at"ex";refine Ω (ω.of ha) (show ό [V.str ("not":Str),u] 0=some (V.str ("not":Str))from rfl) ?_;walk_at"ex";refine bc ?_;refine Δ (ξ (Τ ?_));walk_at"ex";refine Ω (ω.of ha) (show ό [V.str ("not":Str),u] 0=some (V.str ("not":Str))from rfl) ?_;walk_at"ex";refine cu ?_;refine ο (Η ?_);walk_at"ex";refine Ω (ω.of ha) (show ό [V.str ("not":Str),u] 1=some u from rfl) ?_;walk_at"ex";refine⟨u,b,cs,t,xs,rfl,hu,hs,hg,hb,hxs,?_⟩;walk_at"ex";exact q
def sS(H H':Hp)(v:V)(r:Row):=∃t l,v=.ref t/\H' t=some (.tup [.int r.1,.ref l])/\H l=some (.lst r.2)
theorem sS.row{H H':Hp}{v:V}{r:Row}(h:sS H H' v r)(s:ζ H H'):uX H' v r:=by
 obtain⟨t,l,e,e1,e2⟩:=h;exact⟨t,l,e,e1,s _ _ e2⟩
theorem eQ.len{cs:List ς}{r:Row}(h:eQ cs r):r.2.length=cs.length:=(ψ.len h).symm
theorem map_getD{α:Type}(d:α):∀(l:List α),(ad6 l.length).map (λi=>l.getD i d)=l
 |[]=>rfl
 |a::l=>by
  rw[List.length_cons,List.range_succ_eq_map,List.map_cons,afK];show a::_=_
  congr 1
  exact map_getD d l
def Uu(K:ϩ)(mg:Str->Option ε)(t:Tr):Sp:=λvs H Q _=>∃(a p:δ)(z:Str)(rs:List Row),vs=[.ref a,.ref p]/\bu mg H t a z/\K7 H p rs/\rs.length<=1000/\(∀r∈rs,jG r.2 t)/\
 ∀q ws H',ζ H H'->H q=none->H' q=some (.lst ws)->ψ (sS H H') ws (rs.filter λr=>ύ r.2 t)->Q (.ref q) H'
theorem Zx(rs:List Row)(f:Row->Bool):(iM (λi=>f (rs.getD i (0,[]))) rs.length).map (λi=>rs.getD i (0,[]))=rs.filter f:=by
 unfold iM;have h:=map_getD (0,[]) rs
 conv=>rhs;rw[<-h]
 rw[List.filter_map];rfl
theorem Ks{α β γ:Type}{R:α->γ->Prop}(g:β->γ):∀{l:List α}{m:List β},ψ (λa b=>R a (g b)) l m->ψ R l (m.map g)
 |_,_,.nil=>.nil
 |_,_,.cons h t=>.cons h (Ks g t)
theorem Ai(T:Txt K mg)(t:Tr):Def P w K mg base true (4+t.dep) "let_through" ["sieve","rows"] (Uu K mg t):=by
 rw[show 4+t.dep=(3+t.dep)+1 by omega];refine Ο T.Ai agB (λ_ _ _ _ _ H vs Q E hr h=>?_);intro X;obtain⟨a,p,z,rs,rfl,hv,⟨ws,hp,hws⟩,hl,hf,q⟩:=h;have hsz:=ϳ;have hwl:=hws.len;have Oz:(["row","values","sieve"]:List Str).Nodup:=by decide+kernel
 refine ο (Η ?_);refine Zd ["row","values","sieve"] (σ':=[none,none,some (.ref a)]) (by rfl) (by rfl) (bK (υ zK)) (by intro _;rfl) ?_;walk_at"ex";refine⟨p,ws,rfl,θ.of hp,by omega,λτ=>∃o1 o2,τ=[o1,o2,some (.ref a)],λi=>ύ (rs.getD i (0,[])).2 t,λE2 i u H'=>u≠.ref E2/\sS H H' u (rs.getD i (0,[])),⟨none,none,rfl⟩,λE2 i v H2 H3 ys hE hk h=>?_,λfp E2 C s3 H0 i τ x H2 bU hx hτ sm hys=>?_,λE2 H2 us bU e2 hA sm=>?_⟩
 .obtain⟨h0,t2,l,e,h1,h2⟩:=h;exact⟨h0,t2,l,e,hk _ _ (λz=>by rw[z,hE]at h1;cases h1) h1,h2⟩
 .obtain⟨o1,o2,rfl⟩:=hτ;obtain⟨r,hr2,tr,lr,rfl,htr,hlr⟩:=hws.get hx;obtain⟨ys,hys⟩:=hys;have er:rs.getD i (0,[])=r:=by rw[anj,hr2];rfl
  obtain⟨da,fa,ea,la⟩:=(hv.same sm).ins;refine bQ (ω.of (sm _ _ htr)) (ϕ (Ι Oz (by rfl) (.inl rfl) (.inr rfl) (ϕ (Ι Oz (by rfl) (.inl rfl) (.inr rfl) (b7 ?_)))));refine RP (λ_=>by rfl) ?_;refine aM (pl:=_) hr (by walk_at"xo") (by rfl) (by rfl) (by rfl) ?_;walk_at"e";refine⟨a,dC mg t,da,_,true,3+t.dep,_,cT K mg t,rfl,ea,la,lA T t,Ϯ _,id,?_⟩;walk_at"ex";refine⟨a,lr,z,r.2,rfl,hv.same sm,θ.of (sm _ _ hlr),hf r (abG hr2),?_⟩;refine⟨_,rfl,(by show ύ r.2 t=ύ (rs.getD i (0,[])).2 t;rw[er]),⟨_,_,rfl⟩,ζ.refl _,λ_=>?_⟩;walk_at"ex";refine⟨by show 2<=Ϫ;omega,λt2 fL=>?_⟩;refine⟨⟨λz=>?_,t2,lr,rfl,by rw[er];exact ρ,by rw[er];exact hlr⟩,ζ.upd fL⟩;injection z with z
  rw[z,hys]at fL;cases fL
 .rw[hwl]at hA;have hA2:ψ (sS H H2) us (rs.filter λr=>ύ r.2 t):=by
   rw[<-Zx rs λr=>ύ r.2 t];exact Ks _ (hA.imp λu i z=>by
    exact z.2)
  exact q E2 us H2 sm bU e2 hA2
theorem mq{α:Type}:∀{m:List (Int×α)}{p:Int×α},(m.map (·.1)).Nodup->p∈m->Α m p.1=some p.2
 |q::m,p,hn,hp=>by
  have hn':=aiU.mp hn;obtain rfl|hp:=acG.mp hp
  .unfold Α;rw[List.find?_cons,decide_eq_true rfl];rfl
  .have Ϻ:¬q.1=p.1:=λe=>hn'.1 (acL.mpr ⟨p,hp,e.symm⟩)
   have ih:=mq hn'.2 hp;unfold Α at ih⊢;rw[List.find?_cons,decide_eq_false Ϻ];exact ih
theorem aha{rows:List (Int×List V)}{ks:List Int}(hn:(rows.map (·.1)).Nodup)(h:ks.Perm (rows.map (·.1))):(dO rows ks).Perm rows:=by
 have h1:(dO rows ks).Perm (dO rows (rows.map (·.1))):=h.map _;have h2:dO rows (rows.map (·.1))=rows:=by
  unfold dO;rw[afK];have:rows.map ((λk=>(k,(Α rows k).getD []))∘λx=>x.1)=rows.map id:=anq λp hp=>by
   show(p.1,(Α rows p.1).getD [])=p;rw[mq hn hp];rfl
  rw[this,ao2]
 rw[h2]at h1;exact h1
theorem _root_.Vl.Out.seq{S:List δ}{H H':Hp}{a:δ}{xs:List V}(o:Out S H H')(ha:a∉S)(h:θ K H a xs):θ K H' a xs:=by
 rcases h with(h|⟨u,h⟩)|h
 .exact .inl (.inl (o _ _ ha h))
 .exact .inl (.inr ⟨u,o _ _ ha h⟩)
 .exact .inr h
theorem ahO{H:Hp}{a:δ}{xs:List V}(h:θ K H a xs):H a≠none\/∀H',θ K H' a xs:=by
 rcases h with(h|⟨u,h⟩)|h
 .exact .inl (by rw[h];nofun)
 .exact .inl (by rw[h];nofun)
 .exact .inr λ_=>.inr h
theorem sZ{L:List δ}(h:L.Nodup)(is js:List Nat)(hd:∀i∈is,i∉js):∀x∈is.filterMap (λi=>L[i]?),x∉js.filterMap (λi=>L[i]?):=by
 intro x hx hy;obtain⟨i,hi,ei⟩:=anw.mp hx;obtain⟨j,hj,ej⟩:=anw.mp hy;have hil:=(aaF.mp ei).1;have hjl:=(aaF.mp ej).1;have e1:=(aaF.mp ei).2;have e2:=(aaF.mp ej).2;have hij:i=j:=by
  have hp:=List.pairwise_iff_getElem.mp h;obtain z|z|z:=Nat.lt_trichotomy i j
  .exact absurd (e1.trans e2.symm) (hp i j hil hjl z)
  .exact z
  .exact absurd (e2.trans e1.symm) (hp j i hjl hil z)
 subst hij;exact hd i hi hj
def NT(H:Hp)(S:List δ):=∀x∈S,∀ys,H x≠some (.tup ys)
theorem NT.tup{H H':Hp}{S:List δ}(h:NT H S)(o:Out S H H'):∀b ys,H b=some (.tup ys)->H' b=some (.tup ys):=λb ys e=>o b _ (λz=>h b z ys e) e
def _root_.Vl.BA.six(A:BA):List δ:=[A.h,A.r,A.t,A.d,A.b,A.dx]
theorem _root_.Vl.Μ.Z6{C:δ}{H:Hp}{A:BA}{B:Bk}(k:Μ C H A B):A.six.Nodup:=by
 obtain⟨n1,n2,n3,n4,n5,n6,n7,n8,n9,n10,qi,n12⟩:=k.ne;have n13:=k.rt;have n14:=k.hd;have n15:A.h≠A.dx:=λe=>by
  obtain⟨_,h3,_⟩:=k.heads;have h2:=k.own;rw[e,h2]at h3;cases h3
 simp only[BA.six,List.nodup_cons,List.mem_cons,List.not_mem_nil,or_false,not_or,not_false_eq_true,List.nodup_nil,and_true];exact⟨⟨Ne.symm n7,Ne.symm n10,n14,Ne.symm n2,n15⟩,⟨n13,n8,Ne.symm n3,n6⟩,⟨qi,Ne.symm n4,n9⟩,⟨Ne.symm n5,n12⟩,n1⟩
theorem _root_.Vl.Μ.Ml{C:δ}{H:Hp}{A:BA}{B:Bk}(k:Μ C H A B):∀x∈A.six,H x≠none:=by
 intro x hx;have hx':x=A.h\/x=A.r\/x=A.t\/x=A.d\/x=A.b\/x=A.dx:=by simpa [BA.six]using hx
 obtain⟨_,h3,_⟩:=k.heads;obtain⟨_,h4,_⟩:=k.rows;obtain⟨_,h5,_⟩:=k.touched;obtain⟨_,h6,_⟩:=k.done;obtain rfl|rfl|rfl|rfl|rfl|rfl:=hx'
 .rw[h3];nofun
 .rw[h4];nofun
 .rw[h5];nofun
 .rw[h6];nofun
 .rw[k.ins];nofun
 .rw[k.own];nofun
theorem UT{A:BA}{x:δ}(hx:x∈[A.b,A.dx,A.h,A.r,A.t,A.d]):x∈A.six:=by
 have hx':x=A.b\/x=A.dx\/x=A.h\/x=A.r\/x=A.t\/x=A.d:=by simpa using hx
 obtain rfl|rfl|rfl|rfl|rfl|rfl:=hx'<;>simp[BA.six]
theorem _root_.Vl.Μ.out{C:δ}{H H':Hp}{A:BA}{B:Bk}{S:List δ}(k:Μ C H A B)(o:Out S H H')(nt:NT H S)(h6:∀x∈A.six,x∉S):Μ C H' A B:=
 k.stay (nt.tup o) λx u hx e=>o x u (h6 x (UT hx)) e
theorem _root_.Vl.ϒ.out{H H':Hp}{a:δ}{cs:List ς}{S:List δ}(h:ϒ H a cs)(o:Out S H H')(nt:NT H S)(ha:a∉S):ϒ H' a cs:=h.stay (λxs e=>o _ _ ha e) (nt.tup o)
theorem made{C:δ}{H H':Hp}{y dx:δ}{A:BA}(hy:H y=none)(hdx:H dx=none)(eb:A.b=y)(DW:A.dx=dx)(f1:(upd (upd H dx (.own y)) y (.ins C dx [])) A.h=none)(f2:(upd (upd H dx (.own y)) y (.ins C dx [])) A.r=none)(f3:(upd (upd H dx (.own y)) y (.ins C dx [])) A.t=none)(f4:(upd (upd H dx (.own y)) y (.ins C dx [])) A.d=none)(o:Out [y] (upd (upd H dx (.own y)) y (.ins C dx [])) H'):ζ H H'/\∀x∈A.six,H x=none:=by
 have sm:ζ H (upd (upd H dx (.own y)) y (.ins C dx [])):=λb u e=>by
  rw[ι (λz=>by rw[z,hy]at e;cases e),ι (λz=>by rw[z,hdx]at e;cases e)];exact e
 refine⟨λb u e=>o b u (λz=>by rw[ac8.mp z,hy]at e;cases e) (sm b u e),λx hx=>?_⟩;have hx':x=A.h\/x=A.r\/x=A.t\/x=A.d\/x=A.b\/x=A.dx:=by simpa [BA.six]using hx
 obtain rfl|rfl|rfl|rfl|rfl|rfl:=hx'
 .exact sm.free f1
 .exact sm.free f2
 .exact sm.free f3
 .exact sm.free f4
 .rw[eb];exact hy
 .rw[DW];exact hdx
def LR(F:List δ)(H:Hp)(v:V)(xs:List V):=∃l,v=.ref l/\H l=some (.lst xs)/\l∉F
def Tc(F:List δ)(H:Hp)(a:δ)(m:List (Int×List V)):Prop:=DictAt (LR F H) H a m
theorem LR.stay{F:List δ}{H H':Hp}{v:V}{xs:List V}(h:LR F H v xs)(s:∀b ys,b∉F->H b=some (.lst ys)->H' b=some (.lst ys)):LR F H' v xs:=by
 obtain⟨l,e,h1,h2⟩:=h;exact⟨l,e,s _ _ h2 h1,h2⟩
def gP(cs:List ς)(xs:List V):Prop:=ψ (λc x=>aB c.2 x) cs xs
def stK(r s:δ)(n:Int):List (Key×V):=[(Sum.inr ("rows":Str),.ref r),(Sum.inr ("since":Str),.ref s),(Sum.inr ("moment":Str),.int n)]
theorem key_ne:¬(Sum.inr ("rows":Str):Key)=Sum.inr ("since":Str)/\¬(Sum.inr ("rows":Str):Key)=Sum.inr ("moment":Str)/\¬(Sum.inr ("since":Str):Key)=Sum.inr ("moment":Str):=by
 refine⟨?_,?_,?_⟩<;>intro e<;>injection e with e<;>exact absurd e (by decide+kernel)
theorem aiA(r s:δ)(n:Int):ϓ (stK r s n) (Sum.inr ("rows":Str))=some (.ref r):=nY rfl
theorem abu(r s:δ)(n:Int):ϓ (stK r s n) (Sum.inr ("since":Str))=some (.ref s):=by
 unfold stK;rw[oZ key_ne.1,nY rfl]
theorem Yj(r s:δ)(n:Int):ϓ (stK r s n) (Sum.inr ("moment":Str))=some (.int n):=by
 unfold stK;rw[oZ key_ne.2.1,oZ key_ne.2.2,nY rfl]
theorem afE(r s:δ)(n m:Int):putK (stK r s n) (Sum.inr ("moment":Str)) (.int m)=stK r s m:=by
 unfold putK stK;simp[key_ne.2.1,key_ne.2.2]
theorem XJ(r s:δ):iW [] [(Sum.inr ("rows":Str),V.ref r),(Sum.inr ("since":Str),V.ref s),(Sum.inr ("moment":Str),V.int 0)]=stK r s 0:=by
 simp[iW,putK,stK,key_ne.1,key_ne.2.1,key_ne.2.2]
theorem lg{H:Hp}{d r s:δ}{n:Int}(e:H d=some (.dK (stK r s n))):ώ H d (.str ("rows":Str)) (some (.ref r)):=by
 have:=ώ.k (k:=Sum.inr ("rows":Str)) e;rw[aiA]at this;exact this
theorem adX{H:Hp}{d r s:δ}{n:Int}(e:H d=some (.dK (stK r s n))):ώ H d (.str ("since":Str)) (some (.ref s)):=by
 have:=ώ.k (k:=Sum.inr ("since":Str)) e;rw[abu]at this;exact this
theorem Kc{H:Hp}{d r s:δ}{n:Int}(e:H d=some (.dK (stK r s n))):ώ H d (.str ("moment":Str)) (some (.int n)):=by
 have:=ώ.k (k:=Sum.inr ("moment":Str)) e;rw[Yj]at this;exact this
theorem ahY{H:Hp}{d r s:δ}{n m:Int}(e:H d=some (.dK (stK r s n))):cJ H d (.str ("moment":Str)) (.int m) (upd H d (.dK (stK r s m))):=by
 have:=cJ.k (k:=Sum.inr ("moment":Str)) (v:=.int m) e (by have hsz:Ϫ=16777216:=ϳ;rw[hsz];show 3<16777216;decide);rw[afE]at this;exact this
structure ϡ(mg:Str->Option ε)(F:List δ)(A:BA)(d r s:δ)(H:Hp)(B:Bk)(n:Int)(m:List (Int×List V))(sn:List (Int×Int)):Prop where
 bk:Μ (cB mg) H A B
 st:H d=some (.dK (stK r s n))
 ro:Tc F H r m
 si:DictAt sJ H s sn
structure jE(A:BA)(d r s:δ)(F:List δ):Prop where
 nd:[A.h,A.r,A.t,A.d,A.b,A.dx,d,r,s].Nodup
 inF:∀x∈d::r::s::A.fp,x∈F
section
variable{F:List δ}{A:BA}{d r s:δ}{H H':Hp}{B B':Bk}{n:Int}{m m':List (Int×List V)}{sn HD:List (Int×Int)}
theorem ϡ.same(h:ϡ mg F A d r s H B n m sn)(sm:ζ H H'):ϡ mg F A d r s H' B n m sn:=by
 obtain⟨k1,e1,h1⟩:=h.ro;obtain⟨k2,e2,h2⟩:=h.si;exact⟨h.bk.same sm,sm _ _ h.st,⟨k1,sm _ _ e1,ao h1 λv x z=>z.stay λb ys _ e=>sm _ _ e⟩,⟨k2,sm _ _ e2,h2⟩⟩
theorem ϡ.dicts(h:ϡ mg F A d r s H B n m sn):∀x∈[d,r,s],∃Ϸ,H x=some (.dK Ϸ):=by
 obtain⟨k1,e1,_⟩:=h.ro;obtain⟨k2,e2,_⟩:=h.si;intro x hx;have hx':x=d\/x=r\/x=s:=by simpa using hx
 obtain rfl|rfl|rfl:=hx'
 .exact⟨_,h.st⟩
 .exact⟨_,e1⟩
 .exact⟨_,e2⟩
theorem ϡ.Hm(ap:jE A d r s F)(h:ϡ mg F A d r s H B n m sn){x:δ}{o:HO}(hx:x∈[d,r,s]):Μ (cB mg) (upd H x o) A B:=by
 obtain⟨Ϸ,e⟩:=h.dicts x hx;refine h.bk.out (S:=[x]) (Out.upd (by simp)) (λy hy ys z=>by rw[ac8.mp hy,e]at z;cases z) λy hy hz=>?_
 rw[ac8.mp hz]at hy;exact sZ ap.nd [0,1,2,3,4,5] [6,7,8] (by decide) x hy hx
theorem ϡ.ne(ap:jE A d r s F):d≠r/\d≠s/\r≠s:=by
 have h1:=sZ ap.nd [6] [7,8] (by decide) d (by simp);have h2:=sZ ap.nd [7] [8] (by decide) r (by simp);exact⟨λe=>h1 (by simp[e]),λe=>h1 (by simp[e]),λe=>h2 (by simp[e])⟩
theorem ϡ.setM(ap:jE A d r s F)(h:ϡ mg F A d r s H B n m sn)(n':Int):ϡ mg F A d r s (upd H d (.dK (stK r s n'))) B n' m sn:=by
 obtain⟨n1,n2,n3⟩:=ϡ.ne ap;obtain⟨k1,e1,h1⟩:=h.ro;obtain⟨k2,e2,h2⟩:=h.si;refine⟨h.Hm ap (by simp),ρ,⟨k1,by rw[ι (Ne.symm n1)];exact e1,ao h1 λv x z=>z.stay λb ys hb e=>?_⟩,⟨k2,by rw[ι (Ne.symm n2)];exact e2,h2⟩⟩;rw[ι (λz=>hb (by rw[z];exact ap.inF _ (by simp)))];exact e
theorem ϡ.qz(ap:jE A d r s F)(h:ϡ mg F A d r s H B n m sn){Ϸ:List (Key×V)}(hk:ψ (PR (LR F H)) Ϸ m'):ϡ mg F A d r s (upd H r (.dK Ϸ)) B n m' sn:=by
 obtain⟨n1,n2,n3⟩:=ϡ.ne ap;obtain⟨k2,e2,h2⟩:=h.si;refine⟨h.Hm ap (by simp),by rw[ι n1];exact h.st,⟨Ϸ,ρ,ao hk λv x z=>z.stay λb ys hb e=>?_⟩,⟨k2,by rw[ι (Ne.symm n3)];exact e2,h2⟩⟩;rw[ι (λz=>hb (by rw[z];exact ap.inF _ (by simp)))];exact e
theorem ϡ.aiq(ap:jE A d r s F)(h:ϡ mg F A d r s H B n m sn){Ϸ:List (Key×V)}(hk:ψ (PR sJ) Ϸ HD):ϡ mg F A d r s (upd H s (.dK Ϸ)) B n m HD:=by
 obtain⟨n1,n2,n3⟩:=ϡ.ne ap;obtain⟨k1,e1,h1⟩:=h.ro;refine⟨h.Hm ap (by simp),by rw[ι n2];exact h.st,⟨k1,by rw[ι n3];exact e1,ao h1 λv x z=>z.stay λb ys hb e=>?_⟩,⟨Ϸ,ρ,hk⟩⟩;rw[ι (λz=>hb (by rw[z];exact ap.inF _ (by simp)))];exact e
theorem ϡ.book(ap:jE A d r s F)(h:ϡ mg F A d r s H B n m sn)(o:Out A.fp H H')(k:Μ (cB mg) H' A B'):ϡ mg F A d r s H' B' n m sn:=by
 have hn:=sZ ap.nd [6,7,8] [4,1,2,3] (by decide);obtain⟨k1,e1,h1⟩:=h.ro;obtain⟨k2,e2,h2⟩:=h.si;refine⟨k,o _ _ (hn d (by simp)) h.st,⟨k1,o _ _ (hn r (by simp)) e1,ao h1 λv x z=>z.stay λb ys hb e=>o _ _ (λz=>hb (ap.inF _ (by simp[z]))) e⟩,⟨k2,o _ _ (hn s (by simp)) e2,h2⟩⟩
end
theorem ZJ{H:Hp}{a d:δ}{xs:List V}{Ϸ:List (Key×V)}{o:HO}(h:θ K H a xs)(e:H d=some (.dK Ϸ)):θ K (upd H d o) a xs:=by
 rcases h with(h|⟨u,h⟩)|h
 .exact .inl (.inl (by rw[ι (λz=>by rw[z,e]at h;cases h)];exact h))
 .by_cases z:a=d
  .rw[z,e]at h;cases h
  .exact .inl (.inr ⟨u,by rw[ι z];exact h⟩)
 .exact .inr h
theorem ajT{H:Hp}{a d:δ}{cs:List ς}{Ϸ:List (Key×V)}{o:HO}(h:ϒ H a cs)(e:H d=some (.dK Ϸ)):ϒ (upd H d o) a cs:=by
 refine h.stay (λxs e2=>?_) (λb ys e2=>?_)
 .rw[ι (λz=>by rw[z,e]at e2;cases e2)];exact e2
 .rw[ι (λz=>by rw[z,e]at e2;cases e2)];exact e2
end
end K67
namespace K67
open PySem L2 PyProof.Rows My Vl Lw
section
variable{P:ϯ}{w:Ϭ}{K:ϩ}{mg:Str->Option ε}{base:ϫ}
def Ae:List Ϩ->List Ϩ
 |(.If _ t _ _)::_=>t
 |_=>[]
def bM:List Int:=[3,0,7,1000000000,12,5,1,999]
def ph(sn:List (Int×Int))(row n:Int):Option (List V)->List (Int×Int)
 |none=>sn
 |some _=>aN sn row n
def Yb(K:ϩ)(mg:Str->Option ε):Sp:=λvs H Q _=>∃(F:List δ)(A:BA)(B:Bk)(sc c d r s:δ)(ns:List Int)(k:Int)(sn:List (Int×Int)),vs=[.ref sc,.int k,.ref c,.ref A.b,.ref d]/\θ K H sc (ns.map V.int)/\ns.length<=63/\0<=k/\k<=30000/\ϒ H c B.heads/\B.heads.length<=6/\ϡ mg F A d r s H B B.now B.rows sn/\jE A d r s F/\(∀x∈F,H x≠none)/\tZ B/\CN B/\sn.length<1000000/\(∀i xs,Α B.rows i=some xs->gP B.heads xs)/\
 ∀row o H',row∈bM->(Α B.rows row=none->o≠none)->(∀xs,o=some xs->gP B.heads xs)->Out (d::r::s::A.fp) H H'->ϡ mg F A d r s H' (aF B row o) (B.now+1) (aF B row o).rows (ph sn row (B.now+1) o)->Q (.int row) H'
theorem yM(T:Txt K mg):Def P w K mg base true 7 "_law_deed" ["_law_script","_law_k","_law_columns_here","_law_book","_law_state"] (Yb K mg):=by
 refine Ο T.yM OJ (λf Ϲ A' outer s0 H vs Q E hr h=>?_);intro X;obtain⟨F,A,B,sc,c,d,r,s,ns,k,sn,rfl,hS,hl,k0,k1,hC,h6,hL,ap,jK,hsm,hwf,hsn,agA,q⟩:=h;have nd:=OJ.nd;have n2:=T.ji;have hsz:=ϳ;have hu1:_+1<cLine:=afY (afJ (by decide:1<=64) _) hr.units;have D0:= @gG P w K mg base T;have D2:= @zF P w K mg base T;have M1:ak P w K mg base true 6 (cB mg) "put" ["self","row","values"] (zm mg):=(U0 T).meth T.aA T.aaa;have M2:ak P w K mg base true 6 (cB mg) "change" ["self","row","values"] (yS mg):=(ZP T).meth T.aA T.acU;have M3:ak P w K mg base true 4 (cB mg) "take" ["self","row"] (Hi mg):=(ahN T).meth T.aA T.aiG;walk_at"A";refine⟨by show 8<=Ϫ;omega,λp hp=>?_⟩;obtain⟨aG,ep⟩:=ϊ hp (.lst (bM.map V.int));change EV _ _ _ (upd H p (.lst (bM.map V.int))) _;generalize upd H p (.lst (bM.map V.int))=H0 at aG ep⊢;walk_at"ex";refine⟨sc,ns,k,8,rfl,aG.seq hS,hl,by omega,by omega,by decide,?_⟩;have j0:=aJ ns k (m:=8) (by decide);have j1:=aK ns k (m:=8) (by decide);generalize Χ ns k 8=jv at j0 j1⊢;obtain⟨j,rfl⟩:=adK j0;have hj:j<bM.length:=by show j<8;omega
 refine ϖ (θ.of ep) (v:=.int bM[j]) (ϔ (by rw[acy,aak hj];rfl)) ?_;have hrow:bM[j]∈bM:=aj9 hj;have gZ:∀x∈bM,0<=x/\x<=1000000000:=by decide
 have gZ:=gZ _ hrow;generalize bM[j]=row at hrow gZ⊢;walk_at"A";refine⟨sc,ns,k+1,5,rfl,aG.seq hS,hl,by omega,by omega,by decide,?_⟩;generalize Χ ns (k+1) 5=way;have hL0:=hL.same aG;refine ξ (gW hu1 ?_);walk_at"ex";refine bV hu1 (Kc hL0.st) ?_;walk_at"ex";refine⟨d,_,rfl,ahY hL0.st,?_⟩;have hL1:=hL0.setM ap (B.now+1);have hS1:θ K (upd H0 d (.dK (stK r s (B.now+1)))) sc (ns.map V.int):=ZJ (aG.seq hS) hL0.st;have RB:ϒ (upd H0 d (.dK (stK r s (B.now+1)))) c B.heads:=ajT (hC.same aG) hL0.st;have o1:Out (d::r::s::A.fp) H (upd H0 d (.dK (stK r s (B.now+1)))):=(Out.of aG).trans (Out.upd (by simp));have Gj:∀x,(upd H0 d (.dK (stK r s (B.now+1)))) x=none->x∉F:=λx e hx=>by
  by_cases z:x=d
  .rw[z,ρ]at e;cases e
  .rw[ι z]at e;exact jK x hx (aG.free e)
 generalize upd H0 d (.dK (stK r s (B.now+1)))=H1 at hL1 hS1 RB o1 Gj⊢;obtain⟨Ϸ,er,hR⟩:=id hL1.ro;have hkl:=hR.len;have yD:∀{H2 H3:Hp},Out A.fp H2 H3->Out (d::r::s::A.fp) H2 H3:=λo=>o.mono λx hx=>by simp[hx]
 have g1:=ώ.k (k:=Sum.inl row) er
 have tail:∀(v:δ)(xs:List V)(H3:Hp),gP B.heads xs->Out (d::r::s::A.fp) H H3->ϡ mg F A d r s H3 (aF B row (some xs)) (B.now+1) B.rows sn->H3 v=some (.lst xs)->v∉F->
   Κ X ((ϝ pR).drop 6) {nx:=λ_ H'=>Q .non H',rt:=Q} [some (.ref sc),some (.int k),some (.ref c),some (.ref A.b),some (.ref d),some (.int row),some (.int way),some (.ref v)] H3:=by
  intro v xs H3 hok o3 jZ hv rP;obtain⟨kZ,vq,qT⟩:=id jZ.ro;have alh:=qT.len;refine ξ (gW hu1 ?_);walk_at"ex";refine bV hu1 (lg jZ.st) ?_;walk_at"ex";refine⟨r,_,rfl,cJ.k (k:=Sum.inl row) vq (by have:=hsm.1;omega),?_⟩;have lU:ϡ mg F A d r s (upd H3 r (.dK (putK kZ (Sum.inl row) (.ref v)))) (aF B row (some xs)) (B.now+1) (aF B row (some xs)).rows sn:=jZ.qz ap (jn qT row ⟨v,rfl,hv,rP⟩);have o4:Out (d::r::s::A.fp) H (upd H3 r (.dK (putK kZ (Sum.inl row) (.ref v)))):=o3.trans (Out.upd (by simp));generalize upd H3 r (.dK (putK kZ (Sum.inl row) (.ref v)))=H4 at lU o4⊢;obtain⟨Xr,es4,RW⟩:=id lU.si;have al7:=RW.len;refine ξ (gW hu1 ?_);walk_at"ex";refine bV hu1 (Kc lU.st) ?_;walk_at"ex";refine bV hu1 (adX lU.st) ?_;walk_at"ex";refine⟨s,_,rfl,cJ.k (k:=Sum.inl row) es4 (by omega),?_⟩;have oO:ϡ mg F A d r s (upd H4 s (.dK (putK Xr (Sum.inl row) (.int (B.now+1))))) (aF B row (some xs)) (B.now+1) (aF B row (some xs)).rows (ph sn row (B.now+1) (some xs)):=lU.aiq ap (jn RW row rfl);refine ο (Η ?_);walk_at"ex";exact q row (some xs) _ hrow (λ_=>by simp) (λys e=>by cases e;exact hok) (o4.trans (Out.upd (by simp))) oO
 have rest:Κ X ((ϝ pR).drop 4) {nx:=λ_ H'=>Q .non H',rt:=Q} [some (.ref sc),some (.int k),some (.ref c),some (.ref A.b),some (.ref d),some (.int row),some (.int way),none] H1:=by
  walk_at"A";refine⟨sc,ns,k+2,c,B.heads,rfl,hS1,hl,by omega,by omega,RB,h6,λv xs H2 s2 hv0 hv hall=>?_⟩;have rP:=Gj v hv0;have hL2:=hL1.same s2;have uN:=hL2.bk;have o2:=o1.trans (Out.of s2);have g2:=ώ.k (k:=Sum.inl row) (s2 _ _ er);refine ξ (Τ ?_);walk_at"ex";refine bV hu1 (lg hL2.st) ?_;refine wJ hu1 g2 ?_;obtain⟨e1,e2⟩|⟨u,x,e1,e2,lu,rfl,hlu,akG⟩:=cY hR row
  .rw[show(ϓ Ϸ (Sum.inl row)).isSome=false by rw[e1];rfl];walk_at"ex";refine ο (ϟ ?_);refine aM (pl:=_) hr Ν (h:=?_);walk_at"e";refine⟨A.b,cB mg,A.dx,_,true,6,_,zm mg,rfl,uN.ins,by rfl,M1,by decide,id,?_⟩;walk_at"ex";refine gn (.inl (θ.of hv)) λb hb=>?_
   obtain⟨fB,eb⟩:=ϊ hb (.lst xs);generalize upd H2 b (.lst xs)=H8 at fB eb⊢;walk_at"ex";refine⟨A,B,row,b,xs,rfl,uN.same fB,eb,h6,⟨gZ.1,gZ.2,hall⟩,hsm,λz=>absurd e2 z,λ_ H3 o3 k3=>?_⟩;exact tail v xs H3 hall ((o2.trans (Out.of fB)).trans (yD o3)) ((hL2.same fB).book ap o3 k3) (o3 _ _ (λz=>rP (ap.inF _ (by simp[z]))) (fB _ _ hv)) rP
  .rw[show(ϓ Ϸ (Sum.inl row)).isSome=true by rw[e1];rfl];walk_at"ex";have chg:∀(v2:δ)(ys:List V)(H5:Hp),gP B.heads ys->ζ H2 H5->H5 v2=some (.lst ys)->v2∉F->Κ X ((Ae ((ϝ pR).drop 5)).drop 1) {nx:=λσ' H'=>Κ X ((ϝ pR).drop 6) {nx:=λ_ H'=>Q .non H',rt:=Q} σ' H',rt:=Q} [some (.ref sc),some (.int k),some (.ref c),some (.ref A.b),some (.ref d),some (.int row),some (.int way),some (.ref v2)] H5:=by
    intro v2 ys H5 hok s5 hv2 HQ;refine ο (ϟ ?_);refine aM (pl:=_) hr Ν (h:=?_);walk_at"e";refine⟨A.b,cB mg,A.dx,_,true,6,_,yS mg,rfl,(uN.same s5).ins,by rfl,M2,by decide,id,?_⟩;walk_at"ex";refine gn (.inl (θ.of hv2)) λb hb=>?_
    obtain⟨fB,eb⟩:=ϊ hb (.lst ys);generalize upd H5 b (.lst ys)=H8 at fB eb⊢;walk_at"ex";refine⟨A,B,row,b,ys,rfl,(uN.same s5).same fB,eb,h6,⟨gZ.1,gZ.2,hok⟩,hsm,(λz=>by rw[e2]at z;cases z),λ_ H3 o3 k3=>?_⟩;exact tail v2 ys H3 hok (((o2.trans (Out.of s5)).trans (Out.of fB)).trans (yD o3)) (((hL2.same s5).same fB).book ap o3 k3) (o3 _ _ (λz=>HQ (ap.inF _ (by simp[z]))) (fB _ _ hv2)) HQ
   refine ξ (Τ ?_);walk_at"ex";refine Ζ (λh=>?_) (λh=>?_)
   .refine ο ?_;walk_at"s";walk_at"ex";refine bV hu1 (lg hL2.st) ?_;walk_at"ex";refine bV hu1 (v:=.ref lu) (by rw[e1]at g2;exact g2) ?_;walk_at"ex";refine gn (.inl (θ.of (s2 _ _ hlu))) λv2 hv2=>?_
    exact chg v2 x _ (agA row x e2) (ζ.upd hv2) ρ (Gj v2 (s2.free hv2))
   .exact Δ (chg v xs H2 hall (ζ.refl _) hv rP)
 refine ξ (Τ ?_);walk_at"ex";refine bV hu1 (lg hL1.st) ?_;refine wJ hu1 g1 ?_;obtain⟨e1,e2⟩|⟨u,x,e1,e2,_⟩:=cY hR row
 .rw[show(ϓ Ϸ (Sum.inl row)).isSome=false by rw[e1];rfl];walk_at"ex";exact Δ rest
 .rw[show(ϓ Ϸ (Sum.inl row)).isSome=true by rw[e1];rfl];walk_at"ex";refine Ζ (λh=>?_) (λh=>?_)
  .refine ξ (ϟ ?_);refine aM (pl:=_) hr Ν (h:=?_);walk_at"e";refine⟨A.b,cB mg,A.dx,_,true,4,_,Hi mg,rfl,hL1.bk.ins,by rfl,M3,by decide,id,?_⟩;walk_at"ex";refine⟨A,B,row,rfl,hL1.bk,gZ.1,gZ.2,hsm,hwf,(λz=>by rw[e2]at z;cases z),λ_ H3 o3 k3=>?_⟩;have jZ:=hL1.book ap o3 k3;obtain⟨kZ,vq,qT⟩:=id jZ.ro;refine ξ (ϟ (qU ?_));walk_at"ex";refine bV hu1 (lg jZ.st) ?_;refine⟨r,rfl,.inl ⟨_,.inl vq⟩,?_⟩;walk_at"ex";have xT:∃v,ϓ kZ (Sum.inl row)=some v:=by
    obtain⟨_,z⟩|⟨u,y,z,_⟩:=cY qT row
    .rw[e2]at z;cases z
    .exact⟨u,z⟩
   obtain⟨vv,yW⟩:=xT;refine⟨kZ,Sum.inl row,vv,vq,rfl,yW,?_⟩;have lU:ϡ mg F A d r s (upd H3 r (.dK (dH kZ (Sum.inl row)))) (aF B row none) (B.now+1) (aF B row none).rows sn:=jZ.qz ap (uD qT row);refine ο (Η ?_);walk_at"ex";exact q row none _ hrow (λz=>by rw[e2]at z;cases z) (λys e=>by cases e) ((o1.trans (yD o3)).trans (Out.upd (by simp))) lU
  .exact Δ rest
def dJ(rows:List (Int×List V))(row:Int):Option (List V)->List (Int×List V)
 |none=>bB rows row
 |some xs=>aN rows row xs
def cP(rows:List (Int×List V))(ds:List Φ):List (Int×List V):=ds.foldr (λd r=>dJ r d.row d.was) rows
def f9(rows:List (Int×List V)):List Φ ->Prop
 |[]=>True
 |d::ds=>f9 rows ds/\(d.was=none->Α (cP rows ds) d.row≠none)
theorem u6{α:Type}(m:List (Int×α))(i:Int)(x:α):(aN m i x).length<=m.length+1:=by
 unfold aN;split
 .rw[ϱ];omega
 .rw[adI,aec];omega
theorem aa5(rows:List (Int×List V))(row:Int)(o:Option (List V)):(dJ rows row o).length<=rows.length+1:=by
 cases o with
 |none=>exact Nat.le_succ_of_le (ajl ..)
 |some xs=>exact u6 rows row xs
theorem Q3(rows:List (Int×List V)):∀ds:List Φ,(cP rows ds).length<=rows.length+ds.length
 |[]=>Ϯ _
 |d::ds=>by
  have h1:=Q3 rows ds;have h2:=aa5 (cP rows ds) d.row d.was;show(dJ (cP rows ds) d.row d.was).length<=_;rw[List.length_cons];omega
theorem f9.drop{rows:List (Int×List V)}:∀{ds:List Φ}(n:Nat),f9 rows ds->f9 rows (ds.drop n)
 |ds,0,h=>h
 |[],n+1,h=>h
 |d::ds,n+1,h=>f9.drop (ds:=ds) n h.1
def gK(H0 H:Hp)(v:V):Option (List V)->Prop
 |none=>v=.non
 |some xs=>∃l,v=.ref l/\H l=some (.lst xs)/\H0 l=none
def JT(H0 H:Hp)(v:V)(d:Φ):=∃t w u,v=.ref t/\H t=some (.tup [.int d.at_,.int d.row,w,u])/\gK H0 H w d.was/\gK H0 H u d.is/\H0 t=none
theorem gK.stay{H0 H H':Hp}{v:V}{o:Option (List V)}(h:gK H0 H v o)(s:∀l ys,v=.ref l->H l=some (.lst ys)->H' l=some (.lst ys)):gK H0 H' v o:=by
 cases o with
 |none=>exact h
 |some xs=>
  obtain⟨l,e,h1,h2⟩:=h;exact⟨l,e,s _ _ e h1,h2⟩
def akh:Sp:=λvs H Q _=>∃(v:V)(o:Option (List V)),vs=[v]/\iG H v o/\∀v' H',ζ H H'->gK H H' v' o->Q v' H'
theorem Bf(T:Txt K mg):Def P w K mg base true 1 "told_values" ["values"] akh:=by
 refine Ο T.Bf V2 (λ_ _ _ _ _ H vs Q E hr h=>?_);intro X;obtain⟨v,o,rfl,hv,q⟩:=h;have n1:=T.ji;refine ο (Η ?_);cases o with
 |none=>
  have e:v=.non:=hv;subst e;walk_at"go";exact q _ _ (ζ.refl _) rfl
 |some xs=>
  obtain⟨t,rfl,ht⟩:=hv;walk_at"go";exact gn (.inr (ω.of ht)) λp hp=>q _ _ (ζ.upd hp) ⟨p,rfl,ρ,hp⟩
def Vm:Sp:=λvs H Q _=>∃(a:δ)(rows:List (Int×List V))(row:Int)(v:V)(o:Option (List V)),vs=[.ref a,.int row,v]/\DictAt (TupAt H) H a rows/\iG H v o/\(o=none->Α rows row≠none)/\rows.length<1000000/\
 ∀H',Out [a] H H'->DictAt (TupAt H') H' a (dJ rows row o)->Q .non H'
theorem Df(T:Txt K mg):Def P w K mg base true 1 "put_back" ["rows","row","was"] Vm:=by
 refine Ο T.Df ahA (λ_ _ _ _ _ H vs Q E hr h=>?_);intro X;obtain⟨a,rows,row,v,o,rfl,⟨Ϸ,ea,hR⟩,hv,hno,hl,q⟩:=h;have hu:_+1<cLine:=afY (afJ (by decide:1<=64) _) hr.units;have hkl:=hR.len;have hsz:=ϳ;have st:∀kvs',∀b ys,H b=some (.tup ys)->(upd H a (.dK kvs')) b=some (.tup ys):=λkvs' b ys e=>by
  rw[ι (λz=>by rw[z,ea]at e;cases e)];exact e
 refine ο (Τ ?_);cases o with
 |none=>
  have e:v=.non:=hv;subst e;walk_at"ex";refine ο (ϟ (qU ?_));walk_at"e";refine⟨a,rfl,.inl ⟨_,.inl ea⟩,?_⟩;walk_at"e";obtain⟨e1,e2⟩|⟨u,x,e1,e2,_⟩:=cY hR row
  .exact absurd e2 (hno rfl)
  refine⟨Ϸ,Sum.inl row,u,ea,rfl,e1,?_⟩;exact q _ (Out.upd (by simp)) ⟨_,ρ,ao (uD hR row) λv p h=>h.stay (st _)⟩
 |some xs=>
  obtain⟨t,rfl,ht⟩:=hv;walk_at"ex";refine ο (gW hu ?_);walk_at"go";refine⟨a,_,rfl,cJ.k (k:=Sum.inl row) ea (by omega),?_⟩;exact q _ (Out.upd (by simp)) ⟨_,ρ,ao (jn hR row (x:=xs) ⟨t,rfl,ht⟩) λv p h=>h.stay (st _)⟩
def oN(B:Bk):Prop:=0<=B.known/\B.known<=B.now/\B.now<=1000000000
def mH(mg:Str->Option ε):Sp:=λvs H Q E=>∃(A:BA)(B:Bk)(mo:Int),vs=[.ref A.b,.int mo]/\ Μ (cB mg) H A B/\oN B/\
 (mo<B.known->∀e H',ζ H H'->H' e=some (.xd [("known",.int B.known)])->E (.ref (η mg "Gone")) (some e,true) H')/\
 (B.now<mo->∀e H',ζ H H'->H' e=some (.xd [("now",.int B.now)])->E (.ref (η mg "Later")) (some e,true) H')/\
 (B.known<=mo->mo<=B.now->∀p ys,H p=none->ψ (ig H) ys (B.done.drop (mo-B.known).toNat)->Q (.ref p) (upd H p (.lst ys)))
theorem Gr(T:Txt K mg):FD P w K mg base true 3 "done_behind" "Book.done_behind" Gk ["self","moment"] (mH mg):=by
 refine au U7 (λf Ϲ A' outer s H vs Q E hr h=>?_);intro X;obtain⟨A,B,mo,rfl,kB,⟨m0,m1,m2⟩,qg,ql,q⟩:=h;have hc:=T.aA;have a1:=T.Fe;have a2:=T.DN;have a3:=T.xF;have kI:=kB.ins;obtain⟨ds,ed,hD⟩:=kB.done;refine ξ ?_;walk_at"go";refine Ϣ ?_;walk_at"e";refine⟨A.b,_,_,_,_,rfl,kI,hc,a1,rfl,?_⟩;walk_at"go";refine Ζ (λh=>?_) (λh=>?_)
 .walk_at "go";refine(pP (aj1 T (cc:=true)) hr (λ_=>rfl) Ν ?_);walk_at"go";refine Ϣ ?_;walk_at"e";refine⟨A.b,_,_,_,_,rfl,kI,hc,a1,rfl,?_⟩;walk_at"go";exact⟨B.known,rfl,by omega,λe H' sm he=>qg h e H' sm he⟩
 refine Δ (ξ ?_);walk_at"go";refine Ϣ ?_;walk_at"e";refine⟨A.b,_,_,_,_,rfl,kI,hc,a2,rfl,?_⟩;walk_at"go";refine Ζ (λh2=>?_) (λh2=>?_)
 .walk_at "go";refine(pP (VB T (cc:=true)) hr (λ_=>rfl) Ν ?_);walk_at"go";refine Ϣ ?_;walk_at"e";refine⟨A.b,_,_,_,_,rfl,kI,hc,a2,rfl,?_⟩;walk_at"go";exact⟨B.now,rfl,by omega,λe H' sm he=>ql (by omega) e H' sm he⟩
 refine Δ (ο (Η ?_));walk_at"go";refine Ϣ ?_;walk_at"e";refine⟨A.b,_,_,_,_,rfl,kI,hc,a3,rfl,?_⟩;walk_at"go";refine Ϣ ?_;walk_at"e";refine⟨A.b,_,_,_,_,rfl,kI,hc,a1,rfl,?_⟩;walk_at"go";refine Fj (θ.of ed) λp hp=>?_
 have hk:mo-B.known=((mo-B.known).toNat:Int):=by omega
 have e1:fH ds (some (mo-B.known)) none=ds.drop (mo-B.known).toNat:=by rw[hk];exact Pa ds _
 rw[e1];exact q (by omega) (by omega) p _ hp (hD.drop _)
def Fq(mg:Str->Option ε):Sp:=λvs H Q E=>∃(A:BA)(B:Bk)(mo:Int),vs=[.ref A.b,.int mo]/\ Μ (cB mg) H A B/\oN B/\
 (mo<=B.known->Q .non H)/\
 (B.now<mo->∀e H',ζ H H'->H' e=some (.xd [("now",.int B.now)])->E (.ref (η mg "Later")) (some e,true) H')/\
 (B.known<mo->mo<=B.now->∀d H',H d=none->Out [A.b] H H'->Μ (cB mg) H' {A with d:=d} {B with done:=B.done.drop (mo-B.known).toNat,known:=mo}->Q .non H')
theorem Zb(T:Txt K mg):FD P w K mg base true 4 "let_go" "Book.let_go" zV ["self","moment"] (Fq mg):=by
 refine au agJ (λf Ϲ A' outer s H vs Q E hr h=>?_);intro X;obtain⟨A,B,mo,rfl,kB,hm,q0,ql,q⟩:=h;have hc:=T.aA;have a1:=T.Fe;have a3:=T.xF;have kI:=kB.ins;have M1:ak P w K mg base true 3 (cB mg) "done_behind" ["self","moment"] (mH mg):=(Gr T).meth T.aA T.Es;refine ο (Τ ?_);walk_at"ex";refine Ϣ ?_;walk_at"e";refine⟨A.b,_,_,_,_,rfl,kI,hc,a1,rfl,?_⟩;walk_at"ex";refine Ζ (λh=>?_) (λh=>?_)
 .refine ξ (di ?_);refine aM (pl:=_) hr Ν (h:=?_);walk_at"e";refine⟨A.b,cB mg,A.dx,_,true,3,_,mH mg,rfl,kI,by rfl,M1,by decide,id,?_⟩;walk_at"go";refine⟨A,B,mo,rfl,kB,hm,λz=>absurd z (by omega),ql,λ_ z2 p ys hp hys=>?_⟩;obtain⟨Ψ,ep⟩:=ϊ hp (.lst ys);generalize upd H p (.lst ys)=H1 at Ψ ep⊢;have k1:=kB.same Ψ;have hD1:ψ (ig H1) ys (B.done.drop (mo-B.known).toNat):=ψ.imp (λv d h=>h.stay λb ys e=>Ψ _ _ e) hys;walk_at"e";refine⟨A.b,_,_,_,rfl,k1.ins,hc,a3,by show 6<1000;decide,?_⟩;have n1:p≠A.b:=λe=>by have:=kB.ins;rw[<-e,hp]at this;cases this
  have o2:Out [A.b] H _:=(Out.of Ψ).trans (Out.upd (H:=H1) (a:=A.b) (o:=.ins (cB mg) A.dx [("heads",.ref A.h),("rows",.ref A.r),("touched",.ref A.t),("done",.ref p),("known",.int B.known),("now",.int B.now)]) (by simp));have k2:Μ (cB mg) (upd H1 A.b (.ins (cB mg) A.dx [("heads",.ref A.h),("rows",.ref A.r),("touched",.ref A.t),("done",.ref p),("known",.int B.known),("now",.int B.now)])) {A with d:=p} {B with done:=B.done.drop (mo-B.known).toNat}:=by
   have kk:=(k1.BK B.known B.now);obtain⟨m1,m2,m3,m4,m5,m6,m7,m8,m9,m10,m11,m12⟩:=k1.ne;have st:∀b ys,H1 b=some (.tup ys)->(upd H1 A.b (.ins (cB mg) A.dx [("heads",.ref A.h),("rows",.ref A.r),("touched",.ref A.t),("done",.ref p),("known",.int B.known),("now",.int B.now)])) b=some (.tup ys):=λb ys e=>by
    rw[ι (λz=>by rw[z,k1.ins]at e;cases e)];exact e
   refine⟨ρ,by rw[ι (Ne.symm m1)];exact k1.own,k1.heads.stay (λxs e=>by rw[ι (Ne.symm m2)];exact e) st,?_,?_,⟨ys,by rw[ι n1];exact ep,ψ.imp (λv d h=>h.stay st) hD1⟩,k1.rt,λe=>?_⟩
   .obtain⟨Ϸ,e,h⟩:=k1.rows;exact⟨Ϸ,by rw[ι (Ne.symm m3)];exact e,ao h λv x h=>h.stay st⟩
   .obtain⟨Ϸ,e,h⟩:=k1.touched;exact⟨Ϸ,by rw[ι (Ne.symm m4)];exact e,h⟩
   .have e':A.h=p:=e;obtain⟨_,h3,_⟩:=kB.heads;rw[e',hp]at h3;cases h3
  change Κ _ _ _ _ (upd H1 A.b (.ins (cB mg) A.dx [("heads",.ref A.h),("rows",.ref A.r),("touched",.ref A.t),("done",.ref p),("known",.int B.known),("now",.int B.now)]));generalize upd H1 A.b _=H2 at k2 o2⊢;refine ο (di ?_);walk_at"go";refine⟨A.b,_,_,_,rfl,k2.ins,hc,a1,by show 6<1000;decide,?_⟩;have k3:=k2.BK mo B.now;refine q (by omega) z2 p _ hp (o2.trans (Out.upd (by simp))) k3
 .exact Δ (q0 (by omega))
def yz(mg:Str->Option ε):Sp:=λvs H Q E=>∃(A:BA)(B:Bk)(mo:Int),vs=[.ref A.b,.int mo]/\ Μ (cB mg) H A B/\oN B/\B.rows.length<1000/\B.done.length<10000/\
 (mo<B.known->∀e H',ζ H H'->H' e=some (.xd [("known",.int B.known)])->E (.ref (η mg "Gone")) (some e,true) H')/\
 (B.now<mo->∀e H',ζ H H'->H' e=some (.xd [("now",.int B.now)])->E (.ref (η mg "Later")) (some e,true) H')/\
 (B.known<=mo->mo<=B.now->f9 B.rows (B.done.drop (mo-B.known).toNat)/\(cP B.rows (B.done.drop (mo-B.known).toNat)).length<64/\
  ∀p ys ks H',ζ H H'->H p=none->ks.Perm ((cP B.rows (B.done.drop (mo-B.known).toNat)).map (·.1))->ks.Pairwise (· <= ·)->H' p=some (.lst ys)->ψ (zH H H') ys (dO (cP B.rows (B.done.drop (mo-B.known).toNat)) ks)->Q (.ref p) H')
theorem Ua(T:Txt K mg):FD P w K mg base true 4 "rows_at" "Book.rows_at" zR ["self","moment"] (yz mg):=by
 refine au KD (λf Ϲ A' outer s H vs Q E hr h=>?_);intro X;obtain⟨A,B,mo,rfl,kB,hm,hrl,hdl,qg,ql,q⟩:=h;have nd:=KD.nd;have hc:=T.aA;have a1:=T.uy;have n1:=T.aae;have n2:=T.aiJ;have M1:ak P w K mg base true 3 (cB mg) "done_behind" ["self","moment"] (mH mg):=(Gr T).meth T.aA T.Es;have D1:= @Df P w K mg base T;have D2:= @zB P w K mg base T;obtain⟨Ϸ,er,hR⟩:=kB.rows;refine ξ ?_;walk_at"go";refine Ϣ ?_;walk_at"e";refine⟨A.b,_,_,_,_,rfl,kB.ins,hc,a1,rfl,?_⟩;walk_at"go";refine afZ er λr hr1=>?_
 obtain⟨Ε,lL⟩:=ϊ hr1 (.dK Ϸ);change Κ _ _ _ _ (upd H r (.dK Ϸ));generalize upd H r (.dK Ϸ)=H1 at Ε lL⊢;have Iz:=kB.same Ε;have il:ψ (PR (TupAt H1)) Ϸ B.rows:=ao hR λv x h=>h.stay λb ys e=>Ε _ _ e
 refine ξ ?_;refine abW (by walk_at"po") (by rfl) (by rfl) n2 (by rfl) ?_;refine aM (pl:=_) hr Ν (h:=?_);walk_at"e";refine⟨A.b,cB mg,A.dx,_,true,3,_,mH mg,rfl,Iz.ins,by rfl,M1,by decide,id,?_⟩;walk_at"go";refine⟨A,B,mo,rfl,Iz,hm,λz e H' sm he=>qg z e H' (Ε.trans sm) he,λz e H' sm he=>ql z e H' (Ε.trans sm) he,λz1 z2 p ys hp hys=>?_⟩;obtain⟨hok,h64,q⟩:=q z1 z2;have hdd:(B.done.drop (mo-B.known).toNat).length<=B.done.length:=by rw[afz];omega
 generalize B.done.drop (mo-B.known).toNat=ds at hys hok h64 q hdd;have hyl:=hys.len;obtain⟨Ψ,ep⟩:=ϊ hp (.lst ys);generalize upd H1 p (.lst ys)=H2 at Ψ ep⊢;have Zf:ψ (ig H2) ys ds:=ψ.imp (λv d h=>h.stay λb ys e=>Ψ _ _ e) hys;have jg:=Ψ _ _ lL;have rp:r≠p:=λe=>by rw[<-e,lL]at hp;cases hp
 refine⟨p,ys,rfl,θ.of ep,λi σ H'=>(∃o3,σ=[some (.ref A.b),some (.int mo),some (.ref r),o3])/\Out [r] H2 H'/\DictAt (TupAt H') H' r (cP B.rows (ds.drop (ys.length-i))),⟨⟨none,rfl⟩,Out.refl _ _,⟨Ϸ,jg,?_⟩⟩,λi σ H' hi hP=>θ.of (hP.2.1 _ _ (by simpa using Ne.symm rp) ep),λi x σ H' hi hx hP=>?_,λσ H' hP=>?_⟩
 .rw[aoS,hyl,aoX];exact ao il λv x h=>h.stay λb ys e=>Ψ _ _ e
 .obtain⟨⟨o3,rfl⟩,o,wy⟩:=hP;obtain⟨d,hd,t,w,u,rfl,ht,hw,hu⟩:=Zf.get hx;have st:∀b ys,H2 b=some (.tup ys)->H' b=some (.tup ys):=λb ys e=>o _ _ (λz=>by rw[ac8.mp z,jg]at e;cases e) e
  have hidx:ys.length-(i+1)<ds.length:=by omega
  have hdr:ds.drop (ys.length-(i+1))=d::ds.drop (ys.length-i):=by
   rw[List.drop_eq_getElem_cons hidx];have e1:ds[ys.length-1-i]?=some d:=hd;have e2:ys.length-1-i=ys.length-(i+1):=by omega
   rw[e2]at e1;rw[(aaF.mp e1).2,show ys.length-(i+1)+1=ys.length-i by omega]
  have hok':f9 B.rows (d::ds.drop (ys.length-i)):=by rw[<-hdr];exact hok.drop _
  have wO:=Q3 B.rows (ds.drop (ys.length-i));have amP:(ds.drop (ys.length-i)).length<=ds.length:=by rw[afz];omega
  have st1:ω K H' t [.int d.at_,.int d.row,w,u]:=ω.of (st _ _ ht);refine Ι nd (by rfl) (.inl rfl) (.inl rfl) ?_;refine ο ?_;walk_at"go";refine Ω st1 (i:=1) rfl ?_;walk_at"go";refine Ω st1 (i:=2) rfl ?_;walk_at"go";refine⟨r,cP B.rows (ds.drop (ys.length-i)),d.row,w,d.was,rfl,wy,hw.stay st,hok'.2,by omega,λH3 o3 k3=>?_⟩;refine⟨⟨_,rfl⟩,o.trans o3,?_⟩;rw[hdr];exact k3
 .obtain⟨⟨o3,rfl⟩,o,wy⟩:=hP;rw[aph,aos]at wy;have uV:ζ H H':=λb u e=>o _ _ (λz=>by rw[ac8.mp z,hr1]at e;cases e) (Ψ _ _ (Ε _ _ e))
  refine ο ?_;walk_at"go";refine⟨r,_,rfl,wy,h64,λp2 ys2 ks H3 sm3 hp2 hks hso lD T7=>?_⟩;exact q p2 ys2 ks H3 (uV.trans sm3) (uV.free hp2) hks hso lD (ψ.imp (λv x ⟨t,l,e,h1,h2,h3,h4⟩=>⟨t,l,e,h1,h2,uV.free h3,uV.free h4⟩) T7)
def Dh(mg:Str->Option ε):Sp:=λvs H Q E=>∃(A:BA)(B:Bk)(mo:Int),vs=[.ref A.b,.int mo]/\ Μ (cB mg) H A B/\oN B/\B.done.length<10000/\
 (mo<B.known->∀e H',ζ H H'->H' e=some (.xd [("known",.int B.known)])->E (.ref (η mg "Gone")) (some e,true) H')/\
 (B.now<mo->∀e H',ζ H H'->H' e=some (.xd [("now",.int B.now)])->E (.ref (η mg "Later")) (some e,true) H')/\
 (B.known<=mo->mo<=B.now->∀p ys H',ζ H H'->H p=none->H' p=some (.lst ys)->ψ (JT H H') ys (B.done.drop (mo-B.known).toNat)->Q (.ref p) H')
theorem ahs(T:Txt K mg):FD P w K mg base true 4 "deeds" "Book.deeds" yp ["self","moment"] (Dh mg):=by
 refine au Ni (λf Ϲ A' outer s H vs Q E hr h=>?_);intro X;obtain⟨A,B,mo,rfl,kB,hm,hdl,qg,ql,q⟩:=h;have nd:=Ni.nd;have hsz:=ϳ;have eU:(["made","row","was","now"]:List Str).Nodup:=by decide+kernel
 have M1:ak P w K mg base true 3 (cB mg) "done_behind" ["self","moment"] (mH mg):=(Gr T).meth T.aA T.Es;have D1:= @Bf P w K mg base T;refine ξ ?_;walk_at"s";refine aM (pl:=_) hr Ν (h:=?_);walk_at"e";refine⟨A.b,cB mg,A.dx,_,true,3,_,mH mg,rfl,kB.ins,by rfl,M1,by decide,id,?_⟩;walk_at"go";refine⟨A,B,mo,rfl,kB,hm,qg,ql,λz1 z2 p ys hp hys=>?_⟩;have q:=q z1 z2;have hdd:(B.done.drop (mo-B.known).toNat).length<=B.done.length:=by rw[afz];omega
 generalize B.done.drop (mo-B.known).toNat=ds at hys q hdd;have hyl:=hys.len;obtain⟨Ψ,ep⟩:=ϊ hp (.lst ys);change Κ _ _ _ _ (upd H p (.lst ys));generalize upd H p (.lst ys)=H1 at Ψ ep⊢;refine ο (Η ?_);refine j9 ["made","row","was","now"] (σ':=[none,none,none,none]) (bK (υ yp)) ?_;walk_at"e";refine⟨p,ys,rfl,θ.of ep,by omega,λτ=>∃o1 o2 o3 o4,τ=[o1,o2,o3,o4],λE2 i u H'=>∃d t w v,ds[i]?=some d/\u=.ref t/\t≠E2/\H' t=some (.tup [.int d.at_,.int d.row,w,v])/\gK H H' w d.was/\gK H H' v d.is/\H t=none/\(∀l,w=.ref l->l≠E2)/\∀l,v=.ref l->l≠E2,⟨none,none,none,none,rfl⟩,λE2 i u H2 H3 ys y1 y2 y3=>?_,λfp E2 C s3 H0 i τ x H4 H3 bU hi hτ Ξ aaT hG=>?_,λL2 H2 zs hL2 hl2 hx2 e2 Λ =>?_⟩
 .obtain⟨d,t,w,v,z1,z2,z3,z4,z5,z6,z7,z8,z9⟩:=y3;exact⟨d,t,w,v,z1,z2,z3,y2 _ _ z3 z4,z5.stay λl ys e h=>y2 _ _ (z8 l e) h,z6.stay λl ys e h=>y2 _ _ (z9 l e) h,z7,z8,z9⟩
 .obtain⟨o1,o2,o3,o4,rfl⟩:=hτ;obtain⟨hx,rfl⟩:=hG;obtain⟨d,hd,t0,w0,u0,rfl,ht0,hw0,hu0⟩:=hys.get hx;have iz:=Ψ.trans Ξ;have iK:∀b ys,H b=some (.tup ys)->H4 b=some (.tup ys):=λb ys e=>iz _ _ e
  obtain⟨Xc,hE⟩:=aaT;refine bQ (ω.of (iK _ _ ht0)) (ϕ (Ι eU (by rfl) (.inl rfl) (.inr rfl) (ϕ (Ι eU (by rfl) (.inl rfl) (.inr rfl) (ϕ (Ι eU (by rfl) (.inl rfl) (.inr rfl) (ϕ (Ι eU (by rfl) (.inl rfl) (.inr rfl) (b7 ?_)))))))));walk_at"go";refine⟨w0,d.was,rfl,hw0.stay iK,λw1 H5 aW hw1=>?_⟩;walk_at"go";refine⟨u0,d.is,rfl,hu0.stay λb ys e=>aW _ _ (iK _ _ e),λu1 H6 uq hu1=>?_⟩;walk_at"go";refine⟨by show 4<=Ϫ;omega,λt ht=>?_⟩;have ϛ:ζ H6 (upd H6 t (.tup [.int d.at_,.int d.row,w1,u1])):=ζ.upd ht;have Ab:=aW.trans uq;have fw:gK H H6 w1 d.was:=by
   cases e:d.was with
   |none=>rw[e]at hw1;exact hw1
   |some xs=>
    rw[e]at hw1;obtain⟨l,e1,e2,e3⟩:=hw1;exact⟨l,e1,uq _ _ e2,iz.free e3⟩
  have fu:gK H H6 u1 d.is:=by
   cases e:d.is with
   |none=>rw[e]at hu1;exact hu1
   |some xs=>
    rw[e]at hu1;obtain⟨l,e1,e2,e3⟩:=hu1;exact⟨l,e1,e2,(iz.trans aW).free e3⟩
  refine⟨⟨_,_,_,_,rfl⟩,⟨d,t,w1,u1,hd,rfl,λe=>?_,ρ,fw.stay λl ys _ h=>ϛ _ _ h,fu.stay λl ys _ h=>ϛ _ _ h,(iz.trans Ab).free ht,λl e=>?_,λl e=>?_⟩,Ab.trans ϛ⟩
  .rw[e,Ab _ _ hE]at ht;cases ht
  .cases e3:d.was with
   |none=>rw[e3]at hw1;have ah5:w1=.non:=hw1;rw[ah5]at e;cases e
   |some xs=>
    rw[e3]at hw1;obtain⟨l',e1,e2,e4⟩:=hw1;rw[e1]at e;cases e;intro z;rw[z,hE]at e4;cases e4
  .cases e3:d.is with
   |none=>rw[e3]at hu1;have agw:u1=.non:=hu1;rw[agw]at e;cases e
   |some xs=>
    rw[e3]at hu1;obtain⟨l',e1,e2,e4⟩:=hu1;rw[e1]at e;cases e;intro z;rw[z,aW _ _ hE]at e4;cases e4
 .refine q L2 zs H2 (Ψ.trans Λ) (Ψ.free hL2) e2 (qN (R:=λv d=>JT H H2 v d) (l:=zs) (m:=ds) (by rw[hl2,hyl]) λi d hd=>?_);have hi:i<zs.length:=by rw[hl2,hyl];exact(aaF.mp hd).1
  have hy:zs[i]?=some zs[i]:=aak hi;obtain⟨d',t,w,v,z1,z2,z3,z4,z5,z6,z7,_⟩:=hx2 i _ hy;rw[hd]at z1;cases z1;exact⟨_,hy,t,w,v,z2,z4,z5,z6,z7⟩
theorem jY{α:Type}[BEq α][LawfulBEq α]:∀{l m:List α},l.Nodup->(∀x∈l,x∈m)->l.length<=m.length
 |[],m,_,_=>ajg _
 |a::r,m,h,s=>by
  have h':=aiU.mp h;have ha:=s a (acB ..);have hle:=jY (l:=r) (m:=m.erase a) h'.2 λx hx=>(aor (λe=>h'.1 (by subst e;exact hx))).mpr (s x (abN _ hx))
  rw[an6 ha]at hle;have:=aoh ha;rw[List.length_cons];omega
theorem tW(r:List (Int×List V))(row:Int)(o:Option (List V))(i:Int):Α (dJ r row o) i=if i=row then o else Α r i:=by
 cases o with
 |none=>exact tE
 |some xs=>exact vN
theorem Oq{r:List (Int×List V)}(h:(r.map (·.1)).Nodup)(row:Int)(o:Option (List V)):((dJ r row o).map (·.1)).Nodup:=by
 cases o with
 |none=>exact SQ h
 |some xs=>exact R0 h
theorem Tf{r:List (Int×List V)}{row:Int}{o:Option (List V)}{k:Int}(h:k∈(dJ r row o).map (·.1)):k=row\/k∈r.map (·.1):=by
 cases o with
 |none=>exact .inr (YL h)
 |some xs=>exact ai6.mp h
def az(ds:List Φ):List (Int×List V):=ds.foldl (λr d=>dJ r d.row d.is) []
theorem v9(ds:List Φ)(d:Φ):az (ds++[d])=dJ (az ds) d.row d.is:=by
 unfold az;rw[am3];rfl
theorem take_snoc{α:Type}{l:List α}{j:Nat}{d:α}(h:l[j]?=some d):l.take (j+1)=l.take j++[d]:=by
 rw[List.take_succ,h];rfl
theorem tV:∀ds:List Φ,((az ds).map (·.1)).Nodup:=by
 intro ds;unfold az;have:∀(ds:List Φ)(r:List (Int×List V)),(r.map (·.1)).Nodup->((ds.foldl (λr d=>dJ r d.row d.is) r).map (·.1)).Nodup:=by
  intro ds;induction ds with
  |nil=>exact λr h=>h
  |cons d ds ih=>exact λr h=>ih _ (Oq h _ _)
 exact this ds [] (by simp)
theorem mZ{ns:List Int}:∀{ds:List Φ},(∀d∈ds,d.row∈ns)->∀k∈(az ds).map (·.1),k∈ns:=by
 intro ds hd;unfold az;have:∀(ds:List Φ)(r:List (Int×List V)),(∀d∈ds,d.row∈ns)->(∀k∈r.map (·.1),k∈ns)->∀k∈(ds.foldl (λr d=>dJ r d.row d.is) r).map (·.1),k∈ns:=by
  intro ds;induction ds with
  |nil=>exact λr _ h=>h
  |cons d ds ih=>exact λr hd h=>ih _ (λx hx=>hd x (abN _ hx)) λk hk=>(Tf hk).elim (λe=>by rw[e];exact hd d (acB ..)) (h k)
 exact this ds [] hd (by simp)
theorem Ls{r:List (Int×List V)}(h:(r.map (·.1)).Nodup):∀ds:List Φ,((cP r ds).map (·.1)).Nodup
 |[]=>h
 |d::ds=>Oq (Ls h ds) _ _
theorem JQ{ns:List Int}{r:List (Int×List V)}(h:∀k∈r.map (·.1),k∈ns):∀{ds:List Φ},(∀d∈ds,d.row∈ns)->∀k∈(cP r ds).map (·.1),k∈ns
 |[],_=>h
 |d::ds,hd=>λk hk=>(Tf hk).elim (λe=>by rw[e];exact hd d (acB ..)) (JQ h (λx hx=>hd x (abN _ hx)) k)
def Jj(all:List Φ):=∀(j:Nat) d,all[j]?=some d->d.at_=j+1/\d.was=Α (az (all.take j)) d.row/\(d.was=none->d.is≠none)
theorem back_eq{all:List Φ}(h:Jj all):∀(n j:Nat),j+n=all.length->(∀i,Α (cP (az all) (all.drop j)) i=Α (az (all.take j)) i)/\f9 (az all) (all.drop j)
 |0,j,e=>by
  have e':j=all.length:=by omega
  subst e';rw[aoX,agC];exact⟨λ_=>rfl,trivial⟩
 |n+1,j,e=>by
  obtain⟨ih1,ih2⟩:=back_eq h n (j+1) (by omega);have hj:j<all.length:=by omega
  have hd:all[j]?=some all[j]:=aak hj;obtain⟨_,h2,h3⟩:=h j _ hd;have e1:all.drop j=all[j]::all.drop (j+1):=List.drop_eq_getElem_cons hj;rw[take_snoc hd,v9]at ih1;rw[e1];generalize all[j]=d at h2 h3 ih1;refine⟨λi=>?_,ih2,λe2=>?_⟩
  .show Α (dJ (cP (az all) (all.drop (j+1))) d.row d.was) i=_;rw[tW,ih1,tW];by_cases z:i=d.row
   .rw[if_pos z,h2,z]
   .rw[if_neg z,if_neg z]
  .rw[ih1,tW,if_pos rfl];exact h3 e2
theorem Oo{l1 l2:List Int}(h:∀x,x∈l1↔x∈l2)(n1:l1.Nodup)(n2:l2.Nodup)(h1:l1.Pairwise (· <= ·))(h2:l2.Pairwise (· <= ·)):l1=l2:=by
 induction l1 generalizing l2 with
 |nil=>
  cases l2 with
  |nil=>rfl
  |cons b r2=>exact absurd ((h b).mpr (acB ..)) (by simp)
 |cons a r ih=>
  cases l2 with
  |nil=>exact absurd ((h a).mp (acB ..)) (by simp)
  |cons b r2=>
   have p1:=aoH.mp h1;have p2:=aoH.mp h2;have q1:=aiU.mp n1;have q2:=aiU.mp n2;have hab:a=b:=by
    rcases acG.mp ((h a).mp (acB ..))with e|e
    .exact e
    .rcases acG.mp ((h b).mpr (acB ..))with e2|e2
     .exact e2.symm
     .have :=p2.1 a e;have:=p1.1 b e2;omega
   subst hab;rw[ih (λx=>⟨λhx=>?_,λhx=>?_⟩) q1.2 q2.2 p1.2 p2.2]
   .rcases acG.mp ((h x).mp (abN _ hx))with e|e
    .exact absurd (e▸hx) q1.1
    .exact e
   .rcases acG.mp ((h x).mpr (abN _ hx))with e|e
    .exact absurd (e▸hx) q2.1
    .exact e
structure nO(all:List Φ)(B:Bk):Prop where
 rows:B.rows=az all
 done:B.done=all.drop B.known.toNat
 now:B.now=all.length
 kn:0<=B.known/\B.known<=B.now
 good:Jj all
 wf:CN B
theorem nO.aio{all:List Φ}{B:Bk}(h:nO all B)(row:Int)(o:Option (List V))(ho:Α B.rows row=none->o≠none):nO (all++[⟨B.now+1,row,Α B.rows row,o⟩]) (aF B row o):=by
 have hk:=h.kn;have hn:=h.now;refine⟨?_,?_,?_,⟨hk.1,?_⟩,?_,?_⟩
 .rw[v9];cases o with
  |none=>
   show bB B.rows row=dJ (az all) row none;rw[h.rows];rfl
  |some xs=>
   show aN B.rows row xs=dJ (az all) row (some xs);rw[h.rows];rfl
 .show B.done++[(⟨B.now+1,row,Α B.rows row,o⟩:Φ)]=List.drop B.known.toNat (all++[⟨B.now+1,row,Α B.rows row,o⟩]);rw[List.drop_append_of_le_length (by omega), <-h.done]
 .show B.now+1=_;rw[adI,aec];omega
 .show B.known<=B.now+1;omega
 .intro j d hd;by_cases hj:j<all.length
  .rw[akE hj]at hd;have:=h.good j d hd;rw[al8 (by omega)];exact this
  .have hj2:j<(all++[(⟨B.now+1,row,Α B.rows row,o⟩:Φ)]).length:=(aaF.mp hd).1;rw[adI,aec]at hj2;have e:j=all.length:=by omega
   subst e;rw[anS (Ϯ _),aph]at hd;have hd':d=⟨B.now+1,row,Α B.rows row,o⟩:=by simpa using hd.symm
   subst hd';refine⟨by show B.now+1=_;omega,?_,ho⟩;show Α B.rows row=_;rw[al8 (Ϯ _),agC,h.rows]
 .intro i;cases o with
  |none=>
   show Α (bB B.rows row) i=none↔ Α (bB B.touched row) i=none;rw[tE,tE];by_cases e:i=row
   .simp[e]
   .rw[if_neg e,if_neg e];exact h.wf i
  |some xs=>
   show Α (aN B.rows row xs) i=none↔ Α (aN B.touched row (B.now+1)) i=none;rw[vN,vN];by_cases e:i=row
   .rw[if_pos e,if_pos e];simp
   .rw[if_neg e,if_neg e];exact h.wf i
theorem nO.QW{all:List Φ}{B:Bk}(h:nO all B)(hl:all.length<=1000000):oN B:=⟨h.kn.1,h.kn.2,by have:=h.now;omega⟩
theorem W0{cs:List ς}{c:ς}:∀(i:Nat),c∈cs->eN cs c.1 i≠.non:=by
 induction cs with
 |nil=>intro i h;simp at h
 |cons d r ih=>
  intro i h;unfold eN;by_cases e:d.1=c.1
  .rw[if_pos e];intro z;cases z
  .rw[if_neg e];obtain z|z:=acG.mp h
   .subst z;exact absurd rfl e
   .exact ih (i+1) z
theorem Qc:("+":Str).cps.toList=[43]/\("-":Str).cps.toList=[45]/\(" ":Str).cps.toList=[32]/\("":Str).cps.toList=[]:=by decide+kernel
theorem aer{x:Nat}{n:Str}:Ϗ (⟨#[x]⟩++n) (some 1) none=n:=by
 apply jD;rw[show(Ϗ (⟨#[x]⟩++n) (some 1) none).cps.toList=(⟨#[x]⟩++n:Str).cps.toList.drop 1 from Ci _ 1,cR];rfl
theorem aj3{cs:List ς}{o:Ord}{c:ς}(hc:c∈cs)(e:c.1=o.1):gQ cs (aH o)=some o:=by
 obtain⟨n,up⟩:=o;have hp:eN cs n 0≠.non:=by rw[<-show c.1=n from e];exact W0 0 hc
 have key:∀x:Nat,(x=43\/x=45)->gQ cs (⟨#[x]⟩++n)=some (n,decide (x=43)):=λx hx=>by
  unfold gQ;rw[aer];have h0:(⟨#[x]⟩++n:Str).cps.toList[0]?=some x:=by rw[cR];rfl
  rw[h0,if_pos ⟨by obtain z|z:=hx<;>simp[z],hp⟩];simp
 unfold aH;cases up with
 |true=>exact key 43 (.inl rfl)
 |false=>exact key 45 (.inr rfl)
theorem Xo{o:Ord}(h:32∉o.1.cps.toList):32∉(aH o).cps.toList:=by
 unfold aH;rw[cR];obtain⟨e1,e2,_⟩:=Qc;split
 .rw[e1];simpa using h
 .rw[e2];simpa using h
theorem afH:∀{ps:List Str},Str.join " " ps=""->ps=[]\/ps=[Str.ofString ""]
 |[],_=>.inl rfl
 |[p],h=>.inr (by rw[show p="" from h])
 |p::q::r,h=>by
  have e:(Str.join " " (p::q::r)).cps.toList=jW 32 ((p::q::r).map λp=>p.cps.toList):=wM 32 _;rw[h]at e;have e2:([]:List Nat)=p.cps.toList++32::jW 32 ((q::r).map λp=>p.cps.toList):=e;have:=congrArg anE e2;simp at this
theorem Wo{cs:List ς}{os:List Ord}(hl:os.length<=4)(hn:(os.map Prod.fst).Nodup)(hc:∀o∈os,∃c∈cs,c.1=o.1)(hf:∀o∈os,32∉o.1.cps.toList):jA cs (bx os)=some os:=by
 unfold jA bx;by_cases h0:os=[]
 .subst h0;exact if_pos (by decide+kernel)
 .have h1:os.map aH≠[]:=by simpa using h0
  have hw:∀p∈os.map aH,32∉p.cps.toList:=λp hp=>by
   obtain⟨o,ho,rfl⟩:=acL.mp hp;exact Xo (hf o ho)
  have Ϻ:os.map aH≠[Str.ofString ""]:=λe=>by
   have:Str.ofString ""∈os.map aH:=by rw[e];simp
   obtain⟨o,ho,e2⟩:=acL.mp this;have e3:=congrArg (λz:Str=>z.cps.toList.length) e2;have e4:(aH o).cps.toList.length=1+o.1.cps.toList.length:=by
    unfold aH;rw[cR,adI];obtain⟨l1,l2,_⟩:=Qc;split
    .rw[l1];rfl
    .rw[l2];rfl
   have e5:("":Str).cps.toList.length=0:=by decide+kernel
   have e3':(aH o).cps.toList.length=("":Str).cps.toList.length:=e3;rw[e4,e5]at e3';omega
  rw[if_neg (λz=>(afH z).elim h1 Ϻ),HF h1 hw,ϱ,if_neg (by omega)];have hm:gU (gQ cs) (os.map aH)=some os:=by
   refine Ql (by simp) λi x y e1 e2=>?_
   rw[acy,e2]at e1;have e1':aH y=x:=Option.some.inj e1;obtain⟨c,hcm,ec⟩:=hc y (abG e2);rw[<-e1'];exact aj3 hcm ec
  rw[hm];show(if(os.map Prod.fst).Nodup then some os else none)=some os;rw[if_pos hn]
theorem aeS{cs:List ς}(hc:Ϙ cs=true){os:List Ord}(hin:fO cs os)(h4:os.length<=4):(bx os).length<=100:=by
 have h1:=vD (os.map aH) 9 λp hp=>by
  obtain⟨o,ho,rfl⟩:=acL.mp hp;obtain⟨c,hcm,e⟩:=hin o ho;have:=xZ (qp hc (z:=o.1) (acL.mpr ⟨c,hcm,e⟩));have l1:("+":Str).length=1:=by decide+kernel
  have l2:("-":Str).length=1:=by decide+kernel
  unfold aH;rw[len_app];split <;>omega
 have h2:=xV (os.map aH);rw[ϱ]at h1 h2;unfold bx;omega
theorem afy{cs:List ς}(hc:Ϙ cs=true){os:List Ord}(hin:fO cs os)(h4:os.length<=4)(hn:(os.map Prod.fst).Nodup):jA cs (bx os)=some os:=Wo h4 hn hin λo ho hm=>by
 obtain⟨c,hcm,e⟩:=hin o ho;have hn:=qp hc (z:=o.1) (acL.mpr ⟨c,hcm,e⟩);unfold isName dI at hn;rw[aaV,ady]at hn;exact absurd (of_decide_eq_true (hn.2 32 hm)) (by decide+kernel)
def eZ(xs:List V)(n:Int):alY:=.tuple [.list (xs.map dV),.int n]
theorem gr.lay{cs:List ς}{os:List Ord}{xs:List V}(h:gr cs os xs):∀x∈xs,scalar x=true/\iH x=true/\∀z,x=.str z->cj 4000 z:=by
 have h':ψ (λ(o:Ord) x=>aB (v5 cs o.1) x) os xs:=h;clear h;induction h' with
 |nil=>intro x hx;cases hx
 |cons r t ih=>
  intro x hx;obtain e|hx:=acG.mp hx
  .subst e;exact⟨r.sc,r.iH⟩
  .exact ih x hx
theorem xg{H:Hp}{p:δ}{xs:List V}{n:Int}(h:jO H p xs n)(hs:∀x∈xs,scalar x=true/\iH x=true/\∀z,x=.str z->cj 4000 z):RD K H (.ref p) (eZ xs n):=by
 obtain⟨l,h1,h2⟩:=h;exact .tup (ω.of h1) (.cons (.lst (θ.of h2) (Ay (ady.mpr λx hx=>(hs x hx).2.1))) (.cons (.int _) .nil))
theorem rW{xs:List V}{n:Int}(h:∀x∈xs,scalar x=true/\iH x=true/\∀z,x=.str z->cj 4000 z):(eZ xs n).canLay0=true:=by
 show((PyData.list (xs.map dV)).canLay0&&(true&&true))=true;rw[GQ λx hx=>(h x hx).2];rfl
theorem Ge(xs:List V)(n:Int):(eZ xs n).depth<=4:=by
 have:=CP xs;simp only[eZ,PyData.depth,PyData.depthAll];omega
theorem aam{x y:V}(sx:scalar x=true)(sy:scalar y=true):PyData.eqv (dV x) (dV y)=decide (x=y):=by
 cases x with
 |non=>
  cases y with
  |non=>rfl
  |int j=>rfl
  |str z=>rfl
  |_=>exact absurd sy abe
 |int i=>
  cases y with
  |non=>rfl
  |int j=>
   show(i==j)=decide (V.int i=V.int j);rw[agp,decide_eq_true_eq,beq_iff_eq];exact⟨λz=>by rw[z],λz=>by injection z⟩
  |str z=>rfl
  |_=>exact absurd sy abe
 |str z=>
  cases y with
  |non=>rfl
  |int j=>rfl
  |str y=>
   show(z==y)=decide (V.str z=V.str y);rw[agp,decide_eq_true_eq,beq_iff_eq];exact⟨λz=>by rw[z],λz=>by injection z⟩
  |_=>exact absurd sy abe
 |_=>exact absurd sx abe
theorem Dr:∀{xs ys:List V},(∀x∈xs,scalar x=true)->(∀y∈ys,scalar y=true)->PyData.eqvAll (xs.map dV) (ys.map dV)=decide (xs=ys)
 |[],[],_,_=>rfl
 |x::xs,y::ys,hx,hy=>by
  show(PyData.eqv (dV x) (dV y)&&PyData.eqvAll (xs.map dV) (ys.map dV))=_;rw[aam (hx x (by simp)) (hy y (by simp)),Dr (xs:=xs) (ys:=ys) (λz hz=>hx z (by simp[hz])) λz hz=>hy z (by simp[hz])];rw[agp,aaV,decide_eq_true_eq,decide_eq_true_eq,decide_eq_true_eq,List.cons.injEq]
 |[],_::_,_,_=>rfl
 |_::_,[],_,_=>rfl
theorem J5{xs ys:List V}{n k:Int}(hx:∀x∈xs,scalar x=true)(hy:∀y∈ys,scalar y=true):PyData.eqv (eZ xs n) (eZ ys k)=decide (xs=ys/\n=k):=by
 show(PyData.eqvAll (xs.map dV) (ys.map dV)&&((n==k)&&true))=_;rw[Dr hx hy,aob,agp,aaV,decide_eq_true_eq,decide_eq_true_eq,beq_iff_eq]
theorem abw{cs:List ς}{xs:List V}(h:ψ (λ(c:ς) x=>aB c.2 x) cs xs):∀{sv:cL},tU cs sv->Lp xs sv
 |.all,_=>trivial
 |.none p,hg=>by
   have:=h.len;show p<xs.length;have hg':p<cs.length:=hg;omega
 |.look l p v,hg=>by
   obtain⟨c,hc,hv,Ϻ,hh⟩:=hg;obtain⟨x,hx,pD⟩:=h.get hc;refine⟨x,hx,?_⟩;obtain e|⟨ek,i,rfl,_⟩|⟨ek,y,rfl,_⟩:=pD
   .exact .inl e
   .right;obtain e|⟨_,j,rfl,_⟩|⟨e2,_⟩:=hv
    .exact absurd e Ϻ
    .cases l with
     |holds=>rw[hh rfl]at ek;exact absurd ek (by decide+kernel)
     |is=>exact⟨rfl,rfl,.inr (.inr (.inl ⟨i,j,rfl,rfl⟩))⟩
     |under=>exact⟨rfl,rfl,.inr (.inr (.inl ⟨i,j,rfl,rfl⟩))⟩
     |over=>exact⟨rfl,rfl,.inr (.inr (.inl ⟨i,j,rfl,rfl⟩))⟩
    .exact absurd ek e2
   .right;obtain e|⟨e2,_⟩|⟨_,z,rfl,_⟩:=hv
    .exact absurd e Ϻ
    .exact absurd e2 ek
    .cases l with
     |holds=>exact⟨y,z,rfl,rfl⟩
     |is=>exact⟨rfl,rfl,.inr (.inr (.inr ⟨y,z,rfl,rfl⟩))⟩
     |under=>exact⟨rfl,rfl,.inr (.inr (.inr ⟨y,z,rfl,rfl⟩))⟩
     |over=>exact⟨rfl,rfl,.inr (.inr (.inr ⟨y,z,rfl,rfl⟩))⟩
theorem j6{cs:List ς}{xs:List V}(h:ψ (λ(c:ς) x=>aB c.2 x) cs xs):∀{t:Tr},bR cs t->jG xs t
 |.one s,hg=>abw h hg
 |.nt t,hg=>j6 h (t:=t) hg
 |.bo t u,hg=>⟨j6 h hg.1,j6 h hg.2⟩
 |.ei t u,hg=>⟨j6 h hg.1,j6 h hg.2⟩
def wF:List Ϩ->List Ϩ
 |(.For _ _ b _ _)::_=>b
 |_=>[]
def aO(cs:List ς)(os:List Ord)(t:Tr):Option (List V)->Option (List V)
 |some xs=>if ύ xs t=true then some (ϥ cs os xs)else none
 |none=>none
def J4(H:Hp)(v:V):Option (List V)->Prop
 |none=>v=.non
 |some xs=>∃l,v=.ref l/\H l=some (.lst xs)
def Bh(H:Hp)(v:V)(row:Int):Option (List V)->Prop
 |none=>v=.non
 |some ks=>∃p,v=.ref p/\jO H p ks row
def Xe(K:ϩ)(mg:Str->Option ε)(t:Tr):Sp:=λvs H Q _=>∃(c b a:δ)(row:Int)(v:V)(cs:List ς)(os:List Ord)(z:Str)(o:Option (List V)),vs=[.ref c,.ref b,.ref a,.int row,v]/\ϒ H c cs/\cs.length<=6/\dm H b os/\os.length<=4/\fO cs os/\bu mg H t a z/\bR cs t/\J4 H v o/\(∀xs,o=some xs->eQ cs (row,xs))/\∀v' H',ζ H H'->Bh H' v' row (aO cs os t o)->Q v' H'
theorem Aj(T:Txt K mg)(t:Tr):Def P w K mg base true (4+t.dep) "key_through" ["columns","order","sieve","row","values"] (Xe K mg t):=by
 rw[show 4+t.dep=(3+t.dep)+1 by omega];refine Ο T.Aj acS (λ_ _ _ _ _ H vs Q E hr h=>?_);intro X;obtain⟨c,b,a,row,v,cs,os,z,o,rfl,hC,c6,hO,o4,hin,hv,hgt,hl,hf,q⟩:=h;have D1:= @vU P w K mg base T;refine ξ (Τ ?_);cases o with
 |none=>
  cases hl;walk_at"ex";refine ο (Η ?_);walk_at"ex";exact q .non H (ζ.refl _) rfl
 |some xs=>
  obtain⟨l,rfl,hl⟩:=hl;have hfx:=hf xs rfl;obtain⟨da,fa,ea,la⟩:=hv.ins;walk_at"ex";refine aM (pl:=_) hr Ν (h:=?_);walk_at"e";refine⟨a,dC mg t,da,_,true,3+t.dep,_,cT K mg t,rfl,ea,la,lA T t,Ϯ _,id,?_⟩;walk_at"ex";refine⟨a,l,z,xs,rfl,hv,θ.of hl,j6 hfx hgt,?_⟩;cases hlt:ύ xs t with
  |false=>
   walk_at"ex";refine ο (Η ?_);walk_at"ex";exact q .non H (ζ.refl _) (by show Bh H .non row (if ύ xs t=true then _ else none);rw[hlt];rfl)
  |true=>
   walk_at"ex";refine Δ (ο (Η ?_));walk_at"ex";refine⟨c,b,row,l,cs,os,xs,rfl,hC,hO,hl,hfx.len,by omega,by omega,hin,λp k H' s' hp hk hk' hp'=>?_⟩;refine q (.ref p) H' s' ?_;show Bh H' (.ref p) row (if ύ xs t=true then some (ϥ cs os xs)else none);rw[hlt];exact⟨p,rfl,k,hp',hk'⟩
def stepK(cs:List ς)(os:List Ord)(t:Tr)(m:List (Int×Int×List V))(d:Φ):List (Int×Int×List V):=match Α m d.row with
 |some k=>if aO cs os t d.is=some k.2 then m else bB m d.row
 |none=>m
def bh(cs:List ς)(os:List Ord)(rs:List Row):List (Int×Int×List V):=rs.map λr=>(r.1,r.1,ϥ cs os r.2)
def gD(H:Hp)(v:V)(x:Int×List V):=∃p,v=.ref p/\jO H p x.2 x.1
theorem gD.same{H H':Hp}{v:V}{x:Int×List V}(h:gD H v x)(s:ζ H H'):gD H' v x:=by
 obtain⟨p,e,h⟩:=h;exact⟨p,e,h.same s⟩
theorem gD.upd{H:Hp}{d:δ}{Ϸ:List (Key×V)}{o:HO}{v:V}{x:Int×List V}(h:gD H v x)(e:H d=some (.dK Ϸ)):gD (upd H d o) v x:=by
 obtain⟨p,rfl,l,h1,h2⟩:=h;exact⟨p,rfl,l,by rw[ι (λz=>by rw[z,e]at h1;cases h1)];exact h1,by rw[ι (λz=>by rw[z,e]at h2;cases h2)];exact h2⟩
theorem Jt{α:Type}{m:List (Int×α)}{i:Int}{x:α}(h:i∉m.map (·.1)):aN m i x=m++[(i,x)]:=by
 unfold aN;rw[if_neg];intro z;obtain⟨p,hp,e⟩:=al6.mp z;exact h (acL.mpr ⟨p,hp,of_decide_eq_true e⟩)
abbrev cI(B:Bk)(mo:Int):List Row:=cP B.rows (B.done.drop (mo-B.known).toNat)
abbrev eX(B:Bk)(mo:Int):List Φ :=B.done.drop (mo-B.known).toNat
def rA(cs:List ς)(os:List Ord)(t:Tr)(B:Bk)(mo:Int)(rs:List Row):List (Int×Int×List V):=(eX B mo).foldl (stepK cs os t) (bh cs os rs)
structure PN(mg:Str->Option ε)(H:Hp)(A:BA)(B:Bk)(os:List Ord)(t:Tr)(zo:Str):Prop where
 bk:Μ (cB mg) H A B
 ok:Ϙ B.heads=true
 mm:oN B
 r1:B.rows.length<1000
 d1:B.done.length<10000
 zl:zo.length<=4000
 ro:jA B.heads zo=some os
 o4:os.length<=4
 inc:fO B.heads os
 gt:bR B.heads t
 dp:t.dep<=20
 Ck:(wT (Β B.heads) t).length<=60
 dd:∀d∈B.done,∀xs,d.is=some xs->eQ B.heads (d.row,xs)
def Mq(K:ϩ)(mg:Str->Option ε)(t:Tr):Sp:=λvs H Q E=>∃(A:BA)(B:Bk)(zo:Str)(mo:Int)(os:List Ord),vs=[.ref A.b,.str zo,.str (Str.join " " (wT (Β B.heads) t)),.int mo]/\PN mg H A B os t zo/\
 (mo<B.known->∀e H',ζ H H'->H' e=some (.xd [("known",.int B.known)])->E (.ref (η mg "Gone")) (some e,true) H')/\
 (B.now<mo->∀e H',ζ H H'->H' e=some (.xd [("now",.int B.now)])->E (.ref (η mg "Later")) (some e,true) H')/\
 (B.known<=mo->mo<=B.now->f9 B.rows (eX B mo)/\(cI B mo).length<64/\((cI B mo).map Prod.fst).Nodup/\(∀r∈cI B mo,eQ B.heads r)/\
  ∀(p:δ)(rs:List Row)(ks:List Int)(H':Hp),ζ H H'->H p=none->H' p=some (.lst (ks.map V.int))->rs.Perm ((cI B mo).filter λr=>ύ r.2 t)->ks.Pairwise (· <= ·)->ks.Perm ((rA B.heads os t B mo rs).map (·.1))->Q (.ref p) H')
theorem vd(T:Txt K mg)(t:Tr):Def P w K mg base true (10+2*t.dep) "stood" ["book","order","sieve","moment"] (Mq K mg t):=by
 rw[show 10+2*t.dep=(9+2*t.dep)+1 by omega];refine Ο T.vd TJ (λf Ϲ A' outer s H vs Q E hr h=>?_);intro X;obtain⟨A,B,zo,mo,os,rfl,hI,hEg,hEl,q⟩:=h;have nd:=TJ.nd;have n1:=T.uB;have hu:=hr.units;have hu1:_+1<cLine:=afY (afJ (by decide:1<=64) _) hr.units;have hsz:=ϳ;have hgt:=hI.gt;have hok:=hI.ok;have hin:=hI.inc;have gR:=hI.o4;have kB:=hI.bk;obtain⟨c1,c6⟩:=CZ hok;have D1:= @yL P w K mg base T;have D2:= @ahi P w K mg base T t;have D3:= @Ai P w K mg base T t;have D4:= @vU P w K mg base T;have D5:= @Aj P w K mg base T t;have M1:ak P w K mg base true 4 (cB mg) "rows_at" ["self","moment"] (yz mg):=(Ua T).meth T.aA T.X4;have M2:ak P w K mg base true 4 (cB mg) "deeds" ["self","moment"] (Dh mg):=(ahs T).meth T.aA T.Ub;have M3:ak P w K mg base true 1 (cB mg) "columns" ["self"] (Dy mg):=(adV T).meth T.aA T.WR;have hw:=jw hok hgt;have RX:=hI.Ck;have Nz:ϣ 32 (Str.join " " (wT (Β B.heads) t))=wT (Β B.heads) t:=HF (Jp (Β B.heads) t) λz hz=>(hw z hz).2.1
 have lV:(Str.join " " (wT (Β B.heads) t)).length<=3000:=by
  have h1:=vD (wT (Β B.heads) t) 21 λp hp=>(hw p hp).1
  have h2:=xV (wT (Β B.heads) t);omega
 have hrd:Reads B.heads (wT (Β B.heads) t) t 0 (wT (Β B.heads) t).length:=by
  have:=pC hok (ws:=wT (Β B.heads) t) (t:=t) (s:=0) ⟨[],by simp⟩ (by omega) hgt;rw[aoo]at this;exact this
 refine ξ ?_;walk_at"s";refine adl (pl:=_) hr Ν (by rfl) ?_;walk_at"e";refine⟨A.b,cB mg,A.dx,_,true,1,_,Dy mg,rfl,kB.ins,by rfl,M3,by omega,id,A,B,rfl,kB,λc H1 s1 hc0 hC=>?_⟩;walk_at"A";refine⟨c,B.heads,zo,rfl,hC,hI.zl,(λH' _ e=>by rw[hI.ro]at e;cases e),λb os' H2 s2 e hb0 hO=>?_⟩;rw[hI.ro]at e;cases e;have xq:=s1.trans s2;walk_at"A";refine⟨c,B.heads,_,rfl,hC.same s2,lV,by rw[Nz];exact λy hy=>by have:=(hw y hy).1;omega,hI.dp,by rw[Nz];exact hrd,λv H3 s3 hv=>?_⟩;generalize bO (ϣ 32 (Str.join " " (wT (Β B.heads) t))) 0 (ϣ 32 (Str.join " " (wT (Β B.heads) t))).length=zz at hv;have fJ:=xq.trans s3;refine ξ ?_;walk_at"s";refine iZ λkd hkd=>?_
 obtain⟨s4,Gp⟩:=ϊ hkd (.dK []);generalize upd H3 kd (.dK [])=H4 at s4 Gp⊢;have uI:=fJ.trans s4;have al9:H kd=none:=fJ.free hkd;refine ξ (ie (by walk_at"po") (by rfl) (by intro _;rfl) ?_);walk_at"ex";refine aM (pl:=_) hr Ν (h:=?_);walk_at"e";refine⟨A.b,cB mg,A.dx,_,true,4,_,yz mg,rfl,(kB.same uI).ins,by rfl,M1,by omega,id,?_⟩;walk_at"ex";refine⟨A,B,mo,rfl,kB.same uI,hI.mm,hI.r1,hI.d1,(λh e H' s' g=>hEg h e H' (uI.trans s') g),(λh e H' s' g=>hEl h e H' (uI.trans s') g),λhk1 hk2=>?_⟩;obtain⟨hun,h64,hrn,oM,q⟩:=q hk1 hk2;refine⟨hun,h64,λp1 ys ks H5 s5 hp1 hks hso XN hys=>?_⟩;have hpm:=aha (rows:=cI B mo) hrn hks;have il:K7 H5 p1 (dO (cI B mo) ks):=⟨ys,XN,hys.imp λu r z=>by
  obtain⟨t,l,e,h1,h2,_⟩:=z;exact⟨t,l,e,h1,h2⟩⟩
 have ers:dO (cP B.rows (B.done.drop (mo-B.known).toNat)) ks=dO (cI B mo) ks:=rfl;generalize dO (cI B mo) ks=jr at hpm il;have hrl:=hpm.length_eq;have s05:=uI.trans s5;walk_at"ex";refine⟨v,p1,zz,jr,rfl,hv.same (s4.trans s5),il,by omega,λr hr=>j6 (oM r (hpm.mem_iff.mp hr)) hgt,λp2 Az H6 s6 hp2 hp2' Im=>?_⟩;have s06:=s05.trans s6;have hpf:(jr.filter λr=>ύ r.2 t).Perm ((cI B mo).filter λr=>ύ r.2 t):=hpm.filter _;have hfl:(jr.filter λr=>ύ r.2 t).length<=jr.length:=ajl ..;have hfn:((jr.filter λr=>ύ r.2 t).map Prod.fst).Nodup:=List.Nodup.sublist (List.Sublist.map _ (akC ..)) ((hpm.map Prod.fst).nodup_iff.mpr hrn);have hff:∀r∈jr.filter (λr=>ύ r.2 t),eQ B.heads r:=λr hr=>oM r (hpm.mem_iff.mp (akL.mp hr).1)
 have yR:ψ (uX H6) Az (jr.filter λr=>ύ r.2 t):=Im.imp λu r z=>z.row s6
 clear Im;generalize jr.filter (λr=>ύ r.2 t)=fs at hpf hfl hfn hff yR;have hwl:=yR.len;have Gm:=(s5.trans s6) _ _ Gp;have ne2:p2≠kd:=λe=>by rw[e,s5 _ _ Gp]at hp2;cases hp2
 refine⟨p2,Az,rfl,θ.of hp2',λi σ H'=>(∃o8 o9,σ=[some (.ref A.b),some (.str zo),some (.str (Str.join " " (wT (Β B.heads) t))),some (.int mo),some (.ref c),some (.ref b),some (.ref v),some (.ref kd),o8,o9,none,none,none])/\Out [kd] H6 H'/\∃Ϸ,H' kd=some (.dK Ϸ)/\ψ (PR (gD H')) Ϸ (bh B.heads os (fs.take i)),⟨⟨none,none,rfl⟩,Out.refl _ _,[],Gm,.nil⟩,λi σ' H' _ hP=>θ.of (hP.2.1 _ _ (by simpa using ne2) hp2'),λi x σ' H' hx hP=>?_,λσ' H' hP=>?_⟩
 .obtain⟨⟨o8,o9,rfl⟩,o7,Ϸ,ek,hK⟩:=hP;obtain⟨r,hri,tr,lr,rfl,htr,hlr⟩:=yR.get hx;have hfr:=hff r (abG hri);have nt:tr≠kd:=λe=>by rw[e,Gm]at htr;cases htr
  have nl:lr≠kd:=λe=>by rw[e,Gm]at hlr;cases hlr
  have htr':=o7 _ _ (by simpa using nt) htr;have aen:=o7 _ _ (by simpa using nl) hlr;have iV:ζ H3 H':=λx o e=>o7 _ _ (by rw[ac8];exact λz=>by rw[z,hkd]at e;cases e) ((s4.trans (s5.trans s6)) _ _ e)
  have hC':=hC.same ((s2.trans s3).trans iV);have iD:=hO.same (s3.trans iV);have hkl:=hK.len;have hi:=(aaF.mp hri).1;have hkR:(bh B.heads os (fs.take i)).length<=i:=by unfold bh;rw[ϱ,afr];omega
  refine bQ (ω.of htr') (ϕ (Ι nd (by rfl) (.inl rfl) (.inl rfl) (ϕ (Ι nd (by rfl) (.inl rfl) (.inl rfl) (b7 ?_)))));refine ο (gW hu1 ?_);walk_at"ex";refine⟨c,b,r.1,lr,B.heads,os,r.2,rfl,hC',iD,aen,hfr.len,by omega,by omega,hin,λkp kk H7 s7 adb ach hkk hkp=>?_⟩;walk_at"ex";refine⟨kd,_,rfl,cJ.k (k:=Sum.inl r.1) (s7 _ _ ek) (by omega),?_⟩;refine⟨⟨_,_,rfl⟩,(o7.trans (Out.of s7)).trans (Out.upd (by simp)),_,ρ,?_⟩;have hnew:r.1∉(bh B.heads os (fs.take i)).map (·.1):=by
   unfold bh;rw[afK];intro hm;obtain⟨r',hr',e⟩:=acL.mp hm;have h':((fs.take i).map Prod.fst++(fs.drop i).map Prod.fst).Nodup:=by rw[<-agF,anK];exact hfn
   refine(alf.mp h').2.2 r.1 (acL.mpr ⟨r',hr',e⟩) r.1 ?_ rfl;rw[Bg hri];exact acB ..
  have ep:bh B.heads os (fs.take (i+1))=aN (bh B.heads os (fs.take i)) r.1 (r.1,ϥ B.heads os r.2):=by
   rw[Jt hnew];unfold bh;rw[ah8,hri,agF];rfl
  rw[ep];refine ao (jn (ao hK λu x z=>z.same s7) r.1 (v:=.ref kp) ⟨kp,rfl,kk,hkp,hkk⟩) λu x z=>z.upd (s7 _ _ ek)
 .obtain⟨⟨o8,o9,rfl⟩,o7,Ϸ,ek,hK⟩:=hP;rw[hwl,agC]at hK;have iV:ζ H3 H':=λx o e=>o7 _ _ (by rw[ac8];exact λz=>by rw[z,hkd]at e;cases e) ((s4.trans (s5.trans s6)) _ _ e)
  have QD:=fJ.trans iV;refine ξ (ie (by walk_at"po") (by rfl) (by intro _;rfl) ?_);refine aM (pl:=_) hr Ν (h:=?_);walk_at"e";refine⟨A.b,cB mg,A.dx,_,true,4,_,Dh mg,rfl,(kB.same QD).ins,by rfl,M2,by omega,id,?_⟩;walk_at"ex";refine⟨A,B,mo,rfl,kB.same QD,hI.mm,hI.d1,(λh=>absurd h (by omega)),(λh=>absurd h (by omega)),λ_ _ pd yd H8 s8 hpd hpd' KC=>?_⟩;have hdl:=KC.len;have ek8:=s8 _ _ ek;have npd:pd≠kd:=λe=>by rw[e,ek]at hpd;cases hpd
  have afN:∀x∈bh B.heads os fs,x.2.1=x.1/\gr B.heads os x.2.2:=λx hx=>by
   obtain⟨r,hr,rfl⟩:=acL.mp hx;exact⟨rfl,uv (hff r hr) hin⟩
  have hsub:∀d∈eX B mo,d∈B.done:=λd hd=>ajN hd
  refine⟨pd,yd,rfl,θ.of hpd',λj σ H9=>(∃o8 o9 aD cU lM,σ=[some (.ref A.b),some (.str zo),some (.str (Str.join " " (wT (Β B.heads) t))),some (.int mo),some (.ref c),some (.ref b),some (.ref v),some (.ref kd),o8,o9,aD,cU,lM])/\Out [kd] H8 H9/\∃Ϸ m,m=((eX B mo).take j).foldl (stepK B.heads os t) (bh B.heads os fs)/\H9 kd=some (.dK Ϸ)/\ψ (PR (gD H9)) Ϸ m/\(∀x∈m,x.2.1=x.1/\gr B.heads os x.2.2)/\m.length<=fs.length,⟨⟨_,_,none,none,none,rfl⟩,Out.refl _ _,Ϸ,_,rfl,ek8,ao hK λu x z=>z.same s8,afN,by show(bh B.heads os fs).length<=_;unfold bh;rw[ϱ];exact Ϯ _⟩,λj σ' H9 _ hP=>θ.of (hP.2.1 _ _ (by simpa using npd) hpd'),λj x σ' H9 hx hP=>?_,λσ' H9 hP=>?_⟩
  .obtain⟨⟨o8',pq,aD,cU,lM,rfl⟩,o9,iC,m,em,jP,pX,hinv,gh⟩:=hP;obtain⟨d,Kd,td,wd,ud,rfl,htd,hwd,vV,Qt⟩:=KC.get hx;have hdm:=hI.dd d (hsub d (abG Kd));have ntd:td≠kd:=λe=>by rw[e,ek]at Qt;cases Qt
   have acp:=o9 _ _ (by simpa using ntd) htd;have dw:ζ H3 H9:=λx o e=>o9 _ _ (by rw[ac8];exact λz=>by rw[z,hkd]at e;cases e) ((iV.trans s8) _ _ e)
   have ajt:J4 H9 ud d.is:=by
    cases hio:d.is with
    |none=>rw[hio]at vV;exact vV
    |some xs=>
     rw[hio]at vV;obtain⟨l,e,h1,h2⟩:=vV;exact⟨l,e,o9 _ _ (by rw[ac8];exact λz=>by first|(rw[z,ek]at h2;cases h2)|(rw[z,ek]at h1;cases h1)) (by first|exact h1|exact h2)⟩
   have htk:((eX B mo).take (j+1)).foldl (stepK B.heads os t) (bh B.heads os fs)=stepK B.heads os t m d:=by
    rw[ah8,Kd,am3, <-em];rfl
   refine bQ (ω.of acp) (ϕ (Ι nd (by rfl) (.inl rfl) (.inl rfl) (ϕ (Ι nd (by rfl) (.inl rfl) (.inl rfl) (ϕ (Ι nd (by rfl) (.inl rfl) (.inl rfl) (ϕ (Ι nd (by rfl) (.inl rfl) (.inl rfl) (b7 ?_)))))))));have g9:=ώ.k (k:=Sum.inl d.row) jP;refine ο (Τ ?_);walk_at"ex";refine wJ hu1 g9 ?_;obtain⟨e1,e2⟩|⟨u,x,e1,e2,kp,rfl,hkp⟩:=cY pX d.row
   .rw[show(ϓ iC (Sum.inl d.row)).isSome=false by rw[e1];rfl];walk_at"ex";refine Δ ⟨⟨_,_,_,_,_,rfl⟩,o9,iC,m,?_,jP,pX,hinv,gh⟩;rw[htk];unfold stepK;rw[e2]
   .rw[show(ϓ iC (Sum.inl d.row)).isSome=true by rw[e1];rfl];obtain⟨hx1,hx2⟩:=hinv _ (iU e2);have Ze:x.1=d.row:=hx1;have vL:gr B.heads os x.2:=hx2;walk_at"ex";refine bV hu1 (v:=.ref kp) (by rw[e1]at g9;exact g9) ?_;walk_at"ex";refine⟨c,b,v,d.row,ud,B.heads,os,zz,d.is,rfl,hC.same ((s2.trans s3).trans dw),c6,hO.same (s3.trans dw),gR,hin,hv.same dw,hgt,ajt,hdm,λv' fY dW hv'=>?_⟩;have xW:RD K fY (.ref kp) (eZ x.2 x.1):=xg (hkp.same dW) vL.lay;have pop:aO B.heads os t d.is≠some x.2->∀(D:Ends)(σ:L2.St),(∀cz,(Out [kd] H8 cz/\∃Ϸ m,m=stepK B.heads os t (((eX B mo).take j).foldl (stepK B.heads os t) (bh B.heads os fs)) d/\cz kd=some (.dK Ϸ)/\ψ (PR (gD cz)) Ϸ m/\(∀x∈m,x.2.1=x.1/\gr B.heads os x.2.2)/\m.length<=fs.length)->D.nx σ cz)->∀(Ϸ:List (Key×V)),Ϸ=iC->D.nx σ (upd fY kd (.dK (dH iC (Sum.inl d.row)))):=λϺ D σ hD _ _=>by
     refine hD _ ⟨(o9.trans (Out.of dW)).trans (Out.upd (by simp)),_,_,rfl,ρ,?_,?_,?_⟩
     .rw[<-em];have e3:stepK B.heads os t m d=bB m d.row:=by unfold stepK;rw[e2];exact if_neg Ϻ
      rw[e3];exact ao (uD (ao pX λu x z=>z.same dW) d.row) λu x z=>z.upd (dW _ _ jP)
     .rw[<-em];have e3:stepK B.heads os t m d=bB m d.row:=by unfold stepK;rw[e2];exact if_neg Ϻ
      rw[e3];exact λx hx=>hinv x (akL.mp hx).1
     .rw[<-em];have e3:stepK B.heads os t m d=bB m d.row:=by unfold stepK;rw[e2];exact if_neg Ϻ
      rw[e3];exact ah6 (ajl ..) gh
    have body:aO B.heads os t d.is≠some x.2->∀(D:Ends)(o8 aD cU lM:Option V),(∀cz,(Out [kd] H8 cz/\∃Ϸ m,m=stepK B.heads os t (((eX B mo).take j).foldl (stepK B.heads os t) (bh B.heads os fs)) d/\cz kd=some (.dK Ϸ)/\ψ (PR (gD cz)) Ϸ m/\(∀x∈m,x.2.1=x.1/\gr B.heads os x.2.2)/\m.length<=fs.length)->D.nx [some (.ref A.b),some (.str zo),some (.str (Str.join " " (wT (Β B.heads) t))),some (.int mo),some (.ref c),some (.ref b),some (.ref v),some (.ref kd),some (.int d.row),o8,aD,cU,lM] cz)->Κ X (Ae (wF ((ϝ zQ).drop 5))) D [some (.ref A.b),some (.str zo),some (.str (Str.join " " (wT (Β B.heads) t))),some (.int mo),some (.ref c),some (.ref b),some (.ref v),some (.ref kd),some (.int d.row),o8,aD,cU,lM] fY:=λϺ D o8 aD cU lM hD=>by
     refine ο (ϟ (qU ?_));walk_at"ex";refine⟨kd,rfl,.inl ⟨_,.inl (dW _ _ jP)⟩,?_⟩;walk_at"ex";refine⟨iC,Sum.inl d.row,_,dW _ _ jP,rfl,e1,?_⟩;exact pop Ϻ D _ hD iC rfl
    walk_at"ex";cases htf:aO B.heads os t d.is with
    |none=>
     rw[htf]at hv';cases hv';have qI:RD K fY .non .none:=.non;refine iw hu xW qI (rW vL.lay) rfl (by have:=Ge x.2 x.1;omega) ?_;rw[show PyData.eqv (eZ x.2 x.1) .none=false from rfl];walk_at"ex";refine body (by rw[htf];exact λz=>by cases z) _ _ _ _ _ λcz ⟨a1,Ϸ,m',a2,a3,a4,a5,a6⟩=>⟨⟨_,_,_,_,_,rfl⟩,a1,Ϸ,m',?_,a3,a4,a5,a6⟩
     rw[htk,a2,em]
    |some k=>
     rw[htf]at hv';obtain⟨kq,rfl,rF⟩:=hv';have hko:gr B.heads os k:=by
      cases hio:d.is with
      |none=>rw[hio]at htf;cases htf
      |some xs=>
       rw[hio]at htf;have G6:(if ύ xs t=true then some (ϥ B.heads os xs)else none)=some k:=htf;split at G6
       .cases G6;exact uv (hdm xs hio) hin
       .cases G6
     have qI:RD K fY (.ref kq) (eZ k d.row):=xg rF hko.lay;refine iw hu xW qI (rW vL.lay) (rW hko.lay) (by have:=Ge x.2 x.1;omega) ?_;rw[J5 (λy hy=>(vL.lay y hy).1) (λy hy=>(hko.lay y hy).1)];by_cases he:x.2=k
     .rw[decide_eq_true ⟨he,Ze⟩];walk_at"ex";refine Δ ⟨⟨_,_,_,_,_,rfl⟩,o9.trans (Out.of dW),iC,m,?_,dW _ _ jP,ao pX λu x z=>z.same dW,hinv,gh⟩;rw[htk];unfold stepK;rw[e2];exact(if_pos (by rw[htf,he])).symm
     .rw[decide_eq_false (λz=>he z.1)];walk_at"ex";refine body (by rw[htf];exact λz=>he (Option.some.inj z).symm) _ _ _ _ _ λcz ⟨a1,Ϸ,m',a2,a3,a4,a5,a6⟩=>⟨⟨_,_,_,_,_,rfl⟩,a1,Ϸ,m',?_,a3,a4,a5,a6⟩
      rw[htk,a2,em]
  .obtain⟨⟨o8',pq,aD,cU,lM,rfl⟩,o9,iC,m,em,jP,pX,hinv,gh⟩:=hP;rw[hdl,agC]at em;have dw:ζ H3 H9:=λx o e=>o9 _ _ (by rw[ac8];exact λz=>by rw[z,hkd]at e;cases e) ((iV.trans s8) _ _ e)
   refine ο (Η ?_);walk_at"cb";walk_at"ex";refine uY (ks:=m.map (·.1)) jP (t6 pX) (by rw[ϱ];omega) λL ks' hL hp hs=>?_
   have sl:=ζ.upd (o:=.lst (ks'.map V.int)) hL;exact q L fs ks' _ ((fJ.trans dw).trans sl) ((fJ.trans dw).free hL) ρ hpf hs (by unfold rA;rw[<-em];exact hp)
def dD(ns:List Int):List (Int×Int):=ns.foldl (λm n=>aN m n ((Α m n).getD 0+1)) []
theorem uW(ns:List Int)(n:Int):dD (ns++[n])=aN (dD ns) n ((Α (dD ns) n).getD 0+1):=by
 unfold dD;rw[am3];rfl
theorem vQ:∀(j:Nat)(ns:List Int)(k:Int),ns.length=j->Α (dD ns) k=if k∈ns then some ((ns.count k:Nat):Int)else none
 |0,ns,k,h=>by rw[aeG.mp h];rfl
 |j+1,ns,k,h=>by
  obtain⟨l,x,rfl⟩:∃l k,ns=l++[k]:=⟨_,_,(ae1 (aef h)).symm⟩;have hl:l.length=j:=by simpa using h
  have ih:=vQ j l k hl;have VH:=vQ j l x hl;rw[uW,vN];by_cases e:k=x
  .subst e;rw[if_pos rfl,if_pos (by simp),VH,aoO,List.count_singleton_self]
   congr 1
   by_cases hm:k∈l
   .rw[if_pos hm];show((l.count k:Nat):Int)+1=_;omega
   .rw[if_neg hm,aoI.mpr hm];rfl
  .rw[if_neg e,ih,aoO,aoI.mpr (show k∉[x]by simpa using e),Nat.add_zero];by_cases hm:k∈l
   .rw[if_pos hm,if_pos (by simp[hm])]
   .rw[if_neg hm,if_neg (by simp[hm,e])]
theorem Rn:∀(j:Nat)(ns:List Int),ns.length=j->((dD ns).map (·.1)).Nodup
 |0,ns,h=>by rw[aeG.mp h];exact List.nodup_nil
 |j+1,ns,h=>by
  obtain⟨l,x,rfl⟩:∃l k,ns=l++[k]:=⟨_,_,(ae1 (aef h)).symm⟩;rw[uW];exact R0 (Rn j l (by simpa using h))
theorem EY:∀(j:Nat)(ns:List Int),ns.length=j->(dD ns).length<=j
 |0,ns,h=>by rw[aeG.mp h];exact Ϯ _
 |j+1,ns,h=>by
  obtain⟨l,x,rfl⟩:∃l k,ns=l++[k]:=⟨_,_,(ae1 (aef h)).symm⟩;have:=EY j l (by simpa using h);have h2:=u6 (dD l) x ((Α (dD l) x).getD 0+1);rw[uW];omega
theorem R7{ns:List Int}{k:Int}:k∈(dD ns).map (·.1)↔k∈ns:=by
 have h:=vQ _ ns k rfl;constructor
 .intro hm;by_cases z:k∈ns
  .exact z
  .rw[if_neg z]at h;exact absurd hm (rN.mp h)
 .intro z;rw[if_pos z]at h;exact acL.mpr ⟨_,iU h,rfl⟩
def Hr(H:Hp)(v:V)(n:Int):=∃t rest,v=.ref t/\H t=some (.tup (.int n::rest))
def jV(H:Hp)(v:V)(p:Int×Int):=∃t,v=.ref t/\H t=some (.tup [.int p.1,.int p.2])
def X3(K:ϩ):Sp:=λvs H Q _=>∃(a:δ)(us:List V)(ns:List Int),vs=[.ref a]/\H a=some (.lst us)/\ψ (Hr H) us ns/\ns.length<60/\∀(p:δ)(ws:List V)(ks:List Int)(H':Hp),ζ H H'->H' p=some (.lst ws)->ks.Perm ((dD ns).map (·.1))->ks.Pairwise (· <= ·)->ψ (jV H') ws (ks.map λk=>(k,((ns.count k:Nat):Int)))->Q (.ref p) H'
theorem zZ(T:Txt K mg):Def P w K mg base true 1 "sights" ["told"] (X3 K):=by
 refine Ο T.zZ MF (λ_ _ _ _ s H vs Q E hr h=>?_);intro X;obtain⟨a,us,ns,rfl,ha,hus,hl,q⟩:=h;have nd:=MF.nd;have n1:=T.uB;have hsz:=ϳ;have hu1:_+1<cLine:=afY (afJ (by decide:1<=64) _) hr.units;have dB:(["row","times"]:List Str).Nodup:=by decide+kernel
 have Ef:=hus.len;refine ξ ?_;walk_at"s";refine iZ λd hd=>?_
 obtain⟨s1,ed⟩:=ϊ hd (.dK []);generalize upd H d (.dK [])=H1 at s1 ed⊢;refine ξ (ie (by walk_at"po") (by rfl) (by intro _;rfl) ?_);walk_at"ex";refine⟨a,us,rfl,θ.of (s1 _ _ ha),λi σ H'=>(∃o2,σ=[some (.ref a),some (.ref d),o2])/\ζ H H'/\∃Ϸ,H' d=some (.dK Ϸ)/\ψ (PR sJ) Ϸ (dD (ns.take i)),⟨⟨none,rfl⟩,s1,[],ed,.nil⟩,λi σ' H' _ hP=>θ.of (hP.2.1 _ _ ha),λi x σ' H' hx hP=>?_,λσ' H' hP=>?_⟩
 .obtain⟨⟨o2,rfl⟩,sm,Ϸ,ek,hK⟩:=hP;obtain⟨n,hn,t,rest,rfl,ht⟩:=hus.get hx;have hi:=(aaF.mp hn).1;have hkl:=hK.len;have hcl:=EY _ (ns.take i) rfl;have htl:(ns.take i).length<=i:=by rw[afr];omega
  have g:=ώ.k (k:=Sum.inl n) ek;have e0:ό (V.int n::rest) ((0:Nat):Int)=some (V.int n):=ϔ rfl;refine Ι nd (by rfl) (by first|exact Or.inl rfl|exact Or.inr rfl) (by first|exact Or.inl rfl|exact Or.inr rfl) ?_;refine ο (gW hu1 ?_);walk_at"e";refine adA hu1 (by constructor<;>rfl) ?_;walk_at"e";refine⟨d,rfl,.inl ⟨_,.inl ek⟩,?_⟩;walk_at"ex";refine Ω (ω.of (sm _ _ ht)) e0 ?_;walk_at"ex";refine⟨_,g,?_⟩;have hval:∃z:Int,(ϓ Ϸ (Sum.inl n)).getD (.int 0)=.int z/\z=(Α (dD (ns.take i)) n).getD 0:=by
   obtain⟨e1,e2⟩|⟨u,x,e1,e2,e3⟩:=cY hK n
   .rw[e1,e2];exact⟨0,rfl,rfl⟩
   .rw[e1,e2];exact⟨x,e3,rfl⟩
  obtain⟨z,ez,Yl⟩:=hval;rw[ez];walk_at"ex";refine Ω (ω.of (sm _ _ ht)) e0 ?_;refine⟨d,_,rfl,cJ.k (k:=Sum.inl n) ek (by omega),?_⟩;refine⟨⟨_,rfl⟩,λx o e=>?_,_,ρ,?_⟩
  .rw[ι (λz=>by rw[z,hd]at e;cases e)];exact sm _ _ e
  .have et:ns.take (i+1)=ns.take i++[n]:=by rw[ah8,hn];rfl
   rw[et,uW, <-Yl];exact jn hK n rfl
 .obtain⟨⟨o2,rfl⟩,sm,Ϸ,ek,hK⟩:=hP;rw[Ef,agC]at hK;have hcl:=EY _ ns rfl;refine ο (Η ?_);refine j9 ["row","times"] (σ':=[none,some (.ref d)]) (bK (υ CJ)) ?_;walk_at"cb";walk_at"ex";refine uY (ks:=(dD ns).map (·.1)) ek (t6 hK) (by rw[ϱ];omega) λL ks hL hp hs=>?_
  have sL:ζ H' (upd H' L (.lst (ks.map V.int))):=ζ.upd hL;have eL:(upd H' L (.lst (ks.map V.int))) L=some (.lst (ks.map V.int)):=ρ;generalize upd H' L (.lst (ks.map V.int))=H2 at sL eL⊢;have hkl:ks.length<=60:=by rw[hp.length_eq,ϱ];omega
  have hkm:(ks.map V.int).length=ks.length:=ϱ ..;refine⟨L,_,rfl,θ.of eL,by omega,λτ=>∃o1,τ=[o1,some (.ref d)],λE2 i u H3=>u≠.ref E2/\∃k,ks[i]?=some k/\jV H3 u (k,((ns.count k:Nat):Int)),⟨none,rfl⟩,λE2 i u H3 H4 ys hE hk p=>?_,λfp E2 C s9 H0 i τ x H4 H5 bU hi hτ Ξ hys hG=>?_,λp H3 ws hp0 hl3 bN e3 s3=>?_⟩
  .obtain⟨h0,k,hk1,t,e,h1⟩:=p;exact⟨h0,k,hk1,t,e,hk _ _ (λz=>h0 (by rw[e,z])) h1⟩
  .obtain⟨o1,rfl⟩:=hτ;obtain⟨bN,rfl⟩:=hG;rw[acy]at bN;obtain⟨k,hk,rfl⟩:=afi.mp bN;obtain⟨ys,hys⟩:=hys;have hkm:k∈ns:=R7.mp (hp.mem_iff.mp (abG hk));have g4:=ώ.k (k:=Sum.inl k) ((sL.trans Ξ) _ _ ek);have hc:=vQ _ ns k rfl;rw[if_pos hkm]at hc;obtain⟨e1,e2⟩|⟨u,x,e1,e2,e4⟩:=cY hK k
   .rw[hc]at e2;cases e2
   rw[hc]at e2;cases e2;refine Ι dB (by rfl) (.inl rfl) (.inr rfl) ?_;walk_at"ex";refine bV hu1 (v:=.int ((ns.count k:Nat):Int)) (by rw[e1,show u=.int ((ns.count k:Nat):Int)from e4]at g4;exact g4) ?_;walk_at"ex";refine⟨by show 2<=Ϫ;omega,λt2 fL=>?_⟩;refine⟨⟨_,rfl⟩,⟨λz=>?_,k,hk,t2,rfl,ρ⟩,ζ.upd fL⟩;injection z with z
   rw[z,hys]at fL;cases fL
  .refine q p ws ks H3 ((sm.trans sL).trans s3) e3 hp hs (qN (by rw[ϱ];omega) λi b hb=>?_);rw[acy]at hb;obtain⟨k,hk,rfl⟩:=afi.mp hb;have hi:i<ws.length:=by have:=(aaF.mp hk).1;omega
   obtain⟨_,k',hk',h'⟩:=bN i _ (aak hi);rw[hk]at hk';cases hk';exact⟨_,aak hi,h'⟩
theorem step_get(cs:List ς)(os:List Ord)(t:Tr)(m:List (Int×Int×List V))(d:Φ)(i:Int):Α (stepK cs os t m d) i=if d.row=i then(match Α m i with
 |some k=>if aO cs os t d.is=some k.2 then some k else none
 |none=>none)else Α m i:=by
 unfold stepK;by_cases e:d.row=i
 .rw[if_pos e,e];cases h:Α m i with
  |none=>exact h
  |some k=>
   show Α (if aO cs os t d.is=some k.2 then m else bB m i) i=if aO cs os t d.is=some k.2 then some k else none;split
   .exact h
   .rw[tE,if_pos rfl]
 .rw[if_neg e];cases h:Α m d.row with
  |none=>rfl
  |some k=>
   show Α (if aO cs os t d.is=some k.2 then m else bB m d.row) i=_;split
   .rfl
   .rw[tE,if_neg (λz=>e z.symm)]
theorem Cj(cs:List ς)(os:List Ord)(t:Tr)(i:Int):∀(ds:List Φ)(m:List (Int×Int×List V))(k:Int×List V),Α (ds.foldl (stepK cs os t) m) i=some k↔ Α m i=some k/\∀d∈ds,d.row=i->aO cs os t d.is=some k.2
 |[],m,k=>⟨λh=>⟨h,λd hd=>by cases hd⟩,λh=>h.1⟩
 |d::ds,m,k=>by
  rw[List.foldl_cons,Cj cs os t i ds,step_get];by_cases e:d.row=i
  .rw[if_pos e];cases h:Α m i with
   |none=>exact⟨λz=>(by cases z.1),λz=>(by cases z.1)⟩
   |some k'=>
    show(if aO cs os t d.is=some k'.2 then some k' else none)=some k/\_↔_;by_cases e2:aO cs os t d.is=some k'.2
    .rw[if_pos e2];refine⟨λz=>⟨z.1,λd' hd' hr=>?_⟩,λz=>⟨z.1,λd' hd' hr=>z.2 d' (abN _ hd') hr⟩⟩;obtain rfl|hd':=acG.mp hd'
     .rw[e2,Option.some.inj z.1]
     .exact z.2 d' hd' hr
    .rw[if_neg e2];refine⟨λz=>(by cases z.1),λz=>?_⟩;have:=z.2 d (acB ..) e;rw[Option.some.inj z.1]at e2;exact absurd this e2
  .rw[if_neg e];refine⟨λz=>⟨z.1,λd' hd' hr=>?_⟩,λz=>⟨z.1,λd' hd' hr=>z.2 d' (abN _ hd') hr⟩⟩;obtain rfl|hd':=acG.mp hd'
   .exact absurd hr e
   .exact z.2 d' hd' hr
theorem Uv{α:Type}{m:List (Int×α)}{i:Int}:i∈m.map (·.1)↔∃x,Α m i=some x:=by
 cases h:Α m i with
 |none=>exact⟨λz=>absurd z (rN.mp h),λ⟨x,z⟩=>by cases z⟩
 |some x=>exact⟨λ_=>⟨x,rfl⟩,λ_=>acL.mpr ⟨_,iU h,rfl⟩⟩
theorem Np{cs:List ς}{os:List Ord}{t:Tr}{R rs:List Row}(hn:(R.map Prod.fst).Nodup)(hp:rs.Perm (R.filter λr=>ύ r.2 t))(i:Int)(k:Int×List V):Α (bh cs os rs) i=some k↔k.1=i/\aO cs os t (Α R i)=some k.2:=by
 have hkn:((bh cs os rs).map (·.1)).Nodup:=by
  unfold bh;rw[afK];exact((hp.map Prod.fst).nodup_iff.mpr (hn.sublist (List.Sublist.map _ akC)))
 constructor
 .intro h;obtain⟨r,hr,e⟩:=acL.mp (iU h);obtain⟨h1,h2⟩:=akL.mp (hp.mem_iff.mp hr);have e1:r.1=i:=congrArg Prod.fst e;have e2:(r.1,ϥ cs os r.2)=k:=congrArg Prod.snd e;subst e1;rw[<-e2,mq hn h1];exact⟨rfl,if_pos h2⟩
 .rintro⟨rfl,h⟩
  cases hg:Α R k.1 with
  |none=>rw[hg]at h;cases h
  |some xs=>
   rw[hg]at h;have h:(if ύ xs t=true then some (ϥ cs os xs)else none)=some k.2:=h;split at h
   .next hl=>
    have hm:(k.1,xs)∈rs:=hp.mem_iff.mpr (akL.mpr ⟨iU hg,hl⟩);have hm2:(k.1,k.1,ϥ cs os xs)∈bh cs os rs:=acL.mpr ⟨_,hm,rfl⟩;rw[mq hkn hm2];exact congrArg some (Prod.ext rfl (Option.some.inj h))
   .cases h
theorem ag5{cs:List ς}{os:List Ord}{t:Tr}{i:Int}{k:List V}{all:List Φ}{j:Nat}(hj:j<=all.length):(∀n,j<=n->n<=all.length->aO cs os t (Α (az (all.take n)) i)=some k)↔aO cs os t (Α (az (all.take j)) i)=some k/\∀d∈all.drop j,d.row=i->aO cs os t d.is=some k:=by
 have stp:∀n (hn:n<all.length),Α (az (all.take (n+1))) i=if i=all[n].row then all[n].is else Α (az (all.take n)) i:=λn hn=>by
  rw[take_snoc (aak hn),v9,tW]
 constructor
 .intro h;refine⟨h j (Ϯ _) hj,λd hd hr=>?_⟩;obtain⟨n,hn,e⟩:=anp hd;rw[aoP]at e;have hl:j+n<all.length:=by rw[afz]at hn;omega
  have h2:=h (j+n+1) (by omega) (by omega);rw[stp (j+n) hl,e,if_pos hr.symm]at h2;exact h2
 .rintro⟨h1,h2⟩ n hjn hn
  induction n with
  |zero=>rw[show j=0 by omega]at h1;exact h1
  |succ n ih=>
   by_cases e:j=n+1
   .rw[<-e];exact h1
   .have ih:=ih (by omega) (by omega);rw[stp n (by omega)];split
    .next er=>exact h2 _ (by rw[List.mem_iff_getElem];exact⟨n-j,by rw[afz];omega,by rw[aoP];congr 1;omega⟩) er.symm
    .exact ih
def BV(H:Hp)(v:V)(xs:List V):=∃l,v=.ref l/\H l=some (.lst xs)
def jB(H:Hp)(v:V)(m:List Row):=∃a Ϸ,v=.ref a/\H a=some (.dK Ϸ)/\ψ (PR (BV H)) Ϸ m
def ZW:Sp:=λvs H Q _=>∃(F:List δ)(d r s:δ)(n:Int)(m:List Row),vs=[.ref d]/\H d=some (.dK (stK r s n))/\Tc F H r m/\¬d=r/\m.length<1000/\(m.map Prod.fst).Nodup/\
 ∀p Ϸ H',ζ H H'->H p=none->H' p=some (.dK Ϸ)->ψ (PR λv xs=>∃l,v=.ref l/\H l=none/\H' l=some (.lst xs)) Ϸ m->Q (.ref p) H'
theorem Br(T:Txt K mg):Def P w K mg base true 1 "_law_kept" ["_law_state"] ZW:=by
 refine Ο T.Br JP (λf Ϲ A outer s0 H vs Q E hr h=>?_);intro X;obtain⟨F,d,r,s,n,m,rfl,hd,⟨kr,er,hR⟩,hdr,gh,hnd,q⟩:=h;have nd:=JP.nd;have n1:=T.ji;have hsz:=ϳ;have hu1:_+1<cLine:=afY (afJ (by decide:1<=64) _) hr.units;have hkl:=hR.len;refine abb er λo=>?_
 have st:∀x u,H x=some u->¬x=r->(upd H r (.frz o (.dK kr))) x=some u:=λx u e hx=>by rw[ι hx];exact e
 have Fi:∀x,(upd H r (.frz o (.dK kr))) x=none->H x=none:=λx e=>by
  by_cases z:x=r
  .rw[z,ρ]at e;cases e
  .rw[ι z]at e;exact e
 have hz:(upd H r (.frz o (.dK kr))) r=some (.frz o (.dK kr)):=ρ;have Bx:=st d _ hd hdr;have Rx:ψ (PR (BV (upd H r (.frz o (.dK kr))))) kr m:=ao hR λv xs z=>by
  obtain⟨l,e,h1,_⟩:=z;exact⟨l,e,st l _ h1 (λz=>by rw[z,er]at h1;cases h1)⟩
 have back:∀H',ζ (upd H r (.frz o (.dK kr))) H'->ζ H (upd H' r (.dK kr)):=λH' sm x u e=>by
  by_cases z:x=r
  .rw[z]at e⊢;rw[er]at e;cases e;exact ρ
  .rw[ι z];exact sm _ _ (st x u e z)
 have hH0:∀o u,¬H r=some (.frz o u):=λo u z=>by rw[er]at z;cases z
 generalize hHZ:upd H r (.frz o (.dK kr))=HZ at st Fi hz Bx Rx back⊢;refine ξ ?_;walk_at"s";refine iZ λp hp=>?_
 obtain⟨s1,ep⟩:=ϊ hp (.dK []);generalize upd HZ p (.dK [])=H1 at s1 ep⊢;refine ξ (acs (by walk_at"po") (by rfl) (by intro _;rfl) ?_);walk_at"ex";refine bV hu1 (lg (s1 _ _ Bx)) ?_;refine⟨r,o,kr,m.map Prod.fst,rfl,s1 _ _ hz,t6 hR,λi σ H'=>(∃o2,σ=[some (.ref d),some (.ref p),o2])/\ζ HZ H'/\∃Ϸ,H' p=some (.dK Ϸ)/\ψ (PR λv xs=>∃l,v=.ref l/\HZ l=none/\¬l=p/\H' l=some (.lst xs)) Ϸ (m.take i),⟨⟨none,rfl⟩,s1,[],ep,.nil⟩,λi σ' H' hP=>hP.2.1 _ _ hz,λi k σ' H' hk hP=>?_,λσ' H' hP=>?_⟩
 .obtain⟨⟨o2,rfl⟩,sm,Ϸ,ek,hK⟩:=hP;rw[acy]at hk;obtain⟨rw',hri,rfl⟩:=afi.mp hk;have hm:=abG hri;have hi:=(aaF.mp hri).1;obtain⟨_,z⟩|⟨u,xs,hval,hget,_⟩:=cY hR rw'.1
  .exact absurd (acL.mpr ⟨_,hm,rfl⟩) (rN.mp z)
  have Vu:xs=rw'.2:=by rw[mq hnd hm]at hget;exact(Option.some.inj hget).symm
  obtain⟨_,_,hv2⟩:=(cY Rx rw'.1).resolve_left (λz=>by rw[z.1]at hval;cases hval);obtain⟨xT,Kf,l,rfl,hl⟩:=hv2;rw[hval]at xT;cases xT;rw[hget]at Kf;cases Kf;subst Vu;have dg:ώ H' r (.int rw'.1) (some (.ref l)):=.inl ⟨kr,Sum.inl rw'.1,.inr ⟨o,sm _ _ hz⟩,rfl,hval.symm⟩;have akA:=hK.len;have htl:(m.take i).length<=i:=by rw[afr];omega
  refine Ι nd (by rfl) (.inl rfl) (.inl rfl) ?_;refine ο (gW hu1 ?_);walk_at"ex";refine bV hu1 (lg (sm _ _ Bx)) ?_;walk_at"ex";refine bV hu1 dg ?_;walk_at"ex";refine gn (.inl (θ.of (sm _ _ hl))) λl2 hl2=>?_
  have s2:ζ H' (upd H' l2 (.lst rw'.2)):=ζ.upd hl2;have e2:(upd H' l2 (.lst rw'.2)) l2=some (.lst rw'.2):=ρ;have nl:¬l2=p:=λe=>by rw[e,ek]at hl2;cases hl2
  generalize upd H' l2 (.lst rw'.2)=H2 at s2 e2⊢;walk_at"ex";refine⟨p,_,rfl,cJ.k (k:=Sum.inl rw'.1) (s2 _ _ ek) (by omega),?_⟩;have hnew:rw'.1∉(m.take i).map (·.1):=λhm=>by
   have h':((m.take i).map Prod.fst++(m.drop i).map Prod.fst).Nodup:=by rw[<-agF,anK];exact hnd
   exact(alf.mp h').2.2 rw'.1 hm rw'.1 (by rw[Bg hri];exact acB ..) rfl
  have ept:m.take (i+1)=aN (m.take i) rw'.1 rw'.2:=by rw[Jt hnew,ah8,hri];rfl
  refine⟨⟨_,rfl⟩,λx u e=>?_,_,ρ,?_⟩
  .rw[ι (Θ e hp)];exact(sm.trans s2) _ _ e
  .rw[ept];refine ao (jn (R:=λv xs=>∃l,v=.ref l/\HZ l=none/\¬l=p/\H2 l=some (.lst xs)) (ao hK λv xs z=>?_) rw'.1 (v:=.ref l2) ⟨l2,rfl,sm.free hl2,nl,e2⟩) λv xs z=>?_
   .obtain⟨l,e,g1,g2,g3⟩:=z;exact⟨l,e,g1,g2,s2 _ _ g3⟩
   .obtain⟨l,e,g1,g2,g3⟩:=z;exact⟨l,e,g1,g2,by rw[ι g2];exact g3⟩
 .obtain⟨⟨o2,rfl⟩,sm,Ϸ,ek,hK⟩:=hP;rw[ϱ,agC]at hK;refine Yk (sm _ _ hz) hH0 ?_;refine ο (Η ?_);walk_at"ex";have hpr:¬p=r:=λe=>by rw[e,hz]at hp;cases hp
  refine q p Ϸ _ (back H' sm) (Fi p hp) (by rw[ι hpr];exact ek) (ao hK λv xs z=>?_);obtain⟨l,e,g1,g2,g3⟩:=z;refine⟨l,e,Fi l g1,?_⟩;rw[ι (λz=>by rw[z,hz]at g1;cases g1)];exact g3
def ahd(K:ϩ):Sp:=λvs H Q _=>∃(c b kh:δ)(v:V)(t:Tr)(cs:List ς)(os:List Ord)(hv:List V)(Ss:List (List Row))(mo:Nat),vs=[.ref c,.ref b,v,.ref kh,.int (mo:Nat)]/\ϒ H c cs/\Ϙ cs=true/\dm H b os/\os.length<=4/\fO cs os/\bH H v t/\jy t/\bR cs t/\H kh=some (.lst hv)/\ψ (jB H) hv Ss/\mo<Ss.length/\(∀m∈Ss,(m.map Prod.fst).Nodup/\m.length<64/\∀r∈m,eQ cs r)/\
 ∀(p:δ)(ks:List Int)(H':Hp),ζ H H'->H p=none->H' p=some (.lst (ks.map V.int))->ks.Pairwise (· <= ·)->ks.Nodup->(∀i,i∈ks↔∃k,∀m∈Ss.drop mo,aO cs os t (Α m i)=some k)->Q (.ref p) H'
theorem QX{H:Hp}{Ϸ:List (Key×V)}{m:List Row}(h:ψ (PR (BV H)) Ϸ m)(i:Int):(ϓ Ϸ (Sum.inl i)=none/\ Α m i=none)\/∃l xs,ϓ Ϸ (Sum.inl i)=some (.ref l)/\ Α m i=some xs/\H l=some (.lst xs):=by
 obtain z|⟨u,xs,e1,e2,l,rfl,hl⟩:=cY h i
 .exact .inl z
 .exact .inr ⟨l,xs,e1,e2,hl⟩
theorem jB.same{H H':Hp}{v:V}{m:List Row}(h:jB H v m)(s:ζ H H'):jB H' v m:=by
 obtain⟨a,Ϸ,e,h1,h2⟩:=h;exact⟨a,Ϸ,e,s _ _ h1,ao h2 λv xs ⟨l,e,g⟩=>⟨l,e,s _ _ g⟩⟩
def dU(cs:List ς)(os:List Ord)(t:Tr)(xs:List V)(i:Int)(Ss:List (List Row)):Bool:=Ss.all λm=>decide (aO cs os t (Α m i)=some (ϥ cs os xs))
theorem afg{cs:List ς}{os:List Ord}{t:Tr}{xs:List V}{i:Int}{Ss:List (List Row)}{m:List Row}{j:Nat}(h:Ss[j]?=some m):dU cs os t xs i (Ss.take (j+1))=(dU cs os t xs i (Ss.take j)&&decide (aO cs os t (Α m i)=some (ϥ cs os xs))):=by
 unfold dU;rw[ah8,h,List.all_append];show(_&&(_&&true))=_;rw[aob]
theorem By(T:Txt K mg):Def P w K mg base true 4 "_law_due" ["_law_columns_here","_law_order_here","_law_sieve_here","_law_kept_here","_law_moment"] (ahd K):=by
 refine Ο T.By Px (λ_ _ A _ s H vs Q E hr h=>?_);intro X;obtain⟨c,b,kh,v,t,cs,os,hv,Ss,mo,rfl,hC,hok,hO,gR,hin,hsv,hsh,hgd,jz,Hq,hmo,hgood,q⟩:=h;have nd:=Px.nd;have n1:=T.uB;have hu:=hr.units;have hu1:_+1<cLine:=afY (afJ (by decide:1<=64) _) hr.units;have hsz:=ϳ;obtain⟨c1,c6⟩:=Mz hok;have D1:= @Ed P w K mg base T;have D3:= @xr P w K mg base T;have hsl:=Hq.len;have hm0:Ss[mo]?=some Ss[mo]:=aak hmo;obtain⟨vm,Kl,am,km,rfl,ham,hkm⟩:=Hq.get' hm0;obtain⟨ndm,lm,fm⟩:=hgood Ss[mo] (aj9 hmo);walk_at"A";refine⟨by show 0<=Ϫ;omega,λp hp=>?_⟩;obtain⟨s1,ep⟩:=ϊ hp (.lst []);generalize upd H p (.lst [])=H1 at s1 ep⊢;refine ξ (ie (by walk_at"po") (by rfl) (by intro _;rfl) ?_);walk_at"cb";walk_at"ex";refine ϖ (θ.of (s1 _ _ jz)) (ϔ Kl) ?_;walk_at"ex";refine uY (ks:=Ss[mo].map Prod.fst) (s1 _ _ ham) (t6 hkm) (by rw[ϱ];exact lm) λL ks hL hpm hso=>?_
 obtain⟨s2,eL⟩:=ϊ hL (.lst (ks.map V.int));have hLp:L≠p:=λe=>by rw[e,ep]at hL;cases hL
 generalize upd H1 L (.lst (ks.map V.int))=H2 at s2 eL⊢;have agf:ks.Nodup:=hpm.nodup_iff.mpr ndm;have hkl:ks.length<64:=by rw[hpm.length_eq,ϱ];exact lm
 refine⟨L,_,rfl,θ.of eL,λi σ H'=>(∃o1 o2 o3 o4,σ=[some (.ref c),some (.ref b),some v,some (.ref kh),some (.int (mo:Nat)),some (.ref p),o1,o2,o3,o4])/\ζ H H'/\H' L=some (.lst (ks.map V.int))/\H' p=some (.lst (((ks.take i).filter λk=>match Α Ss[mo] k with|some xs=>dU cs os t xs k (Ss.drop mo)|none=>false).map V.int)),⟨⟨none,none,none,none,rfl⟩,s1.trans s2,eL,s2 _ _ ep⟩,λi σ' H' _ hP=>θ.of hP.2.2.1,λi x σ' H' hx hP=>?_,λσ' H' hP=>?_⟩
 .obtain⟨⟨o1,o2,o3,o4,rfl⟩,sm,Lh,ep'⟩:=hP;rw[acy]at hx;obtain⟨row,hrow,rfl⟩:=afi.mp hx;have hi:=(aaF.mp hrow).1;have hmem:row∈Ss[mo].map Prod.fst:=hpm.mem_iff.mp (abG hrow);obtain⟨_,z⟩|⟨l,xs,hval,hget,hl⟩:=QX hkm row
  .exact absurd hmem (rN.mp z)
  have oM:eQ cs (row,xs):=fm _ (iU hget);have dg:∀{H2:Hp},ζ H H2->ώ H2 am (.int row) (some (.ref l)):=λs2=>by
   have:=ώ.k (k:=Sum.inl row) (s2 _ _ ham);rw[hval]at this;exact this
  refine Ι nd (by rfl) (.inl rfl) (.inl rfl) ?_;walk_at"A";refine ϖ (θ.of (sm _ _ jz)) (ϔ Kl) ?_;walk_at"ex";refine bV hu1 (dg sm) ?_;walk_at"A";refine⟨v,l,cs,t,xs,rfl,hsv.same sm,hsh,hgd,sm _ _ hl,oM,?_⟩;refine ξ (ie (by walk_at"po") (by rfl) (by intro _;rfl) ?_);walk_at"ex";refine Fj (θ.of (sm _ _ jz)) λq3 hq3=>?_
  rw[Pa hv mo];have s3:ζ H' (upd H' q3 (.lst (hv.drop mo))):=ζ.upd hq3;have e3:(upd H' q3 (.lst (hv.drop mo))) q3=some (.lst (hv.drop mo)):=ρ;generalize upd H' q3 (.lst (hv.drop mo))=H3 at s3 e3⊢;have sm3:=sm.trans s3;have hSd:ψ (jB H) (hv.drop mo) (Ss.drop mo):=Hq.drop mo;refine⟨q3,_,rfl,θ.of e3,λj σ H4=>(∃o4,σ=[some (.ref c),some (.ref b),some v,some (.ref kh),some (.int (mo:Nat)),some (.ref p),some (.int row),some (.ref l),some (.bl (ύ xs t&&dU cs os t xs row ((Ss.drop mo).take j))),o4])/\ζ H3 H4,⟨⟨_,by rw[List.take_zero];show _=[some (.ref c),some (.ref b),some v,some (.ref kh),some (.int (mo:Nat)),some (.ref p),some (.int row),some (.ref l),some (.bl (ύ xs t&&true)),_];rw[aob];rfl⟩,ζ.refl _⟩,λj σ' H4 _ hP=>θ.of (hP.2 _ _ e3),λj x σ' H4 hx hP=>?_,λσ' H4 hP=>?_⟩
  .obtain⟨⟨o4',rfl⟩,s4⟩:=hP;obtain⟨m,wu,a2,k2,rfl,ha2,hk2⟩:=hSd.get hx;obtain⟨dB,l2,f2⟩:=hgood m (ajN (abG wu));have Ξ :=sm3.trans s4;have g2:=ώ.k (k:=Sum.inl row) (Ξ _ _ ha2);have hsn:=afg (cs:=cs) (os:=os) (t:=t) (xs:=xs) (i:=row) wu;have no:∀(D:Ends)(H6:Hp)(kb:Bool)(o4:Option V),D.nx [some (.ref c),some (.ref b),some v,some (.ref kh),some (.int (mo:Nat)),some (.ref p),some (.int row),some (.ref l),some (.bl false),o4] H6->Κ X (Ae (wF ((wF ((ϝ G3).drop 1)).drop 2))) D [some (.ref c),some (.ref b),some v,some (.ref kh),some (.int (mo:Nat)),some (.ref p),some (.int row),some (.ref l),some (.bl kb),o4] H6:=λD H6 kb o4 h=>by
    refine ο ?_;walk_at"s";walk_at"ex";exact h
   refine Ι nd (by rfl) (.inl rfl) (.inl rfl) ?_;refine ο (Τ ?_);walk_at"ex";refine Pn hu1 g2 ?_;obtain⟨e1,e2⟩|⟨l3,ys,e1,e2,hl3⟩:=QX hk2 row
   .rw[show(ϓ k2 (Sum.inl row)).isSome=false by rw[e1];rfl];walk_at"ex";rw[e2,decide_eq_false (by intro z;cases z),ak5]at hsn;exact no _ _ _ _ ⟨⟨_,by rw[hsn,ak5]⟩,s4⟩
   .rw[show(ϓ k2 (Sum.inl row)).isSome=true by rw[e1];rfl];have hyf:eQ cs (row,ys):=f2 _ (iU e2);have HJ:∀{H2:Hp},ζ H H2->ώ H2 a2 (.int row) (some (.ref l3)):=λs2=>by
     have:=ώ.k (k:=Sum.inl row) (s2 _ _ ha2);rw[e1]at this;exact this
    walk_at"ex";refine bV hu1 (HJ Ξ) ?_;walk_at"ex";refine⟨v,l3,cs,t,ys,rfl,hsv.same Ξ,hsh,hgd,Ξ _ _ hl3,hyf,?_⟩;have e2':aO cs os t (Α m row)=if ύ ys t=true then some (ϥ cs os ys)else none:=by rw[e2];rfl
    cases hlt:ύ ys t with
    |false=>
     walk_at"ex";rw[e2',hlt,if_neg abe,decide_eq_false (by intro z;cases z),ak5]at hsn;exact no _ _ _ _ ⟨⟨_,by rw[hsn,ak5]⟩,s4⟩
    |true=>
     rw[e2',hlt,if_pos rfl]at hsn;walk_at"ex";refine ο (Τ ?_);walk_at"ex";refine bV hu1 (HJ Ξ) ?_;walk_at"ex";refine⟨by show 2<=Ϫ;omega,λt5 ht5=>?_⟩;obtain⟨s5,e5⟩:=ϊ ht5 (.tup [.int row,.ref l3]);generalize upd H4 t5 (.tup [.int row,.ref l3])=H5 at s5 e5⊢;have aW:=Ξ.trans s5;walk_at"ex";refine⟨c,b,_,cs,os,(row,ys),rfl,hC.same aW,hO.same aW,⟨t5,l3,rfl,e5,aW _ _ hl3⟩,hyf.len,by omega,by omega,hin,λkp kk H6 s6 adb ach hkp hkk=>?_⟩;have uq:=aW.trans s6;walk_at"ex";refine⟨by show 2<=Ϫ;omega,λt7 ht7=>?_⟩;obtain⟨s7,e7⟩:=ϊ ht7 (.tup [.int row,.ref l]);generalize upd H6 t7 (.tup [.int row,.ref l])=H7 at s7 e7⊢;have jX:=uq.trans s7;walk_at"ex";refine⟨c,b,_,cs,os,(row,xs),rfl,hC.same jX,hO.same jX,⟨t7,l,rfl,e7,jX _ _ hl⟩,oM.len,by omega,by omega,hin,λkp2 Z8 H8 s8 al0 ali aaL VM=>?_⟩;have k1:=uv hyf hin;have k2':=uv oM hin;have CK:=s7.trans s8;have xW:RD K H8 (.ref kp) (eZ (ϥ cs os ys) row):=xg ⟨kk,CK _ _ hkp,CK _ _ hkk⟩ k1.lay;have qI:RD K H8 (.ref kp2) (eZ (ϥ cs os xs) row):=xg ⟨Z8,aaL,VM⟩ k2'.lay;walk_at"ex";refine iw hu xW qI (rW k1.lay) (rW k2'.lay) (by have:=Ge (ϥ cs os ys) row;omega) ?_;rw[J5 (λy hy=>(k1.lay y hy).1) (λy hy=>(k2'.lay y hy).1)];have Lg:=(s5.trans s6).trans CK;by_cases he:ϥ cs os ys=ϥ cs os xs
     .rw[decide_eq_true (show some (ϥ cs os ys)=some (ϥ cs os xs)by rw[he]),aob]at hsn;rw[decide_eq_true ⟨he,rfl⟩];walk_at"ex";exact Δ ⟨⟨_,by rw[hsn];rfl⟩,s4.trans Lg⟩
     .rw[decide_eq_false (λz=>he (Option.some.inj z)),ak5]at hsn;rw[decide_eq_false (λz=>he z.1)];walk_at"ex";refine ο ?_;walk_at"s";walk_at"ex";exact⟨⟨_,by rw[hsn,ak5];rfl⟩,s4.trans Lg⟩
  .obtain⟨⟨o4',rfl⟩,s4⟩:=hP;have eT:(Ss.drop mo).take (hv.drop mo).length=Ss.drop mo:=by rw[hSd.len,agC]
   rw[eT];have hst:(ύ xs t&&dU cs os t xs row (Ss.drop mo))=dU cs os t xs row (Ss.drop mo):=by
    cases hs:dU cs os t xs row (Ss.drop mo)with
    |false=>rw[ak5]
    |true=>
     have h1:=ady.mp hs Ss[mo] (by rw[List.drop_eq_getElem_cons hmo];exact acB ..);have h2:(if ύ xs t=true then some (ϥ cs os xs)else none)=some (ϥ cs os xs):=by
      have:=of_decide_eq_true h1;rw[hget]at this;exact this
     split at h2
     .next hl=>rw[hl];rfl
     .cases h2
   rw[hst];have Jd:((ks.take (i+1)).filter λk=>match Α Ss[mo] k with|some xs=>dU cs os t xs k (Ss.drop mo)|none=>false)=((ks.take i).filter λk=>match Α Ss[mo] k with|some xs=>dU cs os t xs k (Ss.drop mo)|none=>false)++(if dU cs os t xs row (Ss.drop mo)=true then[row]else[]):=by
    rw[ah8,hrow,aoG]
    congr 1
    show List.filter _ [row]=_;rw[List.filter_cons,hget];rfl
   have Dg:=(s3.trans s4) _ _ ep';have Jz:=(s3.trans s4) _ _ Lh;have hfl:(((ks.take i).filter λk=>match Α Ss[mo] k with|some xs=>dU cs os t xs k (Ss.drop mo)|none=>false).map V.int).length<=i:=by
    rw[ϱ];exact ah6 (ajl ..) (by rw[afr];omega)
   refine ο (Τ ?_);walk_at"ex";refine jJ (λhk=>?_) (λhk=>?_)
   .refine ο (ϟ (cH F.plainAttrs_list F.slot_list_append F.type_list_append (h:=?_)));walk_at"e";refine⟨.inl ⟨rfl,_,θ.of Dg⟩,?_⟩;walk_at"ex";refine dh fX ⟨p,_,_,rfl,rfl,Dg,by omega,?_⟩;refine⟨⟨_,_,_,_,rfl⟩,λx u e=>?_,by rw[ι hLp];exact Jz,?_⟩
    .rw[ι (Θ e hp)];exact(sm3.trans s4) _ _ e
    .rw[ρ,Jd,if_pos hk,agF];rfl
   .refine Δ ⟨⟨_,_,_,_,rfl⟩,sm3.trans s4,Jz,?_⟩;rw[Jd,if_neg (by rw[hk];exact abe),List.append_nil];exact Dg
 .obtain⟨⟨o1,o2,o3,o4,rfl⟩,sm,Lh,ep'⟩:=hP;rw[ϱ,agC]at ep';refine ο (Η ?_);walk_at"ex";refine q p _ H' sm hp ep' (hso.sublist akC) (agf.sublist akC) λi=>?_
  rw[akL];constructor
  .rintro⟨h1,h2⟩
   cases hg:Α Ss[mo] i with
   |none=>rw[hg]at h2;cases h2
   |some xs=>
    rw[hg]at h2;exact⟨ϥ cs os xs,λm hm=>of_decide_eq_true (ady.mp h2 m hm)⟩
  .rintro⟨k,hk⟩
   have h1:=hk Ss[mo] (by rw[List.drop_eq_getElem_cons hmo];exact acB ..);cases hg:Α Ss[mo] i with
   |none=>rw[hg]at h1;cases h1
   |some xs=>
    have ek:k=ϥ cs os xs:=by
     rw[hg]at h1;have h1':(if ύ xs t=true then some (ϥ cs os xs)else none)=some k:=h1;split at h1'
     .exact(Option.some.inj h1').symm
     .cases h1'
    refine⟨hpm.mem_iff.mpr (acL.mpr ⟨_,iU hg,rfl⟩),?_⟩;show dU cs os t xs i (Ss.drop mo)=true;exact ady.mpr λm hm=>decide_eq_true (by rw[hk m hm,ek])
def bD(all:List Φ):List (List Row):=(ad6 (all.length+1)).map λn=>az (all.take n)
def yt(cs:List ς)(os:List Ord)(t:Tr)(Ss:List (List Row))(mo:Nat)(i:Int):=∃k,∀m∈Ss.drop mo,aO cs os t (Α m i)=some k
structure aV(cs:List ς)(all:List Φ)(B:Bk):Prop where
 h:nO all B
 hd:B.heads=cs
 l:all.length<=12
 r8:∀d∈all,d.row∈bM
 ok:∀d∈all,∀xs,d.is=some xs->gP cs xs
theorem O3{all:List Φ}{n:Nat}(h:n<=all.length):(bD all)[n]?=some (az (all.take n)):=by
 unfold bD;rw[acy,anr (by omega)];rfl
theorem nQ(all:List Φ):(bD all).length=all.length+1:=by
 unfold bD;rw[ϱ,ahl]
theorem Lq{cs:List ς}{os:List Ord}{t:Tr}{all:List Φ}{j:Nat}{i:Int}(hj:j<=all.length):yt cs os t (bD all) j i↔∃k,aO cs os t (Α (az (all.take j)) i)=some k/\∀d∈all.drop j,d.row=i->aO cs os t d.is=some k:=by
 unfold yt;refine exists_congr λk=>?_
 rw[<-ag5 hj];constructor
 .intro h n h1 h2;refine h _ (aop.mpr ⟨n-j,?_⟩);rw[aoJ,show j+(n-j)=n by omega];exact O3 h2
 .intro h m hm;obtain⟨n,hn⟩:=aop.mp hm;rw[aoJ]at hn;have hl:=(aaF.mp hn).1;rw[nQ]at hl;rw[O3 (by omega)]at hn;cases hn;exact h _ (by omega) (by omega)
theorem uL{cs:List ς}:∀{n:Nat}{ds:List Φ},ds.length=n->(∀d∈ds,∀xs,d.is=some xs->gP cs xs)->∀i xs,Α (az ds) i=some xs->gP cs xs
 |0,ds,e,_,i,xs,h=>by rw[aeG.mp e]at h;cases h
 |n+1,ds,e,hd,i,xs,h=>by
  obtain⟨l,d,rfl⟩:∃l k,ds=l++[k]:=⟨_,_,(ae1 (aef e)).symm⟩;rw[v9,tW]at h;split at h
  .exact hd d (by simp) xs h
  .exact uL (by simpa using e) (λx hx=>hd x (by simp[hx])) i xs h
section
variable{cs:List ς}{os:List Ord}{t:Tr}{all:List Φ}{B:Bk}
theorem aV.since(T:aV cs all B){mo:Int}(h1:B.known<=mo):eX B mo=all.drop mo.toNat:=by
 have hk:=T.h.kn;show B.done.drop _=_;rw[T.h.done,aou]
 congr 1
 omega
theorem aV.rws(T:aV cs all B){mo:Int}(h1:B.known<=mo)(h2:mo<=B.now):f9 B.rows (eX B mo)/\∀i,Α (cI B mo) i=Α (az (all.take mo.toNat)) i:=by
 have hk:=T.h.kn;have hn:=T.h.now;obtain⟨e1,e2⟩:=back_eq T.h.good (all.length-mo.toNat) mo.toNat (by omega);show f9 B.rows (eX B mo)/\∀i,Α (cP B.rows (eX B mo)) i=_;rw[T.since h1,T.h.rows];exact⟨e2,e1⟩
theorem aV.good(T:aV cs all B){mo:Int}(h1:B.known<=mo)(h2:mo<=B.now):(cI B mo).length<64/\((cI B mo).map Prod.fst).Nodup/\∀r∈cI B mo,eQ cs r:=by
 have hs:=T.since h1;have hsub:∀d∈eX B mo,d.row∈bM:=λd hd=>T.r8 d (by rw[hs]at hd;exact ajN hd)
 have hn:((cI B mo).map Prod.fst).Nodup:=Ls (by rw[T.h.rows];exact tV all) _;have hin:∀k∈(cI B mo).map Prod.fst,k∈bM:=JQ (by rw[T.h.rows];exact mZ T.r8) hsub;have hl:=jY hn hin;rw[ϱ]at hl;have h8:bM.length=8:=rfl;refine⟨by omega,hn,λr hr=>?_⟩;have e:=mq hn hr;rw[(T.rws h1 h2).2]at e;exact uL rfl (λd hd=>T.ok d (afU hd)) _ _ e
theorem Wh{m:List (Int×Int×List V)}(h:(m.map (·.1)).Nodup)(d:Φ):((stepK cs os t m d).map (·.1)).Nodup:=by
 unfold stepK;split
 .split
  .exact h
  .exact SQ h
 .exact h
theorem Nq:∀(ds:List Φ){m:List (Int×Int×List V)},(m.map (·.1)).Nodup->((ds.foldl (stepK cs os t) m).map (·.1)).Nodup
 |[],_,h=>h
 |d::ds,_,h=>Nq ds (Wh h d)
theorem aV.due(T:aV cs all B){mo:Int}{rs:List Row}(h1:B.known<=mo)(h2:mo<=B.now)(hp:rs.Perm ((cI B mo).filter λr=>ύ r.2 t)):((rA cs os t B mo rs).map (·.1)).Nodup/\∀i,i∈(rA cs os t B mo rs).map (·.1)↔yt cs os t (bD all) mo.toNat i:=by
 have hk:=T.h.kn;have hn:=T.h.now;obtain⟨_,hrn,_⟩:=T.good h1 h2;have hg:=(T.rws h1 h2).2;refine⟨?_,λi=>?_⟩
 .refine Nq _ ?_;unfold bh;rw[afK];exact(hp.map Prod.fst).nodup_iff.mpr (hrn.sublist (List.Sublist.map _ akC))
 .rw[Uv,Lq (by omega)];unfold rA;rw[T.since h1];constructor
  .rintro⟨k,h⟩
   obtain⟨e1,e2⟩:=(Cj cs os t i _ _ k).mp h;obtain⟨_,e3⟩:=(Np hrn hp i k).mp e1;rw[hg]at e3;exact⟨k.2,e3,e2⟩
  .rintro⟨k,e1,e2⟩
   refine⟨(i,k),(Cj cs os t i _ _ (i,k)).mpr ⟨(Np hrn hp i (i,k)).mpr ⟨rfl,?_⟩,e2⟩⟩;rw[hg];exact e1
end
def Told(cs:List ς)(os:List Ord)(t:Tr)(all:List Φ)(mo:Int)(ks:List Int):Prop:=ks.Nodup/\ks.Pairwise (· <= ·)/\∀i,i∈ks↔yt cs os t (bD all) mo.toNat i
structure uz(cs:List ς)(os:List Ord)(t:Tr)(zo:Str):Prop where
 ok:Ϙ cs=true
 zl:zo.length<=4000
 ro:jA cs zo=some os
 o4:os.length<=4
 inc:fO cs os
 gt:bR cs t
 dp:t.dep<=20
 Ck:(wT (Β cs) t).length<=60
theorem NB{H:Hp}{A:BA}{B:Bk}{cs:List ς}{os:List Ord}{t:Tr}{zo:Str}{all:List Φ}(kB:Μ (cB mg) H A B)(hT:aV cs all B)(hA:uz cs os t zo):PN mg H A B os t zo:=by
 obtain⟨h,rfl,l,r8,ok⟩:=hT;have hsub:∀d∈B.done,d∈all:=λd hd=>by rw[h.done]at hd;exact ajN hd
 have hr:B.rows.length<=8:=by
  have:=jY (tV all) (mZ r8);rw[ϱ, <-h.rows]at this;exact this
 have hdl:B.done.length<=all.length:=by rw[h.done,afz];omega
 exact⟨kB,hA.ok,h.QW (by omega),by omega,by omega,hA.zl,hA.ro,hA.o4,hA.inc,hA.gt,hA.dp,hA.Ck,λd hd xs e=>ok d (hsub d hd) xs e⟩
def aaZ(K:ϩ)(mg:Str->Option ε)(t:Tr):Sp:=λvs H Q _=>∃(A:BA)(B:Bk)(tx:δ)(zo:Str)(mo:Int)(cs:List ς)(os:List Ord)(all:List Φ),vs=[.ref A.b,.ref tx,.int mo]/\H tx=some (.lst [.str zo,.str (Str.join " " (wT (Β cs) t))])/\ Μ (cB mg) H A B/\aV cs all B/\uz cs os t zo/\
 (mo<B.known->∀p H',ζ H H'->H' p=some (.tup [.str ("gone":Str),.int B.known])->Q (.ref p) H')/\
 (B.now<mo->∀p H',ζ H H'->H' p=some (.tup [.str ("later":Str),.int B.now])->Q (.ref p) H')/\
 (B.known<=mo->mo<=B.now->∀(p:δ)(ks:List Int)(H':Hp),ζ H H'->H' p=some (.lst (ks.map V.int))->Told cs os t all mo ks->Q (.ref p) H')
theorem aeP(T:Txt K mg):η mg "Gone"≠η mg "Later"/\η mg "LeafError"≠η mg "Gone":=by
 have h1:∀x∈[η mg "Gone"],x∉[η mg "LeafError",η mg "Later"]:=sZ T.Wr [8] [0,9] (by decide);have h1:=h1 _ (ac8.mpr rfl);exact⟨λe=>h1 (by rw[e];simp),λe=>h1 (by rw[e];simp)⟩
theorem Bu(T:Txt K mg)(t:Tr):Def P w K mg base true (11+2*t.dep) "_law_asked" ["_law_book","_law_texts","_law_moment"] (aaZ K mg t):=by
 rw[show 11+2*t.dep=(10+2*t.dep)+1 by omega];refine Ο T.Bu Ox (λf Ϲ A' outer s H vs Q E hr h=>?_);intro X;obtain⟨A,B,tx,zo,mo,cs,os,all,rfl,htx,kB,hT,hA,qg,ql,q⟩:=h;have nd:=Ox.nd;have hsz:=ϳ;obtain⟨ne1,ne2⟩:=aeP T;have D1:= @vd P w K mg base T t;walk_at"A";refine ξ ?_;refine Ld (λσ c d H'=>σ=[some (.ref A.b),some (.ref tx),some (.int mo),some .non,none]/\ζ H H'/\∃E',d=(some E',true)/\((c=.ref (η mg "Gone")/\mo<B.known/\H' E'=some (.xd [("known",.int B.known)]))\/(c=.ref (η mg "Later")/\B.now<mo/\H' E'=some (.xd [("now",.int B.now)])))) rfl rfl (λF pn xo po=>?_) (λσ c d H' hK=>?_)
 .refine ο ?_;walk_at"s";walk_at"ex";refine ϖ (θ.of htx) (v:=.str zo) (ϔ (j:=0) rfl) ?_;walk_at"ex";refine ϖ (θ.of htx) (v:=.str (Str.join " " (wT (Β cs) t))) (ϔ (j:=1) rfl) ?_;walk_at"ex";obtain rfl:=hT.hd;refine⟨A,B,zo,mo,os,rfl,NB kB hT hA,λh e H' sm he=>⟨rfl,sm,e,rfl,.inl ⟨rfl,h,he⟩⟩,λh e H' sm he=>⟨rfl,sm,e,rfl,.inr ⟨rfl,h,he⟩⟩,λh1 h2=>?_⟩;obtain⟨g1,g2,g3⟩:=hT.good h1 h2;refine⟨(hT.rws h1 h2).1,g1,g2,g3,λp rs ks H' sm hp ep hrs hso hpm=>?_⟩;refine Δ (ο (Η ?_));walk_at"ex";obtain⟨d1,d2⟩:=hT.due (os:=os) h1 h2 hrs;exact q h1 h2 p ks H' sm ep ⟨hpm.nodup_iff.mpr d1,hso,λi=>by rw[hpm.mem_iff];exact d2 i⟩
 .obtain⟨rfl,sm,E',rfl,hk⟩:=hK;obtain⟨rfl,hmo,hE'⟩|⟨rfl,hmo,hE'⟩:=hk
  .refine Mv nd T.tD.at_ (Jc T.tD) (λe pn he=>?_);have ur:(upd H' e (xw e (η mg "Gone") (some E'))) e=some (xw e (η mg "Gone") (some E')):=ρ;have hE:(upd H' e (xw e (η mg "Gone") (some E'))) E'=some (.xd [("known",.int B.known)]):=by rw[ι (Θ hE' he)];exact hE'
   have qG:ζ H (upd H' e (xw e (η mg "Gone") (some E'))):=sm.trans (ζ.upd he);generalize upd H' e (xw e (η mg "Gone") (some E'))=Hu at ur hE qG⊢;refine ο ?_;walk_at"s";walk_at"ex";refine Ie (e:=e) (C:=η mg "Gone") (E':=E') (v:=.int B.known) (fs:=[("known",.int B.known)]) (by rfl) T.tD.attr T.Yd (λu z=>by obtain⟨t,rfl⟩:=z;rfl) ?_;walk_at"e";refine⟨rfl,ur,hE,rfl,?_⟩;walk_at"ex";refine⟨by show 2<=Ϫ;omega,λp hp=>?_⟩;show Κ _ _ _ [some (.ref A.b),some (.ref tx),some (.int mo),some (.ref p),none] _;refine ο (Η ?_);walk_at"ex";exact qg hmo p _ (qG.trans (ζ.upd hp)) ρ
  .refine acV (by rfl) T.tD.at_ (by decide) (af7 T.xP T.tD (Ne.symm ne1) ne2) ?_;refine Mv nd T.xP.at_ (Jc T.xP) (λe pn he=>?_);have ur:(upd H' e (xw e (η mg "Later") (some E'))) e=some (xw e (η mg "Later") (some E')):=ρ;have hE:(upd H' e (xw e (η mg "Later") (some E'))) E'=some (.xd [("now",.int B.now)]):=by rw[ι (Θ hE' he)];exact hE'
   have qG:ζ H (upd H' e (xw e (η mg "Later") (some E'))):=sm.trans (ζ.upd he);generalize upd H' e (xw e (η mg "Later") (some E'))=Hu at ur hE qG⊢;refine ο ?_;walk_at"s";walk_at"ex";refine Ie (e:=e) (C:=η mg "Later") (E':=E') (v:=.int B.now) (fs:=[("now",.int B.now)]) (by rfl) T.xP.attr T.aaR (λu z=>by obtain⟨t,rfl⟩:=z;rfl) ?_;walk_at"e";refine⟨rfl,ur,hE,rfl,?_⟩;walk_at"ex";refine⟨by show 2<=Ϫ;omega,λp hp=>?_⟩;show Κ _ _ _ [some (.ref A.b),some (.ref tx),some (.int mo),some (.ref p),none] _;refine ο (Η ?_);walk_at"ex";exact ql hmo p _ (qG.trans (ζ.upd hp)) ρ
end
end K67
namespace K67
open PySem L2 PyProof.Rows My Vl Lw
section
variable{P:ϯ}{w:Ϭ}{K:ϩ}{mg:Str->Option ε}{base:ϫ}
def Ei(j:Nat)(n:Int):alY:=if j=0 then .tuple [.int n]else if j=1 then .tuple [.int n,.list [],.bool true]else .tuple [.int n,.none]
def cW(p:δ)(j:Nat)(H:Hp)(v:V)(n:Int):=∃t,v=.ref t/\((j=0/\H t=some (.tup [.int n]))\/(j=1/\∃e,¬e=p/\H t=some (.tup [.int n,.ref e,.bl true])/\H e=some (.lst []))\/(j=2/\H t=some (.tup [.int n,.non])))
theorem cW.same{p:δ}{j:Nat}{H H':Hp}{v:V}{n:Int}(h:cW p j H v n)(s:ζ H H'):cW p j H' v n:=by
 obtain⟨t,e,h⟩:=h;obtain⟨a,b⟩|⟨a,e2,b,c,d⟩|⟨a,b⟩:=h
 .exact⟨t,e,.inl ⟨a,s _ _ b⟩⟩
 .exact⟨t,e,.inr (.inl ⟨a,e2,b,s _ _ c,s _ _ d⟩)⟩
 .exact⟨t,e,.inr (.inr ⟨a,s _ _ b⟩)⟩
theorem cW.upd{p:δ}{j:Nat}{H:Hp}{v:V}{n:Int}{ys:List V}{o:HO}(h:cW p j H v n)(ep:H p=some (.lst ys)):cW p j (upd H p o) v n:=by
 have ne:∀t zs,H t=some (.tup zs)->(L2.upd H p o) t=some (.tup zs):=λt zs e=>by rw[ι (λz=>by rw[z,ep]at e;cases e)];exact e
 obtain⟨t,e,h⟩:=h;obtain⟨a,b⟩|⟨a,e2,b,c,d⟩|⟨a,b⟩:=h
 .exact⟨t,e,.inl ⟨a,ne _ _ b⟩⟩
 .exact⟨t,e,.inr (.inl ⟨a,e2,b,ne _ _ c,by rw[ι b];exact d⟩)⟩
 .exact⟨t,e,.inr (.inr ⟨a,ne _ _ b⟩)⟩
theorem cW.tell{p:δ}{j:Nat}{H:Hp}{v:V}{n:Int}(h:cW p j H v n):Hr H v n:=by
 obtain⟨t,e,⟨_,b⟩|⟨_,e2,_,b,_⟩|⟨_,b⟩⟩:=h
 .exact⟨t,_,e,b⟩
 .exact⟨t,_,e,b⟩
 .exact⟨t,_,e,b⟩
theorem cW.rd{p:δ}{j:Nat}{H:Hp}{v:V}{n:Int}(h:cW p j H v n):RD K H v (Ei j n):=by
 obtain⟨t,rfl,⟨rfl,b⟩|⟨rfl,e2,_,b,d⟩|⟨rfl,b⟩⟩:=h
 .exact .tup (ω.of b) (.cons (.int n) .nil)
 .exact .tup (ω.of b) (.cons (.int n) (.cons (.lst (θ.of d) .nil) (.cons (.bl true) .nil)))
 .exact .tup (ω.of b) (.cons (.int n) (.cons .non .nil))
structure yX(d:alY):Prop where
 lay:d.canLay0=true
 dep:d.depth<=4
 self:PyData.eqv d d=true
theorem agR(j:Nat)(n:Int):yX (Ei j n):=by
 unfold Ei;split
 .exact⟨rfl,by show(_:Nat)<=4;exact akV rfl,by show((n==n)&&true)=true;rw[beq_self_eq_true];rfl⟩
 .split
  .exact⟨rfl,by show(_:Nat)<=4;exact akV rfl,by show((n==n)&&(true&&(true&&true)))=true;rw[beq_self_eq_true];rfl⟩
  .exact⟨rfl,by show(_:Nat)<=4;exact akV rfl,by show((n==n)&&(true&&true))=true;rw[beq_self_eq_true];rfl⟩
def V7(p:Int×Int):alY:=.tuple [.int p.1,.int p.2]
theorem Rc(p:Int×Int):yX (V7 p):=⟨rfl,by show(_:Nat)<=4;exact akV rfl,by show((p.1==p.1)&&((p.2==p.2)&&true))=true;rw[beq_self_eq_true,beq_self_eq_true];rfl⟩
theorem wX{α:Type}{H:Hp}{R:V->α->Prop}{f:α->alY}(nf:∀x,yX (f x))(g:∀u x,R u x->RD K H u (f x)):∀{us:List V}{xs:List α},ψ R us xs->bW K H us (xs.map f)/\PyData.canLayAll0 (xs.map f)=true/\PyData.depthAll (xs.map f)<=4/\PyData.eqvAll (xs.map f) (xs.map f)=true
 |_,_,.nil=>⟨.nil,rfl,by show(0:Nat)<=4;omega,rfl⟩
 |u::us,x::xs,.cons h r=>by
  obtain⟨i1,i2,i3,i4⟩:=wX nf g r;obtain⟨n1,n2,n3⟩:=nf x;refine⟨.cons (g _ _ h) i1,?_,?_,?_⟩
  .show((f x).canLay0&&PyData.canLayAll0 (xs.map f))=true;rw[n1,i2];rfl
  .show max (f x).depth (PyData.depthAll (xs.map f))<=4;omega
  .show(PyData.eqv (f x) (f x)&&PyData.eqvAll (xs.map f) (xs.map f))=true;rw[n3,i4];rfl
theorem Gn{ds:List alY}(h:PyData.depthAll ds<=4):(PyData.list ds).depth<=60:=by
 simp only[PyData.depth];omega
def agr(K:ϩ):Sp:=λvs H Q _=>∃(a:δ)(ns:List Int),vs=[.ref a]/\θ K H a (ns.map V.int)/\ns.length<=63/\∀H',ζ H H'->Q (.bl true) H'
theorem Bj(T:Txt K mg):Def P w K mg base true 2 "_law_are_sights" ["_law_script"] (agr K):=by
 refine Ο T.Bj Sv (λ_ _ A _ _ H vs Q E hr h=>?_);intro X;obtain⟨a,ns,rfl,hS,hl,q⟩:=h;have nd:=Sv.nd;have n1:=T.mX;have n2:=T.uB;have n3:=T.Ep;have n4:=T.ji;have n5:=T.ux;have hu:=hr.units;have hsz:=ϳ;have D1:= @gG P w K mg base T;have D2:= @zZ P w K mg base T;have rest:∀(nl:δ)(ms U:List Int)(H1:Hp),H1 nl=some (.lst (ms.map V.int))->ζ H H1->ms.length<=12->p6 U->(∀x∈ms,x∈U)->Κ X ((ϝ sI).drop 2) {nx:=λ_ H'=>Q .non H',rt:=Q} [some (.ref a),some (.ref nl),none,none,none,none,none] H1:=by
  intro nl ms U H1 oR s1 gh F hU;have hmm:(ms.map V.int).length=ms.length:=ϱ ..;walk_at"A";refine⟨by show 0<=Ϫ;omega,λp hp=>?_⟩;obtain⟨s2,ep⟩:=ϊ hp (.lst []);generalize upd H1 p (.lst [])=H2 at s2 ep⊢;have j0:=aJ ns 197 (m:=3) (by decide);have j1:=aK ns 197 (m:=3) (by decide);have ej:Χ ns 197 3=(((Χ ns 197 3).toNat:Nat):Int):=by omega
  generalize hj:(Χ ns 197 3).toNat=j at ej;have hj3:j=0\/j=1\/j=2:=by omega
  refine ξ (ie (by walk_at"po") (by rfl) (by intro _;rfl) ?_);walk_at"ex";refine⟨nl,_,rfl,θ.of (s2 _ _ oR),λi σ H'=>(∃o3,σ=[some (.ref a),some (.ref nl),some (.ref p),o3,none,none,none])/\ζ H1 H'/\∃us,H' p=some (.lst us)/\ψ (cW p j H') us (ms.take i),⟨⟨none,rfl⟩,s2,[],ep,.nil⟩,λi σ' H' _ hP=>θ.of (hP.2.1 _ _ oR),λi x σ' H' hx hP=>?_,λσ' H' hP=>?_⟩
  .obtain⟨⟨o3,rfl⟩,sm,us,eu,hus⟩:=hP;rw[acy]at hx;obtain⟨n,hn,rfl⟩:=afi.mp hx;have hi:=(aaF.mp hn).1;have Ef:=hus.len;have htl:(ms.take i).length<=i:=by rw[afr];omega
   refine Ι nd (by rfl) (.inl rfl) (.inl rfl) ?_;refine ο (ϟ (cH PySem.F.plainAttrs_list PySem.F.slot_list_append PySem.F.type_list_append (h:=?_)));walk_at"e";refine⟨.inl ⟨rfl,_,θ.of eu⟩,?_⟩;walk_at"ex";refine⟨by show 1<=Ϫ;omega,λt1 ht1=>?_⟩;have a1:ζ H' (upd H' t1 (.tup [.int n])):=ζ.upd ht1;have b1:(upd H' t1 (.tup [.int n])) t1=some (.tup [.int n]):=ρ;change EA _ _ _ (upd H' t1 (.tup [.int n])) _;generalize upd H' t1 (.tup [.int n])=H3 at a1 b1⊢;walk_at"ex";refine⟨by show 0<=Ϫ;omega,λe1 qK=>?_⟩;obtain⟨a2,b2⟩:=ϊ qK (.lst []);have ne1:¬e1=p:=λz=>by rw[z,a1 _ _ eu]at qK;cases qK
   change EA _ _ _ (upd H3 e1 (.lst [])) _;generalize upd H3 e1 (.lst [])=H4 at a2 b2⊢;walk_at"ex";refine⟨by show 3<=Ϫ;omega,λt2 fL=>?_⟩;obtain⟨a3,b3⟩:=ϊ fL (.tup [.int n,.ref e1,.bl true]);change EA _ _ _ (upd H4 t2 (.tup [.int n,.ref e1,.bl true])) _;generalize upd H4 t2 (.tup [.int n,.ref e1,.bl true])=H5 at a3 b3⊢;walk_at"ex";refine⟨by show 2<=Ϫ;omega,λt3 ht3=>?_⟩;obtain⟨a4,b4⟩:=ϊ ht3 (.tup [.int n,.non]);change EA _ _ _ (upd H5 t3 (.tup [.int n,.non])) _;generalize upd H5 t3 (.tup [.int n,.non])=H6 at a4 b4⊢;walk_at"ex";refine⟨by show 3<=Ϫ;omega,λl3 hl3=>?_⟩;obtain⟨a5,b5⟩:=ϊ hl3 (.lst [.ref t1,.ref t2,.ref t3]);change EV _ _ _ (upd H6 l3 (.lst [.ref t1,.ref t2,.ref t3])) _;generalize upd H6 l3 (.lst [.ref t1,.ref t2,.ref t3])=H7 at a5 b5⊢;have qb:=a1.trans (a2.trans (a3.trans (a4.trans a5)));have a17:=s1.trans (sm.trans qb);walk_at"ex";refine⟨a,ns,197,3,rfl,a17.seq hS,hl,by decide,by decide,by decide,?_⟩;rw[ej];have pick:∃tj,([V.ref t1,.ref t2,.ref t3]:List V)[j]?=some (.ref tj)/\cW p j H7 (.ref tj) n:=by
    obtain rfl|rfl|rfl:=hj3
    .exact⟨t1,rfl,t1,rfl,.inl ⟨rfl,(a2.trans (a3.trans (a4.trans a5))) _ _ b1⟩⟩
    .exact⟨t2,rfl,t2,rfl,.inr (.inl ⟨rfl,e1,ne1,(a4.trans a5) _ _ b3,(a3.trans (a4.trans a5)) _ _ b2⟩)⟩
    .exact⟨t3,rfl,t3,rfl,.inr (.inr ⟨rfl,a5 _ _ b4⟩)⟩
   obtain⟨tj,hget,hsm⟩:=pick;refine ϖ (θ.of b5) (ϔ hget) ?_;walk_at"ex";refine dh fX ⟨p,_,_,rfl,rfl,qb _ _ eu,by omega,?_⟩;refine⟨⟨_,rfl⟩,λx o e=>?_,_,ρ,?_⟩
   .rw[ι (Θ e hp)];exact(sm.trans qb) _ _ e
   .have et:ms.take (i+1)=ms.take i++[n]:=by rw[ah8,hn];rfl
    rw[et];exact ψ.imp (λu x z=>cW.upd z (qb _ _ eu)) (ψ.app (ψ.imp (λu x (z:cW p j H' u x)=>z.same qb) hus) (.cons hsm .nil))
  .obtain⟨⟨o3,rfl⟩,sm,us,eu,hus⟩:=hP;rw[hmm,agC]at hus;walk_at"A";refine⟨by show 0<=Ϫ;omega,λd hd=>?_⟩;have s3:ζ H' (upd H' d (.lst [])):=ζ.upd hd;have ed:(upd H' d (.lst [])) d=some (.lst []):=ρ;generalize upd H' d (.lst [])=H3 at s3 ed⊢;refine ξ (ie (by walk_at"po") (by rfl) (by intro _;rfl) ?_);walk_at"cb";walk_at"ex";refine aar (by rfl) (θ.of ((sm.trans s3) _ _ oR)) (by omega) F hU λS hS0=>?_
   have s4:=ζ.upd (o:=jh X S (Ϛ ms)) hS0;walk_at"ex";refine abf (by rfl) ρ F hU λL ks hL hpm hso=>?_
   have hLd:¬L=d:=λz=>by rw[z,s4 _ _ ed]at hL;cases hL
   have s5:=ζ.upd (o:=.lst (ks.map V.int)) hL;have dM:=s4.trans s5;have eL:=ρ (H:=upd H3 S (jh X S (Ϛ ms))) (a:=L) (o:=.lst (ks.map V.int));generalize upd (upd H3 S (jh X S (Ϛ ms))) L (.lst (ks.map V.int))=H5 at dM eL⊢;clear s4 s5;have NQ:ks.Nodup:=hpm.nodup_iff.mpr Py;have mk:∀x,x∈ks↔x∈ms:=λx=>by rw[hpm.mem_iff];exact qH _ ms rfl x
   have kl:ks.length<=12:=by have:=jY NQ (m:=ms) λx hx=>(mk x).mp hx;omega
   refine⟨L,_,rfl,θ.of eL,λi σ H'=>(∃o3,σ=[some (.ref a),some (.ref nl),some (.ref p),o3,some (.ref d),none,none])/\Out [d] H5 H'/\∃ws,H' d=some (.lst ws)/\ψ (jV H') ws ((ks.take i).map λk=>(k,((ms.count k:Nat):Int))),⟨⟨_,rfl⟩,Out.refl _ _,[],dM _ _ ed,.nil⟩,λi σ' H' _ hP=>θ.of (hP.2.1 _ _ (by simpa using hLd) eL),λi x σ' H6 hx hP=>?_,λσ' H6 hP=>?_⟩
   .obtain⟨⟨o3,rfl⟩,o6,ws,ew,hws⟩:=hP;rw[acy]at hx;obtain⟨n,hn,rfl⟩:=afi.mp hx;have hi:=(aaF.mp hn).1;have hwl:=hws.len;have htl:((ks.take i).map λk=>(k,((ms.count k:Nat):Int))).length<=i:=by rw[ϱ,afr];omega
    have nd':¬nl=d:=λz=>by rw[z]at oR;rw[sm _ _ oR]at hd;cases hd
    have Mr:=o6 _ _ (by simpa using nd') ((sm.trans (s3.trans dM)) _ _ oR);refine Ι nd (by rfl) (.inl rfl) (.inl rfl) ?_;refine ο (ϟ (cH PySem.F.plainAttrs_list PySem.F.slot_list_append PySem.F.type_list_append (h:=?_)));walk_at"e";refine⟨.inl ⟨rfl,_,θ.of ew⟩,?_⟩;walk_at"ex";refine cH PySem.F.plainAttrs_list PySem.F.slot_list_count PySem.F.type_list_count (h:=?_);walk_at"e";refine⟨.inl ⟨rfl,_,θ.of Mr⟩,?_⟩;walk_at"ex";refine Z4 (θ.of Mr) ?_;walk_at"ex";refine⟨by show 2<=Ϫ;omega,λtc htc=>?_⟩;obtain⟨s7,e7⟩:=ϊ htc (.tup [.int n,.int (ms.count n:Nat)]);generalize upd H6 tc (.tup [.int n,.int (ms.count n:Nat)])=H7 at s7 e7⊢;walk_at"ex";refine dh fX ⟨d,_,_,rfl,rfl,s7 _ _ ew,by omega,?_⟩;refine⟨⟨_,rfl⟩,(o6.trans (Out.of s7)).trans (Out.upd (by simp)),_,ρ,?_⟩;have et:(ks.take (i+1)).map (λk=>(k,((ms.count k:Nat):Int)))=(ks.take i).map (λk=>(k,((ms.count k:Nat):Int)))++[(n,((ms.count n:Nat):Int))]:=by rw[ah8,hn,agF];rfl
    rw[et];refine ψ.imp (R:=jV H7) (λu x z=>?_) (ψ.app (ψ.imp (R:=jV H6) (λu x z=>?_) hws) (.cons ⟨tc,rfl,e7⟩ .nil))
    .obtain⟨t,e,g⟩:=z;exact⟨t,e,by rw[ι (λy=>by rw[y,s7 _ _ ew]at g;cases g)];exact g⟩
    .obtain⟨t,e,g⟩:=z;exact⟨t,e,s7 _ _ g⟩
   .obtain⟨⟨o3,rfl⟩,o6,ws,ew,hws⟩:=hP;rw[ϱ,agC]at hws;have rO:ζ H' H6:=λx o e=>o6 _ _ (by rw[ac8];exact λz=>by rw[z,hd]at e;cases e) ((s3.trans dM) _ _ e)
    have Rv:=rO _ _ eu;walk_at"A";refine gn (.inl (θ.of Rv)) λhd2 aa7=>?_
    obtain⟨s7,e7⟩:=ϊ aa7 (.lst us);generalize upd H6 hd2 (.lst us)=H7 at s7 e7⊢;have R9:ψ (cW p j H7) us ms:=hus.imp λu x z=>z.same (rO.trans s7)
    walk_at"A";refine⟨hd2,us,ms,rfl,e7,R9.imp λu x z=>z.tell,by omega,λfd Az nA H8 s8 Sx Ot lz ajz=>?_⟩;have ek:nA=ks:=Oo (λx=>by rw[Ot.mem_iff,mk x];exact R7) (Ot.nodup_iff.mpr (Rn _ ms rfl)) NQ lz hso;subst ek;obtain⟨r1,r2,r3,r4⟩:=wX (K:=K) (H:=H8) (R:=jV H8) Rc (λu x z=>by obtain⟨t,rfl,g⟩:=z;exact .tup (ω.of g) (.cons (.int _) (.cons (.int _) .nil))) ajz;obtain⟨q1,_⟩:=wX (K:=K) (H:=H8) (R:=jV H8) Rc (λu x z=>by obtain⟨t,rfl,g⟩:=z;exact .tup (ω.of g) (.cons (.int _) (.cons (.int _) .nil))) (hws.imp λu x z=>show jV H8 u x from by obtain⟨t,e,g⟩:=z;exact⟨t,e,(s7.trans s8) _ _ g⟩);obtain⟨u1,u2,u3,u4⟩:=wX (K:=K) (H:=H8) (R:=cW p j H8) (agR j) (λu x z=>z.rd) (R9.imp λu x z=>z.same s8);refine ο (Η ?_);walk_at"ex";refine S9 Sx ?_;walk_at"ex";refine N6 hu (.lst (θ.of Sx) r1) (.lst (θ.of ((s7.trans s8) _ _ ew)) q1) r2 r2 (Gn r3) ?_;rw[show PyData.eqv (.list _) (.list _)=true from r4];walk_at"ex";refine N6 hu (.lst (θ.of (s8 _ _ e7)) u1) (.lst (θ.of ((s7.trans s8) _ _ Rv)) u1) u2 u2 (Gn u3) ?_;rw[show PyData.eqv (.list _) (.list _)=true from u4];exact q _ (s1.trans (sm.trans (rO.trans (s7.trans s8))))
 refine ξ ?_;have qm:(["_law_number"]:List Str).Nodup:=by decide+kernel
 have eU:(["_law_k","_law_script"]:List Str).Nodup:=by decide+kernel
 refine ac2 ["_law_k","_law_script"] (σ':=[none,some (.ref a)]) (by rfl) (by rfl) (by rfl) (bK (υ sI)) nd (by rfl) (by rfl) (by rfl) n1 (by rfl) ?_;walk_at"ex";refine⟨a,ns,199,13,rfl,hS,hl,by decide,by decide,by decide,?_⟩;have m0:=aJ ns 199 (m:=13) (by decide);have m1:=aK ns 199 (m:=13) (by decide);generalize Χ ns 199 13=mv at m0 m1⊢;obtain⟨m,rfl⟩:=adK m0;refine⟨_,rfl,by omega,by omega,λτ=>∃o1,τ=[o1,some (.ref a)],λE2 i u H'=>u=.int (Χ ns (200+(i:Int)) 5),⟨none,rfl⟩,λE2 i u H2 H3 ys _ _ p=>p,λfp E2 C s3 H0 i τ x H4 H3 bU hi hτ Ξ hys hG=>?_,λnl H1 xs hnl hl2 hx e2 Ε =>?_⟩
 .obtain⟨o1,rfl⟩:=hτ;obtain⟨rfl,rfl⟩:=hG;refine Ι eU (by rfl) (.inl rfl) (.inr rfl) ?_;walk_at"ex";refine⟨a,ns,_,5,rfl,Ξ.seq hS,hl,by omega,by omega,by decide,?_⟩;exact⟨⟨_,rfl⟩,rfl,ζ.refl _⟩
 have ex:=gb (ys:=ad6 m) (λi:Nat=>V.int (Χ ns (200+(i:Int)) 5)) (by rw[hl2,ahl];rfl) (λi v e=>⟨i,?_,hx i v e⟩)
 .have lJ:xs=((ad6 m).map λi:Nat=>Χ ns (200+(i:Int)) 5).map V.int:=by
   rw[ex,afK];rfl
  have hms:∀x∈(ad6 m).map (λi:Nat=>Χ ns (200+(i:Int)) 5),0<=x/\x<5:=λx hx=>by
   obtain⟨i,_,rfl⟩:=acL.mp hx;exact⟨aJ ns _ (by decide),aK ns _ (by decide)⟩
  have gh:((ad6 m).map (λi:Nat=>Χ ns (200+(i:Int)) 5)).length<=12:=by rw[ϱ,ahl];omega
  subst lJ;generalize(ad6 m).map (λi:Nat=>Χ ns (200+(i:Int)) 5)=ms at hms gh e2;refine ξ (Τ ?_);walk_at"ex";refine⟨a,ns,198,3,rfl,Ε.seq hS,hl,by decide,by decide,by decide,?_⟩;generalize Χ ns 198 3=w3;walk_at"ex";refine Ζ (λh=>?_) (λh=>?_)
  .refine ο ?_;refine zY ["_law_number"] (σ':=[none]) (bK (υ sI)) nd ?_;walk_at"ex";refine⟨nl,_,rfl,θ.of e2,by rw[ϱ];omega,λτ=>∃o1,τ=[o1],λE2 i u H'=>∃n,ms[i]?=some n/\u=.int (1000000000-n),⟨none,rfl⟩,λE2 i u H2 H3 ys _ _ p=>p,λfp E2 C s9 H0 i τ x H6 H7 bU hi hτ uq hys hG=>?_,λnl2 H6 ys am8 hl6 hx6 e6 s6=>?_⟩
   .obtain⟨o1,rfl⟩:=hτ;obtain⟨bN,rfl⟩:=hG;rw[acy]at bN;obtain⟨n,hn,rfl⟩:=afi.mp bN;refine Ι qm (by rfl) (.inl rfl) (.inr rfl) ?_;walk_at"ex";exact⟨⟨_,rfl⟩,⟨n,hn,rfl⟩,ζ.refl _⟩
   .have ey:=gb (ys:=ms) (λn=>V.int (1000000000-n)) (by rw[hl6,ϱ]) hx6;have fW:ys=(ms.map λn=>1000000000-n).map V.int:=by rw[ey,afK];rfl
    subst fW;refine rest nl2 _ _ H6 e6 (Ε.trans s6) (by rw[ϱ];exact gh) aeI λx hx=>?_
    obtain⟨n,hn,rfl⟩:=acL.mp hx;obtain⟨h0,h5⟩:=hms n hn;have:n=0\/n=1\/n=2\/n=3\/n=4:=by omega
    obtain rfl|rfl|rfl|rfl|rfl:=this<;>decide
  .refine Δ (rest nl ms _ H1 e2 Ε gh acj λx hx=>?_);obtain⟨h0,h5⟩:=hms x hx;have:x=0\/x=1\/x=2\/x=3\/x=4:=by omega
   obtain rfl|rfl|rfl|rfl|rfl:=this<;>decide
 .have :=(aaF.mp e).1;rw[anr (by rw[hl2]at this;simpa using this)]
theorem ais{cs:List ς}:∀{t:Tr},jy t->(wT (Β cs) t).length<=60/\t.dep<=1
 |.one .all,_=>⟨by show 1<=60;decide,by show 0<=1;decide⟩
 |.one (.none _),_=>⟨by show 2<=60;decide,by show 0<=1;decide⟩
 |.one (.look _ _ _),_=>⟨by show 3<=60;decide,by show 0<=1;decide⟩
 |.nt (.one .all),_=>⟨by show 2<=60;decide,by show 1<=1;decide⟩
 |.nt (.one (.none _)),_=>⟨by show 3<=60;decide,by show 1<=1;decide⟩
 |.nt (.one (.look _ _ _)),_=>⟨by show 4<=60;decide,by show 1<=1;decide⟩
 |.nt (.nt _),h=>h.elim
 |.nt (.bo _ _),h=>h.elim
 |.nt (.ei _ _),h=>h.elim
 |.bo _ _,h=>h.elim
 |.ei _ _,h=>h.elim
theorem bH.stay{H H':Hp}(s:∀x ys,H x=some (.tup ys)->H' x=some (.tup ys)):∀{t:Tr}{v:V},bH H v t->bH H' v t
 |.one .all,_,⟨t,e,h⟩=>⟨t,e,s _ _ h⟩
 |.one (.none p),_,⟨t,e,h⟩=>⟨t,e,s _ _ h⟩
 |.one (.look l p x),_,⟨t,e,h⟩=>⟨t,e,s _ _ h⟩
 |.nt t,_,⟨a,u,e,h,g⟩=>⟨a,u,e,s _ _ h,bH.stay s g⟩
 |.bo _ _,_,h=>h.elim
 |.ei _ _,_,h=>h.elim
theorem nM{A:BA}:∀x∈A.fp,x∈A.six:=λx hx=>by
 have hx':x=A.b\/x=A.r\/x=A.t\/x=A.d:=by simpa [BA.fp]using hx
 obtain rfl|rfl|rfl|rfl:=hx'<;>simp[BA.six]
theorem ϡ.live{F:List δ}{A:BA}{d r s:δ}{H:Hp}{B:Bk}{n:Int}{m:List (Int×List V)}{sn:List (Int×Int)}(h:ϡ mg F A d r s H B n m sn):∀x∈d::r::s::A.fp,(∃o,H x=some o/\∀ys,¬o=.tup ys):=λx hx=>by
 have hx':x∈[d,r,s]\/x∈A.fp:=by
  simp only[List.mem_cons,List.not_mem_nil,or_false]at hx⊢;obtain z|z|z|z:=hx
  .exact .inl (.inl z)
  .exact .inl (.inr (.inl z))
  .exact .inl (.inr (.inr z))
  .exact .inr z
 obtain hx|hx:=hx'
 .obtain⟨Ϸ,e⟩:=h.dicts x hx;exact⟨_,e,λys z=>by cases z⟩
 .obtain⟨fs,z⟩|⟨Ϸ,z⟩|⟨xs,z⟩:=h.bk.zU hx<;>exact⟨_,z,λys z=>by cases z⟩
def V3(F:List δ)(H:Hp)(v:V)(xs:List V):=∃l,v=.ref l/\l∉F/\H l=some (.lst xs)
def oE(F:List δ)(H:Hp)(v:V)(m:List Row):=∃a Ϸ,v=.ref a/\a∉F/\H a=some (.dK Ϸ)/\ψ (PR (V3 F H)) Ϸ m
theorem oE.out{F:List δ}{H H':Hp}{v:V}{m:List Row}(h:oE F H v m)(o:Out F H H'):oE F H' v m:=by
 obtain⟨a,Ϸ,e,h1,h2,h3⟩:=h;exact⟨a,Ϸ,e,h1,o _ _ h1 h2,ao h3 λv xs ⟨l,e,g1,g2⟩=>⟨l,e,g1,o _ _ g1 g2⟩⟩
theorem oE.at_{F:List δ}{H:Hp}{v:V}{m:List Row}(h:oE F H v m):jB H v m:=by
 obtain⟨a,Ϸ,e,_,h2,h3⟩:=h;exact⟨a,Ϸ,e,h2,ao h3 λv xs ⟨l,e,_,g2⟩=>⟨l,e,g2⟩⟩
abbrev fF(A:BA)(d r s kh:δ):List δ:=kh::d::r::s::A.fp
structure yQ(K:ϩ)(H1:Hp)(A:BA)(a c d r s b tx kh:δ)(v:V)(ns:List Int)(cs:List ς)(os:List Ord)(t0:Tr):Prop where
 nt:NT H1 (fF A d r s kh)
 cF:c∉fF A d r s kh
 bF:b∉fF A d r s kh
 tF:tx∉fF A d r s kh
 sF:(∀H',θ K H' a (ns.map V.int))\/a∉fF A d r s kh
 ap:jE A d r s (fF A d r s kh)
 kn:kh∉d::r::s::A.six
 co:ϒ H1 c cs
 or:dm H1 b os
 sv:bH H1 v t0
 tx:H1 tx=some (.lst [.str (bx os),.str (Str.join " " (wT (Β cs) t0))])
 sc:θ K H1 a (ns.map V.int)
 ask:uz cs os t0 (bx os)
 sh:jy t0
theorem yQ.keep{H1 H':Hp}{A:BA}{a c d r s b tx kh:δ}{v:V}{ns:List Int}{cs:List ς}{os:List Ord}{t0:Tr}(h:yQ K H1 A a c d r s b tx kh v ns cs os t0)(o:Out (fF A d r s kh) H1 H'):ϒ H' c cs/\dm H' b os/\bH H' v t0/\H' tx=some (.lst [.str (bx os),.str (Str.join " " (wT (Β cs) t0))])/\θ K H' a (ns.map V.int):=by
 have tup:=h.nt.tup o;refine⟨h.co.out o h.nt h.cF,?_,bH.stay tup h.sv,o _ _ h.tF h.tx,?_⟩
 .obtain⟨ov,e1,e2⟩:=h.or;exact⟨ov,o _ _ h.bF e1,e2.imp λu k z=>by obtain⟨t,e,h⟩:=z;exact⟨t,e,tup _ _ h⟩⟩
 .obtain z|z:=h.sF
  .exact z _
  .exact o.seq z h.sc
structure L7(mg:Str->Option ε)(A:BA)(d r s kh:δ)(cs:List ς)(H:Hp)(B:Bk)(all:List Φ)(sn:List (Int×Int))(hv:List V):Prop where
 st:ϡ mg (fF A d r s kh) A d r s H B B.now B.rows sn
 ta:aV cs all B
 kn:B.known=0
 at_:H kh=some (.lst hv)
 dc:ψ (oE (fF A d r s kh) H) hv (bD all)
 tl:B.touched.length<=all.length
 sl:sn.length<=all.length
section
variable{A:BA}{d r s kh:δ}{cs:List ς}{H H':Hp}{B:Bk}{all:List Φ}{sn:List (Int×Int)}{hv:List V}
theorem L7.same(h:L7 mg A d r s kh cs H B all sn hv)(sm:ζ H H'):L7 mg A d r s kh cs H' B all sn hv:=⟨h.st.same sm,h.ta,h.kn,sm _ _ h.at_,h.dc.imp λu x z=>z.out (Out.of sm),h.tl,h.sl⟩
theorem L7.live(h:L7 mg A d r s kh cs H B all sn hv):∀x∈fF A d r s kh,H x≠none:=λx hx e=>by
 obtain rfl|hx:=acG.mp hx
 .rw[h.at_]at e;cases e
 .obtain⟨o,z,_⟩:=h.st.live x hx;rw[e]at z;cases z
theorem ahF(all:List Φ)(x:Φ):bD (all++[x])=bD all++[az (all++[x])]:=by
 unfold bD;rw[adI,aec,aon,agF]
 congr 1
 .exact anq λn hn=>by rw[al8 (by have:=alD.mp hn;omega)]
 .show [az ((all++[x]).take (all.length+1))]=_;rw[akk (by simp)]
theorem aV.states(h:aV cs all B):∀m∈bD all,(m.map Prod.fst).Nodup/\m.length<64/\∀r∈m,eQ cs r:=λm hm=>by
 obtain⟨n,_,rfl⟩:=acL.mp hm;have hn:=tV (all.take n);have hl:=jY hn (mZ λd hd=>h.r8 d (afU hd));rw[ϱ]at hl;have h8:bM.length=8:=rfl;exact⟨hn,by omega,λr hr=>uL rfl (λd hd=>h.ok d (afU hd)) _ _ (mq hn hr)⟩
theorem aV.deed(h:aV cs all B)(hl:all.length<12){row:Int}{o:Option (List V)}(hr:row∈bM)(hno:Α B.rows row=none->o≠none)(ho:∀xs,o=some xs->gP cs xs):aV cs (all++[⟨B.now+1,row,Α B.rows row,o⟩]) (aF B row o)where
 h:=h.h.aio row o hno
 hd:=by cases o<;>exact h.hd
 l:=by rw[adI,aec];omega
 r8:=λd hd=>by
  obtain z|z:=aei.mp hd
  .exact h.r8 d z
  .rw[ac8.mp z];exact hr
 ok:=λd hd xs e=>by
  obtain z|z:=aei.mp hd
  .exact h.ok d z xs e
  .rw[ac8.mp z]at e;exact ho xs e
theorem aV.aan(h:aV cs all B)(hk:B.known=0){mo:Int}(h0:0<mo)(h1:mo<=B.now):aV cs all {B with done:=B.done.drop (mo-B.known).toNat,known:=mo}where
 h:={
  rows:=h.h.rows
  done:=by
   show B.done.drop _=all.drop mo.toNat;rw[h.h.done,aou,hk]
   congr 1
   simp
  now:=h.h.now
  kn:=⟨by show 0<=mo;omega,h1⟩
  good:=h.h.good
  wf:=h.h.wf}
 hd:=h.hd
 l:=h.l
 r8:=h.r8
 ok:=h.ok
theorem agg(B:Bk)(row:Int)(o:Option (List V)):(aF B row o).touched.length<=B.touched.length+1:=by
 cases o with
 |none=>exact ah6 (ajl ..) (alE _)
 |some xs=>exact u6 ..
theorem abP(sn:List (Int×Int))(row n:Int)(o:Option (List V)):(ph sn row n o).length<=sn.length+1:=by
 cases o with
 |none=>exact alE _
 |some xs=>exact u6 ..
theorem L7.push(h:L7 mg A d r s kh cs H B all sn hv)(hl:all.length<12)(kn:kh∉d::r::s::A.six){row:Int}{o:Option (List V)}{H2 H3:Hp}{p:δ}{Ϸ:List (Key×V)}(hr:row∈bM)(hno:Α B.rows row=none->o≠none)(ho:∀xs,o=some xs->gP cs xs)(o2:Out (d::r::s::A.fp) H H2)(l2:ϡ mg (fF A d r s kh) A d r s H2 (aF B row o) (B.now+1) (aF B row o).rows (ph sn row (B.now+1) o))(s3:ζ H2 H3)(hp:H2 p=none)(ep:H3 p=some (.dK Ϸ))(hk:ψ (PR λv xs=>∃l,v=.ref l/\H2 l=none/\H3 l=some (.lst xs)) Ϸ (aF B row o).rows):L7 mg A d r s kh cs (upd H3 kh (.lst (hv++[.ref p]))) (aF B row o) (all++[⟨B.now+1,row,Α B.rows row,o⟩]) (ph sn row (B.now+1) o) (hv++[.ref p]):=by
 have BJ:kh∉d::r::s::A.fp:=λz=>kn (by
  simp only[List.mem_cons]at z⊢;obtain z|z|z|z:=z
  .exact .inl z
  .exact .inr (.inl z)
  .exact .inr (.inr (.inl z))
  .exact .inr (.inr (.inr (nM kh z))))
 have e2:H2 kh=some (.lst hv):=o2 _ _ BJ h.at_;have e3:H3 kh=some (.lst hv):=s3 _ _ e2;have l3:=l2.same s3;have nF:∀x,H2 x=none->x∉fF A d r s kh:=λx e z=>by
  obtain rfl|z:=acG.mp z
  .rw[e2]at e;cases e
  .obtain⟨u,z,_⟩:=l2.live x z;rw[e]at z;cases z
 have nd:∀x∈[d,r,s],¬x=kh:=λx hx e=>kn (by subst e;simp only[List.mem_cons,List.not_mem_nil,or_false]at hx⊢;obtain z|z|z:=hx<;>simp[z])
 have ta:=h.ta.deed hl hr hno ho;have oU:Out (fF A d r s kh) H3 (upd H3 kh (.lst (hv++[.ref p]))):=Out.upd (by simp);have Bp:(aF B row o).now=B.now+1:=by cases o<;>rfl
 refine⟨⟨?_,?_,?_,?_⟩,ta,?_,ρ,?_,?_,?_⟩
 .exact l3.bk.out (S:=[kh]) (Out.upd (by simp)) (λx hx ys e=>by rw[ac8.mp hx,e3]at e;cases e) λx hx z=>kn (by rw[ac8.mp z]at hx;simp[hx])
 .rw[Bp,ι (nd d (by simp))];exact l3.st
 .obtain⟨kr,er,hR⟩:=l3.ro;refine⟨kr,by rw[ι (nd r (by simp))];exact er,ao hR λv xs z=>z.stay λb ys hb e=>oU _ _ hb e⟩
 .obtain⟨k2,g1,g2⟩:=l3.si;exact⟨k2,by rw[ι (nd s (by simp))];exact g1,g2⟩
 .rw[<-h.kn];cases o<;>rfl
 .rw[ahF];refine ψ.app (h.dc.imp λu x z=>((z.out (o2.mono λx hx=>abN _ hx)).out (Out.of s3)).out oU) (.cons ?_ .nil);rw[<-ta.h.rows];refine⟨p,Ϸ,rfl,nF p hp,oU _ _ (nF p hp) ep,ao hk λv xs z=>?_⟩;obtain⟨l,e,g1,g2⟩:=z;exact⟨l,e,nF l g1,oU _ _ (nF l g1) g2⟩
 .have :=agg B row o;have:=h.tl;rw[adI,aec];omega
 .have :=abP sn row (B.now+1) o;have:=h.sl;rw[adI,aec];omega
end
theorem Bv{cs:List ς}{os:List Ord}{t:Tr}{all:List Φ}{mo:Int}{ks ks':List Int}(h:Told cs os t all mo ks)(h1:ks'.Pairwise (· <= ·))(h2:ks'.Nodup)(h3:∀i,i∈ks'↔∃k,∀m∈(bD all).drop mo.toNat,aO cs os t (Α m i)=some k):ks'=ks:=
 Oo (λi=>by rw[h3,h.2.2];exact Iff.rfl) h2 h.1 h1 h.2.1
theorem pB{H:Hp}{p:δ}{ks:List Int}(h:H p=some (.lst (ks.map V.int))):RD K H (.ref p) (.list ((ks.map V.int).map dV)):=.lst (θ.of h) (Ay (ady.mpr λx hx=>by obtain⟨i,_,rfl⟩:=acL.mp hx;rfl))
theorem qW(ks:List Int):(PyData.list ((ks.map V.int).map dV)).canLay0=true:=GQ λx hx=>by
 obtain⟨i,_,rfl⟩:=acL.mp hx;exact⟨rfl,λz e=>by cases e⟩
theorem yG(ks:List Int):PyData.eqv (PyData.list ((ks.map V.int).map dV)) (PyData.list ((ks.map V.int).map dV))=true:=by
 show PyData.eqvAll _ _=true;rw[Dr (λx hx=>by obtain⟨i,_,rfl⟩:=acL.mp hx;rfl) (λx hx=>by obtain⟨i,_,rfl⟩:=acL.mp hx;rfl)];exact decide_eq_true rfl
end
end K67
namespace K67
open PySem L2 PyProof.Rows My Vl Lw
section
variable{P:ϯ}{w:Ϭ}{K:ϩ}{mg:Str->Option ε}{base:ϫ}
theorem Told.len{cs:List ς}{os:List Ord}{t:Tr}{all:List Φ}{B:Bk}{mo:Int}{ks:List Int}(h:Told cs os t all mo ks)(ta:aV cs all B)(hm:mo.toNat<=all.length):ks.length<=8:=by
 refine jY (m:=bM) h.1 λi hi=>?_
 obtain⟨k,hk,_⟩:=(Lq hm).mp ((h.2.2 i).mp hi);cases hg:Α (az (all.take mo.toNat)) i with
 |none=>rw[hg]at hk;cases hk
 |some xs=>exact mZ (λd hd=>ta.r8 d (afU hd)) i (acL.mpr ⟨_,iU hg,rfl⟩)
theorem zA{H:Hp}{A:BA}{cs:List ς}{os:List Ord}{t0:Tr}{B:Bk}{all:List Φ}(kB:Μ (cB mg) H A B)(ta:aV cs all B)(ask:uz cs os t0 (bx os)){mo:Nat}(h1:B.known<=(mo:Int))(h2:(mo:Int)<=B.now){Q:VK}{E':XK}(q:∀(p:δ)(ks:List Int)(H':Hp),ζ H H'->H p=none->H' p=some (.lst (ks.map V.int))->Told cs os t0 all mo ks->Q (.ref p) H'):Mq K mg t0 [.ref A.b,.str (bx os),.str (Str.join " " (wT (Β cs) t0)),.int (mo:Nat)] H Q E':=by
 obtain rfl:=ta.hd;refine⟨A,B,bx os,mo,os,rfl,NB kB ta ask,λh=>absurd h (by omega),λh=>absurd h (by omega),λh1 h2=>?_⟩;obtain⟨g1,g2,g3⟩:=ta.good h1 h2;refine⟨(ta.rws h1 h2).1,g1,g2,g3,λp rs ks H' sm hp ep hrs hso hpm=>?_⟩;obtain⟨d1,d2⟩:=ta.due (os:=os) h1 h2 hrs;exact q p ks H' sm hp ep ⟨hpm.nodup_iff.mpr d1,hso,λi=>by rw[hpm.mem_iff];exact d2 i⟩
theorem ab4(T:Txt K mg){f:δ}{fd:akn}(F:cN K "law" "law" lN f fd):cO P w K mg base (bL P w) true 60 f fd ["_law_script"] (Tz K):=by
 refine uO F KY (λvs H Q E h=>by obtain⟨a,ns,rfl,_⟩:=h;rfl) (λϹ A' outer s0 H vs Q E hr h=>?_);obtain⟨a,ns,rfl,hS,hl,q⟩:=h;have nd:=KY.nd;have hu:=hr.units;have hu1:_+1<cLine:=afY (afJ (by decide:1<=64) _) hr.units;have n1:=T.ji;have n2:=T.cQ;have n3:=T.mX;have n4:=T.ux;have hsz:=ϳ;have D0:= @gG P w K mg base T;have D1:= @CT P w K mg base T;have D2:= @G9 P w K mg base T;have D3:= @Ek P w K mg base T;have D4:= @GR P w K mg base T;have D5:= @xY P w K mg base T;have D6:= @yM P w K mg base T;have D7:= @Br P w K mg base T;have D8:= @By P w K mg base T;have D9:= @Bj P w K mg base T;have M1:ak P w K mg base true 4 (cB mg) "let_go" ["self","moment"] (Fq mg):=(Zb T).meth T.aA T.abJ;have MB:=(acn (P:=P) (w:=w) (base:=base) T).make T.Ye T.ade;have hsl:=ahO hS;walk_at"A";refine⟨a,ns,rfl,hS,hl,λc cs H1 s1 hc0 hC hok=>?_⟩;obtain⟨c1,c6⟩:=CZ hok;obtain⟨cv,ec,hcv⟩:=id hC;refine ξ ?_;walk_at"s";refine gk MB hr (by decide) (λ_=>rfl) Ν ?_;walk_at"ex";refine gn (.inl (θ.of ec)) λlc hlc=>?_
 obtain⟨s2,PL⟩:=ϊ hlc (.lst cv);generalize upd H1 lc (.lst cv)=H2 at s2 PL⊢;have hC2:ϒ H2 lc cs:=⟨cv,PL,hcv.imp λu k z=>by obtain⟨t,e,h⟩:=z;exact⟨t,e,s2 _ _ h⟩⟩;have xq:=s1.trans s2;walk_at"ex";intro y dx hy hdx Ϻ;have mV:ζ H2 (upd (upd H2 dx (.own y)) y (.ins (cB mg) dx [])):=λb u e=>by
  rw[ι (λz=>by rw[z,hy]at e;cases e),ι (λz=>by rw[z,hdx]at e;cases e)];exact e
 refine⟨y,dx,lc,cs,rfl,ρ,by rw[ι Ϻ,ρ],hC2.same mV,hok,λH3 A eb DW f1 f2 f3 f4 o3 k3=>?_⟩;obtain⟨s3,fr3⟩:=made hy hdx eb DW f1 f2 f3 f4 o3;subst eb;refine⟨rfl,?_⟩;have fJ:=xq.trans s3;have yg:=hC.same (s2.trans s3);have Bc:=fJ.seq hS;have QH:∀x∈A.fp,H3 x≠none:=λx hx=>k3.Ml x (nM x hx)
 walk_at"A";refine⟨a,ns,20,c,cs,rfl,Bc,hl,by decide,by decide,yg,hok,λb os H5 s5 hb0 hO gR hin hnd=>?_⟩;walk_at"A";refine⟨a,ns,30,c,cs,rfl,s5.seq Bc,hl,by decide,by decide,yg.same s5,c1,c6,λv t0 H6 s6 hsv hsh hgd=>?_⟩;obtain⟨RX,hdp⟩:=ais (cs:=cs) hsh;have ask:uz cs os t0 (bx os):=⟨hok,by have:=aeS hok hin gR;omega,afy hok hin gR hnd,gR,hin,hgd,by omega,RX⟩;have D10:= @vd P w K mg base T t0;have D11:= @Bu P w K mg base T t0;have rO:=s5.trans s6;walk_at"A";refine⟨b,os,rfl,hO.same s6,by omega,(λo ho=>by
  obtain⟨cc,hcm,e⟩:=hin o ho;have:=xZ (qp hok (z:=o.1) (acL.mpr ⟨cc,hcm,e⟩));omega),λH7 s7=>?_⟩
 have iV:=rO.trans s7;walk_at"ex";refine⟨v,c,cs,t0,rfl,yg.same iV,hok,hsv.same s7,hsh,hgd,λH8 s8=>?_⟩;have Tq:=iV.trans s8;walk_at"ex";refine⟨by show 2<=Ϫ;omega,λtx htx=>?_⟩;obtain⟨s9,BR⟩:=ϊ htx (.lst [.str (bx os),.str (Str.join " " (wT (Β cs) t0))]);generalize upd H8 tx (.lst [.str (bx os),.str (Str.join " " (wT (Β cs) t0))])=H9 at s9 BR⊢;have dw:=Tq.trans s9;have XD:H3 tx=none:=Tq.free htx;have k9:=k3.same dw;refine ξ ?_;walk_at"s";refine Ur λd hd=>?_
 obtain⟨sd,ed⟩:=ϊ hd (.dK []);generalize upd H9 d (.dK [])=Ha at sd ed⊢;walk_at"e";refine iZ λr hr1=>?_
 obtain⟨sr,er⟩:=ϊ hr1 (.dK []);generalize upd Ha r (.dK [])=Hb at sr er⊢;walk_at"e";refine iZ λs hs2=>?_
 obtain⟨ss,es⟩:=ϊ hs2 (.dK []);generalize upd Hb s (.dK [])=Hc at ss es⊢;walk_at"e";walk_at"e";refine⟨(sr.trans ss) _ _ ed,Sum.inr ("rows":Str),Sum.inr ("since":Str),Sum.inr ("moment":Str),rfl,rfl,rfl,?_⟩;rw[XJ];have s9c:=(sd.trans sr).trans ss;have hr0:H9 r=none:=sd.free hr1;have hs0:H9 s=none:=(sd.trans sr).free hs2;have hdr:d≠r:=λe=>by rw[e]at ed;rw[ed]at hr1;cases hr1
 have hds:d≠s:=λe=>by have:=sr _ _ ed;rw[e,hs2]at this;cases this
 have hrs:r≠s:=λe=>by rw[e,hs2]at er;cases er
 have six:∀x∈A.six,H9 x≠none:=k9.Ml;have nP:ζ H9 (upd Hc d (.dK (stK r s 0))):=λb u e=>by
  rw[ι (λz=>by rw[z,hd]at e;cases e)];exact s9c _ _ e
 have gC:(upd Hc d (.dK (stK r s 0))) d=some (.dK (stK r s 0)):=ρ;have jg:(upd Hc d (.dK (stK r s 0))) r=some (.dK []):=by rw[ι (Ne.symm hdr)];exact ss _ _ er
 have es2:(upd Hc d (.dK (stK r s 0))) s=some (.dK []):=by rw[ι (Ne.symm hds)];exact es
 generalize upd Hc d (.dK (stK r s 0))=Hd at nP gC jg es2⊢;walk_at"A";refine iZ λp0 hp0=>?_
 obtain⟨se,zW⟩:=ϊ hp0 (.dK []);generalize upd Hd p0 (.dK [])=He at se zW⊢;walk_at"ex";refine⟨by show 1<=Ϫ;omega,λkh jz=>?_⟩;obtain⟨sf,Dq⟩:=ϊ jz (.lst [.ref p0]);generalize upd He kh (.lst [.ref p0])=Hf at sf Dq⊢;have mK:=nP.trans (se.trans sf);have oY:=se.trans sf;have hkd:Hd kh=none:=se.free jz;have kn:kh∉d::r::s::A.six:=λz=>by
  simp only[List.mem_cons]at z;obtain rfl|rfl|rfl|z:=z
  .rw[gC]at hkd;cases hkd
  .rw[jg]at hkd;cases hkd
  .rw[es2]at hkd;cases hkd
  .exact six _ z (nP.free hkd)
 have nF:∀x o,H9 x=some o->x∉A.fp->x∉fF A d r s kh:=λx o e hx z=>by
  simp only[fF,List.mem_cons]at z;obtain rfl|rfl|rfl|rfl|z:=z
  .rw[nP.free hkd]at e;cases e
  .rw[hd]at e;cases e
  .rw[hr0]at e;cases e
  .rw[hs0]at e;cases e
  .exact hx z
 have hcA:c∉A.fp:=λz=>by
  have:=fr3 c (nM c z);rw[s2 _ _ ec]at this;cases this
 obtain⟨ov,eov,hov⟩:=id hO;have fix:yQ K Hf A a c d r s b tx kh v ns cs os t0:={
  nt:=λx hx ys e=>by
   simp only[fF,List.mem_cons]at hx;obtain rfl|rfl|rfl|rfl|z:=hx
   .rw[Dq]at e;cases e
   .rw[oY _ _ gC]at e;cases e
   .rw[oY _ _ jg]at e;cases e
   .rw[oY _ _ es2]at e;cases e
   .rcases(k9.same mK).zU z with⟨fs,z⟩|⟨Ϸ,z⟩|⟨xs,z⟩<;>(rw[z]at e;cases e)
  cF:=nF c _ ((s2.trans (s3.trans dw)) _ _ ec) hcA
  bF:=nF b _ ((s6.trans (s7.trans (s8.trans s9))) _ _ eov) λz=>QH b z hb0
  tF:=nF tx _ BR λz=>QH tx z XD
  sF:=by
   obtain z|z:=hsl
   .refine .inr λy=>?_
    simp only[fF,List.mem_cons]at y;obtain e|e|e|e|y:=y
    .exact z (by rw[e];exact(fJ.trans dw).free (nP.free hkd))
    .exact z (by rw[e];exact(fJ.trans dw).free hd)
    .exact z (by rw[e];exact(fJ.trans dw).free hr0)
    .exact z (by rw[e];exact(fJ.trans dw).free hs0)
    .exact z (xq.free (fr3 a (nM a y)))
   .exact .inl z
  ap:=by
   refine⟨?_,λx hx=>abN _ hx⟩;have h1:([A.h,A.r,A.t,A.d,A.b,A.dx]++[d,r,s]).Nodup:=by
    refine alf.mpr ⟨k9.Z6,by simp[hdr,hds,hrs],λa ha b hb e=>six a ha ?_⟩;rw[e];have hb':b=d\/b=r\/b=s:=by simpa using hb
    obtain rfl|rfl|rfl:=hb'
    .exact hd
    .exact hr0
    .exact hs0
   exact h1
  kn:=kn
  co:=yg.same (dw.trans mK)
  or:=hO.same (s6.trans (s7.trans (s8.trans (s9.trans mK))))
  sv:=hsv.same (s7.trans (s8.trans (s9.trans mK)))
  tx:=mK _ _ BR
  sc:=(dw.trans mK).seq Bc
  ask:=ask
  sh:=hsh}
 have pF:p0∉fF A d r s kh:=λz=>by
  simp only[fF,List.mem_cons]at z;obtain rfl|rfl|rfl|rfl|z:=z
  .rw[zW]at jz;cases jz
  .rw[gC]at hp0;cases hp0
  .rw[jg]at hp0;cases hp0
  .rw[es2]at hp0;cases hp0
  .exact six _ (nM _ z) (nP.free hp0)
 have L0:L7 mg A d r s kh cs Hf ⟨cs,[],[],[],0,0⟩ [] [] [.ref p0]:={
  st:=⟨k9.same mK,oY _ _ gC,⟨[],oY _ _ jg,.nil⟩,⟨[],oY _ _ es2,.nil⟩⟩
  ta:=⟨⟨rfl,rfl,rfl,⟨aoy _,aoy _⟩,(λj d e=>by cases e),λi=>⟨λ_=>rfl,λ_=>rfl⟩⟩,rfl,by decide,(λd hd=>by cases hd),(λd hd=>by cases hd)⟩
  kn:=rfl
  at_:=Dq
  dc:=.cons ⟨p0,[],rfl,pF,sf _ _ zW,.nil⟩ .nil
  tl:=Ϯ _
  sl:=Ϯ _}
 refine ξ (Τ ?_);walk_at"ex";refine ϖ (θ.of fix.tx) (v:=.str (bx os)) (ϔ (j:=0) rfl) ?_;walk_at"ex";refine ϖ (θ.of fix.tx) (v:=.str (Str.join " " (wT (Β cs) t0))) (ϔ (j:=1) rfl) ?_;walk_at"ex";refine zA L0.st.bk L0.ta ask (mo:=0) (aoy _) (aoy _) λp1 qM Hg sg hp1 jL ht1=>?_
 have hks:qM=[]:=List.eq_nil_iff_forall_not_mem.mpr λi hi=>by
  obtain⟨k,hk⟩:=(ht1.2.2 i).mp hi;have:=hk [] (by rw[show(bD []).drop (((0:Nat):Int)).toNat=[[]]from rfl];exact ac8.mpr rfl);cases this
 subst hks;walk_at"ex";refine⟨by show 0<=Ϫ;omega,λe1 qK=>?_⟩;obtain⟨Bt,LK⟩:=ϊ qK (.lst []);generalize upd Hg e1 (.lst [])=Hh at Bt LK⊢;refine iw hu (.lst (θ.of (Bt _ _ jL)) .nil) (.lst (θ.of LK) .nil) rfl rfl (Gn (ds:=[]) (by show(0:Nat)<=4;omega)) ?_;rw[show PyData.eqv (.list []) (.list [])=true from rfl];walk_at"ex";have Ca:=sg.trans Bt;have L1:=L0.same Ca;refine Δ (ξ (rT (by walk_at"po") (by rfl) (by rfl) n3 (by rfl) ?_));walk_at"ex";refine⟨a,ns,15,13,rfl,Ca.seq fix.sc,hl,by decide,by decide,by decide,?_⟩;have g0:=aJ ns 15 (m:=13) (by decide);have g1:=aK ns 15 (m:=13) (by decide);generalize Χ ns 15 13=mv at g0 g1⊢;obtain⟨many,rfl⟩:=adK g0;refine⟨_,rfl,by omega,by omega,λi σ H'=>(∃o8 o9,σ=[some (.ref a),some (.ref c),some (.ref A.b),some (.ref b),some v,some (.ref tx),some (.ref d),some (.ref kh),o8,o9,none,none,none])/\Out (fF A d r s kh) Hf H'/\∃B all sn hv,L7 mg A d r s kh cs H' B all sn hv/\all.length=i,⟨⟨none,none,rfl⟩,Out.of Ca,_,[],[],_,L1,rfl⟩,λi σ' H' hi hP=>?_,λσ' H' hP=>?_⟩
 .obtain⟨⟨o8,o9,rfl⟩,oA,B,all,sn,hv,L,hal⟩:=hP;obtain⟨hC',iD,lH,iQ,hS'⟩:=fix.keep oA;have am7:i<12:=by omega
  have hlt:all.length<12:=by omega
  have Bp:=L.ta.h.now;have xG:=L.ta.hd;have hrl:B.rows.length<=8:=by
   have:=jY (tV all) (mZ L.ta.r8);rw[ϱ, <-L.ta.h.rows]at this;exact this
  have hdl:B.done.length<=all.length:=by rw[L.ta.h.done,afz];omega
  have htl:=L.tl;have ako:=L.sl;refine Ι nd (by rfl) (.inl rfl) (.inl rfl) ?_;refine ξ (ϟ ?_);walk_at"ex";refine⟨fF A d r s kh,A,B,a,c,d,r,s,ns,_,sn,rfl,hS',hl,by omega,by omega,by rw[xG];exact hC',by rw[xG];exact c6,L.st,fix.ap,L.live,⟨by omega,by omega,by omega⟩,L.ta.h.wf,by omega,(λj xs e=>by rw[xG];rw[L.ta.h.rows]at e;exact uL rfl L.ta.ok _ _ e),λrow o H5 hrow hno Ez o5 oO=>?_⟩;rw[xG]at Ez;have qX:=L.ta.deed hlt hrow hno Ez;have BJ:kh∉d::r::s::A.fp:=λz=>kn (by
   simp only[List.mem_cons]at z⊢;obtain z|z|z|z:=z
   .exact .inl z
   .exact .inr (.inl z)
   .exact .inr (.inr (.inl z))
   .exact .inr (.inr (.inr (nM kh z))))
  have Ba:H5 kh=some (.lst hv):=o5 _ _ BJ L.at_;have hvl:=L.dc.len;rw[nQ]at hvl;refine ξ (ϟ (cH PySem.F.plainAttrs_list PySem.F.slot_list_append PySem.F.type_list_append (h:=?_)));walk_at"e";refine⟨.inl ⟨rfl,_,θ.of Ba⟩,?_⟩;walk_at"ex";have Qf:(aF B row o).rows.length<1000/\((aF B row o).rows.map Prod.fst).Nodup:=by
   rw[qX.h.rows];have h1:=tV (all++[⟨B.now+1,row,Α B.rows row,o⟩]);have h2:=jY h1 (mZ qX.r8);rw[ϱ]at h2;have h8:bM.length=8:=rfl;exact⟨by omega,h1⟩
  refine⟨fF A d r s kh,d,r,s,_,_,rfl,oO.st,oO.ro,hdr,Qf.1,Qf.2,λp Ϸ H6 s6 hp ep hk=>?_⟩;have L6:=L.push hlt kn hrow hno Ez o5 oO s6 hp ep hk;have oB:Out (fF A d r s kh) H' (upd H6 kh (.lst (hv++[.ref p]))):=((o5.mono λx hx=>abN _ hx).trans (Out.of s6)).trans (Out.upd (by simp));walk_at"ex";refine dh fX ⟨kh,_,_,rfl,rfl,s6 _ _ Ba,by omega,?_⟩;generalize upd H6 kh (.lst (hv++[.ref p]))=H7 at L6 oB⊢;have oC:=oA.trans oB;clear hC' iD lH iQ hS' oA L oO hk ep hp s6 Ba o5;have QK:(all++[(⟨B.now+1,row,Α B.rows row,o⟩:Φ)]).length=i+1:=by rw[adI,aec,hal]
  generalize all++[(⟨B.now+1,row,Α B.rows row,o⟩:Φ)]=all2 at L6 QK qX;generalize aF B row o=B2 at L6 qX;generalize ph sn row (B.now+1) o=sn2 at L6;generalize hv++[V.ref p]=hv2 at L6;obtain⟨hC',iD,lH,iQ,hS'⟩:=fix.keep oC;have amt:=qX.h.now;refine ο (ie (by walk_at"po") (by rfl) (by intro _;rfl) ?_);walk_at"ex";refine⟨by show 2<=Ϫ;omega,λl2 hl2=>?_⟩;obtain⟨s8,zr⟩:=ϊ hl2 (.lst [.int 0,.int (i:Nat)]);generalize upd H7 l2 (.lst [.int 0,.int (i:Nat)])=H8 at s8 zr⊢;refine⟨l2,_,rfl,θ.of zr,λj σ H'=>(∃o9,σ=[some (.ref a),some (.ref c),some (.ref A.b),some (.ref b),some v,some (.ref tx),some (.ref d),some (.ref kh),some (.int (i:Nat)),o9,none,none,none])/\ζ H7 H'/\H' l2=some (.lst [.int 0,.int (i:Nat)]),⟨⟨_,rfl⟩,s8,zr⟩,λj σ' H' _ hP=>θ.of hP.2.2,λj x σ' H9 hx hP=>?_,λσ' H9 hP=>?_⟩
  .obtain⟨⟨pq,rfl⟩,lC,M9⟩:=hP;have hmo:∃mo:Nat,x=.int (mo:Nat)/\mo<=i:=by
    match j,hx with
    |0,hx=>exact⟨0,(Option.some.inj hx).symm,ajg _⟩
    |1,hx=>exact⟨i,(Option.some.inj hx).symm,Ϯ _⟩
   obtain⟨mo,rfl,hmi⟩:=hmo;refine Ι nd (by rfl) (.inl rfl) (.inl rfl) ?_;refine ο (Τ ?_);walk_at"ex";refine ϖ (θ.of (lC _ _ iQ)) (v:=.str (bx os)) (ϔ (j:=0) rfl) ?_;walk_at"ex";refine ϖ (θ.of (lC _ _ iQ)) (v:=.str (Str.join " " (wT (Β cs) t0))) (ϔ (j:=1) rfl) ?_;walk_at"ex";have L9:=L6.same lC;refine zA L9.st.bk L9.ta ask (mo:=mo) (by rw[L9.kn];omega) (by omega) λp1 qM Hj sj hp1 jL ht1=>?_
   have wK:=lC.trans sj;have Lj:=L9.same sj;walk_at"ex";refine⟨c,b,kh,v,t0,cs,os,hv2,bD all2,mo,rfl,hC'.same wK,hok,iD.same wK,gR,hin,lH.same wK,hsh,hgd,Lj.at_,Lj.dc.imp λu x z=>z.at_,by rw[nQ];omega,Lj.ta.states,λp2 nA Hk sk hp2 lD lz hnd2 hm2=>?_⟩;have ek:nA=qM:=Bv ht1 lz hnd2 hm2;subst ek;refine iw hu (pB (sk _ _ jL)) (pB lD) (qW _) (qW _) (Fy _) ?_;rw[yG];walk_at"ex";exact Δ ⟨⟨_,rfl⟩,wK.trans sk,(sj.trans sk) _ _ M9⟩
  .obtain⟨⟨pq,rfl⟩,lC,M9⟩:=hP;exact⟨⟨_,_,rfl⟩,oC.trans (Out.of lC),_,_,_,_,L6.same lC,QK⟩
 .obtain⟨⟨o8,o9,rfl⟩,oA,B,all,sn,hv,L,hal⟩:=hP;obtain⟨hC',iD,lH,iQ,hS'⟩:=fix.keep oA;have Bp:=L.ta.h.now;have hvl:=L.dc.len;rw[nQ]at hvl;have alF:=L.ta.l;have hdc:ψ (jB H') hv (bD all):=L.dc.imp λu x z=>z.at_
  have SK:θ K H' kh hv:=θ.of L.at_;refine ξ (rT (by walk_at"po") (by rfl) (by rfl) n3 (by rfl) ?_);walk_at"ex";refine⟨by omega,by omega,λj σ H2=>(∃o9 aD cU,σ=[some (.ref a),some (.ref c),some (.ref A.b),some (.ref b),some v,some (.ref tx),some (.ref d),some (.ref kh),o8,o9,aD,cU,none])/\ζ H' H2,⟨⟨_,none,none,rfl⟩,ζ.refl _⟩,λj σ' H2 hj hP=>?_,λσ' H2 hP=>?_⟩
  .obtain⟨⟨pq,aD,cU,rfl⟩,aU⟩:=hP;have hj2:j<hv.length:=by simpa using hj
   refine Ι nd (by rfl) (.inl rfl) (.inl rfl) ?_;walk_at"A";refine ϖ (θ.of (aU _ _ iQ)) (v:=.str (bx os)) (ϔ (j:=0) rfl) ?_;walk_at"ex";refine ϖ (θ.of (aU _ _ iQ)) (v:=.str (Str.join " " (wT (Β cs) t0))) (ϔ (j:=1) rfl) ?_;walk_at"ex";have cV:=L.same aU;refine zA cV.st.bk cV.ta ask (mo:=j) (by rw[L.kn];omega) (by omega) λp1 qM Hj sj hp1 jL ht1=>?_
   have nq:=aU.trans sj;walk_at"A";refine⟨c,b,kh,v,t0,cs,os,hv,bD all,j,rfl,hC'.same nq,hok,iD.same nq,gR,hin,lH.same nq,hsh,hgd,nq _ _ L.at_,hdc.imp λu x z=>z.same nq,by rw[nQ];omega,L.ta.states,λp2 nA Hk sk hp2 lD lz hnd2 hm2=>?_⟩;have ek:nA=qM:=Bv ht1 lz hnd2 hm2;subst ek;have xf:=sk _ _ jL;refine ξ (Τ ?_);walk_at"ex";refine S9 xf ?_;walk_at"ex";refine iw hu (pB xf) (pB lD) (qW _) (qW _) (Fy _) ?_;rw[yG];walk_at"ex";have kl:=ht1.len L.ta (by show j<=_;omega);refine Δ (ο (ϟ (cH PySem.F.plainAttrs_list PySem.F.slot_list_append PySem.F.type_list_append (h:=?_))));walk_at"e";refine⟨.inl ⟨rfl,_,θ.of xf⟩,?_⟩;walk_at"ex";refine dh fX ⟨p1,_,_,rfl,rfl,xf,by rw[ϱ];omega,?_⟩;refine⟨⟨_,_,_,rfl⟩,λx u e=>?_⟩;rw[ι (Θ (aU _ _ e) hp1)];exact(nq.trans sk) _ _ e
  .obtain⟨⟨pq,aD,cU,rfl⟩,aU⟩:=hP;have cV:=L.same aU;have SK2:θ K H2 kh hv:=θ.of cV.at_;walk_at"A";have rest:∀(old:Nat)(A2:BA)(B2:Bk)(H3:Hp),A2.b=A.b->Μ (cB mg) H3 A2 B2->aV cs all B2->B2.known=(old:Nat)->ϒ H3 c cs->dm H3 b os->bH H3 v t0->H3 tx=some (.lst [.str (bx os),.str (Str.join " " (wT (Β cs) t0))])->θ K H3 a (ns.map V.int)->H3 kh=some (.lst hv)->ψ (jB H3) hv (bD all)->Κ (iR true P w K mg base Aa "law" (υ lN) f Ϲ A' outer s0 H E) ((ϝ lN).drop 12) {nx:=λ_ H'=>Q .non H',rt:=Q} [some (.ref a),some (.ref c),some (.ref A.b),some (.ref b),some v,some (.ref tx),some (.ref d),some (.ref kh),o8,pq,aD,cU,some (.int (old:Nat))] H3:=by
    intro old A2 B2 H3 eA Cu tY hk3 Ec yZ yE GD Ex Fb afX;have wN:=tY.h.now;have SK3:θ K H3 kh hv:=θ.of Fb;refine ξ (rT (by walk_at"po") (by rfl) (by rfl) n3 (by rfl) ?_);walk_at"ex";refine⟨by omega,by omega,λj σ H4=>(∃o9 cU,σ=[some (.ref a),some (.ref c),some (.ref A.b),some (.ref b),some v,some (.ref tx),some (.ref d),some (.ref kh),o8,o9,aD,cU,some (.int (old:Nat))])/\ζ H3 H4,⟨⟨_,_,rfl⟩,ζ.refl _⟩,λj σ' H4 hj hP=>?_,λσ' H4 hP=>?_⟩
    .obtain⟨⟨Zg,ajK,rfl⟩,Cd⟩:=hP;have hj2:j<hv.length+2:=by omega
     refine Ι nd (by rfl) (.inl rfl) (.inl rfl) ?_;walk_at"A";refine⟨by show 2<=Ϫ;omega,λtd htd=>?_⟩;have RZ:ζ H4 (upd H4 td (.tup [.str ("gone":Str),.int (old:Nat)])):=ζ.upd htd;have S6:(upd H4 td (.tup [.str ("gone":Str),.int (old:Nat)])) td=some (.tup [.str ("gone":Str),.int (old:Nat)]):=ρ;generalize upd H4 td (.tup [.str ("gone":Str),.int (old:Nat)])=H5' at RZ S6⊢;have dM:=Cd.trans RZ;have SK5:θ K H5' kh hv:=θ.of (dM _ _ Fb);have fin:∀(D:Ends),(∀σ' H',(∃o9 cU,σ'=[some (.ref a),some (.ref c),some (.ref A.b),some (.ref b),some v,some (.ref tx),some (.ref d),some (.ref kh),o8,o9,aD,cU,some (.int (old:Nat))])/\ζ H3 H'->D.nx σ' H')->∀(H6:Hp)(u:δ)(dt:alY),ζ H3 H6->RD K H6 (.ref u) dt->dt.canLay0=true->dt.depth<=60->PyData.eqv dt dt=true->((j:Int)<(old:Nat)->dt=.tuple [.str ("gone":Str),.int (old:Nat)])->((old:Nat)<=(j:Int)->(j:Int)<=B2.now->∀ks,Told cs os t0 all j ks->dt=.list ((ks.map V.int).map dV))->(B2.now<(j:Int)->dt=.tuple [.str ("later":Str),.int B2.now])->Κ (iR true P w K mg base Aa "law" (υ lN) f Ϲ A' outer s0 H E) ((wF ((ϝ lN).drop 12)).drop 2) D [some (.ref a),some (.ref c),some (.ref A.b),some (.ref b),some v,some (.ref tx),some (.ref d),some (.ref kh),o8,some (.int (j:Nat)),aD,some (.ref u),some (.int (old:Nat))] H6:=by
      intro D hD H6 u dt mR hdt lay dep self hg hm hla;refine ο (Τ ?_);walk_at"ex";refine⟨A2,B2,tx,bx os,j,cs,os,all,by rw[eA],mR _ _ GD,Cu.same mR,tY,ask,λh p7 H7 jR e7=>?_,λh p7 H7 jR e7=>?_,λh1 h2 p7 ks H7 jR e7 ht=>?_⟩
      .have e:dt=.tuple [.str ("gone":Str),.int B2.known]:=by rw[hk3];exact hg (by omega)
       have qF:RD K H7 (.ref p7) dt:=by rw[e];exact .tup (ω.of e7) (.cons (.str _) (.cons (.int _) .nil))
       walk_at"ex";refine iw hu qF (hdt.same jR) lay lay dep ?_;rw[self];walk_at"ex";exact Δ (hD _ _ ⟨⟨_,_,rfl⟩,mR.trans jR⟩)
      .have qF:RD K H7 (.ref p7) dt:=by rw[hla h];exact .tup (ω.of e7) (.cons (.str _) (.cons (.int _) .nil))
       walk_at"ex";refine iw hu qF (hdt.same jR) lay lay dep ?_;rw[self];walk_at"ex";exact Δ (hD _ _ ⟨⟨_,_,rfl⟩,mR.trans jR⟩)
      .have qF:RD K H7 (.ref p7) dt:=by rw[hm (by omega) h2 ks ht];exact pB e7
       walk_at"ex";refine iw hu qF (hdt.same jR) lay lay dep ?_;rw[self];walk_at"ex";exact Δ (hD _ _ ⟨⟨_,_,rfl⟩,mR.trans jR⟩)
     have Ra:∀(z:Str)(n:Int),cj 4000 z->(PyData.tuple [.str z,.int n]).canLay0=true/\(PyData.tuple [.str z,.int n]).depth<=60/\PyData.eqv (PyData.tuple [.str z,.int n]) (PyData.tuple [.str z,.int n])=true:=λz n hz=>by
      refine⟨?_,by show(_:Nat)<=60;exact akV rfl,?_⟩
      .show((PyData.str z).canLay0&&_)=true;rw[show(PyData.str z).canLay0=true from hz.lay];rfl
      .show((z==z)&&((n==n)&&true))=true;rw[beq_self_eq_true,beq_self_eq_true];rfl
     refine ξ (Τ ?_);walk_at"ex";refine Ζ (λh=>?_) (λh=>?_)
     .refine ο ?_;walk_at"s";walk_at"ex";refine⟨by show 2<=Ϫ;omega,λte yN=>?_⟩;have hn':(hv.length:Int)-1=B2.now:=by omega
      rw[hn']at *;have mR:=ζ.upd (o:=.tup [.str ("later":Str),.int B2.now]) yN;obtain⟨o1,o2,o3'⟩:=Ra ("later":Str) B2.now (cj.lit (by decide+kernel));exact fin _ (λ_ _ z=>z) _ te _ (dM.trans mR) (.tup (ω.of ρ) (.cons (.str _) (.cons (.int _) .nil))) o1 o2 o3' (λz=>by have:=tY.h.kn;omega) (λz z2=>by omega) (λ_=>rfl)
     .refine ο (Τ ?_);walk_at"ex";refine Ζ (λh2=>?_) (λh2=>?_)
      .refine ο ?_;walk_at"s";walk_at"ex";refine⟨c,b,kh,v,t0,cs,os,hv,bD all,j,rfl,Ec.same dM,hok,yZ.same dM,gR,hin,yE.same dM,hsh,hgd,dM _ _ Fb,afX.imp λu x z=>z.same dM,by rw[nQ];omega,tY.states,λp2 nA Hk sk hp2 lD lz hnd2 hm2=>?_⟩;exact fin _ (λ_ _ z=>z) _ p2 _ (dM.trans sk) (pB lD) (qW _) (Fy _) (yG _) (λz=>by omega) (λ_ _ ks ht=>by rw[Bv ht lz hnd2 hm2]) (λz=>by omega)
      .obtain⟨o1,o2,o3'⟩:=Ra ("gone":Str) (old:Nat) (cj.lit (by decide+kernel));exact Δ (fin _ (λ_ _ z=>z) _ td _ dM (.tup (ω.of S6) (.cons (.str _) (.cons (.int _) .nil))) o1 o2 o3' (λ_=>rfl) (λz=>by omega) (λz=>by have:=tY.h.kn;omega))
    .obtain⟨⟨Zg,ajK,rfl⟩,Cd⟩:=hP;refine ο (Η ?_);walk_at"ex";exact⟨a,ns,rfl,Cd.seq Ex,hl,λH' _=>q H'⟩
   refine ξ (Τ ?_);walk_at"ex";refine⟨a,ns,16,2,rfl,aU.seq hS',hl,by decide,by decide,by decide,?_⟩;generalize Χ ns 16 2=w2;walk_at"ex";refine Ζ (λh=>?_) (λh=>?_)
   .refine ξ ?_;walk_at"s";walk_at"ex";refine⟨a,ns,17,_,rfl,aU.seq hS',hl,by decide,by decide,by omega,?_⟩;have o0:=aJ ns 17 (m:=(hv.length:Int)) (by omega);have o1:=aK ns 17 (m:=(hv.length:Int)) (by omega);generalize Χ ns 17 (hv.length:Int)=ow at o0 o1⊢;obtain⟨old,rfl⟩:=adK o0;refine ο (ϟ ?_);refine aM (pl:=_) hr Ν (h:=?_);walk_at"e";refine⟨A.b,cB mg,A.dx,_,true,4,_,Fq mg,rfl,cV.st.bk.ins,by rfl,M1,by decide,id,?_⟩;walk_at"ex";have hk0:=L.kn;refine⟨A,B,_,rfl,cV.st.bk,cV.ta.h.QW (by omega),λz=>?_,λz=>absurd z (by omega),λz1 z2 dn H3 hdn o3' Cu=>?_⟩
    .have e0:old=0:=by omega
     subst e0;exact rest 0 A B H2 rfl cV.st.bk cV.ta (by rw[hk0];rfl) (hC'.same aU) (iD.same aU) (lH.same aU) (aU _ _ iQ) (aU.seq hS') cV.at_ (hdc.imp λu x z=>z.same aU)
    .have oD:Out (fF A d r s kh) Hf H3:=(oA.trans (Out.of aU)).trans (o3'.mono λx hx=>by rw[ac8.mp hx];simp[fF,BA.fp]);obtain⟨Ec,yZ,yE,GD,Ex⟩:=fix.keep oD;refine rest old {A with d:=dn} {B with done:=B.done.drop ((old:Int)-B.known).toNat,known:=(old:Int)} H3 rfl Cu (cV.ta.aan hk0 (by omega) z2) rfl Ec yZ yE GD Ex (o3' _ _ (λz=>kn (by rw[ac8.mp z];simp[BA.six])) cV.at_) ?_;exact cV.dc.imp λu x z=>(z.out (o3'.mono λx hx=>by rw[ac8.mp hx];simp[fF,BA.fp])).at_
   .exact Δ (rest 0 A B H2 rfl cV.st.bk cV.ta (by rw[L.kn];rfl) (hC'.same aU) (iD.same aU) (lH.same aU) (aU _ _ iQ) (aU.seq hS') cV.at_ (hdc.imp λu x z=>z.same aU))
end
end K67
namespace PySem.W.Fast
def tw16680688294710460510:=()
def tw4337219397533759949:=()
def tw10656819204186002163:=()
def tw4889243623248418720:=()
def tw16185726535862256817:=()
def tw8653589789865959158:=()
def tw11546195014365506499:=()
def tw11812420653479664949:=()
def tw3864399015651843835:=()
def tw2785194603891986709:=()
def tw16779974548985098469:=()
def tw8829628625933319434:=()
def tw17521627057438231593:=()
def tw7209532375980584334:=()
def tw8065072055366388836:=()
def tw13727881332663576527:=()
def tw10143030012932501055:=()
def tw4216973197397785896:=()
def tw13610312317732584469:=()
def tw8646153154151186229:=()
def tw16711553008138728921:=()
def tw8791752145060242549:=()
def tw5560545288174893072:=()
def tw521686980481769052:=()
def tw8497410151855876912:=()
def tw2052581913941684795:=()
def tw14029364117294031736:=()
def tw1532495540004402438:=()
def tw15944407401383452084:=()
def tw4710228932281423898:=()
def tw13785507793483532721:=()
def tw3104320051620035098:=()
def tw18358305799335542188:=()
def tw11996368112082251670:=()
def tw13988963173917240949:=()
def tw2066891211131576454:=()
def tw6378535536308911984:=()
def tw326351728353154704:=()
def tw9160355245227607717:=()
def tw2054998100956696693:=()
def tw10983507747474498344:=()
def tw7281811581874887869:=()
def tw10375799185492176929:=()
def tw11910118327870491877:=()
def tw5125171329016271751:=()
def tw5839176442321232446:=()
def tw232895438173654946:=()
def tw12646430702449618158:=()
def tw11311970262498182554:=()
def tw11178558070154372989:=()
def tw2882942722357442017:=()
def tw6266341513996137588:=()
def tw4183587401910334003:=()
def tw9690210568938974612:=()
def tw9167140209657646814:=()
def tw18334754785067498941:=()
def tw2050278918193777456:=()
def tw5355570085197488691:=()
def tw17908920459823133159:=()
def tw6672618311584383832:=()
def tw14258519390962925863:=()
def tw14067214678687169991:=()
def tw17681404418856536348:=()
def tw477432251725848008:=()
def tw10048658364200061326:=()
def tw6528212165748492922:=()
def tw5268066789492316735:=()
def tw437855897240770369:=()
def tw13757399244371546673:=()
def tw3666024924080428573:=()
def tw14539490648230964370:=()
def tw4841500182492928664:=()
def tw6059702228697235111:=()
def tw17769713836129409618:=()
def tw8464825881379957995:=()
def tw7942103583169771402:=()
def tw6042085059177919165:=()
def tw2250852326093852641:=()
def tw4758730741467049558:=()
def tw8242251756296965555:=()
def tw5255464757920570821:=()
def tw13466420453777161707:=()
def tw12783060574393698672:=()
def tw8659462121136829590:=()
def tw11235644761985019972:=()
def tw2811017066190017337:=()
def tw14175092176214100770:=()
def tw17053005271371351898:=()
def tw1687222841146264128:=()
def tw9355575581481888138:=()
def tw16483604708442735875:=()
def tw3083454678563656556:=()
def tw9522119704691476189:=()
def tw10438302171665480092:=()
def tw10211185641190502340:=()
def tw6015809861959750129:=()
def tw9594887587238841767:=()
def tw1336565496434616028:=()
def tw6548651474898833992:=()
def tw16852882216850380411:=()
def tw13464096912611156503:=()
def tw6858142352547595032:=()
def tw12197809443117928855:=()
def tw12611367788861548929:=()
def tw17268059466719552276:=()
def tw15654916826843998842:=()
def tw2378480325701692963:=()
def tw16961779813914167313:=()
def tw15830314799421292765:=()
def tw15275231757033655753:=()
def tw6242523845377131012:=()
def tw12470561841406766281:=()
def tw11366149982854463133:=()
def tw17576562371494967936:=()
def tw3756065467169352850:=()
def tw1390653608292827793:=()
def tw2774803203539182230:=()
def tw3303597066834417526:=()
def tw12979001312580060139:=()
def tw7335776836179435687:=()
def tw13708211806051457013:=()
def tw15881307328068405557:=()
def tw11088023648464649295:=()
def tw10327534320156238917:=()
def tw10927934778843801719:=()
def tw4749108586269055332:=()
def tw12064384214228201534:=()
def tw5924082311497782176:=()
def tw3052291473429643079:=()
def tw5204075258395794742:=()
def tw2870407479784211288:=()
def tw11692827136724851101:=()
def tw3296349157725954975:=()
def tw12505100345664478470:=()
def tw6625957699113123118:=()
def tw9436312630933843224:=()
def tw17881375965403946771:=()
def tw12814174978047594019:=()
def tw6689264311399190864:=()
def tw11780339310146196030:=()
def tw9587657429534688139:=()
def tw1961071261315678325:=()
def tw14832612437338649123:=()
def tw6969020917724088279:=()
def tw14815832009613906868:=()
def tw4845489254554112407:=()
def tw8254202387236633863:=()
def tw2787730153244307683:=()
def tw14048781040930230256:=()
def tw13309005317707203429:=()
def tw13452870693539751199:=()
def tw11558562001888776193:=()
def tw6665063623219330422:=()
def tw15763458549510678368:=()
def tw408544726320508624:=()
def tw5523311434452667303:=()
def tw12411498070504061082:=()
def tw8702557945989906485:=()
def tw217078289787779205:=()
def tw5316198697146612940:=()
def tw17998082338083604277:=()
def tw2160486792929991125:=()
def tw14650784528406843283:=()
def tw3247934111438139048:=()
def tw7837417854788467511:=()
def tw17030190118799929758:=()
def tw13823932683068362710:=()
def tw869606859285971452:=()
def tw7283155854898071392:=()
def tw11576936001843859652:=()
def tw16707259900958371265:=()
def tw6748361319498943627:=()
def tw16797634513322206623:=()
def tw14407517962652409335:=()
def tw17308467164111547310:=()
def tw14322470457128520282:=()
def tw9891734648631840147:=()
def tw4878675675947262914:=()
def tw18367498161463148573:=()
def tw12744493596856694512:=()
def tw11676837107889313286:=()
def tw16239834153244624748:=()
def tw15375875972882149142:=()
def tw9338881779502701214:=()
def tw3779420943261950548:=()
def tw4983744945986076864:=()
def tw3550449968896080553:=()
def tw15808899129824248188:=()
def tw11870578003895647980:=()
def tw690966893664174119:=()
def tw17948913665232138087:=()
def tw11502591279561468085:=()
def tw1992439818666387841:=()
def tw8666585765780033400:=()
def tw5941786267949735887:=()
def tw3150122900730585815:=()
def tw33273059512428675:=()
def tw11027631287813582174:=()
def tw9149242328055373669:=()
def tw8740999413495777727:=()
def tw4920508901392281882:=()
def tw388129193987898422:=()
def tw2155070114337261391:=()
def tw12184209742642422089:=()
def tw6951382076997039492:=()
def tw4816344668734694943:=()
def tw10218889839303702390:=()
def tw11610499649956789518:=()
def tw2011749627693473303:=()
def tw18192070754687946935:=()
def tw9404979714838516357:=()
def tw6358154639938215518:=()
def tw3308612394305814214:=()
def tw13386410489335525872:=()
def tw11577115153793042380:=()
def tw6214843637564712892:=()
def tw8296043935684027316:=()
def tw232464906440811879:=()
def tw4608764898519270199:=()
def tw13627329543736399443:=()
def tw5182713164308776585:=()
def tw8302767131339220254:=()
def tw15394867315029871880:=()
def tw10258531572267355819:=()
def tw18171518936248510720:=()
def tw11695583929851298221:=()
def tw12321798320944374348:=()
def tw7678384713058938064:=()
def tw1005495008696395234:=()
def tw13526376753334105199:=()
def tw15450208453659902363:=()
def tw16093158406343764525:=()
def tw14430516360323321524:=()
def tw12299071864913661360:=()
def tw7512955704911879827:=()
def tw2324845118973467459:=()
def tw6674286956475871994:=()
def tw4129141242673421248:=()
def tw7546714604277989793:=()
def tw7610421102998956734:=()
def tw17375909151154585500:=()
def tw6737038133632811957:=()
def tw1230150663756479662:=()
def tw15165631655145945719:=()
def tw10820726547236260092:=()
def tw5207133382589967753:=()
def tw12969093149929627925:=()
def tw12165727337466728337:=()
def tw6345275785970681714:=()
def tw15581963452755364211:=()
def tw14361210503365141778:=()
def tw4709112523548540361:=()
def tw4498933646148186714:=()
def tw11533078104031785985:=()
def tw16626263608305070857:=()
def tw4794715954288236822:=()
def tw4584987051632732482:=()
def tw397266865930712075:=()
def tw9099494140619941961:=()
def tw8466516330553767468:=()
def tw5167856641054300418:=()
def tw4655493588572309280:=()
def tw120163128405050170:=()
def tw7547844920235828438:=()
def tw4960786128927797883:=()
def tw6732464872109347132:=()
def tw5048873841996702232:=()
def tw13862964959382485198:=()
def tw13455102611061742463:=()
def tw7675729141540334540:=()
def tw14639022798027219898:=()
def tw5180955965229544872:=()
def tw4634316980100420226:=()
def tw12263509922022515694:=()
def tw12650394770009069440:=()
def tw15062135090968982840:=()
def tw8268585406596399958:=()
def tw7393828157102028704:=()
def tw10996412557655779380:=()
def tw9453145475797344469:=()
def tw17962913469345610531:=()
def tw13141263000396842928:=()
def tw1226271641501319475:=()
def tw5278086899318680347:=()
def tw12361413004473909061:=()
def tw9185128082415386035:=()
def tw9574575619676572142:=()
def tw14831274437897823202:=()
def tw6393026241792794212:=()
def tw17389853898897669396:=()
def tw1086096623148806825:=()
def tw4162764045723700398:=()
def tw17428068768515945443:=()
def tw15407400144105898898:=()
def tw12371591333520011242:=()
def tw13324374273981766994:=()
def tw8545610738371694217:=()
def tw5019282261600340818:=()
def tw8270261859945581189:=()
def tw2289767071367903630:=()
def tw17085282679144311881:=()
def tw1268301483676474265:=()
def tw8711512568896831252:=()
def tw4082637905209250537:=()
def tw18114853135405656277:=()
def tw8676868756986833227:=()
def tw18302552182306179315:=()
def tw16435930760145610914:=()
def tw15480859675713087378:=()
def tw4857119841911640821:=()
def tw4008463381211621260:=()
def tw171935943431993817:=()
def tw4019836152058957529:=()
def tw17074167627316861552:=()
def tw16156593309124349020:=()
def tw15682576252337162907:=()
def tw14236187525600958530:=()
def tw2535138881277349662:=()
def tw2163472423260972544:=()
def tw11845135226321586264:=()
def tw10822651980269156501:=()
def tw8140025773057521242:=()
def tw3010461074294096179:=()
def tw16139270326230844095:=()
def tw12920840799444320725:=()
def tw12142613104017846706:=()
def tw11278795692353949922:=()
def tw8318456016455134859:=()
def tw15929157770718091394:=()
def tw14843132788033912348:=()
def tw10415925496624104698:=()
def tw12685343847188892470:=()
def tw7918649812404342197:=()
def tw3464176062635718720:=()
def tw5602158509499926504:=()
def tw17618804801032415067:=()
def tw763876678572878365:=()
def tw5491706148106487405:=()
def tw15702277781740721179:=()
def tw14147092507494307091:=()
def tw7052139591358765776:=()
def tw11261086379828223514:=()
def tw12929041358155841182:=()
def tw3530592309942142138:=()
def tw12725283502582963910:=()
def tw8543078390953504392:=()
def tw10528698722797468331:=()
def tw16135814446975435257:=()
def tw231078283807824510:=()
def tw8814961518215523470:=()
def tw7811509708994980725:=()
def tw17743686808837654932:=()
def tw11528318439947227058:=()
def tw9205881139740255220:=()
def tw14885204024740987349:=()
def tw9047579604617814528:=()
def tw3167711154272925204:=()
def tw12359625691163434837:=()
def tw7212912404284433606:=()
def tw1356127572666603445:=()
def tw14659813170096740064:=()
def tw2503021499924728082:=()
def tw15611863931819311242:=()
def tw2915339067922461903:=()
def tw18204254428365865275:=()
def tw16880002365035226967:=()
def tw14882138227792512493:=()
def tw2212660027420924218:=()
def tw15963353415746508213:=()
def tw9448329008401385630:=()
def tw996499125263363821:=()
def tw11471406428295035226:=()
def tw1497262121367841352:=()
def tw10647096759736399005:=()
def tw5503315333957025727:=()
def tw1640675969616270960:=()
def tw15387239897630607086:=()
def tw5999454303930015405:=()
def tw9803555378344246214:=()
def tw909884952325688744:=()
def tw6640501498431405587:=()
def tw3745795605802790922:=()
def tw14676955515002719797:=()
def tw13189364686245891714:=()
def tw726396885295463250:=()
def tw9147940342943719368:=()
def tw352691295173156817:=()
def tw9772084303662737732:=()
def tw8534757815862142527:=()
def tw1445295034694391859:=()
def tw3020941823877330215:=()
def tw14719679436029763253:=()
def tw7887995149199458384:=()
def tw7238557408629689439:=()
def tw11925721681237379970:=()
def tw16966138964085468375:=()
def tw4570221964890504031:=()
def tw14947932349514942170:=()
def tw9450814539511384673:=()
def tw13508736616348473702:=()
def tw7027809598252536396:=()
def tw2682181315756856321:=()
def tw2352103360450304834:=()
def tw16069846359846497433:=()
def tw12109770872425137227:=()
def tw2197196659904731521:=()
def tw16643212303435729905:=()
def tw1149291453688939955:=()
def tw5890200838895622748:=()
def tw14558401382577569220:=()
def tw14100289170819451424:=()
def tw9599588670976527521:=()
def tw17164947194403267165:=()
def tw2528891271735705238:=()
def tw12031573259791687941:=()
def tw721216816681304742:=()
def tw1926757416480750356:=()
def tw10526203539996737358:=()
def tw831618024765350421:=()
def tw3245580454475558527:=()
def tw8911450626795401646:=()
def tw776457173510364432:=()
def tw6886280216635025094:=()
def tw5930616445417753850:=()
def tw6637017122220130440:=()
def tw15377586542666381743:=()
def tw13730343166397015298:=()
def tw1303747662426320990:=()
def tw13520715690941097731:=()
def tw11984752251942267445:=()
def tw3218535529856237285:=()
def tw13421966715371854452:=()
def tw1697719633732415344:=()
def tw16132255204285546975:=()
def tw3964398923037098500:=()
def tw14880921080313767359:=()
def tw9872730889228075508:=()
def tw4039419024838773068:=()
def tw3493995808025766516:=()
def tw1846001383560304592:=()
def tw13170937792764382455:=()
def tw12479620547808157774:=()
def tw4837405901814253299:=()
def tw12589117687572447483:=()
def tw9129952340683480764:=()
def tw18003311476058115909:=()
def tw16465117462097056212:=()
def tw12413502030608085707:=()
def tw6928582650475726850:=()
def tw13543337469220495026:=()
def tw9044694578428173308:=()
def tw7938457297335897694:=()
def tw8215826798308315874:=()
def tw5617975106038967820:=()
def tw2797890436705220333:=()
def tw1822727286685166674:=()
def tw18124414744498013454:=()
def tw12381821680324341900:=()
def tw11891302232761824256:=()
def tw4536316889268811894:=()
def tw2604710089402567447:=()
def tw16141204813279119273:=()
def tw6787166970647332809:=()
def tw545038015886865698:=()
def tw14068137145959572109:=()
def tw12066786283493250623:=()
def tw7511839573578741946:=()
def tw2900025110389047076:=()
def tw9489757412107258674:=()
def tw15869944111440910169:=()
def tw3665705862978912329:=()
def tw9190222019772430051:=()
def tw18231509752905499053:=()
def tw10672212771699314063:=()
def tw13985624897510143916:=()
def tw12992308688712542125:=()
def tw9950930506656262092:=()
def tw3837437182918820257:=()
def tw10456549654182181889:=()
def tw9723319372211493138:=()
def tw17802462387351193346:=()
def tw7614703972051074739:=()
def tw14560027135533827019:=()
def tw14518219000930013523:=()
def tw18394363843234597988:=()
def tw13551203442704633640:=()
def tw4366997297051954893:=()
def tw13673877447480343072:=()
def tw12728709253253569153:=()
def tw7232348119320900615:=()
def tw13041167333403473573:=()
def tw12851444297065512708:=()
def tw8679651150227077561:=()
def tw7347436339500012087:=()
def tw17130363412784050107:=()
def tw799804055334762316:=()
def tw5101467072246616632:=()
def tw4839020556486347698:=()
def tw3814413960190484954:=()
def tw17630995601308525998:=()
def tw11763152175454634:=()
def tw15629128941581530935:=()
def tw11261365891962815381:=()
def tw7824973767828499494:=()
def tw18364914687852517897:=()
def tw17620804408540632497:=()
def tw13338251096431215447:=()
def tw11660553635012692803:=()
def tw6147899784559170620:=()
def tw7791624533018693175:=()
def tw5946886164181669400:=()
def tw5458478912671602194:=()
def tw3497356002925333817:=()
def tw13498531363251710262:=()
def tw11896777605481640439:=()
def tw3202261123830772770:=()
def tw2746995963643951039:=()
def tw18386930169552092596:=()
def tw1559383877594851858:=()
def tw8388214851918451769:=()
def tw526391596868884548:=()
def tw10477939920470909444:=()
def tw10306117138368115264:=()
def tw2182016504388927325:=()
def tw16407558965767854381:=()
def tw13416963200275296818:=()
def tw858008875440138285:=()
def tw3611199058125339838:=()
def tw7255386643781850880:=()
def tw3774121051942693487:=()
def tw1674469765554049121:=()
def tw9065718945382154588:=()
def tw6727284768632012791:=()
def tw5072496487846069879:=()
def tw12257239222390806950:=()
def tw15067618832855247861:=()
def tw2425392193977523471:=()
def tw928936972575512307:=()
def tw1260246212926937415:=()
def tw2756149116398168640:=()
def tw1503055090681841880:=()
def tw3623984357238311914:=()
end PySem.W.Fast
namespace K67
open PySem L2 PyProof.Rows
end K67
open PySem PySem.W PyProof.Rows
set_option maxRecDepth 100000 in
set_option maxHeartbeats 0 in
theorem PySem.Challenge.cw_turnleaf_k67_who_stood_holds : PySem.Challenge.rw_turnleaf_k67_who_stood.Holds := by
 w_on;o_law;k_head;(case hw=>w_witness2)
 k_fill
 refine L2.akf (l:=PySem.Challenge.rw_turnleaf_k67_who_stood) (n:=63) (k:=60) (x:="_law_script") (CX:=λw=>L2.bL PySem.Challenge.rw_turnleaf_k67_who_stood.prog w) (cc:=true) (sp:=λw=>L2.Tz _) rfl (by decide) rfl ⟨λ_=>rfl,by decide,by decide⟩ (λw h Y=>PySem.W.kIn_of Y) ?F (λ_ _ a ns hl _ hS=>⟨a,ns,rfl,hS,hl,λ_=>rfl⟩) (λ_ _ _ _ _ z=>L2.bL.never z)
 case F=>
  intro w mg fa h KX G hmg;have T:K67.Txt (L2.HX KX) mg:=by
   dsimp only[L2.HX];constructor
   all_goals first|refine' L2.afP KX G ..|refine' L2.aiv KX G ..|refine' L2.aeD KX G ..|refine' L2.ada KX G ..|refine' L2.V0 KX G ..|refine' L2.af6 KX G ..|refine' L2.acf KX G ..|refine' L2.adt KX G ..|refine' L2.t_k KX G ..|refine' L2.aax KX G ..|refine' L2.Wn KX G ..|refine' L2.agi KX G ..|refine' L2.Vh KX G ..|refine' L2.ad7 KX G ..|refine' L2.ahj KX G ..|refine' L2.Y7 KX G ..|refine' L2.Vz KX G ..|refine' L2.af5 (mg:=mg) (L2.gq KX G ?_ (L2.gq KX G ?_ (L2.gq KX G ?_ (L2.gq KX G ?_ (L2.gq KX G ?_ (L2.gq KX G ?_ (L2.gq KX G ?_ (L2.gq KX G ?_ (L2.gq KX G ?_ (L2.gq KX G ?_ L2.iB.nil)))))))))) ?_
   any_goals try delta L2.bA
   any_goals try delta L2.oX
   any_goals first|k_is|k_exc|kernel_rfl|decide
  obtain⟨f,fd,F,hm⟩:=T.ajy;have e0:=hmg.symm.trans hm;cases e0;obtain⟨oc,od,kV,doc,pm,an,Ϲ,ct,osl,rfl,lk,hcd⟩:=id F.ex;exact⟨_,λs u=>.of_eq rfl,λbase kb nb=>K67.ab4 T F⟩
#print axioms PySem.Challenge.cw_turnleaf_k67_who_stood_holds
