import PyProof.Rows.All
import Wide.All
import OpenK.AllK
import Wide.FinOn
import Lean
import PyProof.EqAt
import PyProof.EqKinds
import PyProof.TupleCall
import PyProof.NeData
import PyProof.ZipIter
import PyProof.WalksEnum
import PyProof.Rows.SetFrom
import PyProof.StrLawsTight
import PyProof.StrLawsChain
import PyProof.StrCalls2
import PyProof.ListStr
import PyProof.Rows.StrOrd
import KE.KRevIter
import PyProof.ExcInit
import PyProof.InstStoreFacts
import PyProof.ExcArgs
import PyProof.ExcAttrAll.ValueError
import PyProof.NsDelKeeps
import PyProof.RulesAs
import OpenK.KCls
import PyProof.Rows.TupAssign
import PyProof.StrLawsIn
import KE.KDictSum
import PyProof.DictWalks
import PyProof.Rows.CountFlat
import KE.KTryMore
import KE.KxWritten
import KE.KStrOpen
import KE.KSortTup
import KE.KNest
import PyProof.FString5
import PySem.Challenge.RW_turnleaf_k94_whole_by_places
local macro_rules | `(tactic| omega) => `(tactic| lia)
open PySem renaming Addr->δ,Value->ε,Shared->μ,wpAny->ν,Expr->π,model->Ϧ,Stmt->ϧ,wpAny_bind->ϩ,sizeLine->Ϫ,Heap->ϫ,starEach->Ϭ,World->ϭ,Program->ϯ,Around->ϰ,wpAny_pure->ϱ,sizeLine_eq->ϲ,wpAny_mono->adm,compareOp->adH,wpAny_holding->ag0,wpAny_truthy_bool->ag8,Scope->ahI,FuncData->air,codeAny_mono->aiT,wpAny_Call_Name_kw->ajk,swapsWith->ajq,wpAny_passesOwn->ajC,wpAny_standAt->ajF,assignEach->akH,tupleKind_room_in1->akI,ExceptHandler->ak1,wpAny_loadPart_at->alk,PassesOwn->alC,codeAny_builtin->alH,call_meets->alN,NameKind->alT,wpAny_newObj_type->alU,PyData->alV
open PySem.W renaming Frag->Ϩ,findIn->agO,specialIn->aiY,emptyDict->akx,mg_of->alD,kia_one->alE,keepIn->alF,hasDictIn->alI,instObj->al2,takerIn->al7,methodCall_KW->ama,mroIn->amd,plainGet->amh,readsIn->amj,findCls->amk,typeIn->amn,codeIn->amq,callWith_K->amC,fnOf->amI,plainOver->amL,plainGet_of->amO,isFn->amP,looks_clsIn->amQ,methodObj->ana,makesIn->anb,takesIn->anc,looks_findIn->ank,nsIn->anp,lookIn->anr,excIn->ant,kitOne->anC
open Nat renaming le_refl->Ϯ,lt_of_lt_of_le->abu,ne_of_lt->ab6,le_trans->afK,zero_le->agf,lt_of_le_of_lt->ah4,lt_irrefl->aiE,min_eq_left->ai2,add_le_add_left->ajc,le_add_right->akJ,min_eq_right->akQ,lt_succ_of_lt->alz,le_succ->alJ,le_of_eq->alO,zero_add->alQ,le_of_lt->al3,mul_le_mul_right->al5,add_zero->amc,min_le_right->amt,lt_of_not_le->amu,ne_of_gt->amA,sub_zero->amY,lt_succ_self->am1,le_of_not_lt->am2,min_le_left->ane,one_mul->ani,toDigits->anA,add_mul->anB
open List renaming length_map->ϳ,mem_cons->ϴ,getElem?_eq_getElem->aaf,getElem?_eq_some_iff->aal,size_toArray->aaB,mem_of_getElem?->aaZ,getD_eq_getElem?_getD->abf,length_append->abo,mem_cons_of_mem->abK,getElem?_map->aca,mem_append_right->ack,mem_map->acR,mem_singleton->ac0,mem_filter->ac8,all_eq_true->aeE,mem_cons_self->aeM,length_singleton->ae7,toArray->afg,mem_append->afw,range->afz,take_of_length_le->agI,length_drop->agL,length_take->agW,map_map->ahl,mem_append_left->ahp,length_filter_le->ahM,lookup->ahP,getElem_mem->aid,getElem?_append_left->aiI,take_append_drop->aiK,pairwise_cons->aiL,mem_of_mem_drop->aiS,getElem?_concat_length->ai1,filter_sublist->aja,ne_nil_of_length_eq_add_one->ajQ,mem_of_mem_take->ajV,nodup_cons->aj2,take_sublist->akf,nodup_append->aki,length_eq_zero_iff->aky,dropLast_concat_getLast->ale,filter_append->alh,map_append->aln,pairwise_map->alB,any_eq_true->alG,getElem_of_mem->alK,map_congr_left->alM,mem_filterMap->alR,length_range->alX,take_add_one->alY,mem_range->alZ,replicate->al1,take_length->al4,pairwise_append->al6,drop_zero->ame,pairwise_iff_getElem->amf,getLast?_eq_some_iff->amg,mapM_toArray->aml,append_assoc->amm,length->amo,map->ams,getElem?_set_self->amv,drop_of_length_le->amx,range_succ_eq_map->amy,drop_eq_nil_of_le->amz,of_mem_zip->amB,nil_append->amF,getElem?_reverse->amG,getElem?_set_ne->amH,length_pos_iff->amM,reverse_perm->amW,all_map->amZ,getElem_inj->am0,drop_length->am3,cons_append->am5,ext_getElem->am6,all_toArray->am8,nodup_range->am9,map_id->anf,range_succ->ang,not_lt->anh,drop_drop->anl,lt_irrefl->anm,lt_trans->anu,map_drop->anv,map_take->anw
open Bool renaming false_ne_true->aah,and_eq_true->aa3,eq_iff_iff->ahj,eq_false_iff->aiU,false_and->akW,true_and->alA,false_eq_true->alS,or_eq_true->al8,false_or->amr,and_false->amK,or_false->amR,not_eq_true'->amU,and_true->anx,true_or->anz
open PySem.Heap renaming lt_size->abe,get?_push_size->abq,get?_update_other->aci,get?_update_self->afS,get?_none_of_le->aiP,SameBut->akk,get?_update_ne->alL,size_push->al0,size_after_update->amw,MadeExcOf->amJ,get?_push_at->amV,get?_push_ne->amX,size_update->am7
open Int renaming eq_ofNat_of_zero_le->aeN,toNat_natCast->alW,emod_nonneg->amD,emod_lt_of_pos->amS,natCast_mul->anj,mul_nonneg->ano
open Option renaming map_eq_some_iff->aik,isSome_iff_exists->alP,isSome_map->ami
open Array renaming getElem?_setIfInBounds_ne->aiu,getElem?_eq_some_iff->ajl,length_toList->akl,toList_append->al9,perm_iff_toList_perm->amb,getElem?_toList->amE,find?_toList->amN,forIn_toList->amT,toList_inj->am4,getD->anq
set_option maxHeartbeats 4000000
set_option Elab.async false
set_option linter.all false
set_option maxRecDepth 100000
namespace L2
open PySem PySem.Spec PyProof.Rows
abbrev Key:=Sum Int Str
def nj:Key->ε->Bool
 |.inl k,v=>Value.isInt k v
 |.inr x,v=>Value.isStrOf x v
def agg(w:ϭ):Key->Int
 |.inl k=>hashInt k
 |.inr x=>hashStr w x
theorem gw:∀{k:Key}{v:ε},nj k v=true->(∃i t,k=Sum.inl i/\v=Value.int i t)\/(∃x t,k=Sum.inr x/\v=Value.str x t)
 |.inl i,v,h=>by
   obtain⟨t,e⟩:=Value.isInt_shape (k:=i) (v:=v) h;exact .inl ⟨i,t,rfl,e⟩
 |.inr x,v,h=>by
   obtain⟨t,e⟩:=Value.isStrOf_shape (x:=x) (v:=v) h;exact .inr ⟨x,t,rfl,e⟩
theorem ahA(i:Int)(t:Tok):nj (.inl i) (.int i t)=true:=by simp[nj,Value.isInt]
theorem abS(x:Str)(t:Tok):nj (.inr x) (.str x t)=true:=by simp[nj,Value.isStrOf]
theorem U7(a b:Int):decide ((Sum.inl a:Key)=Sum.inl b)=(a==b):=by
 by_cases e:a=b
 .subst e;simp
 .have h:¬(Sum.inl a:Key)=Sum.inl b:=λq=>e (Sum.inl.inj q)
  rw[decide_eq_false h];exact(beq_eq_false_iff_ne.mpr e).symm
theorem agD(a b:Str):decide ((Sum.inr a:Key)=Sum.inr b)=decide (a=b):=by
 by_cases e:a=b
 .subst e;simp
 .have h:¬(Sum.inr a:Key)=Sum.inr b:=λq=>e (Sum.inr.inj q)
  rw[decide_eq_false h,decide_eq_false e]
theorem Yz(a:Int)(b:Str):decide ((Sum.inl a:Key)=Sum.inr b)=false:=decide_eq_false (λq=>nomatch q)
theorem Us(a:Str)(b:Int):decide ((Sum.inr a:Key)=Sum.inl b)=false:=decide_eq_false (λq=>nomatch q)
def bN(prog:ϯ)(w:ϭ):PySem.KeyKind prog w Key where
 is:=nj
 hash:=agg w
 inj:=λv a b ha hb=>by
  obtain⟨i,t,rfl,rfl⟩|⟨x,t,rfl,rfl⟩:=gw ha
  .obtain⟨j,u,rfl,e⟩|⟨y,u,rfl,e⟩:=gw hb
   .injection e with e1 _;rw[e1]
   .exact nomatch e
  .obtain⟨j,u,rfl,e⟩|⟨y,u,rfl,e⟩:=gw hb
   .exact nomatch e
   .injection e with e1 _;rw[e1]
 byValue:=λk v h=>by
  obtain⟨i,t,rfl,rfl⟩|⟨x,t,rfl,rfl⟩:=gw h<;>rfl
 pyHash:=λhv h=>by
  obtain⟨i,t,rfl,rfl⟩|⟨x,t,rfl,rfl⟩:=gw hv
  .exact wpAny_pyHash_int h
  .exact wpAny_pyHash_str h
 eqBool:=λhu hv h=>by
  obtain⟨i,t,rfl,rfl⟩|⟨x,t,rfl,rfl⟩:=gw hu
  .obtain⟨j,u,rfl,rfl⟩|⟨y,u,rfl,rfl⟩:=gw hv
   .rw[U7]at h;exact wpAny_eqBool_int h
   .rw[Yz]at h;exact SeqAt.EqAt.int_str i t y u _ _ _ _ h
  .obtain⟨j,u,rfl,rfl⟩|⟨y,u,rfl,rfl⟩:=gw hv
   .rw[Us]at h;exact SeqAt.EqAt.str_int x t j u _ _ _ _ h
   .rw[agD]at h;exact wpAny_eqBool_str h
 «strs» :=λk x t v h=>by
  obtain⟨i,u,rfl,e⟩|⟨y,u,rfl,e⟩:=gw h
  .exact nomatch e
  .injection e with e1 _
   subst e1;cases v<;>rfl
theorem Xn(prog:ϯ)(w:ϭ)(i:Int)(t:Tok):(bN prog w).is (.inl i) (.int i t)=true:=ahA i t
theorem Zw(prog:ϯ)(w:ϭ)(x:Str)(t:Tok):(bN prog w).is (.inr x) (.str x t)=true:=abS x t
inductive V where
 |non|bl (b:Bool)|int (i:Int)|str (x:Str)|byt (b:Array UInt8)|flt (b:UInt64)|ref (a:δ)|ty (n:String)
 deriving DecidableEq
def RelV:V->ε->Prop
 |.non,u=>u=Value.none
 |.bl b,u=>u=Value.bool b
 |.int i,u=>∃t,u=Value.int i t
 |.str x,u=>∃t,u=Value.str x t
 |.byt b,u=>∃t,u=Value.bytes b t
 |.flt b,u=>∃t,u=Value.float b t
 |.ref a,u=>u=Value.ref a
 |.ty n,u=>u=Value.type n
abbrev Vals:List V->List ε->Prop:=Paired RelV
theorem Vals.length{xs:List V}{us:List ε}(r:Vals xs us):xs.length=us.length:=Paired.length r
theorem Vals.get:∀{xs:List V}{us:List ε}{i:Nat}{x:V},Vals xs us->xs[i]?=some x->∃u,us[i]?=some u/\RelV x u
 |_,_,_,_,.nil,e=>by simp at e
 |_,_,0,_,.cons r _,e=>by simp at e;subst e;exact⟨_,rfl,r⟩
 |_,_,i+1,x,.cons _ t,e=>by
  obtain⟨u,h1,h2⟩:=Vals.get (i:=i) (x:=x) t (by simpa using e);exact⟨u,by simpa using h1,h2⟩
theorem Vals.append:∀{xs ys:List V}{us ws:List ε},Vals xs us->Vals ys ws->Vals (xs++ys) (us++ws)
 |_,_,_,_,.nil,s=>s
 |_,_,_,_,.cons r t,s=>.cons r (Vals.append t s)
theorem Vals.take:∀{xs:List V}{us:List ε}(n:Nat),Vals xs us->Vals (xs.take n) (us.take n)
 |_,_,0,_=>.nil
 |_,_,_+1,.nil=>.nil
 |_,_,n+1,.cons r t=>.cons r (Vals.take n t)
theorem Vals.drop:∀{xs:List V}{us:List ε}(n:Nat),Vals xs us->Vals (xs.drop n) (us.drop n)
 |_,_,0,r=>r
 |_,_,_+1,.nil=>.nil
 |_,_,n+1,.cons _ t=>Vals.drop n t
def bz:Option V->Option ε->Prop
 |some v,some u=>RelV v u
 |none,none=>True
 |_,_=>False
def KV{κ:Type}:List (κ×V)->List (κ×ε)->Prop:=Paired λ(p:κ×V)(q:κ×ε)=>p.1=q.1/\RelV p.2 q.2
def kV:Key->V
 |.inl i=>.int i
 |.inr x=>.str x
inductive HO where
 |lst (xs:List V)
 |tup (xs:List V)
 |dK (Ϸ:List (Key×V))|dT (Ϸ:List (List Key×V))
 |set (S:Int->Bool) (n:Nat)
 |ins (C dx:δ) (fs:List (Str×V))
 |own (x:δ)
 |xd (fs:List (Str×V))
 |met (f x:δ)
 |rng (lo hi:Int)
 |frz (o:Obj) (u:HO)
 |tbl (ps:Array ε)
 |ext (φ:ϫ->Prop)
abbrev Hp:=δ->Option HO
def upd(H:Hp)(a:δ)(o:HO):Hp:=λb=>if b=a then some o else H b
theorem υ{H:Hp}{a:δ}{o:HO}:upd H a o a=some o:=by unfold upd;rw[if_pos rfl]
theorem ι{H:Hp}{a b:δ}{o:HO}(h:b≠a):upd H a o b=H b:=by unfold upd;rw[if_neg h]
theorem af5{H:Hp}{a b:δ}{o u:HO}(h:H a=some o)(h':H b=some u)(d:o≠u):a≠b:=by
 intro e;subst e;rw[h]at h';exact d (Option.some.inj h')
theorem Η{H:Hp}{a b:δ}{o:HO}(h:H a=some o)(h':H b=none):a≠b:=by
 intro e;subst e;rw[h]at h';cases h'
section
variable(P:ϯ)(w:ϭ)
def Ϗ(H:Hp)(h:ϫ)(a:δ):HO->Prop
 |.lst xs=>xs.length<=Ϫ/\∃(ϸ:List ε)(n:Nat),Vals xs ϸ/\h.get? a=some {cls:=.type "list",data:=.seq ϸ.toArray n}
 |.tup xs=>xs.length<=Ϫ/\∃ϸ:List ε,Vals xs ϸ/\IsTup h a ϸ.toArray
 |.dK Ϸ=>Ϸ.length<=Ϫ/\(a==sysModules)=false/\∃vs,KV Ϸ vs/\h.DictOf (bN P w) a vs
 |.dT Ϸ=>Ϸ.length<=Ϫ/\(a==sysModules)=false/\∃xs:List (List Key×δ×ε),
   Paired (λ(p:List Key×V)(q:List Key×δ×ε)=>p.1=q.1/\H q.2.1=some (.tup (p.1.map kV))/\RelV p.2 q.2.2) Ϸ xs/\
   ∃o es ep,h.get? a=some o/\o.ExactDict/\o.data=.dict es ep/\es.toList=xs.map (entryOfKey (tupleKind (bN P w)))/\(xs.map (·.1)).Nodup
 |.set S n=>h.SetOf (intKind P w) a S n
 |.ins C dx fs=>H dx=some (.own a)/\fs.length<=1000/\dx≠a/\h.get? a=some (al2 C dx)/\
   ∃mA,h.Ns1 dx mA/\(∀f,bz (fs.lookup f) (mA f))/\PySem.Within mA (fs.map (·.1))
 |.own _=>∃o,h.get? a=some o
 |.xd fs=>∃mA,h.Ns1 a mA/\∀f,bz (fs.lookup f) (mA f)
 |.rng lo hi=>∃t u v,h.get? a=some {cls:=.type "range",data:=.fields #[.int lo t,.int hi u,.int 1 v]}
 |.frz o u=>h.get? a=some o/\Ϗ H h a u
 |.tbl ps=>∃qs:Array ε,h.get? a=some {cls:=.none,data:=.fields qs}/\TriplesOk qs.toList/\∀(p:Pos)(cv:ε),codeAmong p qs.toList=some cv->∃c oc u q t vs t',cv=.ref c/\codeAmong p ps.toList=some (.str q t)/\H c=some (.frz oc u)/\oc.data=.fields vs/\vs[1]?=some (.str q t')
 |.met f x=>h.get? a=some (ana (.ref f) (.ref x))
 |.ext φ=>φ h/\(∃o,h.get? a=some o)/\∀h1 h2:ϫ,φ h1->(∀o,h1.get? a=some o->h2.get? a=some o)->φ h2
def Ϙ(H:Hp)(h:ϫ):=∀a o,H a=some o->Ϗ P w H h a o
end
section
variable{P:ϯ}{w:ϭ}{H H':Hp}{h h':ϫ}{a:δ}{o:HO}
theorem Ϗ.lt(x:Ϗ P w H h a o):a<h.objs.size:=by
 cases o with
 |lst xs=>obtain⟨_,_,_,_,e⟩:=x;exact abe e
 |tup xs=>obtain⟨_,_,_,p⟩:=x;exact p.lt
 |dK Ϸ=>obtain⟨_,_,_,_,o,_,_,e,_⟩:=x;exact abe e
 |dT Ϸ=>obtain⟨_,_,_,_,o,_,_,e,_⟩:=x;exact abe e
 |set S n=>obtain⟨o,_,_,_,e,_⟩:=x;exact abe e
 |ins C dx fs=>obtain⟨_,_,_,e,_⟩:=x;exact abe e
 |own y=>obtain⟨_,e⟩:=x;exact abe e
 |xd fs=>obtain⟨_,⟨_,_,_,e,_⟩,_⟩:=x;exact abe e
 |rng lo hi=>obtain⟨_,_,_,e⟩:=x;exact abe e
 |frz ob u=>obtain⟨e,_⟩:=x;exact abe e
 |tbl ps=>obtain⟨_,e,_⟩:=x;exact abe e
 |met f y=>exact abe (show h.get? a=some _ from x)
 |ext φ=>obtain⟨_,⟨_,e⟩,_⟩:=x;exact abe e
theorem Paired.mapP{α β:Type}{F G:α->β->Prop}:∀{l₁:List α}{l₂:List β},Paired F l₁ l₂->(∀a b,F a b->G a b)->Paired G l₁ l₂
 |_,_,.nil,_=>.nil
 |_,_,.cons r t,f=>.cons (f _ _ r) (Paired.mapP t f)
theorem Ϗ.stay(x:Ϗ P w H h a o)(k:∀b u,(b=a\/H b=some (.own a))->h.get? b=some u->h'.get? b=some u)(ho:∀b,H b=some (.own a)->H' b=some (.own a))(ht:∀b xs,H b=some (.tup xs)->H' b=some (.tup xs))(hz:∀b ob u,H b=some (.frz ob u)->H' b=some (.frz ob u):=by exact λ_ _ _ q=>q):Ϗ P w H' h' a o:=by
 induction o with
 |lst xs=>obtain⟨z,ϸ,n,r,e⟩:=x;exact⟨z,ϸ,n,r,k _ _ (.inl rfl) e⟩
 |tup xs=>obtain⟨z,ϸ,r,ob,e,c⟩:=x;exact⟨z,ϸ,r,ob,k _ _ (.inl rfl) e,c⟩
 |dK Ϸ=>obtain⟨z,y,vs,r,ob,es,ep,e,c⟩:=x;exact⟨z,y,vs,r,ob,es,ep,k _ _ (.inl rfl) e,c⟩
 |dT Ϸ=>
  obtain⟨z,y,xs,r,ob,es,ep,e,c⟩:=x;exact⟨z,y,xs,Paired.mapP r λp q z=>⟨z.1,ht _ _ z.2.1,z.2.2⟩,ob,es,ep,k _ _ (.inl rfl) e,c⟩
 |set S n=>obtain⟨ob,es,ep,t,e,c⟩:=x;exact⟨ob,es,ep,t,k _ _ (.inl rfl) e,c⟩
 |ins C dx fs=>
  obtain⟨d,z,ne,e,mA,⟨od,es,ep,e2,c⟩,r⟩:=x;exact⟨ho _ d,z,ne,k _ _ (.inl rfl) e,mA,⟨od,es,ep,k _ _ (.inr d) e2,c⟩,r⟩
 |own y=>obtain⟨ob,e⟩:=x;exact⟨ob,k _ _ (.inl rfl) e⟩
 |xd fs=>obtain⟨mA,⟨od,es,ep,e,c⟩,r⟩:=x;exact⟨mA,⟨od,es,ep,k _ _ (.inl rfl) e,c⟩,r⟩
 |rng lo hi=>obtain⟨t,u,v,e⟩:=x;exact⟨t,u,v,k _ _ (.inl rfl) e⟩
 |frz ob u ih=>obtain⟨e,q⟩:=x;exact⟨k _ _ (.inl rfl) e,ih q⟩
 |tbl ps=>
  obtain⟨qs,e,tr,z⟩:=x;refine⟨qs,k _ _ (.inl rfl) e,tr,λp cv hc=>?_⟩;obtain⟨c,oc,u,q,t,vs,t',e1,e2,e3,e4⟩:=z p cv hc;exact⟨c,oc,u,q,t,vs,t',e1,e2,hz _ _ _ e3,e4⟩
 |met f y=>
  have e:h.get? a=some (ana (.ref f) (.ref y)):=x;show h'.get? a=some (ana (.ref f) (.ref y));exact k a _ (.inl rfl) e
 |ext φ=>obtain⟨p,⟨o,e⟩,st⟩:=x;exact⟨st _ _ p λo q=>k _ _ (.inl rfl) q,⟨o,k _ _ (.inl rfl) e⟩,st⟩
theorem Ϙ.lt(x:Ϙ P w H h)(e:H a=some o):a<h.objs.size:=(x a o e).lt
theorem Ϙ.fresh(x:Ϙ P w H h)(e:h.objs.size<=a):H a=none:=by
 cases q:H a with
 |none=>rfl
 |some u=>exact absurd (abu (x.lt q) e) (aiE _)
theorem Ϙ.kept(x:Ϙ P w H h)(k:∀b u,h.get? b=some u->h'.get? b=some u):Ϙ P w H h':=λa o e=>
 (x a o e).stay (λb u _ q=>k b u q) (λ_ q=>q) λ_ _ q=>q
theorem Ϙ.laid(x:Ϙ P w H h)(k:∀b u,h.get? b=some u->h'.get? b=some u)(hp:h.objs.size<=a)(new:Ϗ P w (upd H a o) h' a o):Ϙ P w (upd H a o) h':=λb u e=>by
 have hn:=x.fresh hp;by_cases hb:b=a
 .subst hb;rw[υ]at e;cases e;exact new
 .rw[ι hb]at e;exact(x b u e).stay (λc v _ q=>k c v q) (λc q=>by rw[ι (Η q hn)];exact q) (λc xs q=>by rw[ι (Η q hn)];exact q) λc ob v q=>by rw[ι (Η q hn)];exact q
end
def Rd(H:Hp)(a:δ)(u:HO):Prop:=H a=some u\/∃o,H a=some (.frz o u)
theorem Rd.ok{P:ϯ}{w:ϭ}{H:Hp}{h:ϫ}{a:δ}{u:HO}(r:Rd H a u)(x:Ϙ P w H h):Ϗ P w H h a u:=by
 obtain r|⟨o,r⟩:=r
 .exact x a u r
 .obtain⟨_,q⟩:=x a _ r;exact q
def rB:Option HO->Prop
 |some (.lst _)=>True
 |some (.dK _)=>True
 |some (.dT _)=>True
 |some (.set _ _)=>True
 |some (.ins _ _ _)=>True
 |some (.ext _)=>True
 |_=>False
section
variable{P:ϯ}{w:ϭ}{H:Hp}{h h':ϫ}{x e:δ}{o':HO}
theorem Ϙ.write(ok:Ϙ P w H h)(mu:rB (H x))(he:e=x\/H e=some (.own x))(k:∀b u,b≠e->h.get? b=some u->h'.get? b=some u)(heo:∃u,h'.get? e=some u)(new:Ϗ P w (upd H x o') h' x o'):Ϙ P w (upd H x o') h':=λb u q=>by
 have nown:∀c y,H c=some (.own y)->c≠x:=λc y r z=>by subst z;rw[r]at mu;exact mu
 have ntup:∀c xs,H c=some (.tup xs)->c≠x:=λc xs r z=>by subst z;rw[r]at mu;exact mu
 by_cases hb:b=x
 .subst hb;rw[υ]at q;cases q;exact new
 .rw[ι hb]at q;by_cases hbe:b=e
  .have q':H b=some (.own x):=by
    obtain z|z:=he
    .exact absurd (hbe.trans z) hb
    .rw[hbe];exact z
   rw[q]at q';cases q';obtain⟨v,hv⟩:=heo;exact⟨v,by rw[hbe];exact hv⟩
  .refine(ok b u q).stay (λc v hc r=>k c v ?_ r) (λc r=>by rw[ι (nown c b r)];exact r) (λc xs r=>by rw[ι (ntup c xs r)];exact r) λc ob v r=>by rw[ι (λz=>by subst z;rw[r]at mu;exact mu)];exact r
   obtain rfl|hc:=hc
   .exact hbe
   .rintro rfl
    obtain z|z:=he
    .exact nown c b hc z
    .rw[hc]at z;cases z;exact hb rfl
end
structure Un(fs ex:List δ)(H H':Hp)(h h':ϫ):Prop where
 keep:∀b o,h.get? b=some o->H b=none->b∉fs->b∉ex->h'.get? b=some o
 slot:∀b o,h.get? b=some o->H b=none->b∈fs->b∉ex->∃sl,h'.get? b=some {o with slots:=sl}
 free:∀b o,h.get? b=some o->H b=none->b∉ex->H' b=none
 there:∀b o,h.get? b=some o->b∉ex->∃o',h'.get? b=some o'
 tups:∀b xs,H b=some (.tup xs)->H' b=some (.tup xs)
 frzs:∀b o u,H b=some (.frz o u)->H' b=some (.frz o u)
 tbls:∀b ps,H b=some (.tbl ps)->∃more,H' b=some (.tbl (ps++more))
section
variable{fs fs' ex ex':List δ}{H H1 H2:Hp}{h h1 h2 h':ϫ}{a x e:δ}{o:HO}
theorem Un.any(u:Un fs ex H H1 h h1){b:δ}{ob:Obj}(q:h.get? b=some ob)(n:H b=none)(hx:b∉ex):∃sl,h1.get? b=some {ob with slots:=sl}:=by
 by_cases hb:b∈fs
 .exact u.slot b ob q n hb hx
 .exact⟨ob.slots,u.keep b ob q n hb hx⟩
theorem Un.kept(k:∀b u,h.get? b=some u->h'.get? b=some u):Un fs ex H H h h':=
 ⟨λb ob q _ _ _=>k b ob q,λb ob q _ _ _=>⟨ob.slots,k b ob q⟩,λ_ _ _ n _=>n,λb ob q _=>⟨ob,k b ob q⟩,λ_ _ q=>q,λ_ _ _ q=>q,λ_ ps q=>⟨#[],by rw[q];simp⟩⟩
theorem Un.refl:Un fs ex H H h h:=Un.kept λ_ _ q=>q
theorem Un.laid(k:∀b u,h.get? b=some u->h'.get? b=some u)(hp:h.objs.size<=a)(hn:H a=none):Un fs ex H (upd H a o) h h' where
 keep:=λb u q _ _ _=>k b u q
 slot:=λb u q _ _ _=>⟨u.slots,k b u q⟩
 free:=λb u q n _=>by rw[ι (ab6 (abu (abe q) hp))];exact n
 there:=λb u q _=>⟨u,k b u q⟩
 tups:=λb xs q=>by rw[ι (Η q hn)];exact q
 frzs:=λb u xs q=>by rw[ι (Η q hn)];exact q
 tbls:=λb ps q=>⟨#[],by rw[ι (Η q hn),q];simp⟩
theorem Un.write(mu:rB (H x))(he:e=x\/H e=some (.own x))(k:∀b u,b≠e->h.get? b=some u->h'.get? b=some u)(heo:∃u,h'.get? e=some u):Un fs ex H (upd H x o) h h':=by
 have hx:∀b,H b=none->b≠x:=λb n z=>by subst z;rw[n]at mu;exact mu
 have hb:∀b,H b=none->b≠e:=λb n z=>by
  subst z;obtain r|r:=he
  .exact hx b n r
  .rw[n]at r;cases r
 have hm:∀b u,H b=some u->¬rB (some u)->b≠x:=λb u q nm z=>by subst z;rw[q]at mu;exact nm mu
 refine⟨λb u q n _ _=>k b u (hb b n) q,λb u q n _ _=>⟨u.slots,k b u (hb b n) q⟩,λb u q n _=>by rw[ι (hx b n)];exact n,λb u q _=>?_,
  λb xs q=>by rw[ι (hm b _ q λz=>z)];exact q,λb u xs q=>by rw[ι (hm b _ q λz=>z)];exact q,λb ps q=>⟨#[],by rw[ι (hm b _ q λz=>z),q];simp⟩⟩
 by_cases hbe:b=e
 .subst hbe;exact heo
 .exact⟨u,k b u hbe q⟩
end
def iB(h:ϫ)(H:Hp):List δ:=(afz h.objs.size).filter λa=>(H a).isSome
def gG(h:ϫ)(H:Hp):ϫ:=W.hideAll h (iB h H)
theorem TY(h:ϫ)(H:Hp):(gG h H).objs.size=h.objs.size:=W.hideAll_size _ _
theorem adU{h:ϫ}{H:Hp}{b:δ}{o:Obj}(e:h.get? b=some o)(n:H b=none):(gG h H).get? b=some o:=
 W.hideAll_get _ e λhm=>by
  have q:(H b).isSome=true:=(ac8.mp hm).2;rw[n]at q;simp at q
theorem ado{h:ϫ}{H:Hp}{b:δ}{o:Obj}(e:(gG h H).get? b=some o):h.get? b=some o/\H b=none:=by
 have e':h.get? b=some o:=W.of_hideAll (iB h H) e;refine⟨e',?_⟩;cases q:H b with
 |none=>rfl
 |some x=>
  have hm:b∈iB h H:=ac8.mpr ⟨alZ.mpr (abe e'),by simp[q]⟩;have z:(gG h H).get? b=none:=W.hideAll_none (iB h H) hm;rw[z]at e;cases e
def aau(g h:ϫ)(L:δ):List (δ×Obj):=(afz h.objs.size).filterMap λa=>if a=L\/(g.get? a).isSome=true then none else(h.get? a).map λo=>(a,o)
def rest(g h:ϫ)(L d:δ):List (δ×Obj):=(aau g h L).filter λp=>decide (p.1≠d)
structure Mod(K:Ϩ)(mg:Str->Option ε)(base:ϫ):Prop where
 kin:K.In base
 glob:base.Ns mainGlobals mg
 blt:∃mb,base.Ns builtinsNs mb/\∀x:Str,x≠"__name__"->mb x=bootBuiltins x
 nolimit:base.NoLimit
structure Cx where
 prog:ϯ
 w:ϭ
 K:Ϩ
 mg:Str->Option ε
 base:ϫ
 A:ϰ
 N:List Str
 s₀:μ
 H₀:Hp
 env:Env
 outer:List Env
 stack:List Env
 ex:List δ
 fn:Str->Bool
 calm:Bool
 pn:List (δ×Obj)
 xe:ε->μ->Prop
def bK(l:List Env):List δ:=l.filterMap (·.frame)
abbrev Cx.fs(X:Cx):List δ:=bK X.outer
def v7(sc:ahI)(x:Str):Prop:=sc.names.lookup x=some .local\/sc.names.lookup x=some .cell\/sc.names.lookup x=some .free
def Loc(sc:ahI)(x:Str):Prop:=sc.names.lookup x=some .local\/sc.names.lookup x=some .cell
def Look(env:Env)(h:ϫ)(m:Str->Option ε)(x:Str)(u:ε):Prop:=
 (env.kindOf x=some .local/\m x=some u)\/((env.kindOf x=some .cell\/env.kindOf x=some .free)/\∃c,env.cells.lookup x=some c/\h.IsCell c (some u))
structure Cx.Ok(X:Cx):Prop where
 mod:Mod X.K X.mg X.base
 kind:X.env.scope.kind=.function
 glob:X.env.globals=mainGlobals
 blt:X.env.builtins=builtinsNs
 above:X.s₀.heap.objs.size<=X.env.locals
 inj:∀x y c,X.env.cells.lookup x=some c->X.env.cells.lookup y=some c->x=y
 has:∀x,(X.env.kindOf x=some .cell\/X.env.kindOf x=some .free)->∃c,X.env.cells.lookup x=some c
 cab:∀x c,X.fn x=true->X.env.cells.lookup x=some c->X.s₀.heap.objs.size<=c
 hd:X.calm=true->X.A.handled=none
 frames:X.A.frames=some X.stack
 stk:X.stack=X.outer\/(X.stack=X.env::X.outer/\X.env.frame=some X.env.locals)
 exf:∀b∈X.ex,b≠X.env.locals/\∀x c,X.env.cells.lookup x=some c->c≠b
 bs:∀b o,X.base.get? b=some o->X.s₀.heap.get? b=some o/\X.H₀ b=none
 bsz:X.base.objs.size<=X.s₀.heap.objs.size
 noex:∀b o,X.base.get? b=some o->b∉X.ex
 exfs:∀b∈X.ex,b∉X.fs
 funs:X.s₀.heap.FunFrames X.base X.outer
 frf:∀b∈X.fs,X.H₀ b=none
structure Inv(X:Cx)(ϵ:List (δ×Obj))(σ:List (Option V))(H:Hp)(s:μ):Prop where
 ok:X.Ok
 os:s.os=X.s₀.os
 bare:AllBare s.gens
 base:Un X.fs X.ex X.H₀ H X.s₀.heap s.heap
 loc:∃m,s.heap.Ns X.env.locals m/\∀(i:Nat)(x:Str)(v:V),X.N[i]?=some x->σ[i]?=some (some v)->v7 X.env.scope x->∃u,RelV v u/\Look X.env s.heap m x u
 cell:∀x c,X.env.cells.lookup x=some c->∃v,s.heap.IsCell c v
 free:H X.env.locals=none
 freeC:∀x c,X.env.cells.lookup x=some c->H c=none
 pin:∀p∈X.pn++ϵ,s.heap.get? p.1=some p.2/\H p.1=none/\p.1≠X.env.locals/\p.1∉X.fs/\∀v,p.2.data≠.cell v
 hok:Ϙ X.prog X.w H s.heap
 len:σ.length=X.N.length
section
variable{X:Cx}{ϵ:List (δ×Obj)}{σ:List (Option V)}{H H':Hp}{s:μ}{h':ϫ}
theorem Cx.Ok.nofr(ok:X.Ok){b:δ}{o:Obj}(e:X.base.get? b=some o):b∉X.fs:=λhb=>by
 have:=(ok.funs.mem hb).1;rw[e]at this;cases this
theorem Inv.bs(I:Inv X ϵ σ H s):∀b o,X.base.get? b=some o->s.heap.get? b=some o/\H b=none:=λb o e=>
 ⟨I.base.keep b o (I.ok.bs b o e).1 (I.ok.bs b o e).2 (I.ok.nofr e) (I.ok.noex b o e),I.base.free b o (I.ok.bs b o e).1 (I.ok.bs b o e).2 (I.ok.noex b o e)⟩
theorem Inv.bk(I:Inv X ϵ σ H s):∀b o,X.base.get? b=some o->s.heap.get? b=some o:=λb o e=>(I.bs b o e).1
theorem Inv.mod(I:Inv X ϵ σ H s):Mod X.K X.mg X.base:=I.ok.mod
theorem Inv.kIn(I:Inv X ϵ σ H s):X.K.In s.heap:=I.ok.mod.kin.keeps I.bk
theorem Inv.nolimit(I:Inv X ϵ σ H s):s.heap.NoLimit:=I.ok.mod.nolimit.keeps I.bk
theorem Inv.lt(I:Inv X ϵ σ H s):X.env.locals<s.heap.objs.size:=let⟨_,hn,_⟩:=I.loc;hn.lt
theorem Inv.sz(I:Inv X ϵ σ H s):X.s₀.heap.objs.size<=s.heap.objs.size:=afK I.ok.above (al3 I.lt)
theorem Inv.nofs(I:Inv X ϵ σ H s){a:δ}(h:s.heap.objs.size<=a):a∉X.fs:=λhb=>by
 obtain⟨_,o,ho,_⟩:=I.ok.funs.mem hb;exact absurd (abu (abe ho) (afK I.sz h)) (aiE _)
theorem Inv.cne(I:Inv X ϵ σ H s):∀x c,X.env.cells.lookup x=some c->c≠X.env.locals:=λx c e z=>by
 obtain⟨v,o,ho,hd⟩:=I.cell x c e;obtain⟨m,⟨o',es,ep,ho',hd',_⟩,_⟩:=I.loc;rw[z,ho']at ho;cases ho;rw[hd']at hd;cases hd
theorem Inv.funs(I:Inv X ϵ σ H s):s.heap.FunFrames X.base X.outer:=by
 have all:∀(l:List Env),(∀b∈bK l,b∈X.fs)->X.s₀.heap.FunFrames X.base l->s.heap.FunFrames X.base l:=by
  intro l;induction l with
  |nil=>intro _ _;trivial
  |cons env r ih=>
   intro hs hl;obtain⟨hk,⟨L,o,hf,hn,ho,hd⟩,hr⟩:=hl;have hL:L∈X.fs:=hs L (by unfold bK;rw[List.filterMap_cons,hf];exact aeM);obtain⟨sl,e⟩:=I.base.slot L o ho (I.ok.frf L hL) hL λz=>I.ok.exfs L z hL
   exact⟨hk,⟨L,_,hf,hn,e,hd⟩,ih (λb hb=>hs b (by unfold bK;rw[List.filterMap_cons,hf];exact abK _ hb)) hr⟩
 exact all X.outer (λ_ hb=>hb) I.ok.funs
theorem Inv.stack(I:Inv X ϵ σ H s):s.heap.FunFrames X.base X.stack:=by
 obtain e|⟨e,hf⟩:=I.ok.stk
 .rw[e];exact I.funs
 .rw[e];obtain⟨m,hn,_⟩:=I.loc;refine .cons (by rw[I.ok.kind];decide) hf hn ?_ I.funs;exact aiP (afK I.ok.bsz I.ok.above)
theorem Inv.stkSub(I:Inv X ϵ σ H s):∀b∈bK X.stack,b∈X.env.locals::X.fs:=λb hb=>by
 obtain e|⟨e,hf⟩:=I.ok.stk
 .rw[e]at hb;exact abK _ hb
 .rw[e]at hb;unfold bK at hb;rw[List.filterMap_cons,hf]at hb;exact hb
theorem Inv.stkFree(I:Inv X ϵ σ H s):∀b∈bK X.stack,H b=none:=λb hb=>by
 rcases ϴ.mp (I.stkSub b hb)with e|hb
 .rw[e];exact I.free
 .obtain⟨_,o,ho,_⟩:=I.ok.funs.mem hb;exact I.base.free b o ho (I.ok.frf b hb) λz=>I.ok.exfs b z hb
theorem Inv.step{g':Array GenState}{t':Nat}{d':Drawn}{ch:List δ}(I:Inv X ϵ σ H s)(hch:∀b∈ch,(b∈X.ex\/X.s₀.heap.get? b=none)/\b≠X.env.locals/\(∀x c,X.env.cells.lookup x=some c->c≠b)/\∀p∈X.pn++ϵ,p.1≠b)(keep:∀b o,b≠X.env.locals->b∉X.fs->b∉ch->s.heap.get? b=some o->H b=none->h'.get? b=some o)(slot:∀b o,b≠X.env.locals->b∈X.fs->b∉ch->s.heap.get? b=some o->H b=none->∃sl,h'.get? b=some {o with slots:=sl})(free:∀b o,b∉ch->s.heap.get? b=some o->H b=none->H' b=none)(there:∀b o,b∉ch->s.heap.get? b=some o->∃o',h'.get? b=some o')(tups:∀b xs,H b=some (.tup xs)->H' b=some (.tup xs))(frzs:∀b o u,H b=some (.frz o u)->H' b=some (.frz o u))(tbls:∀b ps,H b=some (.tbl ps)->∃more,H' b=some (.tbl (ps++more)))(ns:∀m,s.heap.Ns X.env.locals m->h'.Ns X.env.locals m)(hok:Ϙ X.prog X.w H' h')(hg:AllBare g'):Inv X ϵ σ H' {s with heap:=h',gens:=g',drawn:=d',toks:=t'}:=by
 have neL:∀b o,X.s₀.heap.get? b=some o->b≠X.env.locals:=λb o e=>ab6 (abu (abe e) I.ok.above)
 have neC:∀b o,X.s₀.heap.get? b=some o->b∉X.ex->b∉ch:=λb o e hx hb=>by
  rcases(hch b hb).1 with z|z
  .exact hx z
  .rw[e]at z;cases z
 have cellK:∀x c,X.env.cells.lookup x=some c->∀v,s.heap.IsCell c v->h'.IsCell c v:=λx c e v ⟨o,ho,hd⟩=>by
  have nch:c∉ch:=λz=>(hch c z).2.2.1 x c e rfl
  by_cases hc:c∈X.fs
  .obtain⟨sl,q⟩:=slot c o (I.cne x c e) hc nch ho (I.freeC x c e);exact⟨_,q,hd⟩
  .exact⟨o,keep c o (I.cne x c e) hc nch ho (I.freeC x c e),hd⟩
 refine⟨I.ok,I.os,hg,⟨λb o e n hb hx=>?_,λb o e n hb hx=>?_,λb o e n hx=>?_,λb o e hx=>?_,λb xs e=>tups b xs (I.base.tups b xs e),λb o xs e=>frzs b o xs (I.base.frzs b o xs e),λb ps e=>?_⟩,?_,λx c e=>?_,?_,λx c e=>?_,λp hp=>?_,hok,I.len⟩
 .exact keep b o (neL b o e) hb (neC b o e hx) (I.base.keep b o e n hb hx) (I.base.free b o e n hx)
 .obtain⟨sl,e1⟩:=I.base.slot b o e n hb hx;obtain⟨sl',e2⟩:=slot b _ (neL b o e) hb (neC b o e hx) e1 (I.base.free b o e n hx);exact⟨sl',e2⟩
 .obtain⟨o',e1⟩:=I.base.there b o e hx;exact free b o' (neC b o e hx) e1 (I.base.free b o e n hx)
 .obtain⟨o',e1⟩:=I.base.there b o e hx;exact there b o' (neC b o e hx) e1
 .obtain⟨m1,e1⟩:=I.base.tbls b ps e;obtain⟨m2,e2⟩:=tbls b _ e1;exact⟨m1++m2,by rw[e2,Array.append_assoc]⟩
 .obtain⟨m,hn,hl⟩:=I.loc;refine⟨m,ns m hn,λi x v e1 e2 e3=>?_⟩;obtain⟨u,r,l⟩:=hl i x v e1 e2 e3;refine⟨u,r,?_⟩;obtain l|⟨k,c,e,z⟩:=l
  .exact .inl l
  .exact .inr ⟨k,c,e,cellK x c e _ z⟩
 .obtain⟨v,z⟩:=I.cell x c e;exact⟨v,cellK x c e v z⟩
 .obtain⟨m,⟨o,_,_,ho,_⟩,_⟩:=I.loc;exact free _ o (λz=>(hch _ z).2.1 rfl) ho I.free
 .obtain⟨v,o,ho,hd⟩:=I.cell x c e;exact free c o (λz=>(hch c z).2.2.1 x c e rfl) ho (I.freeC x c e)
 .obtain⟨e,n,ne,nf,d⟩:=I.pin p hp;have nch:p.1∉ch:=λz=>(hch p.1 z).2.2.2 p hp rfl
  exact⟨keep p.1 p.2 ne nf nch e n,free p.1 p.2 nch e n,ne,nf,d⟩
theorem Inv.un{t':Nat}(I:Inv X ϵ σ H s)(u:Un X.fs [] H H' s.heap h')(hok:Ϙ X.prog X.w H' h'):Inv X ϵ σ H' {s with heap:=h',toks:=t'}:=by
 obtain⟨m,⟨o,es,ep,ho,r⟩,_⟩:=id I.loc;obtain⟨sl,hL⟩:=u.any ho I.free (by simp);exact I.step (g':=s.gens) (d':=s.drawn) (ch:=[]) (λ_ z=>nomatch z) (λb o _ hb _ e n=>u.keep b o e n hb (by simp)) (λb o _ hb _ e n=>u.slot b o e n hb (by simp)) (λb o _ e n=>u.free b o e n (by simp)) (λb o _ e=>u.there b o e (by simp)) u.tups u.frzs u.tbls (λm' hm=>by
  obtain⟨o',es',ep',ho',r'⟩:=hm;rw[ho]at ho';cases ho';exact⟨_,es',ep',hL,r'⟩) hok I.bare
theorem Inv.call{g':Array GenState}{t':Nat}{d':Drawn}{ch:List δ}(I:Inv X ϵ σ H s)(u:Un (bK X.stack) ch H H' s.heap h')(hok:Ϙ X.prog X.w H' h')(hg:AllBare g')(hch:∀b∈ch,(b∈X.ex\/X.s₀.heap.get? b=none)/\b≠X.env.locals/\(∀x c,X.env.cells.lookup x=some c->c≠b)/\∀p∈X.pn++ϵ,p.1≠b):Inv X ϵ σ H' {s with heap:=h',gens:=g',drawn:=d',toks:=t'}:=by
 obtain⟨m,⟨o,es,ep,ho,r⟩,_⟩:=id I.loc;obtain⟨sl,hL⟩:=u.any ho I.free λz=>(hch _ z).2.1 rfl
 exact I.step (ch:=ch) hch (λb o hL hb hc e n=>u.keep b o e n (λz=>(ϴ.mp (I.stkSub b z)).elim hL hb) hc) (λb o _ _ hc e n=>u.any e n hc) (λb o hc e n=>u.free b o e n hc) (λb o hc e=>u.there b o e hc) u.tups u.frzs u.tbls (λm' hm=>by
  obtain⟨o',es',ep',ho',r'⟩:=hm;rw[ho]at ho';cases ho';exact⟨_,es',ep',hL,r'⟩) hok hg
theorem Inv.turned{t':Nat}{it:δ}(I:Inv X ϵ σ H s)(k:∀b o,b≠it->s.heap.get? b=some o->h'.get? b=some o)(hn:H it=none)(hL:it≠X.env.locals)(h1:it∈X.ex\/X.s₀.heap.get? it=none)(h2:∀x c,X.env.cells.lookup x=some c->c≠it)(h3:∀p∈X.pn++ϵ,p.1≠it):Inv X ϵ σ H {s with heap:=h',toks:=t'}:=by
 have nit:∀b u,H b=some u->b≠it:=λb u e z=>by rw[z,hn]at e;cases e
 refine I.step (g':=s.gens) (d':=s.drawn) (ch:=[it]) (λb hb=>?_) (λb o _ _ hc e _=>k b o (λz=>hc (by simp[z])) e) (λb o _ _ hc e _=>⟨o.slots,k b o (λz=>hc (by simp[z])) e⟩) (λ_ _ _ _ n=>n)
  (λb o hc e=>⟨o,k b o (λz=>hc (by simp[z])) e⟩) (λ_ _ e=>e) (λ_ _ _ e=>e) (λb ps e=>⟨#[],by rw[e];simp⟩) (λm hm=>?_) (λb u e=>?_) I.bare
 .have e:b=it:=by simpa using hb
  subst e;exact⟨h1,hL,h2,h3⟩
 .obtain⟨o,es,ep,ho,r⟩:=hm;exact⟨o,es,ep,k _ o (Ne.symm hL) ho,r⟩
 .refine(I.hok b u e).stay (λc v hc q=>k c v ?_ q) (λ_ q=>q) λ_ _ q=>q
  obtain z|z:=hc
  .rw[z];exact nit b u e
  .exact nit c _ z
theorem Inv.tok(I:Inv X ϵ σ H s)(t:Nat):Inv X ϵ σ H {s with toks:=t}:=I.un (h':=s.heap) (t':=t) Un.refl I.hok
theorem Inv.kept{t':Nat}(I:Inv X ϵ σ H s)(k:∀b u,s.heap.get? b=some u->h'.get? b=some u):Inv X ϵ σ H {s with heap:=h',toks:=t'}:=I.un (Un.kept k) (I.hok.kept k)
theorem Inv.laid{a:δ}{o:HO}{t':Nat}(I:Inv X ϵ σ H s)(k:∀b u,s.heap.get? b=some u->h'.get? b=some u)(hp:s.heap.objs.size<=a)(new:Ϗ X.prog X.w (upd H a o) h' a o):Inv X ϵ σ (upd H a o) {s with heap:=h',toks:=t'}:=I.un (Un.laid k hp (I.hok.fresh hp)) (I.hok.laid k hp new)
theorem Inv.write{x e:δ}{o:HO}{t':Nat}(I:Inv X ϵ σ H s)(mu:rB (H x))(he:e=x\/H e=some (.own x))(k:∀b u,b≠e->s.heap.get? b=some u->h'.get? b=some u)(heo:∃u,h'.get? e=some u)(new:Ϗ X.prog X.w (upd H x o) h' x o):Inv X ϵ σ (upd H x o) {s with heap:=h',toks:=t'}:=I.un (Un.write mu he k heo) (I.hok.write mu he k heo new)
theorem Inv.pins_of{pins':List (δ×Obj)}(I:Inv X ϵ σ H s)(h:∀p∈pins',s.heap.get? p.1=some p.2/\H p.1=none/\p.1≠X.env.locals/\p.1∉X.fs/\∀v,p.2.data≠.cell v):Inv X pins' σ H s:=
 ⟨I.ok,I.os,I.bare,I.base,I.loc,I.cell,I.free,I.freeC,λp hp=>(afw.mp hp).elim (λz=>I.pin p (ahp _ z)) (h p),I.hok,I.len⟩
theorem Gd{N:List Str}(hN:N.Nodup){i j:Nat}{x:Str}(a:N[i]?=some x)(b:N[j]?=some x):i=j:=by
 obtain⟨h1,e1⟩:=aal.mp a;obtain⟨h2,e2⟩:=aal.mp b;exact(am0 hN).mp (e1.trans e2.symm)
theorem o9{M:Model}{A:ϰ}{E:ε->μ->Prop}{i:Nat}{x:Str}{v:V}{u:ε}{Q:Unit->μ->Prop}(I:Inv X ϵ σ H s)(hN:X.N.Nodup)(hi:X.N[i]?=some x)(hx:Loc X.env.scope x)(r:RelV v u)(h:∀s',Inv X ϵ (σ.set i (some v)) H s'->(∃a,akk a s.heap s'.heap/\(a=X.env.locals\/X.env.cells.lookup x=some a))->Q () s')(hf:X.fn x=true\/X.env.scope.names.lookup x=some .local:=by first|exact .inl rfl|exact .inr rfl|assumption):ν M A (storeName X.env x u) Q E s:=by
 obtain⟨m,hn,hl⟩:=id I.loc;have hcls:(X.env.scope.kind==.class||(X.env.scope.kind==.module&&X.env.locals !=X.env.globals))=false:=by rw[I.ok.kind];rfl
 have hiσ:i<σ.length:=by rw[I.len];exact(aal.mp hi).1
 have cne:=I.cne;have tracked:∀{a:δ}{h':ϫ},(∃o,s.heap.get? a=some o/\H a=none)->akk a s.heap h'->Ϙ X.prog X.w H h':=λ{a h'} ha hs b ob e=>by
  obtain⟨_,_,hfree⟩:=ha;refine(I.hok b ob e).stay (λc w' hc q=>(hs.2 c ?_).trans q) (λ_ q=>q) λ_ _ q=>q
  rintro rfl
  obtain rfl|hc:=hc
  .rw[hfree]at e;cases e
  .rw[hfree]at hc;cases hc
 obtain hk|hk:=hx
 .refine wpAny_storeName_local hk hn (λh' hn' hs=>?_) hcls;obtain⟨oL,_,_,hoL,_⟩:=id hn;refine h _ ⟨I.ok,I.os,I.bare,⟨λb o e n hb hx=>?_,λb o e n hb hx=>?_,I.base.free,λb o e hx=>?_,I.base.tups,I.base.frzs,I.base.tbls⟩,⟨_,hn',λj y v' e1 e2 e3=>?_⟩,λy c e=>?_,I.free,I.freeC,λp hp=>?_,tracked ⟨oL,hoL,I.free⟩ hs,by simpa using I.len⟩ ⟨_,hs,.inl rfl⟩
  .exact(hs.2 b (ab6 (abu (abe e) I.ok.above))).trans (I.base.keep b o e n hb hx)
  .obtain⟨sl,e1⟩:=I.base.slot b o e n hb hx;exact⟨sl,(hs.2 b (ab6 (abu (abe e) I.ok.above))).trans e1⟩
  .obtain⟨o',e1⟩:=I.base.there b o e hx;exact⟨o',(hs.2 b (ab6 (abu (abe e) I.ok.above))).trans e1⟩
  .by_cases hj:j=i
   .subst hj;rw[hi]at e1;cases e1;rw[amv hiσ]at e2;cases e2;exact⟨u,r,.inl ⟨hk,by simp⟩⟩
   .rw[amH (Ne.symm hj)]at e2;obtain⟨u',r',q⟩:=hl j y v' e1 e2 e3;refine⟨u',r',?_⟩;obtain⟨k,e⟩|⟨k,c,e,z⟩:=q
    .refine .inl ⟨k,?_⟩;have:y≠x:=λe=>hj (Gd hN e1 (e▸hi))
     simp[this,e]
    .exact .inr ⟨k,c,e,z.sameBut hs (cne y c e)⟩
  .obtain⟨w',z⟩:=I.cell y c e;exact⟨w',z.sameBut hs (cne y c e)⟩
  .obtain⟨e,n,ne,nf,d⟩:=I.pin p hp;exact⟨(hs.2 p.1 ne).trans e,n,ne,nf,d⟩
 .have hfn:X.fn x=true:=by
   obtain z|z:=hf
   .exact z
   .rw[z]at hk;cases hk
  obtain⟨c,hc⟩:=I.ok.has x (.inl hk);obtain⟨w',z⟩:=I.cell x c hc;refine wpAny_storeName_cell I.ok.kind hk hc z (λh' hc' hs=>?_);obtain⟨oc,hoc,hocd⟩:=id z;refine h {s with heap:=h'} ⟨I.ok,I.os,I.bare,⟨λb o e n hb hx=>?_,λb o e n hb hx=>?_,I.base.free,λb o e hx=>?_,I.base.tups,I.base.frzs,I.base.tbls⟩,⟨m,hn.sameBut hs (Ne.symm (cne x c hc)),λj y v' e1 e2 e3=>?_⟩,λy c' e=>?_,I.free,I.freeC,λp hp=>?_,tracked ⟨oc,hoc,I.freeC x c hc⟩ hs,by simpa using I.len⟩ ⟨c,hs,.inr hc⟩
  .exact(hs.2 b (ab6 (abu (abe e) (I.ok.cab x c hfn hc)))).trans (I.base.keep b o e n hb hx)
  .obtain⟨sl,e1⟩:=I.base.slot b o e n hb hx;exact⟨sl,(hs.2 b (ab6 (abu (abe e) (I.ok.cab x c hfn hc)))).trans e1⟩
  .obtain⟨o',e1⟩:=I.base.there b o e hx;exact⟨o',(hs.2 b (ab6 (abu (abe e) (I.ok.cab x c hfn hc)))).trans e1⟩
  .by_cases hj:j=i
   .subst hj;rw[hi]at e1;cases e1;rw[amv hiσ]at e2;cases e2;exact⟨u,r,.inr ⟨.inl hk,c,hc,hc'⟩⟩
   .rw[amH (Ne.symm hj)]at e2;obtain⟨u',r',q⟩:=hl j y v' e1 e2 e3;refine⟨u',r',?_⟩;obtain q|⟨k,c',e,z'⟩:=q
    .exact .inl q
    .refine .inr ⟨k,c',e,z'.sameBut hs ?_⟩
     rintro rfl
     exact hj (Gd hN e1 (I.ok.inj _ _ _ e hc▸hi))
  .by_cases hcc:c'=c
   .subst hcc;exact⟨_,hc'⟩
   .obtain⟨w2,z2⟩:=I.cell y c' e;exact⟨w2,z2.sameBut hs hcc⟩
  .obtain⟨e,n,ne,nf,d⟩:=I.pin p hp;refine⟨(hs.2 p.1 ?_).trans e,n,ne,nf,d⟩;intro q;rw[q,hoc]at e;have q':oc=p.2:=Option.some.inj e;exact d w' (by rw[<-q'];exact hocd)
theorem MK{M:Model}{A:ϰ}{E:ε->μ->Prop}{i:Nat}{x:Str}{v:V}{u:ε}{Q:Unit->μ->Prop}(I:Inv X ϵ σ H s)(hN:X.N.Nodup)(hi:X.N[i]?=some x)(hx:Loc X.env.scope x)(r:RelV v u)(h:∀s',Inv X ϵ (σ.set i (some v)) H s'->Q () s')(hf:X.fn x=true\/X.env.scope.names.lookup x=some .local:=by first|exact .inl rfl|exact .inr rfl|assumption):ν M A (storeName X.env x u) Q E s:=
 o9 I hN hi hx r (λs' I' _=>h s' I') hf
theorem Inv.call'{s':μ}{ch:List δ}(I:Inv X ϵ σ H s)(ho:s'.os=s.os)(u:Un (bK X.stack) ch H H' s.heap s'.heap)(hok:Ϙ X.prog X.w H' s'.heap)(hg:AllBare s'.gens)(hch:∀b∈ch,(b∈X.ex\/X.s₀.heap.get? b=none)/\b≠X.env.locals/\(∀x c,X.env.cells.lookup x=some c->c≠b)/\∀p∈X.pn++ϵ,p.1≠b):Inv X ϵ σ H' s':=by
 obtain⟨h',g',d',t',o'⟩:=s';have e:o'=s.os:=ho;subst e;exact I.call (g':=g') (t':=t') (d':=d') u hok hg hch
end
abbrev XK:=ε->Option δ×Bool->Hp->Prop
abbrev St:=List (Option V)
abbrev VK:=V->Hp->Prop
abbrev TE:=St->Hp->VK->Prop
abbrev TT:=St->Hp->(Bool->Hp->Prop)->Prop
abbrev TA:=St->Hp->(List V->Hp->Prop)->Prop
structure Ends where
 nx:St->Hp->Prop
 rt:VK
 bk:St->Hp->Prop:=λ_ _=>False
 ct:St->Hp->Prop:=λ_ _=>False
abbrev TS:=Ends->St->Hp->Prop
def EP(X:Cx)(ϵ:List (δ×Obj))(σ:St)(Q:VK)(u:ε)(s':μ):=∃v H',Inv X ϵ σ H' s'/\RelV v u/\Q v H'
def TP(X:Cx)(ϵ:List (δ×Obj))(σ:St)(Q:Bool->Hp->Prop)(b:Bool)(s':μ):=∃H',Inv X ϵ σ H' s'/\Q b H'
def AP(X:Cx)(ϵ:List (δ×Obj))(σ:St)(Q:List V->Hp->Prop)(us:List ε)(s':μ):=∃vs H',Inv X ϵ σ H' s'/\Vals vs us/\Q vs H'
def SP(X:Cx)(ϵ:List (δ×Obj))(D:Ends)(f:Flow)(s':μ):Prop:=
 match f with
 |.next=>∃σ' H',Inv X ϵ σ' H' s'/\D.nx σ' H'
 |.brk=>∃σ' H',Inv X ϵ σ' H' s'/\D.bk σ' H'
 |.cont=>∃σ' H',Inv X ϵ σ' H' s'/\D.ct σ' H'
 |.ret u=>∃v σ' H',Inv X ϵ σ' H' s'/\RelV v u/\D.rt v H'
def PE(X:Cx)(e:π)(t:TE):Prop:=
 ∀(ϵ:List (δ×Obj))(s:μ)(σ:St)(H:Hp)(Q:VK),Inv X ϵ σ H s->t σ H Q->ν (Ϧ X.prog X.w) X.A (eval e X.env) (EP X ϵ σ Q) X.xe s
def PT(X:Cx)(e:π)(t:TT):Prop:=
 ∀(ϵ:List (δ×Obj))(s:μ)(σ:St)(H:Hp)(Q:Bool->Hp->Prop),Inv X ϵ σ H s->t σ H Q->ν (Ϧ X.prog X.w) X.A (isTrue e X.env (eval e X.env)) (TP X ϵ σ Q) X.xe s
def PW(X:Cx)(e:π)(t:TT):Prop:=
 ∀(whole:Sem ε)(ϵ:List (δ×Obj))(s:μ)(σ:St)(H:Hp)(Q:Bool->Hp->Prop),Inv X ϵ σ H s->t σ H Q->ν (Ϧ X.prog X.w) X.A (isTrue e X.env whole) (TP X ϵ σ Q) X.xe s
theorem PW.pt{X:Cx}{e:π}{t:TT}(h:PW X e t):PT X e t:=h _
def PA(X:Cx)(es:List π)(t:TA):Prop:=
 ∀(pos:Pos)(ϵ:List (δ×Obj))(s:μ)(σ:St)(H:Hp)(Q:List V->Hp->Prop),Inv X ϵ σ H s->t σ H Q->ν (Ϧ X.prog X.w) X.A (spliced (backTo pos (Ϭ es X.env))) (AP X ϵ σ Q) X.xe s
def PS(X:Cx)(st:ϧ)(t:TS):Prop:=
 ∀(ϵ:List (δ×Obj))(s:μ)(σ:St)(H:Hp)(D:Ends),Inv X ϵ σ H s->t D σ H->ν (Ϧ X.prog X.w) X.A (exec st X.env) (SP X ϵ D) X.xe s
def fX(X:Cx)(st:List ϧ)(t:TS):Prop:=
 ∀(ϵ:List (δ×Obj))(s:μ)(σ:St)(H:Hp)(D:Ends),Inv X ϵ σ H s->t D σ H->ν (Ϧ X.prog X.w) X.A (execs st X.env) (SP X ϵ D) X.xe s
theorem ρ{α:Type}{t:Sem α}{Q Q':α->μ->Prop}{M:Model}{A:ϰ}{E:ε->μ->Prop}{s:μ}(h:ν M A t Q E s)(hQ:∀a s,Q a s->Q' a s):ν M A t Q' E s:=adm h hQ λ_ _ x=>x
section
variable{X:Cx}
def Tf(i:Nat):TE:=λσ H Q=>∃v,σ[i]?=some (some v)/\Q v H
def tC(v:V):TE:=λ_ H Q=>Q v H
theorem aed{i:Nat}{x:Str}{pos:Pos}(hN:X.N[i]?=some x)(hv:v7 X.env.scope x)(hd:(x==("__debug__":Str))=false:=by decide)(hcd:(x==("__classdict__":Str))=false:=by decide):PE X (.Name x pos) (Tf i):=by
 intro ϵ s σ H Q I h;obtain⟨v,e,h⟩:=h;obtain⟨m,hn,hl⟩:=I.loc;obtain⟨u,r,l⟩:=hl i x v hN e hv;have fin:EP X ϵ σ Q u s:=⟨v,H,I,r,h⟩;obtain⟨hk,hm⟩|⟨hk,c,hc,hcell⟩:=l
 .exact wpAny_Name (wpAny_loadName_local I.ok.kind hk hn hm fin) hd
 .obtain hk|hk:=hk
  .exact wpAny_Name (wpAny_loadName_cell I.ok.kind hk hc hcell fin) hd
  .exact wpAny_Name (wpAny_loadName_free I.ok.kind hk hc hcell fin hcd) hd
theorem acn{i j pos}:PE X (.Constant (.int i) j pos) (tC (.int i)):=λ_ _ _ H _ I h=>wpAny_Constant_int ⟨.int i,H,I.tok _,⟨_,rfl⟩,h⟩
theorem ain{b j pos}:PE X (.Constant (.bool b) j pos) (tC (.bl b)):=λ_ _ _ H _ I h=>Constant_bool ⟨.bl b,H,I,rfl,h⟩
theorem afn{j pos}:PE X (.Constant .none j pos) (tC .non):=λ_ _ _ H _ I h=>Constant_none ⟨.non,H,I,rfl,h⟩
theorem abD{x j pos}:PE X (.Constant (.str x) j pos) (tC (.str x)):=λ_ _ _ H _ I h=>Calls.Constant_str ⟨.str x,H,I.tok _,⟨_,rfl⟩,h⟩
def Gl(X:Cx)(x:Str):Prop:=X.env.kindOf x=some .globalImplicit
theorem jY{E:ε->μ->Prop}{ϵ:List (δ×Obj)}{s:μ}{σ:St}{H:Hp}{x:Str}{u:ε}{pos:Pos}{Q:ε->μ->Prop}(I:Inv X ϵ σ H s)(hg:Gl X x)(hm:X.mg x=some u)(h:Q u s)(hd:(x==("__debug__":Str))=false:=by decide):ν (Ϧ X.prog X.w) X.A (eval (.Name x pos) X.env) Q E s:=
 Calls.Name_function_global I.ok.kind hg (Calls.loadGlobal_global (by rw[I.ok.glob];exact I.mod.glob.keeps I.bk) hm h) hd
theorem gY{E:ε->μ->Prop}{ϵ:List (δ×Obj)}{s:μ}{σ:St}{H:Hp}{x:Str}{u:ε}{pos:Pos}{Q:ε->μ->Prop}(I:Inv X ϵ σ H s)(hg:Gl X x)(hm:X.mg x=none)(hv:bootBuiltins x=some u)(h:Q u s)(hn:x≠"__name__":=by decide)(hd:(x==("__debug__":Str))=false:=by decide):ν (Ϧ X.prog X.w) X.A (eval (.Name x pos) X.env) Q E s:=by
 obtain⟨mb,h1,h2⟩:=I.mod.blt;exact Calls.Name_function_global I.ok.kind hg (Calls.loadGlobal_builtin (by rw[I.ok.glob];exact I.mod.glob.keeps I.bk) hm (by rw[I.ok.blt];exact h1.keeps I.bk) ((h2 x hn).trans hv) h) hd
theorem Ln{x:Str}{v:V}{u:ε}{pos:Pos}(hg:Gl X x)(hm:X.mg x=some u)(r:RelV v u)(hd:(x==("__debug__":Str))=false:=by decide):PE X (.Name x pos) (tC v):=
 λ_ _ _ H _ I h=>jY I hg hm ⟨v,H,I,r,h⟩ hd
theorem ab5{x:Str}{v:V}{u:ε}{pos:Pos}(hg:Gl X x)(hm:X.mg x=none)(hv:bootBuiltins x=some u)(r:RelV v u)(hn:x≠"__name__":=by decide)(hd:(x==("__debug__":Str))=false:=by decide):PE X (.Name x pos) (tC v):=
 λ_ _ _ H _ I h=>gY I hg hm hv ⟨v,H,I,r,h⟩ hn hd
variable{a b:π}{ta tb:TE}{pos:Pos}
variable{tA tB':TT}{rest:List π}
def aa6(t u:TT):TT:=λσ H Q=>t σ H λc H1=>if c=true then u σ H1 Q else Q false H1
def Wq(t u:TT):TT:=λσ H Q=>t σ H λc H1=>if c=true then Q true H1 else u σ H1 Q
def W9(t:TT):TT:=λσ H Q=>t σ H λc H1=>Q (!c) H1
theorem agy(ha:PT X a tA):PW X (.BoolOp .And [a] pos) tA:=by
 intro wh ϵ s σ H Q I h;refine isTrue_and (ρ (ha ϵ s σ H Q I h) λc s1 e=>?_);cases c with
 |true=>exact isTrue_and_nil e
 |false=>exact e
theorem ahm(ha:PT X a tA):PW X (.BoolOp .Or [a] pos) tA:=by
 intro wh ϵ s σ H Q I h;refine isTrue_or (ρ (ha ϵ s σ H Q I h) λc s1 e=>?_);cases c with
 |false=>exact isTrue_or_nil e
 |true=>exact e
theorem Vi(ha:PT X a tA)(hb:PW X (.BoolOp .And (b::rest) pos) tB'):PW X (.BoolOp .And (a::b::rest) pos) (aa6 tA tB'):=by
 intro wh ϵ s σ H Q I h;refine isTrue_and (ρ (ha ϵ s σ H _ I h) λc s1 ⟨H1,I1,q1⟩=>?_);cases c with
 |true=>exact hb wh ϵ s1 σ H1 Q I1 q1
 |false=>exact⟨H1,I1,q1⟩
theorem agZ(ha:PT X a tA)(hb:PW X (.BoolOp .Or (b::rest) pos) tB'):PW X (.BoolOp .Or (a::b::rest) pos) (Wq tA tB'):=by
 intro wh ϵ s σ H Q I h;refine isTrue_or (ρ (ha ϵ s σ H _ I h) λc s1 ⟨H1,I1,q1⟩=>?_);cases c with
 |true=>exact⟨H1,I1,q1⟩
 |false=>exact hb wh ϵ s1 σ H1 Q I1 q1
theorem agQ(ha:PT X a tA):PT X (.UnaryOp .Not a pos) (W9 tA):=by
 intro ϵ s σ H Q I h;exact isTrue_not (ha ϵ s σ H (λc H1=>Q (!c) H1) I h)
def Ss(ta tb:TE):TE:=λσ H Q=>ta σ H λx H1=>∃c,x=.bl c/\if c=true then tb σ H1 Q else Q (.bl false) H1
def abR(ta tb:TE):TE:=λσ H Q=>ta σ H λx H1=>∃c,x=.bl c/\if c=true then Q (.bl true) H1 else tb σ H1 Q
def adQ(ta:TE):TE:=λσ H Q=>ta σ H λx H1=>∃c,x=.bl c/\Q (.bl (!c)) H1
theorem afo{op}{t:TE}(h:PE X a t):PE X (.BoolOp op [a] pos) t:=λϵ s σ H Q I hw=>BoolOp_one (h ϵ s σ H Q I hw)
theorem Vd(ha:PE X a ta)(hb:PE X (.BoolOp .And (b::rest) pos) tb):PE X (.BoolOp .And (a::b::rest) pos) (Ss ta tb):=by
 intro ϵ s σ H Q I h;refine BoolOp_and (ρ (ha ϵ s σ H _ I h) λv s1 ⟨x,H1,I1,r1,q1⟩=>?_);obtain⟨c,rfl,q1⟩:=q1;cases r1;refine ag8 ?_;cases c with
 |true=>exact hb ϵ s1 σ H1 Q I1 q1
 |false=>exact⟨.bl false,H1,I1,rfl,q1⟩
theorem aej(ha:PE X a ta)(hb:PE X (.BoolOp .Or (b::rest) pos) tb):PE X (.BoolOp .Or (a::b::rest) pos) (abR ta tb):=by
 intro ϵ s σ H Q I h;refine BoolOp_or (ρ (ha ϵ s σ H _ I h) λv s1 ⟨x,H1,I1,r1,q1⟩=>?_);obtain⟨c,rfl,q1⟩:=q1;cases r1;refine ag8 ?_;cases c with
 |false=>exact hb ϵ s1 σ H1 Q I1 q1
 |true=>exact⟨.bl true,H1,I1,rfl,q1⟩
theorem abw(ha:PE X a ta):PE X (.UnaryOp .Not a pos) (adQ ta):=by
 intro ϵ s σ H Q I h;refine UnaryOp_ (ρ (ha ϵ s σ H _ I h) λv s1 ⟨x,H1,I1,r1,q1⟩=>?_);obtain⟨c,rfl,q1⟩:=q1;cases r1;exact not_of (ag8 ⟨.bl (!c),H1,I1,rfl,q1⟩)
def tIf(t:TT)(ta tb:TE):TE:=λσ H Q=>t σ H λc H1=>if c=true then ta σ H1 Q else tb σ H1 Q
theorem RT{c:π}(hc:PT X c tA)(ha:PE X a ta)(hb:PE X b tb):PE X (.IfExp c a b pos) (tIf tA ta tb):=by
 intro ϵ s σ H Q I h;refine wpAny_IfExp (ρ (hc ϵ s σ H _ I h) λd s1 ⟨H1,I1,q1⟩=>?_);cases d with
 |true=>exact ha ϵ s1 σ H1 Q I1 q1
 |false=>exact hb ϵ s1 σ H1 Q I1 q1
end
def η(K:Ϩ)(H:Hp)(a:δ)(xs:List V):Prop:=
 Rd H a (.lst xs)\/
  ∃(o:Obj)(ϸ:Array ε)(n:Nat),K.lookup a=some o/\o.cls=.type "list"/\o.dict=none/\o.data=.seq ϸ n/\ϸ.size<=Ϫ/\Vals xs ϸ.toList
def Β(K:Ϩ)(H:Hp)(a:δ)(xs:List V):Prop:=
 Rd H a (.tup xs)\/
  ∃(o:Obj)(ϸ:Array ε)(n:Nat),K.lookup a=some o/\o.cls=.type "tuple"/\o.data=.seq ϸ n/\ϸ.size<=Ϫ/\Vals xs ϸ.toList
def ac2:ε->Option V
 |.none=>some .non
 |.bool b=>some (.bl b)
 |.int i _=>some (.int i)
 |.str x _=>some (.str x)
 |.bytes b _=>some (.byt b)
 |.float b _=>some (.flt b)
 |.ref a=>some (.ref a)
 |.type n=>some (.ty n)
 |_=>none
theorem RelV.abs{x:V}{u:ε}(r:RelV x u):ac2 u=some x:=by
 cases x with
 |non=>cases r;rfl
 |bl _=>cases r;rfl
 |int _=>obtain⟨t,rfl⟩:=r;rfl
 |str _=>obtain⟨t,rfl⟩:=r;rfl
 |byt _=>obtain⟨t,rfl⟩:=r;rfl
 |flt _=>obtain⟨t,rfl⟩:=r;rfl
 |ref _=>cases r;rfl
 |ty _=>cases r;rfl
theorem RelV.inj{x y:V}{u:ε}(r:RelV x u)(q:RelV y u):x=y:=Option.some.inj (r.abs.symm.trans q.abs)
theorem Vals.inj:∀{xs ys:List V}{us:List ε},Vals xs us->Vals ys us->xs=ys
 |_,_,_,.nil,.nil=>rfl
 |_,_,_,.cons r t,.cons r' t'=>by rw[r.inj r',Vals.inj t t']
section
variable{X:Cx}{ϵ:List (δ×Obj)}{σ:St}{H:Hp}{s:μ}{a:δ}{xs ys:List V}
theorem η.of{K:Ϩ}(h:H a=some (.lst xs)):η K H a xs:=.inl (.inl h)
theorem Β.of{K:Ϩ}(h:H a=some (.tup xs)):Β K H a xs:=.inl (.inl h)
theorem Inv.list(I:Inv X ϵ σ H s)(h:η X.K H a xs):∃ϸ:List ε,Vals xs ϸ/\PlainL s.heap a ϸ.toArray/\xs.length<=Ϫ:=by
 obtain h|⟨o,ϸ,n,hk,hc,hd,hs,hz,r⟩:=h
 .obtain⟨z,ϸ,n,r,e⟩:=h.ok I.hok;exact⟨ϸ,r,⟨_,n,e,rfl,rfl,rfl⟩,z⟩
 .refine⟨ϸ.toList,r,⟨o,n,I.kIn a o hk,hc,hd,by simpa using hs⟩,?_⟩;have e:=r.length;simp only[akl]at e;omega
theorem Inv.tuple(I:Inv X ϵ σ H s)(h:Β X.K H a xs):∃ϸ:List ε,Vals xs ϸ/\IsTup s.heap a ϸ.toArray/\xs.length<=Ϫ:=by
 obtain h|⟨o,ϸ,n,hk,hc,hs,hz,r⟩:=h
 .obtain⟨z,ϸ,r,p⟩:=h.ok I.hok;exact⟨ϸ,r,p,z⟩
 .refine⟨ϸ.toList,r,⟨o,I.kIn a o hk,hc,n,by simpa using hs⟩,?_⟩;have e:=r.length;simp only[akl]at e;omega
theorem Inv.list_inj(I:Inv X ϵ σ H s)(h:η X.K H a xs)(h':η X.K H a ys):xs=ys:=by
 obtain⟨ϸ,r,⟨o,n,e,_,_,d⟩,_⟩:=I.list h;obtain⟨its',r',⟨o',n',e',_,_,d'⟩,_⟩:=I.list h';rw[e]at e';cases e';rw[d]at d';injection d' with d1 _
 have:ϸ=its':=by simpa using congrArg Array.toList d1
 subst this;exact r.inj r'
end
section
variable{X:Cx}{ϵ:List (δ×Obj)}{σ:St}{H:Hp}{s:μ}{E:ε->μ->Prop}
end
section
variable{X:Cx}{st:ϧ}{rest:List ϧ}{t u:TS}{e:π}{te:TE}{pos:Pos}
def Tn:TS:=λD σ H=>D.nx σ H
def RX(t u:TS):TS:=λD σ H=>t {D with nx:=u D} σ H
theorem acj:fX X [] Tn:=λ_ _ σ H _ I h=>wpAny_execs_nil ⟨σ,H,I,h⟩
theorem V8(h1:PS X st t)(h2:fX X rest u):fX X (st::rest) (RX t u):=by
 intro ϵ s σ H D I h;refine wpAny_execs_cons (ρ (h1 ϵ s σ H {D with nx:=u D} I h) λf s1 q=>?_);cases f with
 |next=>
  obtain⟨σ',H',I',q⟩:=q;exact h2 ϵ s1 σ' H' D I' q
 |ret v=>exact q
 |brk=>exact q
 |cont=>exact q
theorem abZ(h1:PS X st t):fX X [st] t:=by
 intro ϵ s σ H D I h;refine wpAny_execs_cons (ρ (h1 ϵ s σ H D I h) λf s1 q=>?_);cases f with
 |next=>exact wpAny_execs_nil q
 |ret v=>exact q
 |brk=>exact q
 |cont=>exact q
def ahE:TS:=λD σ H=>D.bk σ H
theorem aaE:PS X (.Break pos) ahE:=λ_ _ σ H _ I h=>wpAny_Break ⟨σ,H,I,h⟩
theorem Inv.quiet{ϵ:List (δ×Obj)}{σ:St}{H:Hp}{s:μ}(I:Inv X ϵ σ H s):interactive X.env=false:=by simp[interactive,I.ok.kind]
def abF(te:TE):TS:=λD σ H=>te σ H λ_ H1=>D.nx σ H1
theorem aiA(he:PE X e te)(hs:ajq e none pos.line X.env=pure false:=by rfl):PS X (.Expr e pos) (abF te):=by
 intro ϵ s σ H D I h;exact wpAny_Expr_any (ρ (he ϵ s σ H _ I h) λv s1 ⟨x,H1,I1,r1,q1⟩=>⟨σ,H1,I1,q1⟩) I.quiet hs
def af6(te:TE):TS:=λD σ H=>te σ H D.rt
theorem adC(he:PE X e te):PS X (.Return (some e) pos) (af6 te):=by
 intro ϵ s σ H D I h;exact wpAny_Return_some (ρ (he ϵ s σ H _ I h) λv s1 ⟨x,H1,I1,r1,q1⟩=>⟨x,σ,H1,I1,r1,q1⟩)
def aeG:TS:=λD _ H=>D.rt .non H
theorem YG:PS X (.Return none pos) aeG:=λ_ _ σ H _ I h=>wpAny_Return_none ⟨.non,σ,H,I,rfl,h⟩
def ae1(c:TT)(t u:TS):TS:=λD σ H=>c σ H λb H1=>if b=true then t D σ H1 else u D σ H1
theorem aaV{c:π}{a b:List ϧ}{tc:TT}(hc:PT X c tc)(ha:fX X a t)(hb:fX X b u):PS X (.If c a b pos) (ae1 tc t u):=by
 intro ϵ s σ H D I h;refine wpAny_If (ρ (hc ϵ s σ H _ I h) λd s1 ⟨H1,I1,q1⟩=>?_);cases d with
 |true=>exact ha ϵ s1 σ H1 D I1 q1
 |false=>exact hb ϵ s1 σ H1 D I1 q1
end
abbrev TG:=V->St->Hp->(St->Hp->Prop)->Prop
abbrev jr:=List V->St->Hp->(St->Hp->Prop)->Prop
def PG(X:Cx)(target:π)(t:TG):Prop:=
 ∀(ϵ:List (δ×Obj))(s:μ)(σ:St)(H:Hp)(v:V)(u:ε)(Q:St->Hp->Prop),Inv X ϵ σ H s->RelV v u->t v σ H Q->
  ν (Ϧ X.prog X.w) X.A (assign target X.env u) (λ_ s'=>∃σ' H',Inv X ϵ σ' H' s'/\Q σ' H') X.xe s
def nU(X:Cx)(ts:List π)(t:jr):Prop:=
 ∀(ϵ:List (δ×Obj))(s:μ)(σ:St)(H:Hp)(vs:List V)(us:List ε)(Q:St->Hp->Prop),Inv X ϵ σ H s->Vals vs us->t vs σ H Q->
  ν (Ϧ X.prog X.w) X.A (assignInOrder ((akH ts X.env).map (·.2)) us) (λ_ s'=>∃σ' H',Inv X ϵ σ' H' s'/\Q σ' H') X.xe s
section
variable{X:Cx}{pos:Pos}
def Ql(i:Nat):TG:=λv σ H Q=>Q (σ.set i (some v)) H
theorem aa4{i:Nat}{x:Str}(hN:X.N.Nodup)(hi:X.N[i]?=some x)(hx:Loc X.env.scope x)(hf:X.fn x=true\/X.env.scope.names.lookup x=some .local:=by first|exact .inl rfl|exact .inr rfl|assumption):PG X (.Name x pos) (Ql i):=by
 intro ϵ s σ H v u Q I r h;exact wpAny_assign_Name (MK I hN hi hx r (λs' I'=>⟨_,H,I',h⟩) hf)
def aim:jr:=λvs σ H Q=>vs=[]/\Q σ H
def afc(t:TG)(u:jr):jr:=λvs σ H Q=>∃v r,vs=v::r/\t v σ H λσ' H'=>u r σ' H' Q
theorem afC:nU X [] aim:=by
 intro ϵ s σ H vs us Q I r h;obtain⟨e,h⟩:=h;subst e;cases r;exact assignInOrder_nil ⟨σ,H,I,h⟩
theorem agP{e:π}{es:List π}{t:TG}{u:jr}(h1:PG X e t)(h2:nU X es u)(hs:(akH (e::es) X.env).map (·.2)=assign e X.env::(akH es X.env).map (·.2):=by rfl):nU X (e::es) (afc t u):=by
 intro ϵ s σ H vs us Q I r h;obtain⟨v,vr,e1,h⟩:=h;subst e1;cases r with
 |cons r rr=>
  rw[hs];refine assignInOrder_cons (ρ (h1 ϵ s σ H _ _ _ I r h) λ_ s1 ⟨σ1,H1,I1,q1⟩=>?_);exact h2 ϵ s1 σ1 H1 _ _ Q I1 rr q1
def afa(K:Ϩ)(n:Nat)(t:jr):TG:=λv σ H Q=>∃a xs,v=.ref a/\ Β K H a xs/\xs.length=n/\t xs σ H Q
theorem Yh{es:List π}{k:Nat}{t:jr}{n:Nat}(hc:X.calm=true)(h:nU X es t)(hn:(akH es X.env).length=n:=by rfl)(hst:(akH es X.env).findIdx? (·.1)=none:=by rfl):PG X (.Tuple es k pos) (afa X.K n t):=by
 intro ϵ s σ H v u Q I r hw;obtain⟨a,xs,e1,hq,hl,hw⟩:=hw;subst e1;cases r;obtain⟨ϸ,rv,ht,hz⟩:=I.tuple hq;refine assign_Tuple_tuple (I.ok.hd hc) ht (by simp[hn, <-hl,rv.length]) hst λh' hx=>?_
 have I1:Inv X ϵ σ H {s with heap:=h'}:=I.kept (t':=s.toks) λb o e=>hx b o (ab6 (abe e)) e
 exact h ϵ _ σ H xs _ Q I1 (by simpa using rv) hw
def abP(te:TE)(g:TG):TS:=λD σ H=>te σ H λx H1=>g x σ H1 D.nx
theorem ahC{i:Nat}{x:Str}{e:π}{te:TE}{pos':Pos}(hN:X.N.Nodup)(hi:X.N[i]?=some x)(hx:Loc X.env.scope x)(he:PE X e te)(hs:ajq e (some (.Name x pos')) pos.line X.env=pure false:=by rfl)(hf:X.fn x=true\/X.env.scope.names.lookup x=some .local:=by first|exact .inl rfl|exact .inr rfl|assumption):PS X (.Assign [.Name x pos'] e pos) (abP te (Ql i)):=by
 intro ϵ s σ H D I h;refine wpAny_Assign_Name (ρ (he ϵ s σ H _ I h) λv s1 ⟨y,H1,I1,r1,q1⟩=>?_) hs;exact MK I1 hN hi hx r1 (λs2 I2=>⟨_,H1,I2,q1⟩) hf
end
section
variable{X:Cx}{pos:Pos}
def acI(c:TT)(tb:TS):TS:=λD σ H=>∃W:Nat->St->Hp->Prop,(∃m,W m σ H)/\∀m σ H,W m σ H->
 c σ H λb H1=>if b=true then ∃N:St->Hp->Prop,(∀σ' H',N σ' H'->∃m',m'<m/\W m' σ' H')/\tb {D with nx:=N,ct:=N,bk:=D.nx} σ H1 else D.nx σ H1
theorem YZ{c:π}{body:List ϧ}{tc:TT}{tb:TS}(hp:alC (Ϧ X.prog X.w) X.A X.env X.xe)(hc:PT X c tc)(hb:fX X body tb):PS X (.While c body [] pos) (acI tc tb):=by
 intro ϵ s σ H D I h;obtain⟨W,⟨m0,w0⟩,turn⟩:=h;refine wpAny_While (codeAny_whileLoop (λn s'=>∃σ' H',Inv X ϵ σ' H' s'/\W n σ' H') ?_ m0 ⟨σ,H,I,w0⟩)
 rintro n s1 ⟨σ1,H1,I1,w1⟩
 refine ajC hp (ρ (hc ϵ s1 σ1 H1 _ I1 (turn n σ1 H1 w1)) λb s2 ⟨H2,I2,q2⟩=>?_);cases b with
 |true=>
  obtain⟨N,hN,q2⟩:=q2;rw[if_pos rfl];refine ajC hp (ρ (hb ϵ s2 σ1 H2 _ I2 q2) λf s3 q3=>?_);cases f with
  |next=>
   obtain⟨σ3,H3,I3,n3⟩:=q3;obtain⟨m',hm,w3⟩:=hN σ3 H3 n3;exact⟨m',hm,σ3,H3,I3,w3⟩
  |cont=>
   obtain⟨σ3,H3,I3,n3⟩:=q3;obtain⟨m',hm,w3⟩:=hN σ3 H3 n3;exact⟨m',hm,σ3,H3,I3,w3⟩
  |brk=>exact q3
  |ret v=>exact q3
 |false=>
  rw[if_neg aah];exact wpAny_execs_nil ⟨σ1,H2,I2,q2⟩
end
structure It where
 go:Nat->Hp->Prop
 yld:Nat->Hp->V->Hp->Prop
 stop:Nat->Hp->Prop
def aM(X:Cx)(ϵ:List (δ×Obj))(H:Hp)(b:δ):Prop:=
 H b=none/\b≠X.env.locals/\b∉X.fs/\(b∈X.ex\/X.s₀.heap.get? b=none)/\(∀x c,X.env.cells.lookup x=some c->c≠b)/\∀p∈X.pn++ϵ,p.1≠b
theorem Inv.fpOk{X:Cx}{ϵ:List (δ×Obj)}{σ:St}{H H':Hp}{s:μ}{b:δ}(I:Inv X ϵ σ H s)(hb:s.heap.objs.size<=b)(hn:H' b=none):aM X ϵ H' b:=by
 refine⟨hn,amA (abu I.lt hb),I.nofs hb,.inr (aiP (afK I.sz hb)),λx c e z=>?_,λp hp z=>?_⟩
 .obtain⟨v,q⟩:=I.cell x c e;exact absurd (abu q.lt (by rw[z];exact hb)) (aiE _)
 .exact absurd (abu (abe (I.pin p hp).1) (by rw[z];exact hb)) (aiE _)
structure Turn(P:ϯ)(w:ϭ)(K:Ϩ)(tg:π)(J:It)(fp:List δ)(it:δ)(tn:Nat->ϫ->Prop):Prop where
 mem:it∈fp
 obj:∀i h,tn i h->∀b∈fp,∃o,h.get? b=some o/\∀v,o.data≠.cell v
 keep:∀i h h',tn i h->(∀b∈fp,∀o,h.get? b=some o->h'.get? b=some o)->tn i h'
 item:∀(X:Cx),X.prog=P->X.w=w->X.K=K->X.calm=true->∀(i:Nat)(ϵ:List (δ×Obj))(s:μ)(σ:St)(H:Hp)(E:ε->μ->Prop),Inv X ϵ σ H s->(∀b∈fp,aM X ϵ H b)->tn i s.heap->J.go i H->
  ν (Ϧ P w) X.A (pyNext (.ref it)) (λr s1=>∃u,r=some u/\
   ν (Ϧ P w) X.A (letOwnedTupleGo tg (.ref it) u) (λ_ s2=>∃x H',Inv X ϵ σ H' s2/\RelV x u/\J.yld i H x H'/\tn (i+1) s2.heap/\∀b∈fp,H' b=none) E s1) E s
 done:∀(X:Cx),X.prog=P->X.w=w->X.K=K->X.calm=true->∀(i:Nat)(ϵ:List (δ×Obj))(s:μ)(σ:St)(H:Hp)(E:ε->μ->Prop),Inv X ϵ σ H s->(∀b∈fp,aM X ϵ H b)->tn i s.heap->J.stop i H->
  ν (Ϧ P w) X.A (pyNext (.ref it)) (λr s1=>r=none/\Inv X ϵ σ H s1) E s
 self:∀(A:ϰ)(i:Nat)(s:μ)(Q:ε->μ->Prop)(E:ε->μ->Prop),tn i s.heap->Q (.ref it) s->ν (Ϧ P w) A (pyIter (.ref it)) Q E s
abbrev TI:=St->Hp->(It->Hp->Prop)->Prop
def v5(X:Cx)(ϵ:List (δ×Obj))(σ:St)(tg:π)(R:It->Hp->Prop)(itv:ε)(s2:μ):Prop:=
 ∃(it:δ)(fp:List δ)(tn:Nat->ϫ->Prop)(J:It)(H':Hp),itv=.ref it/\Inv X ϵ σ H' s2/\Turn X.prog X.w X.K tg J fp it tn/\tn 0 s2.heap/\(∀b∈fp,aM X ϵ H' b)/\R J H'
def PI(X:Cx)(tg iter:π)(wi:TI):Prop:=
 ∀(ϵ:List (δ×Obj))(s:μ)(σ:St)(H:Hp)(R:It->Hp->Prop),Inv X ϵ σ H s->wi σ H R->
  ν (Ϧ X.prog X.w) X.A (eval iter X.env) (λv s1=>ν (Ϧ X.prog X.w) X.A (pyIter v) (v5 X ϵ σ tg R) X.xe s1) X.xe s
theorem vC{M:Model}{A:ϰ}{E:ε->μ->Prop}{s:μ}{tg:π}{it:δ}{u:ε}{o:Obj}{n:String}{vs:Array ε}{Q:Unit->μ->Prop}(ho:s.heap.get? it=some o)(hc:o.cls=.type n)(hd:o.data=.fields vs)(hn:["enumerate","zip","dict_itemiterator","dict_reverseitemiterator","odict_iterator","itertools.zip_longest","itertools.pairwise"].contains n=false)(hQ:Q () s):ν M A (letOwnedTupleGo tg (.ref it) u) Q E s:=by
 unfold letOwnedTupleGo;cases tg<;>first
  |exact ϱ hQ
  |(cases u<;>first
   |exact ϱ hQ
   |(refine ϩ (wpAny_load ho ?_)
     rw[hc,hd];show ν M A (if(["enumerate","zip","dict_itemiterator","dict_reverseitemiterator","odict_iterator","itertools.zip_longest","itertools.pairwise"].contains n&&vs[0]?==some (rawInt _))=true then _ else _) Q E s;rw[if_neg (by intro h;rw[hn,akW]at h;cases h)];exact ϱ hQ))
def gk(K:Ϩ)(a:δ):It:=
 ⟨λi H=>∃xs x,η K H a xs/\xs[i]?=some x,λi H x H'=>H'=H/\∀xs,η K H a xs->xs[i]?=some x,λi H=>∃xs,η K H a xs/\xs.length<=i⟩
def jf(lo:Int)(n:Nat):It:=⟨λi _=>i<n,λi H x H'=>H'=H/\x=.int (lo+i),λi _=>n<=i⟩
theorem afD{P:ϯ}{w:ϭ}{K:Ϩ}{tg:π}(a it:δ):Turn P w K tg (gk K a) [it] it (λi h=>h.IsListIter it a i)where
 mem:=by simp
 obj:=λi h st b hb=>by
  have e:b=it:=by simpa using hb
  subst e;obtain⟨o,e,c,d⟩:=st;exact⟨o,e,λv z=>by rw[d]at z;cases z⟩
 keep:=λi h h' st k=>st.at λo e=>k it (by simp) o e
 item:=by
  intro X hP hw hK hc i ϵ s σ H E I hf st hg;subst hP hw hK;obtain⟨xs,x,hq,hx⟩:=hg;obtain⟨ϸ,rv,p,hz⟩:=I.list hq;obtain⟨u,hu,ru⟩:=rv.get hx;obtain⟨f0,f1,f2,f3,f4,f5⟩:=hf it (by simp);refine wpAny_pyNext_list_item st p.isList (x:=u) (by simpa using hu) λh' st' sb=>?_
  have I1:Inv X ϵ σ H {s with heap:=h'}:=I.turned (t':=s.toks) (λb o hb e=>(sb.2 b hb).trans e) f0 f1 f3 f4 f5;obtain⟨o,e,c,d⟩:=id st';exact⟨u,rfl,vC (s:={s with heap:=h'}) e c d (by decide) ⟨x,H,I1,ru,⟨rfl,λys hy=>by rw[I.list_inj hy hq];exact hx⟩,st',λb hb=>(hf b hb).1⟩⟩
 done:=by
  intro X hP hw hK hc i ϵ s σ H E I hf st hg;subst hP hw hK;obtain⟨xs,hq,hx⟩:=hg;obtain⟨ϸ,rv,p,hz⟩:=I.list hq;obtain⟨f0,f1,f2,f3,f4,f5⟩:=hf it (by simp);have hl:=rv.length;exact wpAny_pyNext_list_end (I.ok.hd hc) st p.isList (by simp;omega) λh' eb=>⟨rfl,I.turned (t':=s.toks) (λb o hb e=>eb b o hb e) f0 f1 f3 f4 f5⟩
 self:=λ_ _ _ _ _ st h=>wpAny_pyIter_listiter st h
theorem WN{P:ϯ}{w:ϭ}{K:PySem.W.Frag}{tg:π}(it:δ)(lo:Int)(n:Nat):Turn P w K tg (jf lo n) [it] it (λi h=>IsRangeIter h it (lo+(i:Nat)*1) ((n:Int)-(i:Nat)) 1)where
 mem:=by simp
 obj:=λi h st b hb=>by
  have e:b=it:=by simpa using hb
  subst e;exact⟨_,st,λv z=>by
   have z':Data.fields _=Data.cell v:=z;cases z'⟩
 keep:=λi h h' st k=>k it (by simp) _ st
 item:=by
  intro X hP hw hK hc i ϵ s σ H E I hf st hg;subst hP hw hK;obtain⟨f0,f1,f2,f3,f4,f5⟩:=hf it (by simp);have W:=Walks.range (prog:=X.prog) (w:=X.w) (I.ok.hd hc) it lo 1 n;refine W.item i s _ _ hg st λv h' tk hv st' kk=>?_
  obtain⟨t,rfl⟩:=hv;have I1:Inv X ϵ σ H {s with heap:=h',toks:=tk}:=I.turned (λb o hb e=>kk b o (by simpa using hb) e) f0 f1 f3 f4 f5;refine⟨_,rfl,vC (s:={s with heap:=h',toks:=tk}) (n:="range_iterator") st' rfl rfl (by decide) ⟨.int (lo+i),H,I1,⟨t,?_⟩,⟨rfl,rfl⟩,st',λb hb=>(hf b hb).1⟩⟩;rw[Int.mul_one]
 done:=by
  intro X hP hw hK hc i ϵ s σ H E I hf st hg;subst hP hw hK;obtain⟨f0,f1,f2,f3,f4,f5⟩:=hf it (by simp);exact wpAny_pyNext_range_end (I.ok.hd hc) st (by have:n<=i:=hg;omega) λh' eb=>⟨rfl,I.turned (t':=s.toks) (λb o hb e=>eb b o hb e) f0 f1 f3 f4 f5⟩
 self:=λ_ _ _ _ _ st h=>wpAny_pyIter_rangeiter st h
section
variable{X:Cx}{tg:π}
def ah1(K:Ϩ)(tl:TE):TI:=λσ H R=>tl σ H λx H1=>∃a,x=.ref a/\(∃xs,η K H1 a xs)/\R (gk K a) H1
theorem Wt{l:π}{tl:TE}(hl:PE X l tl):PI X tg l (ah1 X.K tl):=by
 intro ϵ s σ H R I h;refine ρ (hl ϵ s σ H _ I h) λv s1 ⟨x,H1,I1,r1,q1⟩=>?_
 obtain⟨a,e,⟨xs,hq⟩,q⟩:=q1;subst e;cases r1;obtain⟨ϸ,rv,p,hz⟩:=I1.list hq;refine wpAny_pyIter_list p.isList ?_;refine⟨s1.heap.objs.size,[s1.heap.objs.size],_,_,H1,rfl,I1.kept (t':=s1.toks) λb o e=>Heap.get?_push_of_some _ e,afD a _,⟨_,abq _ rfl,rfl,rfl⟩,λb hb=>?_,q⟩;have e:b=s1.heap.objs.size:=by simpa using hb
 subst e;exact I1.fpOk (Ϯ _) (I1.hok.fresh (Ϯ _))
theorem aa1{ϵ:List (δ×Obj)}{σ:St}{H:Hp}{s:μ}{R:It->Hp->Prop}{E:ε->μ->Prop}{lo hi:Int}{t u v:Tok}{tk:Nat}(I:Inv X ϵ σ H s)(h1: -(2^62)<=lo)(h2:lo<2^62)(h3: -(2^62)<=hi)(h4:hi<2^62)(q:R (jf lo (hi-lo).toNat) H):ν (Ϧ X.prog X.w) X.A (pyIter (.ref s.heap.objs.size)) (v5 X ϵ σ tg R) E {s with heap:=s.heap.push {cls:=.type "range",data:=.fields #[.int lo t,.int hi u,.int 1 v]},toks:=tk}:=by
 refine wpAny_pyIter_range (IsRange.new ..) (small_one h1 h2 h3 h4) ?_;have I1:Inv X ϵ σ H {s with heap:=s.heap.push {cls:=.type "range",data:=.fields #[.int lo t,.int hi u,.int 1 v]},toks:=tk}:=I.kept λb o e=>Heap.get?_push_of_some _ e
 refine⟨(s.heap.push {cls:=.type "range",data:=.fields #[.int lo t,.int hi u,.int 1 v]}).objs.size,[(s.heap.push {cls:=.type "range",data:=.fields #[.int lo t,.int hi u,.int 1 v]}).objs.size],_,_,H,rfl,
  I1.kept (t':=tk) λb o e=>Heap.get?_push_of_some _ e,WN _ lo (hi-lo).toNat,?_,λb hb=>?_,q⟩
 .have e1:lo+((0:Nat):Int)*1=lo:=by simp
  have e2:(((hi-lo).toNat:Nat):Int)-((0:Nat):Int)=Builtin.Range.rangeSize lo hi 1:=by rw[rangeSize_one];split <;>omega
  show IsRangeIter _ _ (lo+((0:Nat):Int)*1) ((((hi-lo).toNat:Nat):Int)-((0:Nat):Int)) 1;rw[e1,e2];exact abq _ rfl
 .have e:b=(s.heap.push {cls:=.type "range",data:=.fields #[.int lo t,.int hi u,.int 1 v]}).objs.size:=by simpa using hb
  subst e;exact I1.fpOk (Ϯ _) (I1.hok.fresh (Ϯ _))
def Ye(ta:TA):TI:=λσ H R=>ta σ H λvs H1=>∃j:Int,vs=[.int j]/\ -(2^62)<=j/\j<2^62/\R (jf 0 j.toNat) H1
theorem adE{a:π}{ta:TA}{p pos:Pos}(hg:Gl X "range")(hm:X.mg "range"=none)(ha:PA X [a] ta)(hs:Ϭ [a] X.env=[(false,eval a X.env)]:=by rfl):PI X tg (.Call (.Name "range" p) [a] [] pos) (Ye ta):=by
 intro ϵ s σ H R I h;refine Call_ (gY I hg hm boot_range (PyProof.Rows.callWith_type1 (ρ (ha pos ϵ s σ H _ I h) λus s1 ⟨vs,H1,I1,r1,q1⟩=>?_) hs rfl));obtain⟨j,e,q1,q2,q⟩:=q1;subst e;cases r1 with
 |cons r rr=>
  cases rr;obtain⟨t,rfl⟩:=r;exact call_range_1 (aa1 I1 (by omega) (by omega) q1 q2 (by simpa using q))
def ac6(wi:TI)(g:TG)(tb:TS):TS:=λD σ H=>wi σ H λJ H1=>∃W:Nat->Nat->St->Hp->Prop,(∃m,W 0 m σ H1)/\∀i m σ H,W i m σ H->
 (J.stop i H/\D.nx σ H)\/(J.go i H/\∃N:St->Hp->Prop,(∀σ' H',N σ' H'->∃m',m'<m/\W (i+1) m' σ' H')/\∀x H',J.yld i H x H'->g x σ H' λσ2 H2=>tb {D with nx:=N,ct:=N,bk:=D.nx} σ2 H2)
def dq(fp:List δ)(h:ϫ):List (δ×Obj):=fp.filterMap λb=>(h.get? b).map λo=>(b,o)
theorem mU{fp:List δ}{h:ϫ}{b:δ}{o:Obj}(hb:b∈fp)(e:h.get? b=some o):(b,o)∈dq fp h:=alR.mpr ⟨b,hb,by rw[e];rfl⟩
theorem abU{fp:List δ}{h:ϫ}{p:δ×Obj}(hp:p∈dq fp h):p.1∈fp/\h.get? p.1=some p.2:=by
 obtain⟨b,hb,e⟩:=alR.mp hp;cases q:h.get? b with
 |none=>rw[q]at e;cases e
 |some o=>
  rw[q]at e;have e':(b,o)=p:=Option.some.inj e;subst e';exact⟨hb,q⟩
theorem Inv.pinned{ϵ:List (δ×Obj)}{σ:St}{H:Hp}{s:μ}{fp:List δ}(I:Inv X ϵ σ H s)(hf:∀b∈fp,aM X ϵ H b)(ho:∀b∈fp,∃o,s.heap.get? b=some o/\∀v,o.data≠.cell v):Inv X (ϵ++dq fp s.heap) σ H s:=
 I.pins_of λp hp=>(afw.mp hp).elim (λz=>I.pin p (ack _ z)) λz=>by
  obtain⟨hb,e⟩:=abU z;obtain⟨f0,f1,f2,_⟩:=hf p.1 hb;obtain⟨o,e',d⟩:=ho p.1 hb;rw[e]at e';cases e';exact⟨e,f0,f1,f2,d⟩
theorem Inv.unpinned{ϵ pl:List (δ×Obj)}{σ:St}{H:Hp}{s:μ}(I:Inv X (ϵ++pl) σ H s):Inv X ϵ σ H s:=I.pins_of λp hp=>I.pin p (ack _ (ahp _ hp))
theorem aeJ{iter:π}{body:List ϧ}{wi:TI}{g:TG}{tb:TS}{pos:Pos}(hp:alC (Ϧ X.prog X.w) X.A X.env X.xe)(hc:X.calm=true)(hi:PI X tg iter wi)(hg:PG X tg g)(hb:fX X body tb)(hs:∀x,foldedSetIterable iter X.env x=pure x:=by intro _;rfl):PS X (.For tg iter body [] pos) (ac6 wi g tb):=by
 intro ϵ s σ H D I h;refine wpAny_For (ρ (hi ϵ s σ H _ I h) λv s1 h1=>ρ h1 λitv s2 h2=>?_) hs;obtain⟨it,fp,tn,J,H2,e,I2,T,st2,f2,W,⟨m0,w0⟩,turn⟩:=h2;subst e;have stat:∀{H':Hp},(∀b∈fp,H' b=none)->∀b∈fp,aM X ϵ H' b:=λhn b hb=>⟨hn b hb,(f2 b hb).2⟩
 refine codeAny_forLoop_any (λn s'=>∃i σ' H',Inv X ϵ σ' H' s'/\tn i s'.heap/\(∀b∈fp,H' b=none)/\W i n σ' H') ?_ m0 ⟨0,σ,H2,I2,st2,λb hb=>(f2 b hb).1,w0⟩
 rintro n s3 ⟨i,σ3,H3,I3,st3,fr3,w3⟩
 obtain⟨stop,qn⟩|⟨go,N,hN,step⟩:=turn i n σ3 H3 w3
 .refine ajC hp (ρ (T.done X rfl rfl rfl hc i ϵ s3 σ3 H3 X.xe I3 (stat fr3) st3 stop) λr s4 ⟨hr,I4⟩=>?_);subst hr;exact wpAny_execs_nil ⟨σ3,H3,I4,qn⟩
 .refine ajC hp (ρ (T.item X rfl rfl rfl hc i ϵ s3 σ3 H3 X.xe I3 (stat fr3) st3 go) λr s4 ⟨u,hr,h4⟩=>?_);subst hr;refine ajC hp (ρ h4 λ_ s5 ⟨x,H5,I5,r5,y5,st5,fr5⟩=>?_);have I5':=I5.pinned (stat fr5) (T.obj _ _ st5);refine ajC hp (ρ (hg _ s5 σ3 H5 x u _ I5' r5 (step x H5 y5)) λ_ s6 ⟨σ6,H6,I6,q6⟩=>?_);refine ajC hp (ρ (hb _ s6 σ6 H6 _ I6 q6) λf s7 q7=>?_);have again:∀{σ7:St}{H7:Hp},Inv X (ϵ++dq fp s5.heap) σ7 H7 s7->N σ7 H7->∃m,m<n/\∃i σ' H',Inv X ϵ σ' H' s7/\tn i s7.heap/\(∀b∈fp,H' b=none)/\W i m σ' H':=λ{σ7 H7} I7 n7=>by
   obtain⟨m',hm,w7⟩:=hN σ7 H7 n7;refine⟨m',hm,i+1,σ7,H7,I7.unpinned,T.keep _ _ _ st5 λb hb o e=>(I7.pin (b,o) (ack _ (ack _ (mU hb e)))).1,λb hb=>?_,w7⟩;obtain⟨o,e,d⟩:=T.obj _ _ st5 b hb;exact(I7.pin (b,o) (ack _ (ack _ (mU hb e)))).2.1
  cases f with
  |next=>obtain⟨σ7,H7,I7,n7⟩:=q7;exact again I7 n7
  |cont=>obtain⟨σ7,H7,I7,n7⟩:=q7;exact again I7 n7
  |brk=>obtain⟨σ7,H7,I7,q7⟩:=q7;exact⟨σ7,H7,I7.unpinned,q7⟩
  |ret v=>obtain⟨x7,σ7,H7,I7,r7,q7⟩:=q7;exact⟨x7,σ7,H7,I7.unpinned,r7,q7⟩
end
theorem afr{K:PySem.W.Frag}{a:δ}{xs:List V}{g:TG}{tb:TS}{D:Ends}{σ:St}{H:Hp}(Pv:Nat->St->Hp->Prop)(h0:Pv 0 σ H)(hl:∀i σ H,i<=xs.length->Pv i σ H->η K H a xs)(hs:∀i x σ H,xs[i]?=some x->Pv i σ H->g x σ H λσ2 H2=>tb {D with nx:=Pv (i+1),ct:=Pv (i+1),bk:=D.nx} σ2 H2)(hd:∀σ H,Pv xs.length σ H->D.nx σ H):∃W:Nat->Nat->St->Hp->Prop,(∃m,W 0 m σ H)/\∀i m σ H,W i m σ H->
   ((gk K a).stop i H/\D.nx σ H)\/((gk K a).go i H/\∃N:St->Hp->Prop,(∀σ' H',N σ' H'->∃m',m'<m/\W (i+1) m' σ' H')/\∀x H',(gk K a).yld i H x H'->g x σ H' λσ2 H2=>tb {D with nx:=N,ct:=N,bk:=D.nx} σ2 H2):=by
 refine⟨λi m σ H=>m=xs.length-i/\i<=xs.length/\Pv i σ H,⟨xs.length,by simp,agf _,h0⟩,?_⟩
 rintro i m σ H ⟨rfl,hi,p⟩
 have q:=hl i σ H hi p;by_cases hlt:i<xs.length
 .refine .inr ⟨⟨xs,xs[i],q,by simp[hlt]⟩,Pv (i+1),λσ' H' p'=>⟨xs.length-(i+1),by omega,rfl,hlt,p'⟩,λx H' y=>?_⟩;obtain⟨e,y⟩:=y;subst e;exact hs i x σ _ (y xs q) p
 .have e:i=xs.length:=by omega
  subst e;exact .inl ⟨⟨xs,q,Ϯ _⟩,hd σ H p⟩
theorem acE{lo:Int}{n:Nat}{g:TG}{tb:TS}{D:Ends}{σ:St}{H:Hp}(Pv:Nat->St->Hp->Prop)(h0:Pv 0 σ H)(hs:∀i σ H,i<n->Pv i σ H->g (.int (lo+i)) σ H λσ2 H2=>tb {D with nx:=Pv (i+1),ct:=Pv (i+1),bk:=D.nx} σ2 H2)(hd:∀σ H,Pv n σ H->D.nx σ H):∃W:Nat->Nat->St->Hp->Prop,(∃m,W 0 m σ H)/\∀i m σ H,W i m σ H->
   ((jf lo n).stop i H/\D.nx σ H)\/((jf lo n).go i H/\∃N:St->Hp->Prop,(∀σ' H',N σ' H'->∃m',m'<m/\W (i+1) m' σ' H')/\∀x H',(jf lo n).yld i H x H'->g x σ H' λσ2 H2=>tb {D with nx:=N,ct:=N,bk:=D.nx} σ2 H2):=by
 refine⟨λi m σ H=>m=n-i/\i<=n/\Pv i σ H,⟨n,by simp,agf _,h0⟩,?_⟩
 rintro i m σ H ⟨rfl,hi,p⟩
 by_cases hlt:i<n
 .refine .inr ⟨hlt,Pv (i+1),λσ' H' p'=>⟨n-(i+1),by omega,rfl,hlt,p'⟩,λx H' y=>?_⟩;obtain⟨e,y⟩:=y;subst e y;exact hs i σ _ hlt p
 .have e:i=n:=by omega
  subst e;exact .inl ⟨Ϯ _,hd σ H p⟩
abbrev R2:=V->V->Hp->VK->Prop
def ϙ(X:Cx)(f:ε->ε->Sem ε)(r:R2):Prop:=
 ∀(ϵ:List (δ×Obj))(s:μ)(σ:St)(H:Hp)(x y:V)(v u:ε)(Q:VK),Inv X ϵ σ H s->RelV x v->RelV y u->r x y H Q->
  ν (Ϧ X.prog X.w) X.A (f v u) (EP X ϵ σ Q) X.xe s
def qP(X:Cx)(f:ε->Sem ε)(r:V->Hp->VK->Prop):Prop:=
 ∀(ϵ:List (δ×Obj))(s:μ)(σ:St)(H:Hp)(x:V)(v:ε)(Q:VK),Inv X ϵ σ H s->RelV x v->r x H Q->
  ν (Ϧ X.prog X.w) X.A (f v) (EP X ϵ σ Q) X.xe s
def dI(X:Cx)(f:ε)(r:List V->Hp->VK->Prop):Prop:=
 ∀(ϵ:List (δ×Obj))(s:μ)(σ:St)(H:Hp)(xs:List V)(us:List ε)(Q:VK),Inv X ϵ σ H s->Vals xs us->r xs H Q->
  ν (Ϧ X.prog X.w) X.A (call f us) (EP X ϵ σ Q) X.xe s
def RW(X:Cx)(r:V->Hp->(Bool->Hp->Prop)->Prop):Prop:=
 ∀(ϵ:List (δ×Obj))(s:μ)(σ:St)(H:Hp)(x:V)(v:ε)(Q:Bool->Hp->Prop),Inv X ϵ σ H s->RelV x v->r x H Q->
  ν (Ϧ X.prog X.w) X.A (truthy v) (TP X ϵ σ Q) X.xe s
def tU(r:R2)(ta tb:TE):TE:=λσ H Q=>ta σ H λx H1=>tb σ H1 λy H2=>r x y H2 Q
def tUn(r:V->Hp->VK->Prop)(ta:TE):TE:=λσ H Q=>ta σ H λx H1=>r x H1 Q
def rI(C:Int->Int->Prop)(g:Int->Int->V):R2:=λx y H Q=>∃i j,x=.int i/\y=.int j/\C i j/\Q (g i j) H
def jq(g:Int->Int->V):R2:=λx y H Q=>∃i j,x=.int i/\y=.int j/\Q (g i j) H
def rU(g:Int->V):V->Hp->VK->Prop:=λx H Q=>∃i,x=.int i/\Q (g i) H
section
variable{X:Cx}{a b c:π}{ta tb tc:TE}{pos:Pos}
theorem wH(ha:PE X a ta)(hb:PE X b tb){ϵ:List (δ×Obj)}{s:μ}{σ:St}{H:Hp}{R:V->V->Hp->Prop}(I:Inv X ϵ σ H s)(h:ta σ H λx H1=>tb σ H1 λy H2=>R x y H2){Q:ε->μ->Prop}{f:ε->ε->Sem ε}(hf:∀v u s2 x y H2,Inv X ϵ σ H2 s2->RelV x v->RelV y u->R x y H2->ν (Ϧ X.prog X.w) X.A (f v u) Q X.xe s2):ν (Ϧ X.prog X.w) X.A (eval a X.env) (λv s₁=>ν (Ϧ X.prog X.w) X.A (eval b X.env) (λu s₂=>ν (Ϧ X.prog X.w) X.A (f v u) Q X.xe s₂) X.xe s₁) X.xe s:=by
 refine ρ (ha ϵ s σ H _ I h) λv s1 ⟨x,H1,I1,r1,q1⟩=>?_
 refine ρ (hb ϵ s1 σ H1 _ I1 q1) λu s2 ⟨y,H2,I2,r2,q2⟩=>?_
 exact hf v u s2 x y H2 I2 r1 r2 q2
theorem aht{op:Operator}{r:R2}(ho:ϙ X (binaryOp op) r)(ha:PE X a ta)(hb:PE X b tb):PE X (.BinOp a op b pos) (tU r ta tb):=by
 intro ϵ s σ H Q I h;exact wpAny_BinOp (wH ha hb I h λv u s2 x y H2 I2 rx ry q=>ho ϵ s2 σ H2 x y v u Q I2 rx ry q)
theorem WY{op:UnaryOp}{r:V->Hp->VK->Prop}(ho:qP X (unaryOp op) r)(ha:PE X a ta):PE X (.UnaryOp op a pos) (tUn r ta):=by
 intro ϵ s σ H Q I h;exact UnaryOp_ (ρ (ha ϵ s σ H _ I h) λv s1 ⟨x,H1,I1,r1,q1⟩=>ho ϵ s1 σ H1 x v Q I1 r1 q1)
theorem Cd{f:ε->ε->Sem ε}{C:Int->Int->Prop}{g:Int->Int->Int}(rule:∀(i j:Int)(t u:Tok)(s:μ)(Q:ε->μ->Prop)(E:ε->μ->Prop),C i j->Q (.int (g i j) s.toks) {s with toks:=s.toks+1}->ν (Ϧ X.prog X.w) X.A (f (.int i t) (.int j u)) Q E s):ϙ X f (rI C λi j=>.int (g i j)):=by
 intro ϵ s σ H x y v u Q I rx ry h;obtain⟨i,j,rfl,rfl,hc,q⟩:=h;obtain⟨t,rfl⟩:=rx;obtain⟨t',rfl⟩:=ry;exact rule i j t t' s _ _ hc ⟨.int (g i j),H,I.tok _,⟨_,rfl⟩,q⟩
theorem Nk{f:ε->ε->Sem ε}{g:Int->Int->Int}(rule:∀(i j:Int)(t u:Tok)(s:μ)(Q:ε->μ->Prop)(E:ε->μ->Prop),Q (.int (g i j) s.toks) {s with toks:=s.toks+1}->ν (Ϧ X.prog X.w) X.A (f (.int i t) (.int j u)) Q E s):ϙ X f (jq λi j=>.int (g i j)):=by
 intro ϵ s σ H x y v u Q I rx ry h;obtain⟨i,j,rfl,rfl,q⟩:=h;obtain⟨t,rfl⟩:=rx;obtain⟨t',rfl⟩:=ry;exact rule i j t t' s _ _ ⟨.int (g i j),H,I.tok _,⟨_,rfl⟩,q⟩
theorem uo{f:ε->ε->Sem ε}{g:Int->Int->Bool}(rule:∀(i j:Int)(t u:Tok)(s:μ)(Q:ε->μ->Prop)(E:ε->μ->Prop),Q (.bool (g i j)) s->ν (Ϧ X.prog X.w) X.A (f (.int i t) (.int j u)) Q E s):ϙ X f (jq λi j=>.bl (g i j)):=by
 intro ϵ s σ H x y v u Q I rx ry h;obtain⟨i,j,rfl,rfl,q⟩:=h;obtain⟨t,rfl⟩:=rx;obtain⟨t',rfl⟩:=ry;exact rule i j t t' s _ _ ⟨.bl (g i j),H,I,rfl,q⟩
def Mr(i j:Int):Prop:=0<=j/\j<=1000000/\i.natAbs<2^64
def vg(i j:Int):Prop:=(-(2^64)<i/\i<2^64)\/(-(2^64)<j/\j<2^64)
theorem vg.ok{i j:Int}(h:vg i j):IntMulOk i j:=by
 obtain⟨h1,h2⟩|⟨h1,h2⟩:=h
 .exact .of_left (intBits_le_64 h1 h2)
 .exact .of_right (intBits_le_64 h1 h2)
theorem aaN:ϙ X (binaryOp .Add) (jq λi j=>.int (i+j)):=Nk λ_ _ _ _ _ _ _ q=>add_int q
theorem afy:ϙ X (binaryOp .Sub) (jq λi j=>.int (i-j)):=Nk λ_ _ _ _ _ _ _ q=>sub_int q
theorem aaF:ϙ X (binaryOp .Mult) (rI vg λi j=>.int (i*j)):=Cd λ_ _ _ _ _ _ _ hc q=>mul_int q hc.ok
theorem ah0:ϙ X (binaryOp .Mod) (rI (λ_ j=>0<j) λi j=>.int (i % j)):=Cd λi j _ _ _ _ _ hc q=>by
 have h1:(0:Int)<j:=hc;exact mod_int' (by omega) (by rw[Int.fmod_eq_emod_of_nonneg i (by omega)];exact q)
theorem abE:ϙ X (binaryOp .Pow) (rI Mr λi j=>.int (i^j.toNat)):=Cd λ_ _ _ _ _ _ _ hc q=>pow_int_small hc.1 hc.2.1 hc.2.2 q
theorem unI{f:ε->Sem ε}{g:Int->Int}(rule:∀(i:Int)(t:Tok)(s:μ)(Q:ε->μ->Prop)(E:ε->μ->Prop),Q (.int (g i) s.toks) {s with toks:=s.toks+1}->ν (Ϧ X.prog X.w) X.A (f (.int i t)) Q E s):qP X f (rU λi=>.int (g i)):=by
 intro ϵ s σ H x v Q I rx h;obtain⟨i,rfl,q⟩:=h;obtain⟨t,rfl⟩:=rx;exact rule i t s _ _ ⟨.int (g i),H,I.tok _,⟨_,rfl⟩,q⟩
theorem acS:qP X (unaryOp .USub) (rU λi=>.int (-i)):=unI λ_ _ _ _ _ q=>neg_int q
end
def qt:V->V->Bool
 |.non,.non=>true|.non,.int _=>true|.int _,.non=>true|.non,.bl _=>true|.bl _,.non=>true|.non,.str _=>true|.str _,.non=>true
 |.int _,.int _=>true|.bl _,.bl _=>true|.str _,.str _=>true|.byt _,.byt _=>true
 |.int _,.str _=>true|.str _,.int _=>true|.bl _,.str _=>true|.str _,.bl _=>true
 |_,_=>false
def WQ:R2:=λx y H Q=>qt x y=true/\Q (.bl (decide (x=y))) H
def rNe:R2:=λx y H Q=>qt x y=true/\Q (.bl (!decide (x=y))) H
theorem Fw{i j:Int}:decide (V.int i=V.int j)=(i==j):=by
 rw[ahj];simp
theorem Jh{i j:Bool}:decide (V.bl i=V.bl j)=(i==j):=by
 rw[ahj];simp
theorem FJ{i j:Str}:decide (V.str i=V.str j)=(i==j):=by
 rw[ahj];simp
theorem Qg{i j:Array UInt8}:decide (V.byt i=V.byt j)=(i.toList==j.toList):=by
 rw[ahj];cases i;cases j;simp
section
variable{X:Cx}{a b c:π}{ta tb tc:TE}{pos:Pos}
theorem ϖ{ϵ:List (δ×Obj)}{σ:St}{H:Hp}{s:μ}{Q:VK}{k k':Bool}(I:Inv X ϵ σ H s)(q:Q (.bl k) H)(e:k=k'):EP X ϵ σ Q (.bool k') s:=by
 subst e;exact⟨.bl k,H,I,rfl,q⟩
theorem agT:ϙ X (adH .Eq) WQ:=by
 intro ϵ s σ H x y v u Q I rx ry h;obtain⟨hs,q⟩:=h;cases x with
 |non=>
  cases rx;cases y with
  |non=>cases ry;exact PySem.EqNone.eq_none_none (ϖ I q (by simp))
  |bl j=>cases ry;exact PySem.EqNone.eq_none_bool (ϖ I q (by simp))
  |int j=>obtain⟨t',rfl⟩:=ry;exact PySem.EqNone.eq_none_int (ϖ I q (by simp))
  |str j=>obtain⟨t',rfl⟩:=ry;exact PySem.EqNone.eq_none_str (ϖ I q (by simp))
  |_=>exact absurd (show false=true from hs) aah
 |bl i=>
  cases rx;cases y with
  |non=>cases ry;exact PySem.EqNone.eq_bool_none (ϖ I q (by simp))
  |bl j=>cases ry;exact eq_bool (ϖ I q Jh)
  |str j=>obtain⟨t',rfl⟩:=ry;exact PySem.EqMixed.eq_bool_str (ϖ I q (by simp))
  |_=>exact absurd (show false=true from hs) aah
 |int i=>
  obtain⟨t,rfl⟩:=rx;cases y with
  |non=>cases ry;exact PySem.EqNone.eq_int_none (ϖ I q (by simp))
  |int j=>obtain⟨t',rfl⟩:=ry;exact eq_int (ϖ I q Fw)
  |str j=>obtain⟨t',rfl⟩:=ry;exact PySem.EqMixed.eq_int_str (ϖ I q (by simp))
  |_=>exact absurd (show false=true from hs) aah
 |str i=>
  obtain⟨t,rfl⟩:=rx;cases y with
  |non=>cases ry;exact PySem.EqNone.eq_str_none (ϖ I q (by simp))
  |bl j=>cases ry;exact PySem.EqMixed.eq_str_bool (ϖ I q (by simp))
  |int j=>obtain⟨t',rfl⟩:=ry;exact PySem.EqMixed.eq_str_int (ϖ I q (by simp))
  |str j=>obtain⟨t',rfl⟩:=ry;exact eq_str (ϖ I q FJ)
  |_=>exact absurd (show false=true from hs) aah
 |byt i=>
  obtain⟨t,rfl⟩:=rx;cases y with
  |byt j=>obtain⟨t',rfl⟩:=ry;exact W.eq_bytes (ϖ I q Qg)
  |_=>exact absurd (show false=true from hs) aah
 |_=>cases y<;>exact absurd (show false=true from hs) aah
theorem TQ:ϙ X (adH .NotEq) rNe:=by
 intro ϵ s σ H x y v u Q I rx ry h;obtain⟨hs,q⟩:=h;cases x with
 |non=>
  cases rx;cases y with
  |non=>cases ry;exact PySem.EqNone.ne_none_none (ϖ I q (by simp))
  |bl j=>cases ry;exact PySem.EqNone.ne_none_bool (ϖ I q (by simp))
  |int j=>obtain⟨t',rfl⟩:=ry;exact PySem.EqNone.ne_none_int (ϖ I q (by simp))
  |str j=>obtain⟨t',rfl⟩:=ry;exact PySem.EqNone.ne_none_str (ϖ I q (by simp))
  |_=>exact absurd (show false=true from hs) aah
 |bl i=>
  cases rx;cases y with
  |non=>cases ry;exact PySem.EqNone.ne_bool_none (ϖ I q (by simp))
  |bl j=>cases ry;exact ne_bool (ϖ I q (congrArg not Jh))
  |str j=>obtain⟨t',rfl⟩:=ry;exact PySem.EqMixed.ne_bool_str (ϖ I q (by simp))
  |_=>exact absurd (show false=true from hs) aah
 |int i=>
  obtain⟨t,rfl⟩:=rx;cases y with
  |non=>cases ry;exact PySem.EqNone.ne_int_none (ϖ I q (by simp))
  |int j=>obtain⟨t',rfl⟩:=ry;exact ne_int (ϖ I q (congrArg not Fw))
  |str j=>obtain⟨t',rfl⟩:=ry;exact PySem.EqMixed.ne_int_str (ϖ I q (by simp))
  |_=>exact absurd (show false=true from hs) aah
 |str i=>
  obtain⟨t,rfl⟩:=rx;cases y with
  |non=>cases ry;exact PySem.EqNone.ne_str_none (ϖ I q (by simp))
  |bl j=>cases ry;exact PySem.EqMixed.ne_str_bool (ϖ I q (by simp))
  |int j=>obtain⟨t',rfl⟩:=ry;exact PySem.EqMixed.ne_str_int (ϖ I q (by simp))
  |str j=>obtain⟨t',rfl⟩:=ry;exact ne_str (ϖ I q (congrArg not FJ))
  |_=>exact absurd (show false=true from hs) aah
 |byt i=>
  obtain⟨t,rfl⟩:=rx;cases y with
  |byt j=>obtain⟨t',rfl⟩:=ry;exact W.ne_bytes (ϖ I q (congrArg not Qg))
  |_=>exact absurd (show false=true from hs) aah
 |_=>cases y<;>exact absurd (show false=true from hs) aah
theorem aiq:ϙ X (adH .Lt) (jq λi j=>.bl (decide (i<j))):=uo λ_ _ _ _ _ _ _ q=>lt_int q
theorem aac:ϙ X (adH .LtE) (jq λi j=>.bl (decide (i<=j))):=uo λ_ _ _ _ _ _ _ q=>le_int q
theorem W4:ϙ X (adH .Gt) (jq λi j=>.bl (decide (j<i))):=uo λ_ _ _ _ _ _ _ q=>gt_int q
theorem adY:ϙ X (adH .GtE) (jq λi j=>.bl (decide (j<=i))):=uo λ_ _ _ _ _ _ _ q=>ge_int q
theorem ahG:ϙ X (adH .Lt) (λx y H Q=>∃i j,x=.str i/\y=.str j/\Q (.bl (decide (i.cps.toList<j.cps.toList))) H):=by
 intro ϵ s σ H x y v u Q I rx ry h;obtain⟨i,j,rfl,rfl,q⟩:=h;obtain⟨t,rfl⟩:=rx;obtain⟨t',rfl⟩:=ry;exact lt_str (ϖ I q rfl)
theorem Yt:ϙ X (adH .In) (λx y H Q=>∃i j,x=.str i/\y=.str j/\Q (.bl (!(Builtin.Str.occurrences j i 0 j.length 1).isEmpty)) H):=by
 intro ϵ s σ H x y v u Q I rx ry h;obtain⟨i,j,rfl,rfl,q⟩:=h;obtain⟨t,rfl⟩:=rx;obtain⟨t',rfl⟩:=ry;exact in_str (ϖ I q rfl)
theorem agn:ϙ X (adH .Is) (λx y H Q=>y=.non/\Q (.bl (decide (x=.non))) H):=by
 intro ϵ s σ H x y v u Q I rx ry h;obtain⟨rfl,q⟩:=h;cases ry;refine is_none_gen (ϖ I q ?_);cases x<;>first
  |(cases rx;rfl)
  |(obtain⟨t,rfl⟩:=rx;rfl)
theorem ait:ϙ X (adH .IsNot) (λx y H Q=>y=.non/\Q (.bl (!decide (x=.non))) H):=by
 intro ϵ s σ H x y v u Q I rx ry h;obtain⟨rfl,q⟩:=h;cases ry;refine isnot_none_gen (ϖ I q ?_);cases x<;>first
  |(cases rx;rfl)
  |(obtain⟨t,rfl⟩:=rx;rfl)
theorem Ku(b:π){op:CmpOp}(h:op≠ .In:=by decide)(h2:op≠ .NotIn:=by decide):behindInMarks op b=false:=by
 have e1:(op==CmpOp.In)=false:=by cases op<;>first|rfl|exact absurd rfl h
 have e2:(op==CmpOp.NotIn)=false:=by cases op<;>first|rfl|exact absurd rfl h2
 cases b<;>simp[behindInMarks,e1,e2]
theorem ahx{op:CmpOp}{r:R2}(ho:ϙ X (adH op) r)(ha:PE X a ta)(hb:PE X b tb)(hm:behindInMarks op b=false):PE X (.Compare a [op] [b] pos) (tU r ta tb):=by
 intro ϵ s σ H Q I h;exact wpAny_Compare1 (wH ha hb I h λv u s2 x y H2 I2 rx ry q=>ho ϵ s2 σ H2 x y v u Q I2 rx ry q) hm
def JQ(t:TE):TT:=λσ H Q=>t σ H λx H'=>∃k,x=.bl k/\Q k H'
theorem R5{op:CmpOp}{r:R2}(ho:ϙ X (adH op) r)(ha:PE X a ta)(hb:PE X b tb)(hm:behindInMarks op b=false):PT X (.Compare a [op] [b] pos) (JQ (tU r ta tb)):=by
 intro ϵ s σ H Q I h;refine wpAny_isTrue_Compare1 (ρ (ha ϵ s σ H _ I h) λv s1 ⟨x,H1,I1,r1,q1⟩=>ρ (hb ϵ s1 σ H1 _ I1 q1) λu s2 ⟨y,H2,I2,r2,q2⟩=>
  ρ (ho ϵ s2 σ H2 x y v u _ I2 r1 r2 q2) λc s3 ⟨z,H3,I3,r3,k,e,q3⟩=>?_) hm
 subst e;cases r3;exact ag8 ⟨H3,I3,q3⟩
def Hm(r r':R2)(ta tb tc:TE):TE:=λσ H Q=>ta σ H λx H1=>tb σ H1 λy H2=>r x y H2 λz H3=>∃k,z=.bl k/\
 (if k=true then tc σ H3 λw' H4=>r' y w' H4 Q else Q (.bl false) H3)
theorem aio{op op':CmpOp}{r r':R2}(ho:ϙ X (adH op) r)(ho':ϙ X (adH op') r')(ha:PE X a ta)(hb:PE X b tb)(hc:PE X c tc)(hm:lastMarks [op,op'] [b,c]=false:=by with_unfolding_all rfl):PE X (.Compare a [op,op'] [b,c] pos) (Hm r r' ta tb tc):=by
 intro ϵ s σ H Q I h;refine Compare_chain (ρ (ha ϵ s σ H _ I h) λv s1 ⟨x,H1,I1,r1,q1⟩=>chain_link (ρ (hb ϵ s1 σ H1 _ I1 q1) λu s2 ⟨y,H2,I2,r2,q2⟩=>
  ρ (ho ϵ s2 σ H2 x y v u _ I2 r1 r2 q2) λd s3 ⟨z,H3,I3,r3,k,e,q3⟩=>?_)) hm
 subst e;cases r3;refine ag8 ?_;cases k with
 |false=>exact ite_ff ⟨.bl false,H3,I3,rfl,q3⟩
 |true=>exact ite_tt (chain_last (ρ (hc ϵ s3 σ H3 _ I3 q3) λw' s4 ⟨z',H4,I4,r4,q4⟩=>ho' ϵ s4 σ H4 y z' u w' Q I4 r2 r4 q4))
theorem aiz{op op':CmpOp}{r r':R2}(ho:ϙ X (adH op) r)(ho':ϙ X (adH op') r')(ha:PE X a ta)(hb:PE X b tb)(hc:PE X c tc)(hm:lastMarks [op,op'] [b,c]=false:=by with_unfolding_all rfl):PT X (.Compare a [op,op'] [b,c] pos) (JQ (Hm r r' ta tb tc)):=by
 intro ϵ s σ H Q I h;refine isTrue_chain (ρ (ha ϵ s σ H _ I h) λv s1 ⟨x,H1,I1,r1,q1⟩=>test_link (ρ (hb ϵ s1 σ H1 _ I1 q1) λu s2 ⟨y,H2,I2,r2,q2⟩=>
  ρ (ho ϵ s2 σ H2 x y v u _ I2 r1 r2 q2) λd s3 ⟨z,H3,I3,r3,k,e,q3⟩=>?_)) hm
 subst e;cases r3;refine ag8 ?_;cases k with
 |false=>
  obtain⟨k',e',q'⟩:=q3;cases e';exact ite_ff ⟨H3,I3,q'⟩
 |true=>
  refine ite_tt (test_last (ρ (hc ϵ s3 σ H3 _ I3 q3) λw' s4 ⟨z',H4,I4,r4,q4⟩=>ρ (ho' ϵ s4 σ H4 y z' u w' _ I4 r2 r4 q4) λd' s5 ⟨z2,H5,I5,r5,k2,e2,q5⟩=>?_));subst e2;cases r5;exact ag8 ⟨H5,I5,q5⟩
def sO(K:Ϩ)(x:V)(H:Hp)(k:Bool):Prop:=
 match x with
 |.non=>k=false
 |.bl b=>k=b
 |.int i=>k=(i !=0)
 |.str y=>y.length<=Ϫ/\k=((y.length:Int) !=0)
 |.byt y=>y.size<=Ϫ/\k=((y.size:Int) !=0)
 |.ref p=>(∃xs,η K H p xs/\k= !xs.isEmpty)\/(∃xs,Β K H p xs/\k= !xs.isEmpty)\/∃Ϸ,H p=some (.dK Ϸ)/\k= !Ϸ.isEmpty
 |_=>False
theorem Rp{κ:Type}{Ϸ:List (κ×V)}{vs:List (κ×ε)}(r:KV Ϸ vs):(!vs.isEmpty)= !Ϸ.isEmpty:=by
 cases r<;>rfl
theorem M7{xs:List V}{ϸ:List ε}(r:Vals xs ϸ):(!ϸ.toArray.isEmpty)= !xs.isEmpty:=by
 cases r<;>simp
theorem nW:(Ϫ:Nat)<2^63:=by rw[ϲ];decide
theorem aiB:RW X (λx H Q=>∃k,sO X.K x H k/\Q k H):=by
 intro ϵ s σ H x v Q I rx h;obtain⟨k,e,q⟩:=h;have hl:=nW;have hs:Ϫ=16777216:=ϲ;cases x with
 |non=>
  cases rx;have e':k=false:=e;subst e';exact truthy_none ⟨H,I,q⟩
 |bl b=>
  cases rx;have e':k=b:=e;subst e';exact ag8 ⟨H,I,q⟩
 |int i=>
  obtain⟨t,rfl⟩:=rx;have e':k=(i !=0):=e;subst e';exact PySem.P.truthy_int ⟨H,I,q⟩
 |str y=>
  obtain⟨t,rfl⟩:=rx;obtain⟨hy,e'⟩:y.length<=Ϫ/\k=((y.length:Int) !=0):=e;subst e';exact PySem.P.truthy_str (by omega) ⟨H,I.tok _,q⟩
 |byt y=>
  obtain⟨t,rfl⟩:=rx;obtain⟨hy,e'⟩:y.size<=Ϫ/\k=((y.size:Int) !=0):=e;subst e';exact W.truthy_bytes (by omega) ⟨H,I.tok _,q⟩
 |ref p=>
  cases rx;have e':(∃xs,η X.K H p xs/\k= !xs.isEmpty)\/(∃xs,Β X.K H p xs/\k= !xs.isEmpty)\/∃Ϸ,H p=some (.dK Ϸ)/\k= !Ϸ.isEmpty:=e;obtain⟨xs,hx,e'⟩|⟨xs,hx,e'⟩|⟨Ϸ,hx,e'⟩:=e'
  .subst e';obtain⟨ϸ,r,pl,hz⟩:=I.list hx;have hlen:=r.length;exact wpAny_truthy_list pl.isList (by simp only[aaB];omega) ⟨H,I.tok _,by rw[M7 r];exact q⟩
  .subst e';obtain⟨ϸ,r,pl,hz⟩:=I.tuple hx;have hlen:=r.length;exact truthy_tuple pl (by simp only[aaB];omega) ⟨H,I.tok _,by rw[M7 r];exact q⟩
  .subst e';obtain⟨hz,hS,vs,r,m⟩:Ϸ.length<=Ϫ/\(p==sysModules)=false/\∃vs,KV Ϸ vs/\s.heap.DictOf (bN X.prog X.w) p vs:=I.hok p _ hx;have hlen:Ϸ.length=vs.length:=Paired.length r;exact wpAny_truthy_dict hS m (by omega) ⟨H,I.tok _,by rw[Rp r];exact q⟩
 |_=>exact(show False from e).elim
theorem ahh(ha:PE X a ta)(he:∀whole,isTrue a X.env whole=(do let v<-whole;standAt a.pos;holding [v] (truthy v))):PT X a (λσ H Q=>ta σ H λx H'=>∃k,sO X.K x H' k/\Q k H'):=by
 intro ϵ s σ H Q I h;exact isTrue_plain (ρ (ha ϵ s σ H _ I h) λv s1 ⟨x,H1,I1,r1,q1⟩=>aiB ϵ s1 σ H1 x v Q I1 r1 q1) (he _)
theorem Xz:ϙ X (binaryOp .Add) (λx y H Q=>∃i j,x=.str i/\y=.str j/\i.length+j.length<=Ϫ/\Q (.str (i++j)) H):=by
 intro ϵ s σ H x y v u Q I rx ry h;obtain⟨i,j,rfl,rfl,hz,q⟩:=h;obtain⟨t,rfl⟩:=rx;obtain⟨t',rfl⟩:=ry;exact add_str (λt' tk=>⟨.str (i++j),H,I.tok _,⟨_,rfl⟩,q⟩) hz
theorem vals1{x:V}{us:List ε}(r:Vals [x] us):∃u,us=[u]/\RelV x u:=by
 cases r with
 |cons r1 r2=>cases r2;exact⟨_,rfl,r1⟩
theorem vals2{x y:V}{us:List ε}(r:Vals [x,y] us):∃u w',us=[u,w']/\RelV x u/\RelV y w':=by
 cases r with
 |cons r1 r2=>
  cases r2 with
  |cons r3 r4=>cases r4;exact⟨_,_,rfl,r1,r3⟩
theorem Tw:dI X (.builtin "abs") (λxs H Q=>∃i,xs=[.int i]/\Q (.int (if i<0 then -i else i)) H):=by
 intro ϵ s σ H xs us Q I r h;obtain⟨i,rfl,q⟩:=h;obtain⟨u,rfl,t,rfl⟩:=vals1 r;exact call_abs_int λu tk=>⟨.int (if i<0 then -i else i),H,I.tok _,⟨_,rfl⟩,q⟩
theorem Yo(hc:X.calm=true):dI X (.builtin "min") (λxs H Q=>∃i j,xs=[.int i,.int j]/\Q (.int (if j<i then j else i)) H):=by
 intro ϵ s σ H xs us Q I r h;obtain⟨i,j,rfl,q⟩:=h;obtain⟨u,w',rfl,⟨t,rfl⟩,⟨t',rfl⟩⟩:=vals2 r;refine min_two_ints (I.ok.hd hc) λh' tk k=>⟨_,H,I.kept k,?_,q⟩
 by_cases hj:j<i
 .rw[if_pos hj,if_pos hj];exact⟨_,rfl⟩
 .rw[if_neg hj,if_neg hj];exact⟨_,rfl⟩
theorem acT:dI X (.type "str") (λxs H Q=>∃i,xs=[.int i]/\i.natAbs.log2<1920/\Q (.str (toString i)) H):=by
 intro ϵ s σ H xs us Q I r h;obtain⟨i,rfl,hz,q⟩:=h;obtain⟨u,rfl,t,rfl⟩:=vals1 r;exact PySem.P.str_of_int hz ⟨.str _,H,I.tok _,⟨_,rfl⟩,q⟩
end
structure lC(h:ϫ)(x dx C:δ)(mA:Str->Option ε):Prop where
 obj:h.get? x=some (al2 C dx)
 ns:h.Ns1 dx mA
 ne:dx≠x
theorem Yq{h:ϫ}{dx:δ}{mA:Str->Option ε}(n:h.Ns1 dx mA):∃od,h.get? dx=some od/\∀name,anr name od=some (mA name):=by
 obtain⟨o,es,ep,ho,hd,hk,_,hm⟩:=n;refine⟨o,ho,λname=>?_⟩;have e:=hm name;unfold nsFind findBy at e;rw[<-amN]at e;unfold anr;rw[hd];dsimp only;split
 .rename_i y q;rw[q]at e;exact congrArg some e
 .rename_i q;rw[q]at e;have a:es.toList.any (·.refKey)=false:=by
   rw[List.any_eq_false];intro y hy;obtain⟨z,t,hkey⟩:=hk y (Array.mem_toList_iff.mp hy);simp[DictEntry.refKey,hkey]
  have a':¬es.toList.any (·.refKey)=true:=by rw[a];exact aah
  rw[if_neg a'];exact congrArg some e
theorem lC.look{h:ϫ}{x dx C:δ}{mA:Str->Option ε}(I:lC h x dx C mA):∃od,W.InstAt h x (al2 C dx) C (some od)/\∀name,anr name od=some (mA name):=
 let⟨od,ho,hl⟩:=Yq I.ns
 ⟨od,⟨I.obj,rfl,rfl,ho⟩,hl⟩
section
variable{prog:ϯ}{w:ϭ}{A:ϰ}{E:ε->μ->Prop}{s:μ}{K:Ϩ}{x dx C f:δ}{mA:Str->Option ε}{name:Str}{v:ε}
theorem get_map{expr:Bool}{Q:ε->μ->Prop}(X:K.In s.heap)(I:lC s.heap x dx C mA)(hg:amh K C name=true)(hh:alI K C=true)(ha:agO K (.ref C) name=some none)(hv:mA name=some v)(hv':W.handedIn v=true)(h:Q v {s with toks:=s.toks+1}):ν (Ϧ prog w) A (getAttr (.ref x) name expr) Q E s:=by
 obtain⟨od,J,hl⟩:=I.look;exact W.get_value X J (amO hg).1 (W.findObj_own hh ha rfl (by rw[hl,hv])) hv' h
theorem Wv{pl:Sem Bool}{Q:ε×List ε->μ->Prop}(X:K.In s.heap)(I:lC s.heap x dx C mA)(hg:amh K C name=true)(hf:agO K (.ref C) name=some (some (.ref f)))(ht:amP K (.ref f)=true)(hv:mA name=none)(h:Q (.ref f,[.ref x]) s):ν (Ϧ prog w) A (getMethod (.ref x) name pl) Q E s:=by
 obtain⟨od,J,hl⟩:=I.look;exact W.method_fn X J (amO hg).1 (amO hg).2 hf (beq_iff_eq.mp ht) (by show(anr name od).map (·.isSome)=some false;rw[hl,hv];rfl) h
theorem abO{ns:List Str}{Q:Unit->μ->Prop}(X:K.In s.heap)(I:lC s.heap x dx C mA)(hs:agO K (.ref C) "__setattr__"=some (some (.builtin "object.__setattr__")))(hp:amL K C=true)(ht:al7 K C name=some none)(hh:alI K C=true)(hw:PySem.Within mA ns)(hsz:ns.length<=Ϫ)(h:∀h',lC h' x dx C (λy=>if y=name then some v else mA y)->akk dx s.heap h'->Q () {s with heap:=h',toks:=s.toks+2}):ν (Ϧ prog w) A (setAttr (.ref x) name v) Q E s:=by
 obtain⟨od,J,hl⟩:=I.look;refine W.set_plain X J hs (W.osa_open (s:={s with toks:=s.toks+1}) (r:=none) X J hp ht λb=>?_);obtain⟨cd,hc,hd'⟩:=W.any_some hh;have hx:s.heap.get? x=some ⟨.ref C,some dx,.plain, #[]⟩:=I.obj;refine ϩ (ϱ (ϩ (ϩ (wpAny_loadPart hx (ϩ (W.Looks.here (s:={s with toks:=s.toks+1}) (amQ X hc) ?_))))));rw[hd'];refine ϱ (a:=some dx) (ϩ (ϱ (ϩ ?_)));refine wpAny_nsSet1 (s:={s with toks:=s.toks+1}) I.ns λh' hn2 hs2=>?_
 obtain⟨oD,esD,epD,hoD,hdD,hcD⟩:=hn2.count (PySem.Within.cons name v hw);refine ϩ (wpAny_lookBehind hoD (by rw[hdD];exact pastItsLine_dict (afK hcD (by rw[List.length_cons];omega))) ?_);exact ϱ (h _ ⟨(hs2.2 _ (Ne.symm I.ne)).trans I.obj,hn2,I.ne⟩ hs2)
theorem aag{R:Result->μ->Prop}{vs:List ε}{kw:List (Str×ε)}(X:K.In s.heap)(hm:anb K C=true)(hi:agO K (.ref C) "__init__"=some (some (.ref f)))(hf:amn K (.ref f)=some (.type "function"))(h:codeAny (Ϧ prog w) (A.under (.builtin "type.__call__" ⟨.ref C::vs,kw⟩)) (.call (.ref f) ⟨.ref (s.heap.objs.size+1)::vs,kw⟩) (W.InitBack (s.heap.objs.size+1) R)
   {s with heap:=(s.heap.push akx).push (al2 C s.heap.objs.size)}):codeAny (Ϧ prog w) A (.call (.ref C) ⟨vs,kw⟩) R s:=by
 obtain⟨hh,g,d,t,os⟩:=s;exact W.make_core (W.makes_of X hm) (ank X hi) (λself=>W.bind_fn X self hf) (.inl rfl) h
end
def ϕ(f:Str)(v:V):List (Str×V)->List (Str×V)
 |[]=>[(f,v)]
 |(g,x)::r=>if g=f then(g,v)::r else(g,x)::ϕ f v r
theorem Ko(f g:Str)(v:V):∀fs:List (Str×V),(ϕ f v fs).lookup g=if g=f then some v else fs.lookup g
 |[]=>by
  show ahP g [(f,v)]=_;by_cases h:g=f
  .have hb:(g==f)=true:=beq_iff_eq.mpr h;simp only[ahP,hb,if_pos h]
  .have hb:(g==f)=false:=beq_eq_false_iff_ne.mpr h;simp only[ahP,hb,if_neg h]
 |(k,x)::r=>by
  have ih:=Ko f g v r;rw[show ϕ f v ((k,x)::r)=(if k=f then(k,v)::r else(k,x)::ϕ f v r)from rfl];by_cases hk:k=f
  .rw[if_pos hk];by_cases h:g=k
   .have hb:(g==k)=true:=beq_iff_eq.mpr h;simp only[ahP,hb,if_pos (h.trans hk)]
   .have hb:(g==k)=false:=beq_eq_false_iff_ne.mpr h;simp only[ahP,hb,if_neg (λe:g=f=>h (e.trans hk.symm))]
  .rw[if_neg hk];by_cases h:g=k
   .have hb:(g==k)=true:=beq_iff_eq.mpr h;simp only[ahP,hb,if_neg (λe:g=f=>hk (h.symm.trans e))]
   .have hb:(g==k)=false:=beq_eq_false_iff_ne.mpr h;simp only[ahP,hb];exact ih
theorem zy(f:Str)(v:V):∀fs:List (Str×V),f∈(ϕ f v fs).map (·.1)/\∀g,g∈fs.map (·.1)->g∈(ϕ f v fs).map (·.1)
 |[]=>⟨by simp[ϕ],λg h=>by simp at h⟩
 |(k,x)::r=>by
  obtain⟨i1,i2⟩:=zy f v r;rw[show ϕ f v ((k,x)::r)=(if k=f then(k,v)::r else(k,x)::ϕ f v r)from rfl];by_cases hk:k=f
  .rw[if_pos hk];subst hk;exact⟨by simp,λg h=>by simpa using h⟩
  .rw[if_neg hk];refine⟨?_,λg h=>?_⟩
   .rw[List.map_cons];exact abK _ i1
   .rw[List.map_cons]at h⊢;obtain e|e:=ϴ.mp h
    .exact ϴ.mpr (.inl e)
    .exact abK _ (i2 g e)
theorem jx(f:Str)(v:V):∀fs:List (Str×V),(ϕ f v fs).length<=fs.length+1
 |[]=>by simp[ϕ]
 |(k,x)::r=>by
  have ih:=jx f v r;rw[show ϕ f v ((k,x)::r)=(if k=f then(k,v)::r else(k,x)::ϕ f v r)from rfl];by_cases hk:k=f
  .rw[if_pos hk,List.length_cons,List.length_cons];omega
  .rw[if_neg hk,List.length_cons,List.length_cons];omega
theorem bz.some_of{v:V}{o:Option ε}(r:bz (some v) o):∃u,o=some u/\RelV v u:=by
 cases o with
 |none=>exact(show False from r).elim
 |some u=>exact⟨u,rfl,r⟩
theorem bz.none_of{o:Option ε}(r:bz none o):o=none:=by
 cases o with
 |none=>rfl
 |some u=>exact(show False from r).elim
theorem aiG{v:V}{u:ε}(r:RelV v u):W.handedIn u=true:=by
 cases v with
 |non=>cases(show u=Value.none from r);rfl
 |bl b=>cases(show u=Value.bool b from r);rfl
 |int i=>obtain⟨t,e⟩:=(show ∃t,u=Value.int i t from r);cases e;rfl
 |str x=>obtain⟨t,e⟩:=(show ∃t,u=Value.str x t from r);cases e;rfl
 |byt b=>obtain⟨t,e⟩:=(show ∃t,u=Value.bytes b t from r);cases e;rfl
 |flt b=>obtain⟨t,e⟩:=(show ∃t,u=Value.float b t from r);cases e;rfl
 |ref a=>cases(show u=Value.ref a from r);rfl
 |ty n=>cases(show u=Value.type n from r);rfl
section
variable{P:ϯ}{w:ϭ}{H H':Hp}{h h':ϫ}{a C dx:δ}{fs fs':List (Str×V)}
theorem u5(hok:Ϙ P w H h)(e:H a=some (.ins C dx fs)):∃mA,lC h a dx C mA/\(∀f,bz (fs.lookup f) (mA f))/\PySem.Within mA (fs.map (·.1))/\fs.length<=1000/\H dx=some (.own a):=by
 obtain⟨d,z,ne,ob,mA,n,r,q⟩:=(show Ϗ P w H h a (.ins C dx fs)from hok a _ e);exact⟨mA,⟨ob,n,ne⟩,r,q,z,d⟩
end
structure ϒ(K:Ϩ)(C:δ):Prop where
 pg:amh K C Str.empty=true
 hd:alI K C=true
 po:amL K C=true
 sa:agO K (.ref C) "__setattr__"=some (some (.builtin "object.__setattr__"))
theorem ϒ.get{K:Ϩ}{C:δ}(c:ϒ K C)(f:Str):amh K C f=true:=c.pg
def Θ(K:Ϩ)(C:δ)(f:Str):Prop:=agO K (.ref C) f=some none
theorem Θ.taker{K:Ϩ}{C:δ}{f:Str}(n:Θ K C f):al7 K C f=some none:=by
 unfold al7;rw[show agO K (.ref C) f=some none from n];rfl
structure Meth(K:Ϩ)(C:δ)(m:Str)(f:δ):Prop where
 at_:agO K (.ref C) m=some (some (.ref f))
 fn:amP K (.ref f)=true
 kp:alF K (.ref f)=true
section
variable{X:Cx}{ϵ:List (δ×Obj)}{σ:St}{H:Hp}{s:μ}{a C dx:δ}{fs:List (Str×V)}{f:Str}{v:V}{A:ϰ}{E:ε->μ->Prop}
theorem GZ{b:Bool}{Q:ε->μ->Prop}(I:Inv X ϵ σ H s)(e:H a=some (.ins C dx fs))(c:ϒ X.K C)(n:Θ X.K C f)(l:fs.lookup f=some v)(h:∀u s',Inv X ϵ σ H s'->RelV v u->Q u s'):ν (Ϧ X.prog X.w) A (getAttr (.ref a) f b) Q E s:=by
 obtain⟨mA,O,r,_,_,_⟩:=u5 I.hok e;obtain⟨u,hu,ru⟩:=bz.some_of (v:=v) (o:=mA f) (by rw[<-l];exact r f);exact get_map I.kIn O (c.get f) c.hd n hu (aiG ru) (h u _ (I.tok _) ru)
theorem J5{m:Str}{g:δ}{pl:Sem Bool}{Q:ε×List ε->μ->Prop}(I:Inv X ϵ σ H s)(e:H a=some (.ins C dx fs))(c:ϒ X.K C)(k:Meth X.K C m g)(l:fs.lookup m=none)(h:Q (.ref g,[.ref a]) s):ν (Ϧ X.prog X.w) A (getMethod (.ref a) m pl) Q E s:=by
 obtain⟨mA,O,r,_,_,_⟩:=u5 I.hok e;have hn:mA m=none:=bz.none_of (by rw[<-l];exact r m);exact Wv I.kIn O (c.get m) k.at_ k.fn hn h
theorem Qp{y:V}{u:ε}{Q:Unit->μ->Prop}(I:Inv X ϵ σ H s)(e:H a=some (.ins C dx fs))(c:ϒ X.K C)(n:Θ X.K C f)(hl:fs.length<1000)(ry:RelV y u)(h:∀s',Inv X ϵ σ (upd H a (.ins C dx (ϕ f y fs))) s'->Q () s'):ν (Ϧ X.prog X.w) A (setAttr (.ref a) f u) Q E s:=by
 obtain⟨mA,O,r,wi,_,ho⟩:=u5 I.hok e;have hz:(fs.map (·.1)).length<=Ϫ:=by rw[ϳ,ϲ];omega
 refine abO I.kIn O c.sa c.po n.taker c.hd wi hz λh' O' sb=>h _ ?_
 have hd:∃o,h'.get? dx=some o:=let⟨o,_,_,e',_⟩:=O'.ns;⟨o,e'⟩;refine I.write (x:=a) (e:=dx) (by rw[e];exact True.intro) (.inr ho) (λb q hb z=>(sb.2 b hb).trans z) hd ?_;refine⟨by rw[ι O.ne];exact ho,?_,O.ne,O'.obj,_,O'.ns,λg=>?_,λg hg=>?_⟩
 .have :=jx f y fs;omega
 .show bz ((ϕ f y fs).lookup g) (if g=f then some u else mA g);rw[Ko];by_cases q:g=f
  .rw[if_pos q,if_pos q];exact ry
  .rw[if_neg q,if_neg q];exact r g
 .by_cases q:g=f
  .rw[q];exact(zy f y fs).1
  .refine(zy f y fs).2 g (wi g λz=>hg ?_);show(if g=f then some u else mA g)=none;rw[if_neg q];exact z
theorem Inv.made(I:Inv X ϵ σ H s):Inv X ϵ σ (upd (upd H s.heap.objs.size (.own (s.heap.objs.size+1))) (s.heap.objs.size+1) (.ins C s.heap.objs.size []))
  {s with heap:=(s.heap.push akx).push (al2 C s.heap.objs.size)}:=by
 have e1:(s.heap.push akx).get? s.heap.objs.size=some akx:=abq s.heap rfl;have e2:((s.heap.push akx).push (al2 C s.heap.objs.size)).get? (s.heap.objs.size+1)=some (al2 C s.heap.objs.size):=by
  have:=abq (s.heap.push akx) (o:=al2 C s.heap.objs.size) rfl
  rwa [al0]at this
 have e3:(s.heap.push akx).Ns s.heap.objs.size (λ_=>none):=⟨akx, #[],_,e1,rfl,(λe he=>absurd he (by simp)),λ_=>rfl⟩;have I1:=I.laid (a:=s.heap.objs.size) (o:=.own (s.heap.objs.size+1)) (h':=s.heap.push akx) (t':=s.toks) (λb u q=>Heap.get?_push_of_some _ q) (Ϯ _) ⟨_,e1⟩;refine I1.laid (a:=s.heap.objs.size+1) (o:=.ins C s.heap.objs.size []) (t':=s.toks) (λb u q=>Heap.get?_push_of_some _ q) (alO (al0 _ _)) ?_;have ne:s.heap.objs.size≠s.heap.objs.size+1:=ab6 (am1 _);refine⟨by rw[ι ne,υ],agf _,ne,e2,λ_=>none,(Heap.Ns1.of_empty e3).at λo q=>Heap.get?_push_of_some _ q,λ_=>True.intro,λy hy=>absurd rfl hy⟩
theorem ah7{prog:ϯ}{w:ϭ}{env:Env}{e:π}{f:Str}{pos:Pos}{s:μ}{Q:ε->μ->Prop}(hb:attributeBase e f env (eval e env)=eval e env)(h:ν (Ϧ prog w) A (eval e env) (λo s₁=>ν (Ϧ prog w) A (getAttr o f true) Q E s₁) E s):ν (Ϧ prog w) A (eval (.Attribute e f pos) env) Q E s:=
 Attribute_any_ h (by rw[arm_eval_Attribute,hb])
end
def Xi(K:Ϩ)(ta:TE)(f:Str):TE:=λσ H Q=>ta σ H λx H1=>∃a C dx fs v,x=.ref a/\H1 a=some (.ins C dx fs)/\ϒ K C/\ Θ K C f/\fs.lookup f=some v/\Q v H1
def Rh(K:Ϩ)(ta tv:TE)(f:Str):TS:=λD σ H=>tv σ H λy H1=>ta σ H1 λx H2=>∃a C dx fs,x=.ref a/\H2 a=some (.ins C dx fs)/\ϒ K C/\ Θ K C f/\fs.length<1000/\
 D.nx σ (upd H2 a (.ins C dx (ϕ f y fs)))
def N6(X:Cx)(op:Operator)(rd:V->V->Hp->VK->Prop):Prop:=
 ∀(ϵ:List (δ×Obj))(s:μ)(σ:St)(H:Hp)(x y:V)(u v:ε)(Q:VK),Inv X ϵ σ H s->RelV x u->RelV y v->rd x y H Q->ν (Ϧ X.prog X.w) X.A (inplaceOp op u v) (EP X ϵ σ Q) X.xe s
def Sd(K:Ϩ)(ta tv:TE)(rd:V->V->Hp->VK->Prop)(f:Str):TS:=λD σ H=>ta σ H λx H1=>∃a C dx fs v,x=.ref a/\H1 a=some (.ins C dx fs)/\ϒ K C/\ Θ K C f/\fs.lookup f=some v/\
 tv σ H1 λy H2=>rd v y H2 λz H3=>∃dx' fs',H3 a=some (.ins C dx' fs')/\fs'.length<1000/\D.nx σ (upd H3 a (.ins C dx' (ϕ f z fs')))
section
variable{X:Cx}{o e value:π}{f:Str}{pos pos' tpos:Pos}{ta tv:TE}
theorem adM(he:PE X e ta)(hb:attributeBase e f X.env (eval e X.env)=eval e X.env):PE X (.Attribute e f pos) (Xi X.K ta f):=by
 intro ϵ s σ H Q I h;refine ah7 hb (ρ (he ϵ s σ H _ I h) λu s1 ⟨x,H1,I1,rx,a,C,dx,fs,v,ex,ea,c,n,l,q⟩=>?_);subst ex;obtain rfl:u=Value.ref a:=rx;exact GZ I1 ea c n l λu' s2 I2 ru=>⟨v,H1,I2,ru,q⟩
theorem ae0(ha:PE X o ta)(hv:PE X value tv)(hs:ajq value (some (.Attribute o f pos')) pos.line X.env=pure false):PS X (.Assign [.Attribute o f pos'] value pos) (Rh X.K ta tv f):=by
 intro ϵ s σ H D I h;refine plainObj_wpAny_Assign_Attribute (ρ (hv ϵ s σ H _ I h) λu s1 ⟨y,H1,I1,ry,q⟩=>ρ (ha ϵ s1 σ H1 _ I1 q) λov s2 ⟨x,H2,I2,rx,a,C,dx,fs,ex,ea,c,n,l,q2⟩=>?_) hs;subst ex;obtain rfl:ov=Value.ref a:=rx;exact Qp I2 ea c n l ry λs3 I3=>⟨σ,_,I3,q2⟩
theorem Wx{op:Operator}{rd:V->V->Hp->VK->Prop}(ha:PE X o ta)(hv:PE X value tv)(hop:N6 X op rd):PS X (.AugAssign (.Attribute o f tpos) op value pos) (Sd X.K ta tv rd f):=by
 intro ϵ s σ H D I h;refine wpAny_AugAssign_AttributeAny (ρ (ha ϵ s σ H _ I h) λov s1 ⟨x,H1,I1,rx,a,C,dx,fs,v,ex,ea,c,n,l,q⟩=>?_);subst ex;obtain rfl:ov=Value.ref a:=rx;refine GZ I1 ea c n l λu s2 I2 ru=>ρ (hv ϵ s2 σ H1 _ I2 q) λw3 s3 ⟨y,H2,I3,ry,q3⟩=>ρ (hop ϵ s3 σ H2 v y u w3 _ I3 ru ry q3) λw4 s4 ⟨z,H3,I4,rz,dx',fs',ea',l',q4⟩=>?_
 exact Qp I4 ea' c n l' rz λs5 I5=>⟨σ,_,I5,q4⟩
def JD:V->V->Hp->VK->Prop:=λx y H Q=>∃i j,x=.int i/\y=.int j/\Q (.int (i+j)) H
theorem abk:N6 X .Add JD:=by
 rintro ϵ s σ H x y u v Q I rx ry ⟨i,j,rfl,rfl,q⟩
 obtain⟨t,rfl⟩:=(show ∃t,u=Value.int i t from rx);obtain⟨t',rfl⟩:=(show ∃t',v=Value.int j t' from ry);exact PyProof.Rows.iadd_int ⟨.int (i+j),H,I.tok _,⟨_,rfl⟩,q⟩
end
section
variable{X:Cx}{ϵ:List (δ×Obj)}{σ:St}{H:Hp}{s:μ}{A:ϰ}{E:ε->μ->Prop}{Q:ε->μ->Prop}{c:ε}{b:Bool}
inductive aV (K:Ϩ) (H:Hp):V->ε->Prop where
 |non:aV K H .non (.type "NoneType")
 |bl (x:Bool):aV K H (.bl x) (.type "bool")
 |int (i:Int):aV K H (.int i) (.type "int")
 |str (x:Str):aV K H (.str x) (.type "str")
 |flt (x:UInt64):aV K H (.flt x) (.type "float")
 |lst {a:δ} {xs:List V} (e:H a=some (.lst xs)):aV K H (.ref a) (.type "list")
 |frz {a:δ} {o:Obj} {xs:List V} (e:H a=some (.frz o (.lst xs))):aV K H (.ref a) (.type "list")
 |tup {a:δ} {xs:List V} (e:H a=some (.tup xs)):aV K H (.ref a) (.type "tuple")
 |dK {a:δ} {Ϸ:List (Key×V)} (e:H a=some (.dK Ϸ)):aV K H (.ref a) (.type "dict")
 |dT {a:δ} {Ϸ:List (List Key×V)} (e:H a=some (.dT Ϸ)):aV K H (.ref a) (.type "dict")
 |ins {a C dx:δ} {fs:List (Str×V)} (e:H a=some (.ins C dx fs)) (cl:ϒ K C) (ha:agO K (.ref C) "__class__"=some (some (.builtin "object.__class__")))
  (hn:aiY K (.builtin "object.__class__") "__get__"=some (some (.builtin "getset_descriptor.__get__"))) (htk:anc K (.builtin "object.__class__")=some true)
  (hm:amd K C (.type "object")=some true):aV K H (.ref a) (.ref C)
theorem ah8{x:V}{u t:ε}(I:Inv X ϵ σ H s)(rx:RelV x u)(ty:aV X.K H x t)(e:anC X.K t c=some b)(h:∀tk,Q (.bool b) {s with toks:=tk}):ν (Ϧ X.prog X.w) A (call (.builtin "isinstance") [u,c]) Q E s:=by
 cases ty with
 |non=>cases(show u=Value.none from rx);exact alE W.kitx_none I.kIn True.intro e (λz=>nomatch z) h
 |bl y=>cases(show u=Value.bool y from rx);exact alE W.kitx_bool I.kIn True.intro e (λz=>nomatch z) h
 |int i=>obtain⟨t,q⟩:=(show ∃t,u=Value.int i t from rx);cases q;exact alE W.kitx_int I.kIn True.intro e (λz=>nomatch z) h
 |str y=>obtain⟨t,q⟩:=(show ∃t,u=Value.str y t from rx);cases q;exact alE W.kitx_str I.kIn True.intro e (λz=>nomatch z) h
 |flt y=>obtain⟨t,q⟩:=(show ∃t,u=Value.float y t from rx);cases q;exact alE W.kitx_float I.kIn True.intro e (λz=>nomatch z) h
 | @lst a xs ea=>
   cases(show u=Value.ref a from rx);obtain⟨_,_,n,_,h1⟩:=(show Ϗ X.prog X.w H s.heap a (.lst xs)from I.hok a _ ea);exact alE W.kitx_list I.kIn ⟨_,h1,rfl⟩ e (λz=>nomatch z) h
 | @frz a ob xs ea=>
   cases(show u=Value.ref a from rx);obtain⟨_,_,_,n,_,h1⟩:=(show Ϗ X.prog X.w H s.heap a (.frz ob (.lst xs))from I.hok a _ ea);exact alE W.kitx_list I.kIn ⟨_,h1,rfl⟩ e (λz=>nomatch z) h
 | @tup a xs ea=>
   cases(show u=Value.ref a from rx);obtain⟨_,_,_,p⟩:=(show Ϗ X.prog X.w H s.heap a (.tup xs)from I.hok a _ ea);obtain⟨o,h1,h2,_⟩:=p;exact alE W.kitx_tuple I.kIn ⟨o,h1,h2⟩ e (λz=>nomatch z) h
 | @dK a Ϸ ea=>
   cases(show u=Value.ref a from rx);obtain⟨_,_,vs,_,p⟩:=(show Ϗ X.prog X.w H s.heap a (.dK Ϸ)from I.hok a _ ea);obtain⟨o,es,ep,h1,h2,_⟩:=p;exact alE W.kitx_dict I.kIn ⟨o,h1,h2.1⟩ e (λz=>nomatch z) h
 | @dT a Ϸ ea=>
   cases(show u=Value.ref a from rx);obtain⟨_,_,xs,_,o,es,ep,h1,h2,_⟩:=(show Ϗ X.prog X.w H s.heap a (.dT Ϸ)from I.hok a _ ea);exact alE W.kitx_dict I.kIn ⟨o,h1,h2.1⟩ e (λz=>nomatch z) h
 | @ins a C dx fs ea cl ha hn htk hm=>
   cases(show u=Value.ref a from rx);obtain⟨mA,O,_⟩:=u5 I.hok ea;obtain⟨od,J,_⟩:=O.look;exact alE (W.kitx_own (cl.get _) cl.hd ha hn htk hm) I.kIn J e (λz=>nomatch z) h
end
structure ό(cc:Bool)(k:Nat)(A:ϰ):Prop where
 hd:cc=true->A.handled=none
 dp:A.depth+3*k+5<recursionLimit
 un:A.units+16*k+200<cLine
theorem ό.mono{j k:Nat}{A:ϰ}(r:ό cc k A)(h:j<=k):ό cc j A:=⟨r.hd,by have:=r.dp;omega,by have:=r.un;omega⟩
theorem ό.deeper{k:Nat}{A:ϰ}(r:ό cc (k+1) A)(env:Env):ό cc k (A.deeper env):=
 ⟨r.hd,by have:=r.dp;show A.depth+1+3*k+5<_;omega,by have:=r.un;show A.units+3+16*k+200<_;omega⟩
theorem ό.in1{k:Nat}{A:ϰ}(r:ό cc (k+1) A):ό cc k A.in1:=
 ⟨r.hd,by have:=r.dp;show A.depth+3*k+5<_;omega,by have:=r.un;show A.units+1+16*k+200<_;omega⟩
theorem R3{A:ϰ}{C:δ}{us:List ε}{kw:List (Str×ε)}:(A.under (.builtin "type.__call__" ⟨.ref C::us,kw⟩)).depth=A.depth+1:=by
 first|rfl|simp[Around.under,Code.weight,Code.isCreation,Code.isGuard,Code.isCaller,Code.frames,Code.isFrame,guardIds]
theorem Z6{A:ϰ}{C:δ}{us:List ε}{kw:List (Str×ε)}:(A.under (.builtin "type.__call__" ⟨.ref C::us,kw⟩)).units=A.units+1:=by
 first|rfl|simp[Around.under,Code.cUnits,Code.frames,Code.isFrame]
theorem ό.make{k:Nat}{A:ϰ}(r:ό cc (k+1) A)(C:δ)(us:List ε)(kw:List (Str×ε)):ό cc k (A.under (.builtin "type.__call__" ⟨.ref C::us,kw⟩)):=
 ⟨r.hd,by have:=r.dp;rw[R3];omega,by have:=r.un;rw[Z6];omega⟩
theorem ό.depth{k:Nat}{A:ϰ}(r:ό cc k A):A.depth<recursionLimit:=by have:=r.dp;omega
theorem ό.units{k:Nat}{A:ϰ}(r:ό cc k A):A.units+64<cLine:=by have:=r.un;omega
theorem ό.units0{k:Nat}{A:ϰ}(r:ό cc k A):A.units<cLine:=by have:=r.un;omega
def TX:TA:=λ_ H Q=>Q [] H
def acW(ta:TE)(tr:TA):TA:=λσ H Q=>ta σ H λx H1=>tr σ H1 λxs H2=>Q (x::xs) H2
section
variable{X:Cx}{e:π}{es:List π}{te:TE}{t:TA}{pos:Pos}
theorem Ri:PA X [] TX:=λ_ _ _ _ H Q I h=>Calls.spliced_nil ⟨[],H,I,.nil,h⟩
theorem ahF(ha:PE X e te)(hr:PA X es t)(hs:Ϭ (e::es) X.env=(false,eval e X.env)::Ϭ es X.env:=by rfl):PA X (e::es) (acW te t):=by
 intro pos ϵ s σ H Q I h;rw[hs];show ν _ _ (spliced ((false,eval e X.env)::backTo pos (Ϭ es X.env))) _ _ s;refine Calls.spliced_cons (ρ (ha ϵ s σ H _ I h) λu s1 ⟨x,H1,I1,r1,q1⟩=>?_);exact ρ (hr pos ϵ s1 σ H1 _ I1 q1) λus s2 ⟨xs,H2,I2,r2,q2⟩=>⟨x::xs,H2,I2,.cons r1 r2,q2⟩
def Z5(t:TA):TE:=λσ H Q=>t σ H λxs H1=>xs.length<=Ϫ/\∀p,H1 p=none->Q (.ref p) (upd H1 p (.tup xs))
def acu(t:TA):TE:=λσ H Q=>t σ H λxs H1=>xs.length<=Ϫ/\∀p,H1 p=none->Q (.ref p) (upd H1 p (.lst xs))
theorem Wd{x1}(h:PA X es t):PE X (.Tuple es x1 pos) (Z5 t):=by
 intro ϵ s σ H Q I hq;refine wpAny_Tuple_spliced (ρ (h pos ϵ s σ H _ I hq) λus s1 ⟨xs,H1,I1,r,z,q⟩=>⟨by rw[<-r.length];exact z,?_⟩);have hf:H1 s1.heap.objs.size=none:=I1.hok.fresh (Ϯ _);refine⟨.ref s1.heap.objs.size,upd H1 s1.heap.objs.size (.tup xs),I1.laid (t':=s1.toks) (λb u e=>Heap.get?_push_of_some _ e) (Ϯ _) ?_,rfl,q _ hf⟩;exact⟨z,us,r,⟨_,abq _ rfl,rfl,_,rfl⟩⟩
theorem aef(h:PA X es t):PE X (.List es pos) (acu t):=by
 intro ϵ s σ H Q I hq;refine wpAny_List_spliced (ρ (h pos ϵ s σ H _ I hq) λus s1 ⟨xs,H1,I1,r,z,q⟩=>⟨by rw[<-r.length];exact z,?_⟩);have hf:H1 s1.heap.objs.size=none:=I1.hok.fresh (Ϯ _);refine⟨.ref s1.heap.objs.size,upd H1 s1.heap.objs.size (.lst xs),I1.laid (t':=s1.toks) (λb u e=>Heap.get?_push_of_some _ e) (Ϯ _) ?_,rfl,q _ hf⟩;exact⟨z,us,0,r,abq _ rfl⟩
end
abbrev Sp:=List V->Hp->VK->XK->Prop
abbrev dm:=List Env->Hp->μ->XK->ε->μ->Prop
structure jZ(P:ϯ)(w:ϭ)(K:Ϩ)(mg:Str->Option ε)(base:ϫ)(A:ϰ)(outer:List Env)(s:μ)(H:Hp):Prop where
 frames:A.frames=some outer
 mod:Mod K mg base
 bs:∀b o,base.get? b=some o->s.heap.get? b=some o/\H b=none
 bsz:base.objs.size<=s.heap.objs.size
 funs:s.heap.FunFrames base outer
 frf:∀b∈bK outer,H b=none
 hok:Ϙ P w H s.heap
 bare:AllBare s.gens
def CE(outer:List Env)(P:ϯ)(w:ϭ)(H:Hp)(s:μ)(Q:VK)(u:ε)(s':μ):Prop:=
 ∃v H',s'.os=s.os/\AllBare s'.gens/\Un (bK outer) [] H H' s.heap s'.heap/\Ϙ P w H' s'.heap/\RelV v u/\Q v H'
def CR(CX:dm)(outer:List Env)(P:ϯ)(w:ϭ)(H:Hp)(s:μ)(Q:VK)(E:XK)(r:Result)(s':μ):Prop:=
 match r with
 |.ok (.ret u)=>CE outer P w H s Q u s'
 |.ok _=>False
 |.error e=>CX outer H s E e s'
structure cC(P:ϯ)(w:ϭ)(K:Ϩ)(mg:Str->Option ε)(base:ϫ)(CX:dm)(cc:Bool)(k:Nat)(f:δ)(fd:air)(ps:List Str)(sp:Sp):Prop where
 len:∀vs H Q E,sp vs H Q E->vs.length=ps.length
 run:∀(A:ϰ)(outer:List Env)(s:μ)(H:Hp)(args:Args)(us:List ε)(vs:List V)(Q:VK)(E:XK),ό cc k A->jZ P w K mg base A outer s H->BindsTo s fd args (ps.zip us)->Vals vs us->sp vs H Q E->
  codeAny (Ϧ P w) A (.call (.ref f) args) (CR CX outer P w H s Q E) s
theorem cC.mono{P:ϯ}{w:ϭ}{K:Ϩ}{mg:Str->Option ε}{base:ϫ}{CX:dm}{j k:Nat}{f:δ}{fd:air}{ps:List Str}{sp:Sp}(F:cC P w K mg base CX cc j f fd ps sp)(h:j<=k):cC P w K mg base CX cc k f fd ps sp:=⟨F.len,λA outer s H args us vs Q E hr=>F.run A outer s H args us vs Q E (hr.mono h)⟩
theorem jZ.make{P:ϯ}{w:ϭ}{K:Ϩ}{mg:Str->Option ε}{base:ϫ}{A:ϰ}{outer:List Env}{s:μ}{H:Hp}(e:jZ P w K mg base A outer s H)(C:δ)(us:List ε)(kw:List (Str×ε)):jZ P w K mg base (A.under (.builtin "type.__call__" ⟨.ref C::us,kw⟩)) outer s H:=⟨by first|exact e.frames|(simpa [Around.under,Code.envs,Code.isFrame,pushEnvs]using e.frames),e.mod,e.bs,e.bsz,e.funs,e.frf,e.hok,e.bare⟩
section
variable{X:Cx}{ϵ:List (δ×Obj)}{σ:St}{H:Hp}{s s':μ}
theorem Inv.env0(I:Inv X ϵ σ H s):jZ X.prog X.w X.K X.mg X.base X.A X.stack s H:=
 ⟨I.ok.frames,I.ok.mod,I.bs,afK I.ok.bsz I.sz,I.stack,I.stkFree,I.hok,I.bare⟩
theorem Inv.after{Q:VK}{u:ε}(I:Inv X ϵ σ H s)(h:CE X.stack X.prog X.w H s Q u s'):EP X ϵ σ Q u s':=by
 obtain⟨v,H',os,bare,un,hok,r,q⟩:=h;obtain⟨hh,g,d,t,os'⟩:=s';obtain rfl:os'=s.os:=os;exact⟨v,H',I.call (h':=hh) (g':=g) (d':=d) (t':=t) (ch:=[]) un hok bare (λb z=>absurd z (by simp)),r,q⟩
end
def Binds(K:Ϩ)(fd:air)(ps:List Str)(ds:List ε):Prop:=
 ∀(s:μ)(us:List ε),K.In s.heap->(us++ds).length=ps.length->BindsTo s fd ⟨us,[]⟩ (ps.zip (us++ds))
theorem Binds.all{K:Ϩ}{fd:air}{ps:List Str}(h:∀us:List ε,us.length=ps.length->bindArgs fd ⟨us,[]⟩=pure (ps.zip us)):Binds K fd ps []:=λs us _ hl=>by
 rw[List.append_nil]at hl⊢;exact .of_eq (h us hl)
section
variable{X:Cx}{CX:dm}{k:Nat}{f C:δ}{fd:air}{ps:List Str}{sp:Sp}{dvs:List V}{ds:List ε}{E:XK}{x m:Str}{p pos apos:Pos}{e o:π}{es:List π}{ta:TE}{t:TA}
structure Mk(K:Ϩ)(C f:δ):Prop where
 makes:anb K C=true
 init:agO K (.ref C) "__init__"=some (some (.ref f))
 fn:amP K (.ref f)=true
 kp:alF K (.ref C)=true
end
section
variable{X:Cx}{CX:dm}{k:Nat}{f C:δ}{fd:air}{ps ks:List Str}{sp:Sp}{E:XK}{x m:Str}{p pos apos kpos:Pos}{e o:π}{es:List π}{kws:List Keyword}{te ta:TE}{t tk:TA}{nm:Option Str}
variable{g:List ε->List ε->List ε}{gV:List V->List V->List V}
end
structure Α(N P:List Str)(sc:ahI):Prop where
 kind:sc.kind=.function
 co:sc.isCoroutine=false
 gen:sc.isGenerator=false
 nd:N.Nodup
 pre:N.take P.length=P
 par:∀x∈P,sc.names.lookup x=some .local\/sc.names.lookup x=some .cell
 nofree:∀y∈sc.names,y.2≠.free
theorem Ig{kindOf:Str->Option alT}{x:Str}:∀{binds:List (Str×ε)}{m:Str->Option ε},(∀v,(x,v)∉binds)->bindL kindOf binds m x=m x
 |[],_,_=>rfl
 |(n,v)::r,m,h=>by
  unfold bindL;rw[Ig λw hw=>h w (abK _ hw)];split
  .have :x≠n:=by rintro rfl;exact h v aeM
   simp[this]
  .rfl
theorem Ij{kindOf:Str->Option alT}{x:Str}:∀{binds:List (Str×ε)}{m:Str->Option ε},(∀v,(x,v)∉binds)->bindC kindOf binds m x=m x
 |[],_,_=>rfl
 |(n,v)::r,m,h=>by
  unfold bindC;rw[Ij λw hw=>h w (abK _ hw)];split
  .rfl
  .have :x≠n:=by rintro rfl;exact h v aeM
   simp[this]
theorem Ie{kindOf:Str->Option alT}{x:Str}{v:ε}:∀{P:List Str}{vs:List ε}{i:Nat}{m:Str->Option ε},P.Nodup->P[i]?=some x->vs[i]?=some v->kindOf x=some .local->
  bindL kindOf (P.zip vs) m x=some v
 |[],_,_,_,_,h,_,_=>by simp at h
 |_::_,[],_,_,_,_,h,_=>by simp at h
 |p::P,w::vs,0,m,nd,h1,h2,hk=>by
  simp at h1 h2;subst h1;subst h2;show bindL kindOf ((p,w)::P.zip vs) m p=_;unfold bindL;rw[Ig λv hv=>(aj2.mp nd).1 (amB hv).1,if_pos hk];simp
 |p::P,w::vs,i+1,m,nd,h1,h2,hk=>by
  show bindL kindOf ((p,w)::P.zip vs) m x=_;unfold bindL;exact Ie (i:=i) (aj2.mp nd).2 (by simpa using h1) (by simpa using h2) hk
theorem QZ{kindOf:Str->Option alT}{x:Str}{v:ε}:∀{P:List Str}{vs:List ε}{i:Nat}{m:Str->Option ε},P.Nodup->P[i]?=some x->vs[i]?=some v->kindOf x≠some .local->
  bindC kindOf (P.zip vs) m x=some v
 |[],_,_,_,_,h,_,_=>by simp at h
 |_::_,[],_,_,_,_,h,_=>by simp at h
 |p::P,w::vs,0,m,nd,h1,h2,hk=>by
  simp at h1 h2;subst h1;subst h2;show bindC kindOf ((p,w)::P.zip vs) m p=_;unfold bindC;rw[Ij λv hv=>(aj2.mp nd).1 (amB hv).1,if_neg hk];simp
 |p::P,w::vs,i+1,m,nd,h1,h2,hk=>by
  show bindC kindOf ((p,w)::P.zip vs) m x=_;unfold bindC;exact QZ (i:=i) (aj2.mp nd).2 (by simpa using h1) (by simpa using h2) hk
def start(N:List Str)(vs:List V):St:=vs.map some++al1 (N.length-vs.length) none
def ji(cc:Bool)(CX:dm)(P:ϯ)(w:ϭ)(K:Ϩ)(mg:Str->Option ε)(base:ϫ)(N:List Str)(qual:Str)(scope:ahI)(f:δ)(cd:ε)(A:ϰ)(outer:List Env)(s:μ)(H:Hp)(E:XK):Cx where
 prog:=P
 w:=w
 K:=K
 mg:=mg
 base:=base
 A:=A.deeper (envOfC qual scope s.heap.objs.size f cd)
 N:=N
 s₀:=s
 H₀:=H
 env:=envOfC qual scope s.heap.objs.size f cd
 outer:=outer
 stack:=envOfC qual scope s.heap.objs.size f cd::outer
 ex:=[]
 calm:=cc
 fn:=λ_=>true
 pn:=[]
 xe:=λe s'=>ν (Ϧ P w) (A.deeper (envOfC qual scope s.heap.objs.size f cd)) (leaving (envOfC qual scope s.heap.objs.size f cd) e) (λ_ s''=>CX outer H s E e s'') (λe' s''=>CX outer H s E e' s'') s'
theorem Mg{sc:ahI}{n:Nat}{x:Str}(h:sc.names.lookup x=some .cell):∃c,(cellsFrom n sc.names []).lookup x=some c:=by
 have q:=W.cellsFrom_some sc.names n [] (.inl h);exact alP.mp q
theorem acA{CX:dm}{P:ϯ}{w:ϭ}{K:Ϩ}{mg:Str->Option ε}{base:ϫ}{N ps:List Str}{qual:Str}{scope:ahI}{f:δ}{cd:ε}{A:ϰ}{outer:List Env}{s s1:μ}{H:Hp}{E:XK}{us:List ε}{vs:List V}(S:Α N ps scope)(hd:cc=true->A.handled=none)(e0:jZ P w K mg base A outer s H)(hl:vs.length=ps.length)(r:Vals vs us)(x:InCallC s s.heap.objs.size (bindL (envOfC qual scope s.heap.objs.size f cd).kindOf (ps.zip us) λ_=>none) (cellsFrom (s.heap.objs.size+1) scope.names []) (bindC (envOfC qual scope s.heap.objs.size f cd).kindOf (ps.zip us) λ_=>none) s1):Inv (ji cc CX P w K mg base N qual scope f cd A outer s H E) [] (start N vs) H s1:=by
 have hpl:ps.length<=N.length:=by have:=congrArg amo S.pre;rw[agW]at this;omega
 obtain⟨h1,tk,rfl,hk⟩:=x.done;have noA:∀b:δ,b∉(ji cc CX P w K mg base N qual scope f cd A outer s H E).ex:=λb z=>absurd (show b∈([]:List δ)from z) (by simp)
 refine⟨⟨e0.mod,S.kind,rfl,rfl,Ϯ _,λy z c h1 h2=>?_,λy hy=>?_,λy c _ h=>?_,hd,Around.frames_deeper e0.frames,.inr ⟨rfl,rfl⟩,λb z=>absurd z (noA b),e0.bs,e0.bsz,λb _ _=>noA b,λb z=>absurd z (noA b),e0.funs,e0.frf⟩,
  rfl,e0.bare,Un.kept hk,⟨_,x.toInCall.ns,λi y v h1 h2 h3=>?_⟩,λy c h=>⟨_,x.cell y c h⟩,e0.hok.fresh (Ϯ _),λy c h=>?_,λp hp=>absurd (show p∈([]:List (δ×Obj))from hp) (by simp),e0.hok.kept hk,?_⟩
 .exact name_of_addr x.apart (PySem.mem_of_lookup h1) (PySem.mem_of_lookup h2)
 .have hy:scope.names.lookup y=some .cell\/scope.names.lookup y=some .free:=hy;obtain hy|hy:=hy
  .exact Mg hy
  .exact absurd rfl (S.nofree _ (PySem.mem_of_lookup hy))
 .exact al3 (x.above y c (PySem.mem_of_lookup h))
 .have hi:i<vs.length:=by
   unfold start at h2;by_cases hi:i<vs.length
   .exact hi
   .rw[List.getElem?_append_right (by simpa using hi)]at h2;rw[List.getElem?_replicate]at h2;split at h2<;>cases h2
  have ha:vs[i]?=some v:=by
   unfold start at h2;rw[aiI (by simpa using hi),aca]at h2;cases e:vs[i]? with
   |none=>rw[e]at h2;cases h2
   |some a=>rw[e]at h2;cases h2;rfl
  obtain⟨u,hu,rv⟩:=r.get ha;have hp:ps[i]?=some y:=by
   rw[<-S.pre,List.getElem?_take_of_lt (by omega)];exact h1
  have ndP:ps.Nodup:=by rw[<-S.pre];exact S.nd.sublist (akf _ _)
  refine⟨u,rv,?_⟩;rcases S.par y (aaZ hp)with k|k
  .exact .inl ⟨k,Ie ndP hp hu k⟩
  .obtain⟨c,e⟩:=Mg (n:=s.heap.objs.size+1) k;refine .inr ⟨.inl k,c,e,?_⟩;have q:=x.cell y c e;rw[QZ ndP hp hu (by show scope.names.lookup y≠_;rw[k];decide)]at q;exact q
 .exact e0.hok.fresh (al3 (x.above y c (PySem.mem_of_lookup h)))
 .unfold start;show _=N.length;rw[abo,ϳ,List.length_replicate];omega
theorem Ih{CX:dm}{P:ϯ}{w:ϭ}{K:Ϩ}{mg:Str->Option ε}{base:ϫ}{k:Nat}{f:δ}{name qual:Str}{params:Arguments}{body:List ϧ}{scope:ahI}{dV kV doc pm Ϲ ct oc:ε}{an od:Option δ}{osl:Array (Option ε)}{N ps:List Str}{sp:Sp}(lk:K.lookup f=some ⟨oc,od,.func (amI name qual params body scope dV kV doc pm an Ϲ ct),osl⟩)(hcd:amq K Ϲ qual=true)(S:Α N ps scope)(len:∀vs H Q E,sp vs H Q E->vs.length=ps.length)(hbody:∀(A:ϰ)(outer:List Env)(s:μ)(H:Hp)(vs:List V)(Q:VK)(E:XK),ό cc k (A.deeper (envOfC qual scope s.heap.objs.size f Ϲ))->sp vs H Q E->
   ∃t,fX (ji cc CX P w K mg base N qual scope f Ϲ A outer s H E) body t/\t {nx:=λ_ H'=>Q .non H',rt:=Q} (start N vs) H):cC P w K mg base CX cc (k+1) f (amI name qual params body scope dV kV doc pm an Ϲ ct) ps sp:=by
 refine⟨len,λA outer s H args us vs Q E hr e0 hb r hsp=>?_⟩;have hl:=len _ _ _ _ hsp;have KX:K.In s.heap:=e0.mod.kin.keeps λb o e=>(e0.bs b o e).1
 have lim:s.heap.NoLimit:=e0.mod.nolimit.keeps λb o e=>(e0.bs b o e).1
 have hkind:∀y∈ps.zip us,scope.names.lookup y.1=some .local\/(scope.names.lookup y.1=some .cell/\((cellsFrom (s.heap.objs.size+1) scope.names []).lookup y.1).isSome=true):=λ⟨n,v⟩ hy=>by
  obtain q|q:=S.par n (amB hy).1
  .exact .inl q
  .exact .inr ⟨q,W.cellsFrom_some _ _ _ (.inl q)⟩
 refine codeAny_call_function hr.depth (KX _ _ lk) rfl S.co S.gen rfl (W.codeRec_of KX hcd) (hb _ _ _ _ ?_);refine wpAny_newFunctionEnv_cells S.kind hkind λenv he s1 x=>?_
 subst he;refine⟨lim.keeps x.toInCall.keep,codeAny_func ?_⟩;obtain⟨t,ht,hq⟩:=hbody A outer s H vs Q E (hr.deeper _) hsp;have I:Inv (ji cc CX P w K mg base N qual scope f Ϲ A outer s H E) [] (start N vs) H s1:=acA S hr.hd e0 hl r x;refine adm (ht [] s1 (start N vs) H _ I hq) (λfl s' hs=>?_) λe s' hs=>hs
 have fin:∀{σ':St}{H':Hp}{v:V}{u:ε},Inv (ji cc CX P w K mg base N qual scope f Ϲ A outer s H E) [] σ' H' s'->RelV v u->Q v H'->CE outer P w H s Q u s':=
  λ{σ' H' v u} J rv q=>⟨v,H',J.os,J.bare,J.base,J.hok,rv,q⟩
 cases fl with
 |ret u=>
  obtain⟨v,σ',H',J,rv,q⟩:=hs;exact fin J rv q
 |next=>
  obtain⟨σ',H',J,q⟩:=hs;exact fin (v:=V.non) (u:=Value.none) J rfl q
 |brk=>
  obtain⟨_,_,_,q⟩:=hs;exact False.elim q
 |cont=>
  obtain⟨_,_,_,q⟩:=hs;exact False.elim q
section
variable{X:Cx}{x:Str}{p pos:Pos}{e:π}{es:List π}{t:TA}{id T:String}{r:List V->Hp->VK->Prop}
def Lp(r:List V->Hp->VK->Prop)(t:TA):TE:=λσ H Q=>t σ H λvs H1=>r vs H1 Q
theorem aie(hc:dI X (.builtin id) r)(hg:Gl X x)(hm:X.mg x=none)(hv:bootBuiltins x=some (.builtin id))(ha:PA X (e::es) t)(hn:x≠"__name__":=by decide)(hdb:(x==("__debug__":Str))=false:=by decide)(he:Ϭ (e::es) X.env=(false,eval e X.env)::Ϭ es X.env:=by rfl)(hpl:(backTo pos (Ϭ es X.env)).any (·.1)=false:=by rfl):PE X (.Call (.Name x p) (e::es) [] pos) (Lp r t):=by
 intro ϵ s σ H Q I h;refine ajk (gY I hg hm hv ?_ hn hdb);exact PyProof.Rows.callWith_builtin1 (ρ (ha pos ϵ s σ H _ I h) λus s1 ⟨vs,H1,I1,r1,q1⟩=>hc ϵ s1 σ H1 vs us Q I1 r1 q1) he hpl
theorem aeo(hc:dI X (.type T) r)(hg:Gl X x)(hm:X.mg x=none)(hv:bootBuiltins x=some (.type T))(ha:PA X (e::es) t)(hn:x≠"__name__":=by decide)(hdb:(x==("__debug__":Str))=false:=by decide)(he:Ϭ (e::es) X.env=(false,eval e X.env)::Ϭ es X.env:=by rfl)(hpl:(backTo pos (Ϭ es X.env)).any (·.1)=false:=by rfl):PE X (.Call (.Name x p) (e::es) [] pos) (Lp r t):=by
 intro ϵ s σ H Q I h;refine ajk (gY I hg hm hv ?_ hn hdb);exact PyProof.Rows.callWith_type1 (ρ (ha pos ϵ s σ H _ I h) λus s1 ⟨vs,H1,I1,r1,q1⟩=>hc ϵ s1 σ H1 vs us Q I1 r1 q1) he hpl
end
end L2
namespace HT
open PySem PyProof.Rows
section
open PySem.SeqAt
open PySem.AutoSeq1 (wpAny_loadPart')
open PySem.MeetsSeq PySem.MeetsSeq2 PySem.MeetsSeq3
end
section
variable{prog:ϯ}{w:ϭ}{A:ϰ}{E:ε->μ->Prop}{s:μ}
def Φ(n d:Nat):Option Int->Nat
 |none=>d
 |some v=>if v<0 then(v+(n:Int)).toNat else min v.toNat n
theorem PQ(n d:Nat):Φ n d none=d:=rfl
theorem vY(n d k:Nat):Φ n d (some (k:Int))=min k n:=by
 show(if(k:Int)<0 then((k:Int)+(n:Int)).toNat else min (k:Int).toNat n)=min k n;rw[if_neg (by omega),alW]
theorem Ke(n d:Nat)(hd:d<=n)(o:Option Int):Φ n d o<=n:=by
 cases o with
 |none=>exact hd
 |some v=>
  show(if v<0 then(v+(n:Int)).toNat else min v.toNat n)<=n;by_cases hv:v<0
  .rw[if_pos hv];omega
  .rw[if_neg hv];exact amt _ _
theorem abl(v:Int)(n d:Nat):(if v<0 then max (v+(n:Int)) 0 else min v (n:Int))=((Φ n d (some v):Nat):Int):=by
 show(if v<0 then max (v+(n:Int)) 0 else min v (n:Int))=(((if v<0 then(v+(n:Int)).toNat else min v.toNat n):Nat):Int);by_cases hv:v<0
 .simp only[if_pos hv];omega
 .simp only[if_neg hv];omega
end
end HT
namespace L2
open PySem PySem.Spec PyProof.Rows
abbrev TO:=St->Hp->(Option Int->Hp->Prop)->Prop
def PO(X:Cx)(e:Option π)(t:TO):Prop:=
 ∀(ϵ:List (δ×Obj))(s:μ)(σ:St)(H:Hp)(Q:Option Int->Hp->Prop),Inv X ϵ σ H s->t σ H Q->
  ν (Ϧ X.prog X.w) X.A (evalPart e X.env) (λu s'=>∃o H',Inv X ϵ σ H' s'/\IsPart u o/\Q o H') X.xe s
def Vz:TO:=λ_ H Q=>Q none H
def Rn(t:TE):TO:=λσ H Q=>t σ H λx H1=>∃i,x=.int i/\Q (some i) H1
section
variable{X:Cx}{e:π}{te:TE}{lo hi:Option π}{tl th:TO}{pos p2:Pos}
theorem acY:PO X none Vz:=by
 intro ϵ s σ H Q I h;rw[evalPart_none];exact ϱ ⟨none,H,I,.none,h⟩
theorem R7(h:PE X e te):PO X (some e) (Rn te):=by
 intro ϵ s σ H Q I hw;rw[evalPart_some];refine ρ (h ϵ s σ H _ I hw) λu s1 ⟨x,H1,I1,r1,q1⟩=>?_
 obtain⟨i,rfl,q⟩:=q1;obtain⟨t,rfl⟩:=r1;exact⟨some i,H1,I1,.int i t,q⟩
def qp(X:Cx)(r:V->Option Int->Option Int->Hp->VK->Prop):Prop:=
 ∀(ϵ:List (δ×Obj))(s:μ)(σ:St)(H:Hp)(x:V)(v vl vu:ε)(lo hi:Option Int)(sl:δ)(Q:VK),Inv X ϵ σ H s->RelV x v->s.heap.IsSliceOf sl vl vu .none->IsPart vl lo->IsPart vu hi->r x lo hi H Q->
  ∃T id,typeLookup (.type T) "__getitem__"=pure (some (.builtin id))/\s.TypeIs v T/\ν (Ϧ X.prog X.w) X.A (getItem v (.ref sl)) (EP X ϵ σ Q) X.xe s
def tSl(r:V->Option Int->Option Int->Hp->VK->Prop)(te:TE)(tl th:TO):TE:=λσ H Q=>te σ H λx H1=>tl σ H1 λl H2=>th σ H2 λu H3=>r x l u H3 Q
theorem ZQ{r:V->Option Int->Option Int->Hp->VK->Prop}(hr:qp X r)(he:PE X e te)(hl:PO X lo tl)(hu:PO X hi th):PE X (.Subscript e (.Slice lo hi none p2) pos) (tSl r te tl th):=by
 intro ϵ s σ H Q I h;refine Subscript_ (ρ (he ϵ s σ H _ I h) λv s1 ⟨x,H1,I1,r1,q1⟩=>?_);refine wpAny_Slice (ρ (hl ϵ s1 σ H1 _ I1 q1) λvl s2 ⟨l,H2,I2,pl,q2⟩=>ρ (hu ϵ s2 σ H2 _ I2 q2) λvu s3 ⟨u,H3,I3,pu,q3⟩=>?_);rw[evalPart_none];refine ϱ ?_;have I4:Inv X ϵ σ H3 {s3 with heap:=s3.heap.push {cls:=.type "slice",data:=.fields #[vl,vu,.none]}}:=I3.kept (t':=s3.toks) λb ob q=>Heap.get?_push_of_some _ q
 obtain⟨T,id,hT,ht,hg⟩:=hr ϵ {s3 with heap:=s3.heap.push {cls:=.type "slice",data:=.fields #[vl,vu,.none]}} σ H3 x v vl vu l u s3.heap.objs.size Q I4 r1 (Heap.IsSliceOf.new ..) pl pu q3;show ν (Ϧ X.prog X.w) X.A (subscriptTail e (.Slice lo hi none p2) v (.ref s3.heap.objs.size)) (EP X ϵ σ Q) X.xe {s3 with heap:=s3.heap.push {cls:=.type "slice",data:=.fields #[vl,vu,.none]}};exact tail_any (ops:=[.ref s3.heap.objs.size,v]) ht hT hg (by with_unfolding_all rfl)
def gW(xs:List V)(lo hi:Option Int):List V:=(xs.drop (HT.Φ xs.length 0 lo)).take (HT.Φ xs.length xs.length hi-HT.Φ xs.length 0 lo)
theorem aha(xs:List V)(lo hi:Option Int):(gW xs lo hi).length<=xs.length:=by
 unfold gW;rw[agW,agL];omega
end
def lz(n:Nat)(i:Int):Option Nat:=if 0<=i then(if i<n then some i.toNat else none)else if -(n:Int)<=i then some (i+n).toNat else none
def ϔ{α:Type}(xs:List α)(i:Int):Option α:=(lz xs.length i).bind λj=>xs[j]?
theorem aeh{n:Nat}{i:Int}{j:Nat}(h:lz n i=some j):seqIndex? i n=some j/\j<n/\ -(n:Int)<=i/\i<n:=by
 unfold lz at h;by_cases h0:0<=i
 .rw[if_pos h0]at h;by_cases h1:i<n
  .rw[if_pos h1]at h;have e:i.toNat=j:=Option.some.inj h;exact⟨by rw[seqIndex_of h0 h1,e],by omega,by omega,h1⟩
  .rw[if_neg h1]at h;cases h
 .rw[if_neg h0]at h;by_cases h1: -(n:Int)<=i
  .rw[if_pos h1]at h;have e:(i+n).toNat=j:=Option.some.inj h;exact⟨by rw[seqIndex_neg (by omega) h1,e],by omega,h1,by omega⟩
  .rw[if_neg h1]at h;cases h
theorem wD{α:Type}{xs:List α}{i:Int}{v:α}(h:ϔ xs i=some v):∃j,seqIndex? i xs.length=some j/\xs[j]?=some v/\j<xs.length/\ -(xs.length:Int)<=i/\i<xs.length:=by
 unfold ϔ at h;cases e:lz xs.length i with
 |none=>rw[e]at h;cases h
 |some j=>
  rw[e]at h;obtain⟨h1,h2,h3,h4⟩:=aeh e;exact⟨j,h1,h,h2,h3,h4⟩
theorem aW{α:Type}{xs:List α}{j:Nat}{v:α}(h:xs[j]?=some v):ϔ xs (j:Int)=some v:=by
 have hj:j<xs.length:=(aal.mp h).1;have e:lz xs.length (j:Int)=some j:=by
  unfold lz;rw[if_pos (by omega),if_pos (by omega)];simp
 unfold ϔ;rw[e];exact h
def En(b:π):=∀o i,subscripted b false o i=operate [o,i] (getItem o i)
def jL(X:Cx)(r:R2):Prop:=
 ∀(value slice:π)(ϵ:List (δ×Obj))(s:μ)(σ:St)(H:Hp)(x y:V)(v u:ε)(Q:VK),Inv X ϵ σ H s->RelV x v->RelV y u->r x y H Q->
  subscripted slice false v u=operate [v,u] (getItem v u)->ν (Ϧ X.prog X.w) X.A (subscriptTail value slice v u) (EP X ϵ σ Q) X.xe s
def uH(X:Cx)(id:String)(r:V->List V->Hp->VK->Prop):Prop:=
 ∀(ϵ:List (δ×Obj))(s:μ)(σ:St)(H:Hp)(x:V)(xs:List V)(v:ε)(us:List ε)(Q:VK),Inv X ϵ σ H s->RelV x v->Vals xs us->r x xs H Q->
  ν (Ϧ X.prog X.w) X.A (call (.builtin id) (v::us)) (EP X ϵ σ Q) X.xe s
section
variable{X:Cx}{a b:π}{ta tb:TE}{pos:Pos}
theorem aeR{r:R2}(hr:jL X r)(ha:PE X a ta)(hb:PE X b tb)(hs:En b):PE X (.Subscript a b pos) (tU r ta tb):=by
 intro ϵ s σ H Q I h;exact Subscript_ (wH ha hb I h λv u s2 x y H2 I2 rx ry q=>hr a b ϵ s2 σ H2 x y v u Q I2 rx ry q (hs _ _))
def GD(K:Ϩ):R2:=λx y H Q=>∃p xs i v,x=.ref p/\y=.int i/\η K H p xs/\ϔ xs i=some v/\Q v H
def Ey(K:Ϩ):R2:=λx y H Q=>∃p xs i v,x=.ref p/\y=.int i/\ Β K H p xs/\ϔ xs i=some v/\Q v H
def Mx:R2:=λx y H Q=>∃z i c,x=.str z/\y=.int i/\z.length<=Ϫ/\ϔ z.cps.toList i=some c/\Q (.str ⟨#[c]⟩) H
theorem Zu:jL X (GD X.K):=by
 intro value slice ϵ s σ H x y v u Q I rx ry h hs;obtain⟨p,xs,i,z,rfl,rfl,hq,he,q⟩:=h;cases rx;obtain⟨t,rfl⟩:=ry;obtain⟨ϸ,r,pl,hz⟩:=I.list hq;obtain⟨j,h1,h2,h3,h4,h5⟩:=wD he;obtain⟨w,ew,rw'⟩:=r.get h2;have hl:=r.length;have hn:=nW;have fin:EP X ϵ σ Q w s:=⟨z,H,I,rw',q⟩;by_cases h0:0<=i
 .have hj:i.toNat=j:=by
   rw[seqIndex_of h0 h5]at h1;exact Option.some.inj h1
  exact item_listR pl.isList h0 (by omega) (by rw[hj];simpa using ew) fin hs
 .have hj:(i+(ϸ.toArray.size:Int)).toNat=j:=by
   rw[seqIndex_neg (by omega) h4]at h1;rw[aaB, <-hl];exact Option.some.inj h1
  exact subscriptTail_builtinR (x:=w) pl.isList.typeIs slot_list_getitem.lookup
   (wpAny_getItem_list_neg (Q:=λr s'=>r=w/\EP X ϵ σ Q r s') pl.isList (by omega) (by rw[aaB]<;>omega) (by omega) (by rw[hj];simpa using ew) ⟨rfl,fin⟩) hs
theorem X3:jL X (Ey X.K):=by
 intro value slice ϵ s σ H x y v u Q I rx ry h hs;obtain⟨p,xs,i,z,rfl,rfl,hq,he,q⟩:=h;cases rx;obtain⟨t,rfl⟩:=ry;obtain⟨ϸ,r,pl,hz⟩:=I.tuple hq;obtain⟨j,h1,h2,h3,h4,h5⟩:=wD he;obtain⟨w,ew,rw'⟩:=r.get h2;have hl:=r.length;have hn:=nW;have fin:EP X ϵ σ Q w s:=⟨z,H,I,rw',q⟩;exact subscriptTail_builtinR (x:=w) pl.typeIs slot_tuple_getitem.lookup
  (getItem_tuple (j:=j) (Q:=λr s'=>r=w/\EP X ϵ σ Q r s') pl (by omega) (by omega) (by rw[aaB, <-hl];exact h1) (by simpa using ew) ⟨rfl,fin⟩) hs
theorem ahL:jL X Mx:=by
 intro value slice ϵ s σ H x y v u Q I rx ry h hs;obtain⟨z,i,c,rfl,rfl,hz,he,q⟩:=h;obtain⟨t,rfl⟩:=rx;obtain⟨t',rfl⟩:=ry;obtain⟨j,h1,h2,h3,h4,h5⟩:=wD he;have hl:z.cps.toList.length=z.length:=by simp[Str.length]
 rw[hl]at h1 h4 h5;have hn:=nW;exact tail_any (typeIs_str s z t) slot_str_getitem.lookup (getItem_str (c:=c) (by
  have e1:decide (i< -(2^63:Int))=false:=decide_eq_false (by omega);have e2:decide (i≥2^63)=false:=decide_eq_false (by omega);rw[e1,e2,amR]) (by rw[h1];simpa using h2) ⟨.str ⟨#[c]⟩,H,I.tok _,⟨_,rfl⟩,q⟩) hs
theorem acw(lo hi:Option Int)(n:Nat):(sliceBounds lo hi none n).1=((HT.Φ n 0 lo:Nat):Int)/\(sliceBounds lo hi none n).2.1=((HT.Φ n n hi:Nat):Int)/\(sliceBounds lo hi none n).2.2=1:=by
 refine⟨?_,?_,rfl⟩
 .cases lo with
  |none=>simp[sliceBounds,HT.Φ]
  |some i=>
   simp only[sliceBounds,HT.Φ,Option.getD_none,show(1:Int)>0 by decide,if_true];by_cases h:i<0
   .simp only[h,if_true]<;>omega
   .simp only[h,if_false]<;>omega
 .cases hi with
  |none=>simp[sliceBounds,HT.Φ]
  |some i=>
   simp only[sliceBounds,HT.Φ,Option.getD_none,show(1:Int)>0 by decide,if_true];by_cases h:i<0
   .simp only[h,if_true]<;>omega
   .simp only[h,if_false]<;>omega
theorem U0(ϸ:List ε)(lo hi:Option Int):slicePick ϸ.toArray lo hi none=((ϸ.drop (HT.Φ ϸ.length 0 lo)).take (HT.Φ ϸ.length ϸ.length hi-HT.Φ ϸ.length 0 lo)).toArray:=by
 obtain⟨h1,h2,h3⟩:=acw lo hi ϸ.toArray.size;unfold slicePick;rw[h1,h2,h3];simp only[sliceRange_one,pick_run,aaB]<;>rfl
def Zx(K:Ϩ):V->Option Int->Option Int->Hp->VK->Prop:=λx lo hi H Q=>∃a xs,x=.ref a/\η K H a xs/\∀p,H p=none->Q (.ref p) (upd H p (.lst (gW xs lo hi)))
theorem Vv:qp X (Zx X.K):=by
 intro ϵ s σ H x v vl vu lo hi sl Q I rx hs pl pu h;obtain⟨a,xs,rfl,hx,q⟩:=h;cases rx;obtain⟨ϸ,r,ht,hz⟩:=I.list hx;have hlen:=r.length;refine⟨"list",_,slot_list_getitem.lookup,ht.isList.typeIs,?_⟩;refine wpAny_getItem_list_slice ht.isList hs pl pu .none (by simp) ?_ (by rw[aaB]<;>omega);rw[U0, <-hlen];refine⟨.ref s.heap.objs.size,_,I.laid (t':=s.toks) (o:=.lst (gW xs lo hi)) (λb ob q=>Heap.get?_push_of_some _ q) (Ϯ _) ?_,rfl,q _ (I.hok.fresh (Ϯ _))⟩;exact⟨afK (aha xs lo hi) hz,_,0,(r.drop (HT.Φ xs.length 0 lo)).take (HT.Φ xs.length xs.length hi-HT.Φ xs.length 0 lo),abq _ rfl⟩
def dX:V->Bool
 |.non=>true
 |.bl _=>true
 |.int _=>true
 |.str _=>true
 |_=>false
def dG:V->V->Bool
 |.non,.non=>true
 |.bl a,.bl b=>a==b
 |.bl a,.int b=>(if a then 1 else 0)==b
 |.int a,.bl b=>a==(if b then 1 else 0)
 |.int a,.int b=>a==b
 |.str a,.str b=>a==b
 |_,_=>false
theorem abV{A:ϰ}{s:μ}{y x:V}{u v:ε}(ry:RelV y u)(rx:RelV x v)(fy:dX y=true)(fx:dX x=true):SeqAt.EqAt A s u v (dG y x):=by
 cases y with
 |non=>
  cases ry;cases x with
  |non=>cases rx;exact SeqAt.EqAt.same _
  |bl b=>cases rx;exact SeqAt.EqAt.none_bool b
  |int b=>obtain⟨t,rfl⟩:=rx;exact SeqAt.EqAt.none_int b t
  |str b=>obtain⟨t,rfl⟩:=rx;exact SeqAt.EqAt.none_str b t
  |_=>exact absurd (show false=true from fx) aah
 |bl a=>
  cases ry;cases x with
  |non=>cases rx;exact SeqAt.EqAt.bool_none a
  |bl b=>cases rx;exact SeqAt.EqAt.bool_bool a b
  |int b=>obtain⟨t,rfl⟩:=rx;exact SeqAt.EqAt.bool_int a b t
  |str b=>obtain⟨t,rfl⟩:=rx;exact SeqAt.EqAt.bool_str a b t
  |_=>exact absurd (show false=true from fx) aah
 |int a=>
  obtain⟨t',rfl⟩:=ry;cases x with
  |non=>cases rx;exact SeqAt.EqAt.int_none a t'
  |bl b=>cases rx;exact SeqAt.EqAt.int_bool a t' b
  |int b=>obtain⟨t,rfl⟩:=rx;exact SeqAt.EqAt.int_int a t' b t
  |str b=>obtain⟨t,rfl⟩:=rx;exact SeqAt.EqAt.int_str a t' b t
  |_=>exact absurd (show false=true from fx) aah
 |str a=>
  obtain⟨t',rfl⟩:=ry;cases x with
  |non=>cases rx;exact SeqAt.EqAt.str_none a t'
  |bl b=>cases rx;exact SeqAt.EqAt.str_bool a t' b
  |int b=>obtain⟨t,rfl⟩:=rx;exact SeqAt.EqAt.str_int a t' b t
  |str b=>obtain⟨t,rfl⟩:=rx;exact SeqAt.EqAt.str_str a t' b t
  |_=>exact absurd (show false=true from fx) aah
 |_=>exact absurd (show false=true from fy) aah
def cM(x:V)(u:ε):Bool:=match u with
 |.none=>dG .non x
 |.bool b=>dG (.bl b) x
 |.int i _=>dG (.int i) x
 |.str z _=>dG (.str z) x
 |_=>false
theorem Nx{x y:V}{u:ε}(r:RelV y u)(f:dX y=true):cM x u=dG y x:=by
 cases y with
 |non=>cases r;rfl
 |bl b=>cases r;rfl
 |int i=>obtain⟨t,rfl⟩:=r;rfl
 |str z=>obtain⟨t,rfl⟩:=r;rfl
 |_=>exact absurd (show false=true from f) aah
theorem oJ{x:V}:∀{xs:List V}{us:List ε},Vals xs us->xs.all dX=true->us.any (cM x)=xs.any λy=>dG y x
 |_,_,.nil,_=>rfl
 |y::xs,u::us,.cons r t,f=>by
  rw[List.all_cons,aa3]at f;rw[List.any_cons,List.any_cons,Nx r f.1,oJ t f.2]
theorem p6{A:ϰ}{s:μ}{x:V}{v:ε}(rx:RelV x v)(fx:dX x=true):∀{xs:List V}{us:List ε},Vals xs us->xs.all dX=true->∀u∈us,SeqAt.EqAt A s u v (cM x u)
 |_,_,.nil,_=>λu hu=>by cases hu
 |y::xs,u::us,.cons r t,f=>λu' hu=>by
  rw[List.all_cons,aa3]at f;obtain rfl|hu:=ϴ.mp hu
  .rw[Nx r f.1];exact abV r rx f.1 fx
  .exact p6 rx fx t f.2 u' hu
def fY(x:V)(xs:List V):Bool:=xs.any λy=>dG y x
def QH(K:Ϩ)(neg:Bool):R2:=λx y H Q=>∃p xs,y=.ref p/\(η K H p xs\/ Β K H p xs)/\dX x=true/\xs.all dX=true/\Q (.bl (if neg then !fY x xs else fY x xs)) H
theorem aas:ϙ X (adH .In) (QH X.K false):=by
 intro ϵ s σ H x y v u Q I rx ry h;obtain⟨p,xs,rfl,hq,fx,fs,q⟩:=h;cases ry;obtain hq|hq:=hq
 .obtain⟨ϸ,r,pl,hz⟩:=I.list hq;refine SeqAt.in_listAt (cM x) pl.isList (λw hw=>p6 rx fx r fs w (by simpa using hw)) ⟨.bl _,H,I,rfl,?_⟩;rw[show ϸ.toArray.any (cM x)=ϸ.any (cM x)by simp,oJ r fs];exact q
 .obtain⟨ϸ,r,pl,hz⟩:=I.tuple hq;refine SeqAt.in_tupleAt (cM x) pl (λw hw=>p6 rx fx r fs w (by simpa using hw)) ⟨.bl _,H,I,rfl,?_⟩;rw[show ϸ.toArray.any (cM x)=ϸ.any (cM x)by simp,oJ r fs];exact q
theorem agR:ϙ X (adH .NotIn) (QH X.K true):=by
 intro ϵ s σ H x y v u Q I rx ry h;obtain⟨p,xs,rfl,hq,fx,fs,q⟩:=h;cases ry;obtain hq|hq:=hq
 .obtain⟨ϸ,r,pl,hz⟩:=I.list hq;refine SeqAt.notIn_listAt (cM x) pl.isList (λw hw=>p6 rx fx r fs w (by simpa using hw)) ⟨.bl _,H,I,rfl,?_⟩;rw[show ϸ.toArray.any (cM x)=ϸ.any (cM x)by simp,oJ r fs];exact q
 .obtain⟨ϸ,r,pl,hz⟩:=I.tuple hq;refine SeqAt.notIn_tupleAt (cM x) pl (λw hw=>p6 rx fx r fs w (by simpa using hw)) ⟨.bl _,H,I,rfl,?_⟩;rw[show ϸ.toArray.any (cM x)=ϸ.any (cM x)by simp,oJ r fs];exact q
theorem aaM:dI X (.builtin "len") (λxs H Q=>∃p ys,xs=[.ref p]/\(η X.K H p ys\/ Β X.K H p ys)/\Q (.int ys.length) H):=by
 intro ϵ s σ H xs us Q I r h;obtain⟨p,ys,rfl,hq,q⟩:=h;obtain⟨u,rfl,rx⟩:=vals1 r;cases rx;have hn:=nW;obtain hq|hq:=hq
 .obtain⟨ϸ,r',pl,hz⟩:=I.list hq;have hlen:=r'.length;exact Calls.call_len_list pl.isList (by simp only[aaB]<;>omega) ⟨.int ys.length,H,I.tok _,⟨s.toks+1,by rw[aaB,hlen]⟩,q⟩
 .obtain⟨ϸ,r',pl,hz⟩:=I.tuple hq;have hlen:=r'.length;exact len_tuple pl (by simp only[aaB]<;>omega) ⟨.int ys.length,H,I.tok _,⟨s.toks+1,by rw[aaB,hlen]⟩,q⟩
theorem ahu:dI X (.builtin "len") (λxs H Q=>∃z,xs=[.str z]/\z.length<=Ϫ/\Q (.int z.length) H):=by
 intro ϵ s σ H xs us Q I r h;obtain⟨z,rfl,hz,q⟩:=h;obtain⟨u,rfl,t,rfl⟩:=vals1 r;have hn:=nW;exact len_str (by omega) ⟨.int z.length,H,I.tok _,⟨_,rfl⟩,q⟩
theorem agB:dI X (.type "list") (λxs H Q=>∃p ys,xs=[.ref p]/\(η X.K H p ys\/ Β X.K H p ys)/\∀l,H l=none->Q (.ref l) (upd H l (.lst ys))):=by
 intro ϵ s σ H xs us Q I r h;obtain⟨p,ys,rfl,hq,q⟩:=h;obtain⟨u,rfl,rx⟩:=vals1 r;cases rx
 have fin:∀(ϸ:List ε),Vals ys ϸ->ys.length<=Ϫ->∀(h':ϫ)(c':Nat),(∀b o',s.heap.get? b=some o'->h'.get? b=some o')->
   h'.get? s.heap.objs.size=some {cls:=.type "list",dict:=none,data:=.seq ϸ.toArray c',slots:= #[]}->EP X ϵ σ Q (.ref s.heap.objs.size) {s with heap:=h'}:=λϸ r' hz h' c' kp e=>
  ⟨.ref s.heap.objs.size,_,I.laid (t':=s.toks) kp (Ϯ _) (show Ϗ X.prog X.w _ h' _ (.lst ys)from⟨hz,ϸ,c',r',e⟩),rfl,q _ (I.hok.fresh (Ϯ _))⟩
 obtain hq|hq:=hq
 .obtain⟨ϸ,r',pl,hz⟩:=I.list hq;have hlen:=r'.length;obtain⟨o,ho,hc,n,hd⟩:=pl.isList;exact call_list_seq p (.inl rfl) ho hc hd (λh' c' kp e=>fin ϸ r' hz h' c' kp e) (by simp only[aaB]<;>omega)
 .obtain⟨ϸ,r',pl,hz⟩:=I.tuple hq;have hlen:=r'.length;obtain⟨o,ho,hc,n,hd⟩:=pl;exact call_list_seq p (.inr rfl) ho hc hd (λh' c' kp e=>fin ϸ r' hz h' c' kp e) (by simp only[aaB]<;>omega)
theorem aiy:dI X (.type "tuple") (λxs H Q=>∃p ys,xs=[.ref p]/\((η X.K H p ys/\∀l,H l=none->Q (.ref l) (upd H l (.tup ys)))\/(Β X.K H p ys/\Q (.ref p) H))):=by
 intro ϵ s σ H xs us Q I r h;obtain⟨p,ys,rfl,h⟩:=h;obtain⟨u,rfl,rx⟩:=vals1 r;cases rx;obtain⟨hq,q⟩|⟨hq,q⟩:=h
 .obtain⟨ϸ,r',pl,hz⟩:=I.list hq;have hlen:=r'.length;refine call_tuple_list pl.isList (λh' kp=>?_) (by simp only[aaB]<;>omega);have I1:Inv X ϵ σ H {s with heap:=h'}:=I.kept (t':=s.toks) kp;have I2:Inv X ϵ σ (upd H h'.objs.size (.tup ys)) {s with heap:=h'.push {cls:=.type "tuple",data:=.seq ϸ.toArray}}:=
   I1.laid (t':=s.toks) (λb o e=>Heap.get?_push_of_some _ e) (Ϯ _) (show Ϗ X.prog X.w _ _ _ (.tup ys)from⟨hz,ϸ,r',IsTup.new _ _⟩)
  exact⟨.ref h'.objs.size,_,I2,rfl,q _ (I1.hok.fresh (Ϯ _))⟩
 .obtain⟨ϸ,r',pl,hz⟩:=I.tuple hq;exact call_tuple_same pl ⟨.ref p,H,I,rfl,q⟩
def rE(K:Ϩ)(T:String)(x:V)(H:Hp):Prop:=match x with
 |.str _=>T="str"
 |.int _=>T="int"
 |.ref p=>(T="list"/\∃xs,η K H p xs)\/(T="tuple"/\∃o,K.lookup p=some o/\o.cls=.type "tuple"/\o.dict=none)\/
   (T="dict"/\((∃Ϸ,H p=some (.dK Ϸ))\/∃Ϸ,H p=some (.dT Ϸ)))\/(T="set"/\∃S n,H p=some (.set S n))
 |_=>False
theorem U9{ϵ:List (δ×Obj)}{σ:St}{H:Hp}{s:μ}{T:String}{x:V}{v:ε}(I:Inv X ϵ σ H s)(r:RelV x v)(ty:rE X.K T x H):s.TypeIs v T/\∀a,v=.ref a->∃ob,s.heap.get? a=some ob/\ob.dict=none:=by
 cases x with
 |str z=>
  obtain⟨t,rfl⟩:=r;cases(show T="str" from ty);exact⟨typeIs_str s z t,λ_ e=>nomatch e⟩
 |int i=>
  obtain⟨t,rfl⟩:=r;cases(show T="int" from ty);exact⟨typeIs_int s i t,λ_ e=>nomatch e⟩
 |ref p=>
  cases r;obtain⟨rfl,xs,hq⟩|⟨rfl,o,hk,hc,hd⟩|⟨rfl,hk⟩|⟨rfl,S,n,hk⟩:=ty
  .obtain⟨ϸ,_,pl,_⟩:=I.list hq;refine⟨pl.isList.typeIs,λa e=>?_⟩;cases e;obtain⟨o,n,e,c,hd,_⟩:=pl;exact⟨o,e,hd⟩
  .refine⟨⟨o,I.kIn p o hk,hc⟩,λa e=>?_⟩;cases e;exact⟨o,I.kIn _ o hk,hd⟩
  .have z:∃o,s.heap.get? p=some o/\o.ExactDict:=by
    obtain⟨Ϸ,hk⟩|⟨Ϸ,hk⟩:=hk
    .obtain⟨_,_,_,_,o,_,_,e,ex,_⟩:=I.hok p _ hk;exact⟨o,e,ex⟩
    .obtain⟨_,_,_,_,o,_,_,e,ex,_⟩:=I.hok p _ hk;exact⟨o,e,ex⟩
   obtain⟨o,e,ex⟩:=z;refine⟨⟨o,e,ex.1⟩,λa e2=>?_⟩;cases e2;exact⟨o,e,ex.2.1⟩
  .obtain⟨o,_,_,_,e,ex,_⟩:=I.hok p _ hk;refine⟨⟨o,e,ex.1⟩,λa e2=>?_⟩;cases e2;exact⟨o,e,ex.2.1⟩
 |_=>exact False.elim ty
def Ui(K:Ϩ)(T:String)(r:V->List V->Hp->VK->Prop)(to:TE)(t:TA):TE:=λσ H Q=>to σ H λx H1=>rE K T x H1/\t σ H1 λxs H2=>r x xs H2 Q
variable{o e:π}{es:List π}{to:TE}{t:TA}{name:Str}{apos cpos:Pos}{T id:String}{r:V->List V->Hp->VK->Prop}
theorem adA(pa:PlainAttrs T)(slot:Slot T name id)(hty:typeOf (.builtin id)=pure (.type "method_descriptor"))(hm:uH X id r)(ho:PE X o to)(ha:PA X (e::es) t)(hbase:attributeBase o name X.env (eval o X.env)=eval o X.env:=by rfl)(hfew:((backTo cpos (Ϭ (e::es) X.env)).all (λx=> !x.1)&&(backToKw cpos (keywordEach [] X.env)).all (λx=>x.1.isSome)
   &&decide ((e::es).length+([]:List Keyword).length+(if([]:List Keyword).isEmpty then 0 else 1)<30))=true:=by rfl)(hline:(apos.endLine==cpos.line)=true:=by rfl)(hs:Ϭ (e::es) X.env=(false,eval e X.env)::Ϭ es X.env:=by rfl)(hplain:(backTo cpos (Ϭ es X.env)).any (·.1)=false:=by rfl):PE X (.Call (.Attribute o name apos) (e::es) [] cpos) (Ui X.K T r to t):=by
 intro ϵ s σ H Q I h;refine wpAny_Call_method_late hbase hfew hline rfl (ρ (ho ϵ s σ H _ I h) λv s1 ⟨x,H1,I1,r1,ty,q1⟩=>?_);obtain⟨h1,h2⟩:=U9 I1 r1 ty;refine⟨T,id,pa,slot,hty,h1,h2,?_⟩;have hA:=ha cpos ϵ s1 σ H1 _ I1 q1;rw[hs]at hA⊢;refine Calls.callWith_builtin (by show(false||(backTo cpos (Ϭ es X.env)).any (·.1))=false;rw[hplain]<;>rfl) (Calls.evalArgs_plain ?_);exact ρ hA λus s2 ⟨vs,H2,I2,r2,q2⟩=>hm ϵ s2 σ H2 x vs v us Q I2 r1 r2 q2
end
def Mv(X:Cx)(id:String)(r:V->List V->Hp->VK->Prop):Prop:=
 ∀(ϵ:List (δ×Obj))(s:μ)(σ:St)(H:Hp)(x:V)(xs:List V)(v:ε)(us:List ε)(Q:VK),Inv X ϵ σ H s->RelV x v->Vals xs us->r x xs H Q->
  ν (Ϧ X.prog X.w) X.A (call (.builtin id) (v::us)) (EP X ϵ σ Q) X.xe s
theorem Vals.one:∀{x:V}{us:List ε},Vals [x] us->∃u,us=[u]/\RelV x u
 |_,_,.cons r .nil=>⟨_,rfl,r⟩
theorem Vals.two:∀{x y:V}{us:List ε},Vals [x,y] us->∃u v,us=[u,v]/\RelV x u/\RelV y v
 |_,_,_,.cons r (.cons q .nil)=>⟨_,_,rfl,r,q⟩
theorem Vals.zero:∀{us:List ε},Vals [] us->us=[]
 |_,.nil=>rfl
section
variable{X:Cx}{ϵ:List (δ×Obj)}{σ:St}{H:Hp}{s:μ}{l b:δ}{xs ys zs:List V}
theorem Inv.lset{ϸ its':List ε}{n:Nat}{f:Array ε->Array ε}{t':Nat}(I:Inv X ϵ σ H s)(hH:H l=some (.lst xs))(e:s.heap.get? l=some {cls:=.type "list",data:=.seq ϸ.toArray n})(hf:f ϸ.toArray=its'.toArray)(hv:Vals ys its')(hz:ys.length<=Ϫ):Inv X ϵ σ (upd H l (.lst ys)) {s with heap:=s.heap.update l (Obj.mapSeq f),toks:=t'}:=by
 have q:=PySem.IsL.update e f;rw[hf]at q;refine I.write (x:=l) (e:=l) (by rw[hH];exact trivial) (.inl rfl) (λb' u hb hu=>(aci s.heap (Obj.mapSeq f) (Ne.symm hb)).trans hu) ⟨_,q⟩ ?_;exact⟨hz,its',_,hv,q⟩
theorem Inv.lnew{ϸ:List ε}{t':Nat}(I:Inv X ϵ σ H s)(hv:Vals ys ϸ)(hz:ys.length<=Ϫ):Inv X ϵ σ (upd H s.heap.objs.size (.lst ys)) {s with heap:=s.heap.push {cls:=.type "list",data:=.seq ϸ.toArray},toks:=t'}:=
 I.laid (λ_ _ q=>Heap.get?_push_of_some _ q) (Ϯ _) ⟨hz,ϸ,0,hv,abq _ rfl⟩
theorem Inv.fresh(I:Inv X ϵ σ H s):H s.heap.objs.size=none:=I.hok.fresh (Ϯ _)
theorem Inv.lstM(I:Inv X ϵ σ H s)(hH:H l=some (.lst xs)):xs.length<=Ϫ/\∃(ϸ:List ε)(n:Nat),Vals xs ϸ/\xs.length=ϸ.length/\s.heap.get? l=some {cls:=.type "list",data:=.seq ϸ.toArray n}:=by
 obtain⟨z,ϸ,n,r,e⟩:=I.hok l _ hH;exact⟨z,ϸ,n,r,r.length,e⟩
end
section
variable{X:Cx}
def adS:V->List V->Hp->VK->Prop:=λx vs H Q=>∃l xs y,x=.ref l/\vs=[y]/\H l=some (.lst xs)/\xs.length<Ϫ/\Q .non (upd H l (.lst (xs++[y])))
theorem vf:Mv X "list.append" adS:=by
 intro ϵ s σ H x vs v us Q I rx rv h;obtain⟨l,xs,y,rfl,rfl,hH,hz,q⟩:=h;cases rx;obtain⟨u,rfl,ru⟩:=rv.one;obtain⟨z,ϸ,n,r,hl,e⟩:=I.lstM hH;refine alN F.slot_list_append ⟨_,e,rfl⟩ F.entry_list_append (F.args_list_append_2 _ _) (PySem.list_append l ϸ.toArray n u (by rw[aaB];omega)) ⟨e,?_⟩;refine⟨.non,_,I.lset (its':=ϸ++[u]) hH e (by simp) (r.append (.cons ru .nil)) ?_,rfl,q⟩;rw[abo,ae7];omega
def RG:R2:=λx y H Q=>∃l b xs zs,x=.ref l/\y=.ref b/\H l=some (.lst xs)/\H b=some (.lst zs)/\xs.length+zs.length<=Ϫ/\∀p,H p=none->Q (.ref p) (upd H p (.lst (xs++zs)))
theorem Wj:ϙ X (binaryOp .Add) RG:=by
 intro ϵ s σ H x y v u Q I rx ry h;obtain⟨l,b,xs,zs,rfl,rfl,hH,hB,hz,q⟩:=h;cases rx;cases ry;obtain⟨z,ϸ,n,r,hl,e⟩:=I.lstM hH;obtain⟨z2,its2,n2,r2,hl2,e2⟩:=I.lstM hB;refine PySem.P.add_list e e2 ?_ (by rw[aaB,aaB];omega);have ea:ϸ.toArray++its2.toArray=(ϸ++its2).toArray:=by simp
 rw[ea];exact⟨.ref _,_,I.lnew (t':=s.toks) (r.append r2) (by rw[abo];omega),rfl,q _ I.fresh⟩
end
section
variable{prog:ϯ}{w:ϭ}{A:ϰ}{E:ε->μ->Prop}{s:μ}
end
section
variable{X:Cx}
end
section
variable{κ:Type} [DecidableEq κ]
def ϟ(Ϸ:List (κ×V))(k:κ):Option V:=(Ϸ.find? λkv=>decide (kv.1=k)).map (·.2)
def putK(Ϸ:List (κ×V))(k:κ)(v:V):List (κ×V):=
 if(Ϸ.any λkv=>decide (kv.1=k))=true then Ϸ.map (λkv=>if kv.1=k then(kv.1,v)else kv)else Ϸ++[(k,v)]
def dN(Ϸ:List (κ×V))(k:κ):List (κ×V):=Ϸ.filter λkv=>decide (kv.1≠k)
theorem wQ{p:κ×V}{r:List (κ×V)}{k:κ}(e:p.1=k):ϟ (p::r) k=some p.2:=by simp[ϟ,List.find?_cons,e]
theorem Dl{p:κ×V}{r:List (κ×V)}{k:κ}(e:¬p.1=k):ϟ (p::r) k=ϟ r k:=by simp[ϟ,List.find?_cons,e]
theorem Hf(k:κ):∀Ϸ:List (κ×V),(Ϸ.any λkv=>decide (kv.1=k))=(ϟ Ϸ k).isSome
 |[]=>rfl
 |p::r=>by
  rw[List.any_cons];by_cases e:p.1=k
  .simp only[wQ e,decide_eq_true e,anz,Option.isSome_some]
  .rw[Dl e,decide_eq_false e,amr];exact Hf k r
theorem Fx(Ϸ:List (κ×V))(k:κ)(v:V):(putK Ϸ k v).length<=Ϸ.length+1:=by
 unfold putK;split
 .rw[ϳ];omega
 .rw[abo,List.length_cons,List.length_nil];omega
theorem bz.isSome_eq{o:Option V}{u:Option ε}(r:bz o u):o.isSome=u.isSome:=by
 cases o with
 |none=>cases u with
  |none=>rfl
  |some _=>exact(show False from r).elim
 |some _=>cases u with
  |none=>exact(show False from r).elim
  |some _=>rfl
theorem bz.getD{o:Option V}{u:Option ε}{d:V}{d':ε}(r:bz o u)(rd:RelV d d'):RelV (o.getD d) (u.getD d'):=by
 cases o with
 |none=>cases u with
  |none=>exact rd
  |some _=>exact(show False from r).elim
 |some _=>cases u with
  |none=>exact(show False from r).elim
  |some _=>exact r
theorem KV.val{Ϸ:List (κ×V)}{vs:List (κ×ε)}(r:KV Ϸ vs)(k:κ):bz (ϟ Ϸ k) (valueAt vs k):=by
 unfold KV at r;induction r with
 |nil=>exact True.intro
 | @cons p q ps qs h t ih=>
   obtain⟨h1,h2⟩:=h;by_cases e:p.1=k
   .have e':q.1=k:=h1.symm.trans e;have b:valueAt (q::qs) k=some q.2:=by simp[valueAt,List.find?_cons,e']
    rw[wQ e,b];exact h2
   .have e':¬q.1=k:=λz=>e (h1.trans z)
    have b:valueAt (q::qs) k=valueAt qs k:=by simp[valueAt,List.find?_cons,e']
    rw[Dl e,b];exact ih
theorem KV.any{Ϸ:List (κ×V)}{vs:List (κ×ε)}(r:KV Ϸ vs)(k:κ):(Ϸ.any λkv=>decide (kv.1=k))=vs.any λkv=>decide (kv.1=k):=by
 unfold KV at r;induction r with
 |nil=>rfl
 |cons h t ih=>rw[List.any_cons,List.any_cons,ih,h.1]
theorem KV.repl{Ϸ:List (κ×V)}{vs:List (κ×ε)}(r:KV Ϸ vs)(k:κ){y:V}{u:ε}(ry:RelV y u):KV (Ϸ.map λkv=>if kv.1=k then(kv.1,y)else kv) (vs.map λkv=>if kv.1=k then(kv.1,u)else kv):=by
 unfold KV at r⊢;induction r with
 |nil=>exact .nil
 | @cons p q ps qs h t ih=>
   rw[List.map_cons,List.map_cons];refine .cons ?_ ih;obtain⟨h1,h2⟩:=h;by_cases e:p.1=k
   .rw[if_pos e,if_pos (h1.symm.trans e)];exact⟨h1,ry⟩
   .rw[if_neg e,if_neg (λz=>e (h1.trans z))];exact⟨h1,h2⟩
theorem KV.put{Ϸ:List (κ×V)}{vs:List (κ×ε)}(r:KV Ϸ vs)(k:κ){y:V}{u:ε}(ry:RelV y u):KV (putK Ϸ k y) (stored vs k u):=by
 unfold putK stored;rw[r.any k];by_cases e:(vs.any λkv=>decide (kv.1=k))=true
 .rw[if_pos e,if_pos e];exact r.repl k ry
 .rw[if_neg e,if_neg e];exact Paired.snoc r ⟨rfl,ry⟩
theorem KV.drop{Ϸ:List (κ×V)}{vs:List (κ×ε)}(r:KV Ϸ vs)(k:κ):KV (dN Ϸ k) (without vs k):=by
 unfold KV at r⊢;unfold dN without;induction r with
 |nil=>exact .nil
 | @cons p q ps qs h t ih=>
   obtain⟨h1,h2⟩:=h;rw[List.filter_cons,List.filter_cons];by_cases e:p.1=k
   .have a:¬decide (p.1≠k)=true:=by simp[e]
    have b:¬decide (q.1≠k)=true:=by simp[h1.symm.trans e]
    rw[if_neg a,if_neg b];exact ih
   .have e':¬q.1=k:=λz=>e (h1.trans z)
    have a:decide (p.1≠k)=true:=by simp[e]
    have b:decide (q.1≠k)=true:=by simp[e']
    rw[if_pos a,if_pos b];exact .cons ⟨h1,h2⟩ ih
theorem KV.keys{Ϸ:List (κ×V)}{vs:List (κ×ε)}(r:KV Ϸ vs):Ϸ.map (·.1)=vs.map (·.1):=by
 unfold KV at r;induction r with
 |nil=>rfl
 |cons h t ih=>rw[List.map_cons,List.map_cons,ih,h.1]
theorem KV.length{Ϸ:List (κ×V)}{vs:List (κ×ε)}(r:KV Ϸ vs):Ϸ.length=vs.length:=Paired.length r
theorem abj(Ϸ:List (κ×V))(k:κ):(dN Ϸ k).length<=Ϸ.length:=ahM _ _
end
theorem j4{P:ϯ}{w:ϭ}{k:Key}{u:ε}(r:RelV (kV k) u):(bN P w).is k u=true:=by
 cases k with
 |inl i=>obtain⟨t,e⟩:=(show ∃t,u=Value.int i t from r);subst e;exact Xn P w i t
 |inr x=>obtain⟨t,e⟩:=(show ∃t,u=Value.str x t from r);subst e;exact Zw P w x t
theorem Gs{P:ϯ}{w:ϭ}:∀{ks:List Key}{us:List ε},Vals (ks.map kV) us->ItemsAre (bN P w) ks us
 |[],_,r=>by rw[List.map_nil]at r;cases r;exact .nil
 |k::ks,_,r=>by
  rw[List.map_cons]at r;cases r with
  |cons h t=>exact .cons (j4 h) (Gs t)
abbrev KT(H:Hp):List (List Key×V)->List (List Key×δ×ε)->Prop:=Paired λp q=>p.1=q.1/\H q.2.1=some (.tup (p.1.map kV))/\RelV p.2 q.2.2
theorem KT.val{H:Hp}{Ϸ:List (List Key×V)}{xs:List (List Key×δ×ε)}(r:KT H Ϸ xs)(k:List Key):bz (ϟ Ϸ k) ((atKey xs k).map (·.2)):=by
 induction r with
 |nil=>exact True.intro
 | @cons p q ps qs h t ih=>
   obtain⟨h1,_,h2⟩:=h;by_cases e:p.1=k
   .have e':q.1=k:=h1.symm.trans e;have b:atKey (q::qs) k=some q.2:=by simp[atKey,List.find?_cons,e']
    rw[wQ e,b];exact h2
   .have e':¬q.1=k:=λz=>e (h1.trans z)
    have b:atKey (q::qs) k=atKey qs k:=by simp[atKey,List.find?_cons,e']
    rw[Dl e,b];exact ih
theorem KT.repl{H:Hp}{Ϸ:List (List Key×V)}{xs:List (List Key×δ×ε)}(r:KT H Ϸ xs)(k:List Key){y:V}{u:ε}(ry:RelV y u):KT H (Ϸ.map λkv=>if kv.1=k then(kv.1,y)else kv) (xs.map (putAt k u)):=by
 induction r with
 |nil=>exact .nil
 | @cons p q ps qs h t ih=>
   rw[List.map_cons,List.map_cons];refine .cons ?_ ih;obtain⟨h1,h2,h3⟩:=h;unfold putAt;by_cases e:p.1=k
   .rw[if_pos e,if_pos (h1.symm.trans e)];exact⟨h1,h2,ry⟩
   .rw[if_neg e,if_neg (λz=>e (h1.trans z))];exact⟨h1,h2,h3⟩
theorem KT.put{H:Hp}{Ϸ:List (List Key×V)}{xs:List (List Key×δ×ε)}(r:KT H Ϸ xs)(k:List Key){b:δ}{y:V}{u:ε}(hb:H b=some (.tup (k.map kV)))(ry:RelV y u):KT H (putK Ϸ k y) (storedH xs k b u):=by
 have e:(Ϸ.any λkv=>decide (kv.1=k))=(atKey xs k).isSome:=by
  rw[Hf,(r.val k).isSome_eq,ami]
 unfold putK storedH;rw[e];by_cases q:(atKey xs k).isSome=true
 .rw[if_pos q,if_pos q];exact r.repl k ry
 .rw[if_neg q,if_neg q];exact Paired.snoc r ⟨rfl,hb,ry⟩
theorem KT.keeps{H H':Hp}{Ϸ:List (List Key×V)}{xs:List (List Key×δ×ε)}(r:KT H Ϸ xs)(ht:∀b ys,H b=some (.tup ys)->H' b=some (.tup ys)):KT H' Ϸ xs:=
 Paired.mapP r λ_ _ z=>⟨z.1,ht _ _ z.2.1,z.2.2⟩
section
variable{P:ϯ}{w:ϭ}{H:Hp}{h:ϫ}{a:δ}
theorem Qk{u:HO}(ok:Ϙ P w H h)(e:Rd H a u):Ϗ P w H h a u:=e.ok ok
theorem ju{Ϸ:List (Key×V)}(ok:Ϙ P w H h)(e:Rd H a (.dK Ϸ)):Ϸ.length<=Ϫ/\(a==sysModules)=false/\∃vs,KV Ϸ vs/\h.DictOf (bN P w) a vs:=
 show Ϗ P w H h a (.dK Ϸ)from Qk ok e
theorem wz{Ϸ:List (Key×V)}(ok:Ϙ P w H h)(e:H a=some (.dK Ϸ)):Ϸ.length<=Ϫ/\(a==sysModules)=false/\∃vs,KV Ϸ vs/\h.DictOf (bN P w) a vs:=ju ok (.inl e)
theorem nH{ks:List Key}(ok:Ϙ P w H h)(e:H a=some (.tup (ks.map kV))):(tupleKind (bN P w)).is h ks a:=by
 obtain⟨_,ϸ,r,o,h1,h2,n,h3⟩:=(show Ϗ P w H h a (.tup (ks.map kV))from ok a _ e);exact⟨o,ϸ.toArray,n,h1,h2,h3,by simpa using Gs r⟩
theorem lF{Ϸ:List (List Key×V)}(ok:Ϙ P w H h)(e:Rd H a (.dT Ϸ)):Ϸ.length<=Ϫ/\(a==sysModules)=false/\
  ∃xs,KT H Ϸ xs/\h.DictOfH (tupleKind (bN P w)) a xs:=by
 obtain⟨z,y,xs,r,o,es,ep,h1,h2,h3,h4,h5⟩:=(show Ϗ P w H h a (.dT Ϸ)from Qk ok e);refine⟨z,y,xs,r,o,es,ep,h1,h2,h3,h4,λx hx=>?_,h5⟩;have all:∀{l:List (List Key×V)}{m:List (List Key×δ×ε)},KT H l m->∀x∈m,(tupleKind (bN P w)).is h x.1 x.2.1:=by
  intro l m q;induction q with
  |nil=>intro x hx;exact nomatch hx
  | @cons p q ps qs hq t ih=>
    intro x hx;obtain e|hx:=ϴ.mp hx
    .subst e;exact nH ok (by rw[<-hq.1];exact hq.2.1)
    .exact ih x hx
 exact all r x hx
theorem afW{Ϸ:List (List Key×V)}(ok:Ϙ P w H h)(e:H a=some (.dT Ϸ)):Ϸ.length<=Ϫ/\(a==sysModules)=false/\
  ∃xs,KT H Ϸ xs/\h.DictOfH (tupleKind (bN P w)) a xs:=lF ok (.inl e)
end
def ao(H:Hp)(a:δ)(y:V)(r:Option V):Prop:=
 (∃Ϸ k,Rd H a (.dK Ϸ)/\y=kV k/\r=ϟ Ϸ k)\/∃Ϸ k b,Rd H a (.dT Ϸ)/\y=.ref b/\H b=some (.tup (k.map kV))/\r=ϟ Ϸ k
def iK(H:Hp)(a:δ)(y v:V)(H':Hp):Prop:=
 (∃Ϸ k,H a=some (.dK Ϸ)/\y=kV k/\Ϸ.length<Ϫ/\H'=upd H a (.dK (putK Ϸ k v)))\/
 ∃Ϸ k b,H a=some (.dT Ϸ)/\y=.ref b/\H b=some (.tup (k.map kV))/\Ϸ.length<Ϫ/\H'=upd H a (.dT (putK Ϸ k v))
theorem ao.k{H:Hp}{a:δ}{Ϸ:List (Key×V)}{k:Key}(e:H a=some (.dK Ϸ)):ao H a (kV k) (ϟ Ϸ k):=.inl ⟨Ϸ,k,.inl e,rfl,rfl⟩
theorem iK.k{H:Hp}{a:δ}{Ϸ:List (Key×V)}{k:Key}{v:V}(e:H a=some (.dK Ϸ))(hl:Ϸ.length<Ϫ):iK H a (kV k) v (upd H a (.dK (putK Ϸ k v))):=.inl ⟨Ϸ,k,e,rfl,hl,rfl⟩
section
variable{X:Cx}{ϵ:List (δ×Obj)}{σ:St}{H:Hp}{s:μ}{a:δ}{y v:V}{u r:ε}{o:Option V}{A:ϰ}{E:ε->μ->Prop}
theorem Inv.big(I:Inv X ϵ σ H s):sysModules<s.heap.objs.size:=by
 have h:mainGlobals<s.heap.objs.size:=(I.mod.glob.keeps I.bk).lt;exact Nat.lt_trans (by decide) h
theorem aga{Q:ε->μ->Prop}(hu:A.units+1<cLine)(I:Inv X ϵ σ H s)(g:ao H a y (some v))(ry:RelV y u)(h:∀w' s',Inv X ϵ σ H s'->RelV v w'->Q w' s'):ν (Ϧ X.prog X.w) A (getItem (.ref a) u) Q E s:=by
 obtain⟨Ϸ,k,e,ey,l⟩|⟨Ϸ,k,b,e,ey,eb,l⟩:=g
 .subst ey;obtain⟨z,hd,vs,rel,dd⟩:=ju I.hok e;obtain⟨w',hw,rw'⟩:=bz.some_of (v:=v) (o:=valueAt vs k) (by rw[l];exact rel.val k);exact wpAny_getItem_of (j4 ry) dd.mapOf hw (h w' _ (I.tok _) rw')
 .subst ey;cases(show u=Value.ref b from ry);obtain⟨z,hd,xs,rel,dd⟩:=lF I.hok e;obtain⟨w',hw,rw'⟩:=bz.some_of (v:=v) (o:=(atKey xs k).map (·.2)) (by rw[l];exact rel.val k);obtain⟨p,hp,hp2⟩:=aik.mp hw;refine wpAny_getItem_heap (akI hu) (nH I.hok eb) dd hp ?_;rw[hp2];exact h w' _ (I.tok _) rw'
theorem agA{Q:ε->μ->Prop}(hu:A.units+1<cLine)(I:Inv X ϵ σ H s)(g:ao H a y o)(ry:RelV y u)(h:∀s',Inv X ϵ σ H s'->Q (.bool o.isSome) s'):ν (Ϧ X.prog X.w) A (adH .In u (.ref a)) Q E s:=by
 obtain⟨Ϸ,k,e,ey,l⟩|⟨Ϸ,k,b,e,ey,eb,l⟩:=g
 .subst ey;obtain⟨z,hd,vs,rel,dd⟩:=ju I.hok e;refine wpAny_in_of (j4 ry) hd dd.mapOf ?_;rw[<-(rel.val k).isSome_eq, <-l];exact h _ (I.tok _)
 .subst ey;cases(show u=Value.ref b from ry);obtain⟨z,hd,xs,rel,dd⟩:=lF I.hok e;refine wpAny_in_heap (akI hu) (nH I.hok eb) hd dd ?_;have q:=(rel.val k).isSome_eq;rw[ami]at q;rw[<-q, <-l];exact h _ (I.tok _)
theorem aep{Q:ε->μ->Prop}(hu:A.units+1<cLine)(I:Inv X ϵ σ H s)(g:ao H a y o)(ry:RelV y u)(h:∀s',Inv X ϵ σ H s'->Q (.bool (!o.isSome)) s'):ν (Ϧ X.prog X.w) A (adH .NotIn u (.ref a)) Q E s:=by
 obtain⟨Ϸ,k,e,ey,l⟩|⟨Ϸ,k,b,e,ey,eb,l⟩:=g
 .subst ey;obtain⟨z,hd,vs,rel,dd⟩:=ju I.hok e;refine wpAny_notIn_of (j4 ry) hd dd.mapOf ?_;rw[<-(rel.val k).isSome_eq, <-l];exact h _ (I.tok _)
 .subst ey;cases(show u=Value.ref b from ry);obtain⟨z,hd,xs,rel,dd⟩:=lF I.hok e;refine wpAny_notIn_heap (akI hu) (nH I.hok eb) hd dd ?_;have q:=(rel.val k).isSome_eq;rw[ami]at q;rw[<-q, <-l];exact h _ (I.tok _)
theorem zW{h':ϫ}{t':Nat}{ob:HO}(I:Inv X ϵ σ H s)(mu:rB (H a))(hs:akk a s.heap h')(he:∃q,h'.get? a=some q)(new:Ϗ X.prog X.w (upd H a ob) h' a ob):Inv X ϵ σ (upd H a ob) {s with heap:=h',toks:=t'}:=
 I.write (x:=a) (e:=a) mu (.inl rfl) (λb q hb z=>(hs.2 b hb).trans z) he new
theorem Ep{P:ϯ}{w:ϭ}{H':Hp}{h':ϫ}{Ϸ:List (Key×V)}{vs:List (Key×ε)}(z:Ϸ.length<=Ϫ)(hd:(a==sysModules)=false)(rel:KV Ϸ vs)(dd:h'.DictOf (bN P w) a vs):Ϗ P w H' h' a (.dK Ϸ):=⟨z,hd,vs,rel,dd⟩
theorem Zz{H':Hp}{Q:Unit->μ->Prop}(hu:A.units+1<cLine)(I:Inv X ϵ σ H s)(g:iK H a y v H')(ry:RelV y u)(rv:RelV v r)(h:∀s',Inv X ϵ σ H' s'->Q () s'):ν (Ϧ X.prog X.w) A (setItem (.ref a) u r) Q E s:=by
 obtain⟨Ϸ,k,e,ey,l,eH⟩|⟨Ϸ,k,b,e,ey,eb,l,eH⟩:=g
 .subst ey eH;obtain⟨z,hd,vs,rel,dd⟩:=wz I.hok e;have hz:vs.length<=Ϫ:=by rw[<-rel.length];exact z
  have hl:(putK Ϸ k v).length<=Ϫ:=by have:=Fx Ϸ k v;omega
  refine wpAny_setItem_pairs (hsz:=hz) (j4 ry) dd λh' dd' hs=>h _ ?_
  have he:∃q,h'.get? a=some q:=let⟨q,_,_,hq,_⟩:=dd';⟨q,hq⟩;exact zW I (by rw[e];exact True.intro) hs he (Ep hl hd (rel.put k rv) dd')
 .subst ey eH;cases(show u=Value.ref b from ry);obtain⟨z,hd,xs,rel,dd⟩:=afW I.hok e;have hz:xs.length<=Ϫ:=by rw[<-Paired.length rel];exact z
  have hl:(putK Ϸ k v).length<=Ϫ:=by have:=Fx Ϸ k v;omega
  refine wpAny_setItem_heap (hsz:=hz) (akI hu) (nH I.hok eb) dd λh' dd' hs=>h _ ?_
  obtain⟨q,es,ep,hq,h2,h3,h4,_,h5⟩:=dd';refine zW I (by rw[e];exact True.intro) hs ⟨q,hq⟩ ⟨hl,hd,_,(rel.put k eb rv).keeps λc ys ec=>?_,q,es,ep,hq,h2,h3,h4,h5⟩;rw[ι (af5 ec e (λz=>nomatch z))];exact ec
end
section
variable{X:Cx}{ϵ:List (δ×Obj)}{σ:St}{H:Hp}{s:μ}{a:δ}{Ϸ:List (Key×V)}{k:Key}{u:ε}{A:ϰ}{E:ε->μ->Prop}
theorem Vb{v:V}{more:List ε}{Q:ε->μ->Prop}(I:Inv X ϵ σ H s)(e:H a=some (.dK Ϸ))(ry:RelV (kV k) u)(l:ϟ Ϸ k=some v)(hm:more=[]\/∃x,more=[x])(h:∀w' s',Inv X ϵ σ (upd H a (.dK (dN Ϸ k))) s'->RelV v w'->Q w' s'):ν (Ϧ X.prog X.w) A (call (.builtin "dict.pop") (.ref a::u::more)) Q E s:=by
 obtain⟨z,hd,vs,rel,dd⟩:=wz I.hok e;obtain⟨w',hw,rw'⟩:=bz.some_of (v:=v) (o:=valueAt vs k) (by rw[<-l];exact rel.val k);have hp:(keyPart u).isSome=true:=by
  cases k with
  |inl i=>obtain⟨t,q⟩:=(show ∃t,u=Value.int i t from ry);subst q;rfl
  |inr x=>obtain⟨t,q⟩:=(show ∃t,u=Value.str x t from ry);subst q;rfl
 have ha:argsOk "dict.pop" ⟨.ref a::u::more,[]⟩:=by
  obtain q|⟨x,q⟩:=hm
  .subst q;exact F.args_dict_pop_2 _ _
  .subst q;exact F.args_dict_pop_3 _ _ _
 refine call_meetsIn F.slot_dict_pop dd.typeIs F.entry_dict_pop ha (meets_dict_pop_there (bN X.prog X.w) a (j4 ry) more hm hp)
  ⟨vs,w',dd,by rw[<-rel.length];exact z,hw,λh' dd' hs=>h w' _ ?_ rw'⟩
 have he:∃q,h'.get? a=some q:=let⟨q,_,_,hq,_⟩:=dd';⟨q,hq⟩;exact zW I (by rw[e];exact True.intro) hs he (Ep (afK (abj Ϸ k) z) hd (rel.drop k) dd')
theorem ae9{Q:ε->μ->Prop}(I:Inv X ϵ σ H s)(e:Rd H a (.dK Ϸ))(h:∀t s',Inv X ϵ σ H s'->Q (.int Ϸ.length t) s'):ν (Ϧ X.prog X.w) A (call (.builtin "len") [.ref a]) Q E s:=by
 obtain⟨z,hd,vs,rel,dd⟩:=ju I.hok e;refine call_len_dict hd dd (by rw[<-rel.length];rw[ϲ]at z;omega) ?_;rw[<-rel.length];exact h _ _ (I.tok _)
end
theorem aaX{X:Cx}{ϵ:List (δ×Obj)}{σ:St}{H:Hp}{s:μ}{a:δ}{y:V}{o:Option V}(I:Inv X ϵ σ H s)(g:ao H a y o):s.TypeIs (.ref a) "dict":=by
 obtain⟨Ϸ,k,e,_,_⟩|⟨Ϸ,k,b,e,_,_,_⟩:=g
 .obtain⟨_,_,vs,_,dd⟩:=ju I.hok e;exact dd.typeIs
 .obtain⟨_,_,xs,_,dd⟩:=lF I.hok e;exact dd.typeIs
def U4(td ty tv:TE):TS:=λD σ H=>tv σ H λv H1=>td σ H1 λx H2=>ty σ H2 λy H3=>∃a H4,x=.ref a/\iK H3 a y v H4/\D.nx σ H4
section
variable{X:Cx}{o i e value:π}{pos pos' tpos:Pos}{td ty tv:TE}
theorem aek(hu:X.A.units+1<cLine)(ho:PE X o td)(hi:PE X i ty)(hv:PE X value tv)(hs:ajq value (some (.Subscript o i pos')) pos.line X.env=pure false):PS X (.Assign [.Subscript o i pos'] value pos) (U4 td ty tv):=by
 intro ϵ s σ H D I h;refine wpAny_Assign_Subscript (ρ (hv ϵ s σ H _ I h) λr s1 ⟨v,H1,I1,rv,q1⟩=>ρ (ho ϵ s1 σ H1 _ I1 q1) λu s2 ⟨x,H2,I2,rx,q2⟩=>ρ (hi ϵ s2 σ H2 _ I2 q2) λiv s3 ⟨y,H3,I3,ry,a,H4,ex,g,q3⟩=>?_) hs;subst ex;obtain rfl:u=Value.ref a:=rx;exact Zz hu I3 g ry rv λs4 I4=>⟨σ,H4,I4,q3⟩
end
theorem ahz{P:ϯ}{w:ϭ}{H:Hp}(h:ϫ)(hb:sysModules<h.objs.size):Ϗ P w H (h.push {cls:=.type "dict",data:=.dict #[]}) h.objs.size (.dK []):=
 ⟨agf _,beq_eq_false_iff_ne.mpr (Ne.symm (ab6 hb)),[],.nil,Heap.DictOf.new h⟩
def afI:TE:=λ_ H Q=>∀p,H p=none->Q (.ref p) (upd H p (.dK []))
section
variable{X:Cx}{pos:Pos}
theorem VN:PE X (.Dict [] [] pos) afI:=λϵ s σ H Q I h=>
 wpAny_Dict_empty ⟨.ref s.heap.objs.size,_,I.laid (a:=s.heap.objs.size) (o:=.dK []) (t':=s.toks) (λ_ _ q=>Heap.get?_push_of_some _ q) (Ϯ _) (ahz s.heap I.big),rfl,h _ (I.hok.fresh (Ϯ _))⟩
end
structure M1(X:Cx)(o:π)(m:Str)(apos:Pos)(e:π)(cpos:Pos):Prop where
 base:attributeBase o m X.env (eval o X.env)=eval o X.env
 few:((backTo cpos (Ϭ [e] X.env)).all (λx=> !x.1)&&(backToKw cpos (keywordEach [] X.env)).all (λx=>x.1.isSome)
  &&decide (([e]:List π).length+([]:List Keyword).length+(if([]:List Keyword).isEmpty then 0 else 1)<30))=true
 line:(apos.endLine==cpos.line)=true
 trees:backTo cpos (Ϭ [e] X.env)=[(false,eval e X.env)]
structure M2(X:Cx)(o:π)(m:Str)(apos:Pos)(e f:π)(cpos:Pos):Prop where
 base:attributeBase o m X.env (eval o X.env)=eval o X.env
 few:((backTo cpos (Ϭ [e,f] X.env)).all (λx=> !x.1)&&(backToKw cpos (keywordEach [] X.env)).all (λx=>x.1.isSome)
  &&decide (([e,f]:List π).length+([]:List Keyword).length+(if([]:List Keyword).isEmpty then 0 else 1)<30))=true
 line:(apos.endLine==cpos.line)=true
 trees:backTo cpos (Ϭ [e,f] X.env)=[(false,eval e X.env),(false,eval f X.env)]
def jM(H:Hp)(a:δ):Prop:=(∃Ϸ,Rd H a (.dK Ϸ))\/∃Ϸ,Rd H a (.dT Ϸ)
theorem Kc{X:Cx}{ϵ:List (δ×Obj)}{σ:St}{H:Hp}{s:μ}{a:δ}(I:Inv X ϵ σ H s)(d:jM H a):s.TypeIs (.ref a) "dict"/\(∀b,Value.ref a=.ref b->∃ob,s.heap.get? b=some ob/\ob.dict=none)/\(a==sysModules)=false:=by
 obtain⟨Ϸ,e⟩|⟨Ϸ,e⟩:=d
 .obtain⟨_,hd,vs,_,dd⟩:=ju I.hok e;refine⟨dd.typeIs,λb q=>?_,hd⟩;cases q;obtain⟨ob,_,_,h1,h2,_⟩:=dd;exact⟨ob,h1,h2.2.1⟩
 .obtain⟨_,hd,xs,_,dd⟩:=lF I.hok e;refine⟨dd.typeIs,λb q=>?_,hd⟩;cases q;obtain⟨ob,_,_,h1,h2,_⟩:=dd;exact⟨ob,h1,h2.2.1⟩
section
variable{X:Cx}{ϵ:List (δ×Obj)}{σ:St}{H:Hp}{s:μ}{a:δ}{y d:V}{u r:ε}{o:Option V}{A:ϰ}{E:ε->μ->Prop}
theorem Ys{Q:ε->μ->Prop}(hu:A.units+1<cLine)(I:Inv X ϵ σ H s)(g:ao H a y o)(ry:RelV y u)(h:∀w' s',Inv X ϵ σ H s'->RelV (o.getD .non) w'->Q w' s'):ν (Ϧ X.prog X.w) A (call (.builtin "dict.get") [.ref a,u]) Q E s:=by
 obtain⟨Ϸ,k,e,ey,l⟩|⟨Ϸ,k,b,e,ey,eb,l⟩:=g
 .subst ey;obtain⟨z,hd,vs,rel,dd⟩:=ju I.hok e;refine call_meetsIn F.slot_dict_get dd.typeIs F.entry_dict_get (F.args_dict_get_2 _ _) (meets_dict_get (bN X.prog X.w) a (j4 ry) hd) ⟨_,dd.mapOf,h _ _ (I.tok _) ?_⟩;rw[l];exact(rel.val k).getD rfl
 .subst ey;cases(show u=Value.ref b from ry);obtain⟨z,hd,xs,rel,dd⟩:=lF I.hok e;refine call_meetsIn F.slot_dict_get dd.typeIs F.entry_dict_get (F.args_dict_get_2 _ _) (meetsH_dict_get (tupleKind (bN X.prog X.w)) a b hd) ⟨akI hu,k,xs,nH I.hok eb,dd,h _ _ (I.tok _) ?_⟩;rw[l];exact(rel.val k).getD rfl
end
def adF(td ty:TE):TE:=λσ H Q=>td σ H λx H1=>∃a,x=.ref a/\jM H1 a/\ty σ H1 λy H2=>∃o,ao H2 a y o/\Q (o.getD .non) H2
def afT(td ty:TE):TE:=λσ H Q=>td σ H λx H1=>∃a,x=.ref a/\jM H1 a/\ty σ H1 λy H2=>∃Ϸ k v,H2 a=some (.dK Ϸ)/\y=kV k/\ϟ Ϸ k=some v/\Q v (upd H2 a (.dK (dN Ϸ k)))
section
variable{X:Cx}{o e f:π}{apos cpos:Pos}{td ty tx:TE}
theorem Zb(hu:X.A.units+1<cLine)(ho:PE X o td)(he:PE X e ty)(m:M1 X o "get" apos e cpos):PE X (.Call (.Attribute o "get" apos) [e] [] cpos) (adF td ty):=by
 intro ϵ s σ H Q I h;refine wpAny_Call_method m.base m.few m.line F.plainAttrs_dict F.slot_dict_get F.type_dict_get (ρ (ho ϵ s σ H _ I h) λu s1 ⟨x,H1,I1,rx,a,ex,d,q1⟩=>?_);subst ex;obtain rfl:u=Value.ref a:=rx;obtain⟨t1,t2,_⟩:=Kc I1 d;refine⟨t1,t2,?_⟩;rw[m.trees];refine Calls.callWith_builtin rfl (Calls.evalArgs_plain (Calls.spliced_cons (ρ (he ϵ s1 σ H1 _ I1 q1) λiv s2 ⟨y,H2,I2,ry,ov,g,q2⟩=>Calls.spliced_nil ?_)));exact Ys hu I2 g ry λw' s3 I3 rw'=>⟨_,H2,I3,rw',q2⟩
theorem TJ(ho:PE X o td)(he:PE X e ty)(m:M1 X o "pop" apos e cpos):PE X (.Call (.Attribute o "pop" apos) [e] [] cpos) (afT td ty):=by
 intro ϵ s σ H Q I h;refine wpAny_Call_method m.base m.few m.line F.plainAttrs_dict F.slot_dict_pop F.type_dict_pop (ρ (ho ϵ s σ H _ I h) λu s1 ⟨x,H1,I1,rx,a,ex,d,q1⟩=>?_);subst ex;obtain rfl:u=Value.ref a:=rx;obtain⟨t1,t2,_⟩:=Kc I1 d;refine⟨t1,t2,?_⟩;rw[m.trees];refine Calls.callWith_builtin rfl (Calls.evalArgs_plain (Calls.spliced_cons (ρ (he ϵ s1 σ H1 _ I1 q1) λiv s2 ⟨y,H2,I2,ry,Ϸ,k,v,ea,ey,l,q2⟩=>Calls.spliced_nil ?_)));subst ey;exact Vb I2 ea ry l (.inl rfl) λw' s3 I3 rw'=>⟨v,_,I3,rw',q2⟩
end
section
variable{X:Cx}{ϵ:List (δ×Obj)}{σ:St}{H:Hp}{s:μ}{a:δ}{Ϸ:List (Key×V)}{A:ϰ}{E:ε->μ->Prop}
end
section
variable{X:Cx}{ϵ:List (δ×Obj)}{σ:St}{H:Hp}{s:μ}{a:δ}{y:V}{u:ε}{A:ϰ}{E:ε->μ->Prop}
end
end L2
namespace Att
open PySem PySem.W PySem.Calls PyProof.Rows
theorem Vx{P:Params}{h:ϫ}:∀(ns:List Int)(vs:List ε),WellAll P h vs (ns.map WData.int)->IntsAre vs ns:=by
 intro ns;induction ns with
 |nil=>
  intro vs w;rw[List.map_nil]at w;cases w;exact .nil
 |cons n ns ih=>
  intro vs w;rw[List.map_cons]at w;cases w with
  |cons a b=>
   cases a;exact .cons _ _ (ih _ b)
theorem R6{l:OpenLaw}{n:Nat}(hn:l.most=some n){P:Params}{h:ϫ}{args:List WData}{vals:List ε}(hpre:l.row.toRowW.claim.pre args=true)(hwl:WellAll P h vals args):∃a vs ns,vals=[Value.ref a]/\args=[WData.list (ns.map WData.int)]/\h.get? a=some {cls:=.type "list",data:=.seq vs.toArray}/\IntsAre vs ns/\ns.length<=n:=by
 have hsh:WShape.hasAll [] args [.list .int]=true:=(pre_splitW hpre).1;have hc:l.pre.holds [] {args:=args}=true:=(pre_splitW hpre).2;obtain⟨d,r,rfl,h1,h2⟩:=hasAllW_cons hsh;obtain rfl:=hasAllW_nil h2;obtain⟨xs,rfl,h3⟩:=hasW_list h1;obtain⟨ns,rfl⟩:=items_int h3;have hlen:ns.length<=n:=by
  unfold OpenLaw.pre at hc;have h4:(WTm.not (.lt (.lit (.int (n:Int))) (.len (.arg 0)))).holds [] {args:=[.list (ns.map .int)]}=true:=by
   have h4:=(holds_andW hc).1;rw[hn]at h4;exact h4
  have h5:=condW_of h4 (w_not (w_lt w_lit (w_len_list (w_arg rfl))));rw[ϳ]at h5;refine am2 λq=>?_
  have q':(n:Int)<((ns.length:Nat):Int):=by omega
  first
   |(rw[decide_eq_true q']at h5;exact absurd h5 (by decide))
   |(simp at h5;omega)
 cases hwl with
 |cons w1 w2=>
  cases w2;cases w1 with
  |list ho hall=>exact⟨_,_,ns,rfl,rfl,ho,Vx ns _ hall,hlen⟩
theorem YQ(l:OpenLaw)(args:List WData):l.row.toRowW.claim.post args (.bool true) args=true:=
 postW_of (r:=l.row.toRowW) (X:=(true==true))
  (show WShape.has [] (.bool true) .bool=true by first|rfl|decide|simp[WShape.has,WShape.arms,WShape.armsAll])
  (show(WTm.eq .res (.lit (.bool true))).value [] {args:=args,res:=some (.bool true),after:=args}=some (.bool (true==true))from w_eq_bool (w_res rfl) w_lit) rfl
theorem afv{l:OpenLaw}{n:Nat}{q:ϯ}{loose:List Str}{XP:(Str->Option ε)->ϫ->Prop}{YP:ϭ->ϫ->Prop}{d:DefRec}(hn:l.most=some n)(hdf:d.params.defaults=[])(call:∀(w:ϭ)(s₀ s₁:μ)(mg mb:Str->Option ε)(fa:δ)(o:Obj)(pm cd doc:ε)(a:δ)(vs:List ε)(ns:List Int),
   Ground q loose [] XP w s₀ mg mb s₁.heap->YP w s₁.heap->
   s₁.heap.get? fa=some o->o.data=.func (docDef d.name d.params d.body d.scope pm cd doc)->s₁.heap.CodeRec cd d.name->mg d.name=some (.ref fa)->
   s₁.heap.get? a=some {cls:=.type "list",data:=.seq vs.toArray}->IntsAre vs ns->ns.length<=n->s₁.gens= #[]->
   codeAny (Ϧ l.prog w) callerA (.call (.ref fa) ⟨[.ref a],[]⟩) (λr s'=>r=.ok (.ret (.bool true))/\OldK s₁.heap s'.heap/\s'.os=s₁.os/\AllBare s'.gens) s₁):WalkO q loose XP YP l.row.toRowW d [] (λf vs=>PySem.call f vs):=by
 intro w s₀ s₁ mg mb G Y fa o pm cd doc dV kV ho hd hcd hD hmg hg args vals as hpre hlay hrd hwl hlo;obtain rfl:dV=.none:=Dflts.none hD hdf;obtain rfl:kV=.none:=Dflts.noKw hD;obtain⟨a,vs,ns,rfl,rfl,hobj,hints,hlen⟩:=R6 hn hpre hwl;refine enter_call (aiT (call w s₀ s₁ mg mb fa o pm cd doc a vs ns G Y ho (fd_plain hd) hcd hmg hobj hints hlen hg) λr s' hq=>?_);obtain⟨rfl,h2,h3,h4⟩:=hq;exact⟨.inl ⟨.bool true,.bool true,[],rfl,λ_=>rfl,.bool true,YQ l _,λ_=>⟨List.Pairwise.nil,λ_ hm=>(nomatch hm)⟩⟩,h2,h3,h4⟩
section
variable{prog:ϯ}{w:ϭ}{A:ϰ}{E:ε->μ->Prop}{s:μ}{K:Frag}
end
end Att
namespace L2
open PySem PySem.Spec PyProof.Rows
theorem HW:∀{vs:List ε}{ns:List Int},IntsAre vs ns->Vals (ns.map V.int) vs
 |_,_,.nil=>.nil
 |_,_,.cons n t h=>.cons ⟨t,rfl⟩ (HW h)
abbrev Qw{K:Ϩ}{h:ϫ}(_:K.In h):Ϩ:=K
def inClass(s:ϧ)(j:Nat):ϧ:=match s with
 |.ClassDef _ _ _ body _ _ _ _ _ _ _=>body.getD j (.Pass ⟨0,0,0,0⟩)
 |_=>.Pass ⟨0,0,0,0⟩
def iz(s:ϧ):Arguments:=match s with
 |.FunctionDef _ a _ _ _ _ _ _ _ _=>a
 |_=>{posonlyargs:=[],args:=[],vararg:=none,kwonlyargs:=[],kw_defaults:=[],kwarg:=none,defaults:=[]}
def ϗ(s:ϧ):List ϧ:=match s with
 |.FunctionDef _ _ b _ _ _ _ _ _ _=>b
 |_=>[]
def ο(s:ϧ):ahI:=match s with
 |.FunctionDef _ _ _ _ _ _ sc _ _ _=>sc
 |_=>{kind:=.function,names:=[],isGenerator:=false,isCoroutine:=false}
structure bM(K:Ϩ)(x qual:Str)(st:ϧ)(f:δ)(fd:air):Prop where
 ex:∃(oc:ε)(od:Option δ)(kV doc pm:ε)(an:Option δ)(Ϲ ct:ε)(osl:Array (Option ε)),
  fd=amI x qual (iz st) (ϗ st) (ο st) .none kV doc pm an Ϲ ct/\K.lookup f=some ⟨oc,od,.func fd,osl⟩/\amq K Ϲ qual=true
 kp:alF K (.ref f)=true
section
variable{P:ϯ}{w:ϭ}{K:Ϩ}{mg:Str->Option ε}{base:ϫ}
theorem bM.binds{x qual:Str}{st:ϧ}{f:δ}{fd:air}{ps:List Str}(F:bM K x qual st f fd)(h:∀(kV doc pm:ε)(an:Option δ)(Ϲ ct:ε)(us:List ε),us.length=ps.length->bindArgs (amI x qual (iz st) (ϗ st) (ο st) .none kV doc pm an Ϲ ct) ⟨us,[]⟩=pure (ps.zip us)):Binds K fd ps []:=by
 obtain⟨oc,od,kV,doc,pm,an,Ϲ,ct,osl,rfl,lk,hcd⟩:=F.ex;exact .all (h kV doc pm an Ϲ ct)
theorem rK{x qual:Str}{st:ϧ}{f:δ}{oc:ε}{od an:Option δ}{osl:Array (Option ε)}{kV doc pm Ϲ ct:ε}(l:K.lookup f=some ⟨oc,od,.func (amI x qual (iz st) (ϗ st) (ο st) .none kV doc pm an Ϲ ct),osl⟩)(c:amq K Ϲ qual=true)(k:alF K (.ref f)=true):bM K x qual st f (amI x qual (iz st) (ϗ st) (ο st) .none kV doc pm an Ϲ ct):=⟨⟨oc,od,kV,doc,pm,an,Ϲ,ct,osl,rfl,l,c⟩,k⟩
end
section
variable{X:Cx}
end
theorem ah6{A B:Prop}(h:B):if false=true then A else B:=by
 rw[if_neg aah];exact h
theorem Sx{A B:Prop}(h:A):if true=true then A else B:=by
 rw[if_pos rfl];exact h
def ζ(H H':Hp):=∀b o,H b=some o->H' b=some o
theorem ζ.refl(H:Hp):ζ H H:=λ_ _ h=>h
theorem ζ.trans{H H1 H2:Hp}(a:ζ H H1)(b:ζ H1 H2):ζ H H2:=λc o h=>b c o (a c o h)
theorem ζ.free{H H':Hp}(e:ζ H H'){l:δ}(h:H' l=Option.none):H l=Option.none:=by
 cases q:H l with
 |none=>rfl
 |some o=>
  rw[e l o q]at h;cases h
theorem ζ.seq{K:Ϩ}{H H':Hp}{a:δ}{xs:List V}(e:ζ H H')(h:η K H a xs):η K H' a xs:=by
 rcases h with(h|⟨o,h⟩)|h
 .exact .inl (.inl (e _ _ h))
 .exact .inl (.inr ⟨o,e _ _ h⟩)
 .exact .inr h
section
variable{X:Cx}
theorem ag1:dI X (.builtin "len") (λxs H Q=>∃a Ϸ,xs=[V.ref a]/\H a=some (.dK Ϸ)/\Q (.int Ϸ.length) H):=by
 intro ϵ s σ H xs us Q I r h;obtain⟨a,Ϸ,rfl,ha,q⟩:=h;obtain⟨u,rfl,ru⟩:=vals1 r;cases ru;exact ae9 I (.inl ha) λt s' I'=>⟨.int Ϸ.length,H,I',⟨t,rfl⟩,q⟩
end
section
variable{κ:Type} [DecidableEq κ]
end
def mF(h:ϫ):Option ε->List δ->Prop
 |c,[]=>c=some .none
 |c,a::r=>c=some (.ref a)/\∃o vs,h.get? a=some o/\o.data=.fields vs/\mF h vs[2]? r
theorem mF.stay{h h':ϫ}{e:δ}(k:∀v o ws,v≠e->h.get? v=some o->o.data=.fields ws->∃o' ws',h'.get? v=some o'/\o'.data=.fields ws'/\ws'[2]?=ws[2]?):∀{l:List δ}{c:Option ε},mF h c l->e∉l->mF h' c l
 |[],_,q,_=>q
 |a::r,c,⟨q1,o,vs,q2,q3,q4⟩,n=>by
  obtain⟨o',ws',k1,k2,k3⟩:=k a o vs (λz=>n (by simp[z])) q2 q3;refine⟨q1,o',ws',k1,k2,?_⟩;rw[k3];exact mF.stay k q4 λz=>n (by simp[z])
def Ctx(h:ϫ)(e:δ)(b:Bool)(c:Option ε):Prop:=(b=true->c=some .none)/\∃l,mF h c l/\e∉l/\l.Nodup
theorem Ctx.yes{h:ϫ}{e:δ}{c:Option ε}(q:c=some .none):Ctx h e true c:=⟨λ_=>q,[],q,by simp,.nil⟩
theorem Ctx.stay{h h':ϫ}{e:δ}{b:Bool}{c:Option ε}(q:Ctx h e b c)(k:∀v o ws,v≠e->h.get? v=some o->o.data=.fields ws->∃o' ws',h'.get? v=some o'/\o'.data=.fields ws'/\ws'[2]?=ws[2]?):Ctx h' e b c:=by
 obtain⟨q1,l,q2,q3,q4⟩:=q;exact⟨q1,l,q2.stay k q3,q3,q4⟩
def bD(h:ϫ)(e:δ)(cls:ε)(d:Option δ×Bool)(tb:Option δ)(fl:ε):Prop:=
 ∃oe vs,h.get? e=some oe/\oe.cls=cls/\oe.dict=d.1/\oe.data=.fields vs/\vs[1]?=some (tb.elim Value.none Value.ref)/\2<vs.size/\Ctx h e d.2 vs[2]? /\
  ∀T,tb=some T->T≠e/\∃oT ws,h.get? T=some oT/\oT.data=.fields ws/\ws[3]?=some fl
theorem Ϗ.there{P:ϯ}{w:ϭ}{H:Hp}{h:ϫ}{a:δ}{o:HO}(x:Ϗ P w H h a o):∃ob,h.get? a=some ob:=by
 cases o with
 |lst xs=>obtain⟨_,_,_,_,e⟩:=x;exact⟨_,e⟩
 |tup xs=>obtain⟨_,_,_,ob,e,_⟩:=x;exact⟨_,e⟩
 |dK Ϸ=>obtain⟨_,_,_,_,o,_,_,e,_⟩:=x;exact⟨_,e⟩
 |dT Ϸ=>obtain⟨_,_,_,_,o,_,_,e,_⟩:=x;exact⟨_,e⟩
 |set S n=>obtain⟨o,_,_,_,e,_⟩:=x;exact⟨_,e⟩
 |ins C dx fs=>obtain⟨_,_,_,e,_⟩:=x;exact⟨_,e⟩
 |own y=>obtain⟨_,e⟩:=x;exact⟨_,e⟩
 |xd fs=>obtain⟨_,⟨_,_,_,e,_⟩,_⟩:=x;exact⟨_,e⟩
 |rng lo hi=>obtain⟨_,_,_,e⟩:=x;exact⟨_,e⟩
 |frz ob u=>obtain⟨e,_⟩:=x;exact⟨_,e⟩
 |tbl ps=>obtain⟨_,e,_⟩:=x;exact⟨_,e⟩
 |met f y=>exact⟨_,(show h.get? a=some _ from x)⟩
 |ext φ=>obtain⟨_,⟨_,e⟩,_⟩:=x;exact⟨_,e⟩
theorem Ϙ.free{P:ϯ}{w:ϭ}{H:Hp}{h:ϫ}{a:δ}(x:Ϙ P w H h)(e:h.get? a=none):H a=none:=by
 cases q:H a with
 |none=>rfl
 |some u=>
  obtain⟨ob,z⟩:=(x a u q).there;rw[e]at z;cases z
def bH(P:ϯ)(w:ϭ):dm:=λouter H s E x s'=>∃e tb cls d H',x=.ref e/\s'.os=s.os/\AllBare s'.gens/\Un (bK outer) [] H H' s.heap s'.heap/\Ϙ P w H' s'.heap/\bD s'.heap e cls d tb .none/\
 (∀b∈e::tb.toList,H' b=none/\s.heap.get? b=none)/\E cls d H'
theorem bH.never{P:ϯ}{w:ϭ}{outer:List Env}{H:Hp}{s s':μ}{e:ε}(h:bH P w outer H s (λ_ _ _=>False) e s'):False:=by
 obtain⟨_,_,_,_,_,_,_,_,_,_,_,_,z⟩:=h;exact z
section
variable{M:Model}{A:ϰ}{E:ε->μ->Prop}{s:μ}
theorem QS{base:ϫ}{env:Env}{outer:List Env}{L e:δ}{oe:Obj}{vs:Array ε}{head:ε}{hadNext:Bool}{Q:Unit->μ->Prop}(hfr:A.frames=some (env::outer))(hl:s.heap.FunFrames base (env::outer))(hf:env.frame=some L)(he:s.heap.get? e=some oe)(hd:oe.data=.fields vs)(hsz:1<vs.size)(k:∀(h':ϫ)(T:δ)(oT:Obj)(ws:Array ε),s.heap.objs.size<=h'.objs.size->(∀b o,s.heap.get? b=some o->b≠e->b∉bK (env::outer)->h'.get? b=some o)->
   (∀b o,s.heap.get? b=some o->b≠e->∃sl,h'.get? b=some {o with slots:=sl})->s.heap.objs.size<=T->h'.get? e=some (oe.mapFields (·.setIfInBounds 1 (.ref T)))->
   h'.get? T=some oT->oT.data=.fields ws->ws[3]?=some (rawInt L)->Q () {s with heap:=h'}):ν M A (do
   let a<-frameOf env;let pl<-entryPlaceOf L hadNext;let b<-EntryCells.newEntry head a .none (rawInt L) .none pl
   setField (.ref e) 1 b) Q E s:=by
 have Ϻ:e∉(env::outer).filterMap (·.frame):=λm=>by
  obtain⟨_,o,ho,nf⟩:=hl.mem m;rw[he]at ho;cases ho;exact nf vs hd
 refine ϩ (wpAny_frameOf_fun hfr hl hf λh1 so=>ϩ (wpAny_entryPlaceOf λpl hp=>?_));unfold EntryCells.newEntry newFields;refine ϩ (alU ?_ (hp.sizeOk5 _ _ _ _ _));have e1:h1.get? e=some oe:=(so.2.1 e Ϻ).trans he;have hTe:e≠h1.objs.size:=ab6 (abe e1);refine wpAny_setField (Heap.get?_push_of_some _ e1) hd hsz (k _ h1.objs.size {cls:=.type "traceback",dict:=none,data:=.fields (([head,.ref L,.none,rawInt L,.none]:List ε)++(if pl.isEmpty then al1 6 Value.none else pl)).toArray} (([head,.ref L,.none,rawInt L,.none]:List ε)++(if pl.isEmpty then al1 6 Value.none else pl)).toArray ?_ (λb o hb hbe hbf=>?_) (λb o hb hbe=>?_) (alO so.1.symm) ?_ ?_ ?_ ?_)
 .rw[amw,al0,so.1];exact alJ _
 .rw[aci _ _ (Ne.symm hbe)];exact Heap.get?_push_of_some _ ((so.2.1 b hbf).trans hb)
 .obtain⟨sl,q⟩:=so.2.2 b o hb;exact⟨sl,by rw[aci _ _ (Ne.symm hbe)];exact Heap.get?_push_of_some _ q⟩
 .exact afS _ (Heap.get?_push_of_some _ e1) (Obj.isFreed_of_fields (Obj.data_mapFields hd _))
 .rw[aci _ _ hTe];exact abq h1 rfl
 .exact rfl
 .first
   |(simp;done)
   |(obtain rfl|⟨_,_,_,_,_,_,_,rfl⟩:=hp<;>simp)
structure qW(h h':ϫ)(ch fs:List δ):Prop where
 keep:∀b o,h.get? b=some o->b∉fs->b∉ch->h'.get? b=some o
 slot:∀b o,h.get? b=some o->b∉ch->∃sl,h'.get? b=some {o with slots:=sl}
 there:∀b o,h.get? b=some o->∃o',h'.get? b=some o'
theorem HH{base:ϫ}{env:Env}{outer:List Env}{L e:δ}{cls:ε}{d:Option δ×Bool}{tb:Option δ}{fl:ε}{Q:Unit->μ->Prop}(hfr:A.frames=some (env::outer))(hl:s.heap.FunFrames base (env::outer))(hf:env.frame=some L)(F:bD s.heap e cls d tb fl)(hfl:(fl==rawInt L)=false)(k:∀(h':ϫ)(T:δ),qW s.heap h' (e::tb.toList) (bK (env::outer))->s.heap.objs.size<=T->bD h' e cls d (some T) (rawInt L)->Q () {s with heap:=h'}):ν M A (noteFrame (.ref e) env) Q E s:=by
 obtain⟨oe,vs,he,hc,hdx,hd,h1,hz,h2,ht⟩:=F
 have fin:∀{hp:ϫ}{h':ϫ}{T:δ}{oT:Obj}{ws:Array ε},(∀v o ws,v≠e->s.heap.get? v=some o->o.data=.fields ws->∃o' ws',h'.get? v=some o'/\o'.data=.fields ws'/\ws'[2]?=ws[2]?)->hp.get? e=some oe->hp.objs.size<=T->h'.get? e=some (oe.mapFields (·.setIfInBounds 1 (.ref T)))->h'.get? T=some oT->oT.data=.fields ws->
   ws[3]?=some (rawInt L)->bD h' e cls d (some T) (rawInt L):=λ{hp h' T oT ws} kk e0 hT q1 q2 q3 q4=>by
  have hd':=Obj.data_mapFields hd (·.setIfInBounds 1 (Value.ref T));refine⟨_,_,q1,(Obj.cls_mapFields _ _).trans hc,?_,hd',?_,by simpa using hz,?_,λT' eT=>?_⟩
  .obtain⟨c0,d0,dt,sl⟩:=oe;cases hd;exact hdx
  .have :1<vs.size:=by omega
   simp[this]
  .rw[aiu (by decide)];exact h2.stay kk
  .cases eT;exact⟨λz=>aiE _ (abu (abe e0) (z▸hT)),oT,ws,q2,q3,q4⟩
 unfold noteFrame;simp only[hf];cases tb with
 |none=>
  have h1':vs[1]?=some Value.none:=h1;refine ϩ (wpAny_field he hd h1' ?_);rw[if_neg (by decide)];refine QS hfr hl hf he hd (by omega) λh' T oT ws a1 a2 a3 a4 a5 a6 a7 a8=>k h' T ⟨λb o q1 q2 q3=>a2 b o q1 (λz=>q3 (by simp[z])) q2,λb o q1 q3=>a3 b o q1 λz=>q3 (by simp[z]),λb o q1=>?_⟩ a4 (fin (λv o ws hv q1 q2=>by obtain⟨sl,q⟩:=a3 v o q1 hv;exact⟨_,ws,q,q2,rfl⟩) he a4 a5 a6 a7 a8)
  by_cases z:b=e
  .subst z;exact⟨_,a5⟩
  .obtain⟨sl,q⟩:=a3 b o q1 z;exact⟨_,q⟩
 |some T0=>
  obtain⟨Ϻ,oT0,Zy,t1,t2,t3⟩:=ht T0 rfl;have h1':vs[1]?=some (Value.ref T0):=h1;refine ϩ (wpAny_field he hd h1' ?_);rw[if_pos (show(Value.ref T0 !=Value.none)=true from by simp)];refine ϩ (wpAny_field t1 t2 t3 ?_);rw[if_neg (by rw[hfl];exact aah)];refine ϩ (wpAny_setField t1 t2 (ajl.mp t3).1 ?_);have oth:∀b,b≠T0->(s.heap.update T0 (Obj.mapFields (·.setIfInBounds 3 Value.none))).get? b=s.heap.get? b:=λb hb=>aci _ _ (Ne.symm hb)
  have N5:=afS (Obj.mapFields (·.setIfInBounds 3 Value.none)) t1 (Obj.isFreed_of_fields (Obj.data_mapFields t2 _));have hsz:(s.heap.update T0 (Obj.mapFields (·.setIfInBounds 3 Value.none))).objs.size=s.heap.objs.size:=amw ..;have hl':(s.heap.update T0 (Obj.mapFields (·.setIfInBounds 3 Value.none))).FunFrames base (env::outer):=hl.of_keeps λb o hb nf=>⟨o,(oth b λz=>by
   subst z;rw[t1]at hb;cases hb;exact nf Zy t2).trans hb,rfl⟩
  refine QS (s:={s with heap:=s.heap.update T0 (Obj.mapFields (·.setIfInBounds 3 Value.none))}) hfr hl' hf ((oth e (Ne.symm Ϻ)).trans he) hd (by omega) λh' T oT ws a1 a2 a3 a4 a5 a6 a7 a8=>
   k h' T ⟨λb o q1 q2 q3=>a2 b o ((oth b λz=>q3 (by simp[z])).trans q1) (λz=>q3 (by simp[z])) q2,λb o q1 q3=>a3 b o ((oth b λz=>q3 (by simp[z])).trans q1) λz=>q3 (by simp[z]),λb o q1=>?_⟩ (hsz▸a4) (fin (λv o ws hv q1 q2=>by
     by_cases z2:v=T0
     .subst z2;obtain⟨sl,q⟩:=a3 v _ N5 hv;rw[t1]at q1;cases q1;exact⟨_,_,q,Obj.data_mapFields q2 _,by rw[aiu (by decide)]⟩
     .obtain⟨sl,q⟩:=a3 v o ((oth v z2).trans q1) hv;exact⟨_,ws,q,q2,rfl⟩) ((oth e (Ne.symm Ϻ)).trans he) a4 a5 a6 a7 a8)
  by_cases z:b=e
  .subst z;exact⟨_,a5⟩
  .by_cases z2:b=T0
   .subst z2;obtain⟨sl,q⟩:=a3 b _ N5 z;exact⟨_,q⟩
   .obtain⟨sl,q⟩:=a3 b o ((oth b z2).trans q1) z;exact⟨_,q⟩
theorem aaQ{base:ϫ}{env:Env}{outer:List Env}{L e:δ}{cls:ε}{d:Option δ×Bool}{tb:Option δ}{Q:Unit->μ->Prop}(hfr:A.frames=some (env::outer))(hl:s.heap.FunFrames base (env::outer))(hf:env.frame=some L)(F:bD s.heap e cls d tb .none)(k:∀(h':ϫ)(T:δ),qW s.heap h' (e::tb.toList) (bK (env::outer))->s.heap.objs.size<=T->bD h' e cls d (some T) (rawInt L)->Q () {s with heap:=h'}):ν M A (noteFrame (.ref e) env) Q E s:=
 HH hfr hl hf F (by simp[rawInt]) k
theorem abg{env:Env}{L e:δ}{cls:ε}{d:Option δ×Bool}{tb:Option δ}{Q:Unit->μ->Prop}(hf:env.frame=some L)(F:bD s.heap e cls d tb (rawInt L))(ht:tb.isSome=true)(k:Q () s):ν M A (noteFrame (.ref e) env) Q E s:=by
 obtain⟨oe,vs,he,hc,hdx,hd,h1,hz,h2,hT⟩:=F;cases tb with
 |none=>cases ht
 |some T=>
  obtain⟨_,oT,ws,t1,t2,t3⟩:=hT T rfl;exact wpAny_noteFrame_inFlight hf he hd h1 t1 t2 t3 k
theorem Vn{e T:δ}{cls:ε}{d:Option δ×Bool}{fl:ε}{Q:Unit->μ->Prop}(F:bD s.heap e cls d (some T) fl)(k:∀h',qW s.heap h' [T] []->bD h' e cls d (some T) .none->Q () {s with heap:=h'}):ν M A (setFlight (.ref e) none) Q E s:=by
 obtain⟨oe,vs,he,hc,hdx,hd,h1,hz,h2,hT⟩:=F;obtain⟨Ϻ,oT,ws,t1,t2,t3⟩:=hT T rfl;have h3:3<ws.size:=(ajl.mp t3).1;refine wpAny_setFlight_none he hd h1 t1 t2 h3 (k _ ⟨λb o q _ n=>?_,λb o q n=>⟨o.slots,?_⟩,λb o q=>?_⟩ ?_)
 .rw[aci _ _ (λz=>n (by simp[z]))];exact q
 .rw[aci _ _ (λz=>n (by simp[z]))];exact q
 .by_cases z:b=T
  .subst z;exact⟨_,afS _ t1 (Obj.isFreed_of_fields (Obj.data_mapFields t2 _))⟩
  .exact⟨o,by rw[aci _ _ (Ne.symm z)];exact q⟩
 .refine⟨oe,vs,?_,hc,hdx,hd,h1,hz,h2.stay λv o ws hv q1 q2=>?_,λT' eT=>?_⟩
  .rw[aci _ _ Ϻ];exact he
  .by_cases z:v=T
   .subst z;rw[t1]at q1;cases q1;exact⟨_,_,afS _ t1 (Obj.isFreed_of_fields (Obj.data_mapFields t2 _)),Obj.data_mapFields q2 _,by rw[aiu (by decide)]⟩
   .exact⟨o,ws,by rw[aci _ _ (Ne.symm z)];exact q1,q2,rfl⟩
  .cases eT;exact⟨Ϻ,_,_,afS _ t1 (Obj.isFreed_of_fields (Obj.data_mapFields t2 _)),Obj.data_mapFields t2 _,by simp[h3]⟩
end
section
variable{X:Cx}{ϵ:List (δ×Obj)}{σ:St}{H H':Hp}{s s':μ}
def Ch(X:Cx)(ϵ:List (δ×Obj))(b:δ):Prop:=(b∈X.ex\/X.s₀.heap.get? b=none)/\b≠X.env.locals/\(∀x c,X.env.cells.lookup x=some c->c≠b)/\∀p∈X.pn++ϵ,p.1≠b
theorem Inv.ch(I:Inv X ϵ σ H s){b:δ}(h:s.heap.get? b=none):Ch X ϵ b:=by
 refine⟨?_,λz=>?_,λx c q z=>?_,λp hp z=>?_⟩
 .by_cases hx:b∈X.ex
  .exact .inl hx
  .refine .inr ?_;cases q:X.s₀.heap.get? b with
   |none=>rfl
   |some o=>
    obtain⟨o',q'⟩:=I.base.there b o q hx;rw[h]at q';cases q'
 .obtain⟨_,⟨o,_,_,ho,_⟩,_⟩:=I.loc;rw[<-z,h]at ho;cases ho
 .obtain⟨_,o,ho,_⟩:=I.cell x c q;rw[z,h]at ho;cases ho
 .have :=(I.pin p hp).1;rw[z,h]at this;cases this
theorem Inv.noted{ch:List δ}{h':ϫ}(I:Inv X ϵ σ H s)(N:qW s.heap h' ch (bK X.stack))(hc:∀b∈ch,H b=none/\Ch X ϵ b):Inv X ϵ σ H {s with heap:=h'}:=by
 have iB:∀b u,H b=some u->b∉bK X.stack/\b∉ch:=λb u e=>⟨(λz=>by rw[I.stkFree b z]at e;cases e),(λz=>by rw[(hc b z).1]at e;cases e)⟩
 refine I.call (g':=s.gens) (d':=s.drawn) (t':=s.toks) (ch:=ch) (h':=h') ⟨λb o e _ hb hx=>N.keep b o e hb hx,λb o e _ _ hx=>N.slot b o e hx,λ_ _ _ n _=>n,λb o e _=>N.there b o e,λ_ _ e=>e,λ_ _ _ e=>e,λb ps e=>⟨#[],by rw[e];simp⟩⟩ ?_ I.bare λb hb=>(hc b hb).2
 intro b u e;refine(I.hok b u e).stay (λc v hcv q=>?_) (λ_ q=>q) λ_ _ q=>q
 obtain z|z:=hcv
 .subst z;exact N.keep c v q (iB c u e).1 (iB c u e).2
 .exact N.keep c v q (iB c _ z).1 (iB c _ z).2
def pN(X:Cx)(ϵ:List (δ×Obj))(σ:St)(H:Hp)(s:μ)(e:δ)(cls:ε)(d:Option δ×Bool):Prop:=
 Inv X ϵ σ H s/\∃tb fl,bD s.heap e cls d tb fl/\(fl=.none\/(fl=rawInt X.env.locals/\tb.isSome=true))/\∀b∈e::tb.toList,H b=none/\Ch X ϵ b
def aZ(X:Cx)(Kx:St->XK):=∀(ϵ:List (δ×Obj))(σ:St)(H:Hp)(s:μ)(e:δ)(cls:ε)(d:Option δ×Bool),pN X ϵ σ H s e cls d->Kx σ cls d H->X.xe (.ref e) s
theorem Inv.flown{E:XK}{x:ε}(I:Inv X ϵ σ H s)(c:bH X.prog X.w X.stack H s E x s'):∃e cls d H',x=.ref e/\pN X ϵ σ H' s' e cls d/\E cls d H':=by
 obtain⟨e,tb,cls,d,H',rfl,os,bare,un,hok,F,ch,q⟩:=c;have I':Inv X ϵ σ H' s':=I.call' (ch:=[]) os un hok bare λb z=>absurd z (by simp)
 exact⟨e,cls,d,H',rfl,⟨I',tb,.none,F,.inl rfl,λb hb=>⟨(ch b hb).1,I.ch (ch b hb).2⟩⟩,q⟩
theorem Kd(h:X.xe=λ_ _=>False):aZ X (λ_ _ _ _=>False):=λ_ _ _ _ _ _ _ _ z=>z.elim
theorem pN.note{M:Model}{E:ε->μ->Prop}{e:δ}{cls:ε}{d:Option δ×Bool}{Q:Unit->μ->Prop}(x:pN X ϵ σ H s e cls d)(hst:X.stack=X.env::X.outer)(hf:X.env.frame=some X.env.locals)(k:∀s' T,Inv X ϵ σ H s'->bD s'.heap e cls d (some T) (rawInt X.env.locals)->(∀b∈[e,T],H b=none/\Ch X ϵ b)->Q () s'):ν M X.A (noteFrame (.ref e) X.env) Q E s:=by
 obtain⟨I,tb,fl,F,hfl,ch⟩:=x;obtain z|⟨z,ht⟩:=hfl
 .subst z;have hl:=I.stack;rw[hst]at hl;refine aaQ (base:=X.base) (I.ok.frames.trans (by rw[hst])) hl hf F λh' T N hT F'=>k _ T (I.noted (by rw[hst];exact N) ch) F' λb hb=>?_
  obtain z|z:=ϴ.mp hb
  .subst z;exact ch _ aeM
  .have z':b=T:=by simpa using z
   subst z';exact⟨I.hok.fresh hT,I.ch (aiP hT)⟩
 .subst z;cases tb with
  |none=>cases ht
  |some T=>exact abg hf F rfl (k s T I F ch)
theorem Inv.off{M:Model}{E:ε->μ->Prop}{e T:δ}{cls:ε}{d:Option δ×Bool}{fl:ε}{Q:Unit->μ->Prop}(I:Inv X ϵ σ H s)(F:bD s.heap e cls d (some T) fl)(hc:∀b∈[e,T],H b=none/\Ch X ϵ b)(k:∀s',Inv X ϵ σ H s'->bD s'.heap e cls d (some T) .none->Q () s'){A:ϰ}:ν M A (setFlight (.ref e) none) Q E s:=by
 refine Vn F λh' N F'=>k _ (I.noted (ch:=[T]) ⟨λb o q _ n=>N.keep b o q (by simp) n,N.slot,N.there⟩ λb hb=>?_) F'
 have z:b=T:=by simpa using hb
 subst z;exact hc b (by simp)
end
theorem Λ{cc:Bool}{P:ϯ}{w:ϭ}{K:Ϩ}{mg:Str->Option ε}{base:ϫ}{N:List Str}{qual:Str}{scope:ahI}{f:δ}{cd:ε}{A:ϰ}{outer:List Env}{s₀:μ}{H₀:Hp}{E:XK}:aZ (ji cc (bH P w) P w K mg base N qual scope f cd A outer s₀ H₀ E) (λ_=>E):=by
 intro ϵ σ H s e cls d x q;show ν _ _ (leaving _ _) _ _ s;unfold leaving;refine ϩ (x.note rfl rfl λs1 T I1 F1 c1=>?_);refine I1.off F1 c1 λs2 I2 F2=>?_
 refine⟨e,some T,cls,d,H,rfl,I2.os,I2.bare,I2.base,I2.hok,F2,λb hb=>?_,q⟩;have z:=c1 b (by simpa using hb);refine⟨z.1,?_⟩;obtain y|y:=z.2.1
 .exact absurd (show b∈([]:List δ)from y) (by simp)
 .exact y
theorem XF{cc:Bool}{P:ϯ}{w:ϭ}{K:Ϩ}{mg:Str->Option ε}{base:ϫ}{N:List Str}{qual:Str}{scope:ahI}{f:δ}{cd:ε}{A:ϰ}{outer:List Env}{s₀:μ}{H₀:Hp}{E:XK}:alC (Ϧ P w) (A.deeper (envOfC qual scope s₀.heap.objs.size f cd)) (envOfC qual scope s₀.heap.objs.size f cd) (ji cc (bH P w) P w K mg base N qual scope f cd A outer s₀ H₀ E).xe:=PassesOwn.leaving
section
variable{X:Cx}{Kx:St->XK}{cc:Bool}{k k':Nat}{f C:δ}{fd:air}{ps:List Str}{sp:Sp}{x m:Str}{p pos apos:Pos}{e o:π}{es:List π}{σ:St}{H:Hp}{Q:VK}
theorem qi{ϵ:List (δ×Obj)}{s:μ}{us:List ε}{vs:List V}(F:cC X.prog X.w X.K X.mg X.base (bH X.prog X.w) cc k f fd ps sp)(hr:ό cc k X.A)(hb:Binds X.K fd ps [])(hx:aZ X Kx)(I:Inv X ϵ σ H s)(r:Vals vs us)(h:sp vs H Q (Kx σ)):ν (Ϧ X.prog X.w) X.A (call (.ref f) us) (EP X ϵ σ Q) X.xe s:=by
 have hl:us.length=ps.length:=by rw[<-r.length];exact F.len _ _ _ _ h
 have hb':=hb s us I.kIn (by simpa using hl);rw[List.append_nil]at hb';refine wpAny_call (aiT (F.run X.A X.stack s H ⟨us,[]⟩ us vs Q (Kx σ) hr I.env0 hb' r h) λr s' hq=>?_);cases r with
 |error e=>
  obtain⟨a,cls,d,H',rfl,xa,q⟩:=I.flown hq;exact hx ϵ σ H' s' a cls d xa q
 |ok fl=>
  cases fl with
  |ret u=>exact I.after hq
  |next=>exact False.elim hq
  |brk=>exact False.elim hq
  |cont=>exact False.elim hq
end
def EV(X:Cx)(e:π)(σ:St)(H:Hp)(Q:VK):Prop:=
 ∀(ϵ:List (δ×Obj))(s:μ),Inv X ϵ σ H s->ν (Ϧ X.prog X.w) X.A (eval e X.env) (EP X ϵ σ Q) X.xe s
def ET(X:Cx)(e:π)(σ:St)(H:Hp)(Q:Bool->Hp->Prop):Prop:=
 ∀(ϵ:List (δ×Obj))(s:μ),Inv X ϵ σ H s->ν (Ϧ X.prog X.w) X.A (isTrue e X.env (eval e X.env)) (TP X ϵ σ Q) X.xe s
def EW(X:Cx)(e:π)(σ:St)(H:Hp)(Q:Bool->Hp->Prop):Prop:=
 ∀(whole:Sem ε)(ϵ:List (δ×Obj))(s:μ),Inv X ϵ σ H s->ν (Ϧ X.prog X.w) X.A (isTrue e X.env whole) (TP X ϵ σ Q) X.xe s
def EA(X:Cx)(es:List π)(σ:St)(H:Hp)(Q:List V->Hp->Prop):Prop:=
 ∀(pos:Pos)(ϵ:List (δ×Obj))(s:μ),Inv X ϵ σ H s->ν (Ϧ X.prog X.w) X.A (spliced (backTo pos (Ϭ es X.env))) (AP X ϵ σ Q) X.xe s
def EO(X:Cx)(e:Option π)(σ:St)(H:Hp)(Q:Option Int->Hp->Prop):=∃t,PO X e t/\t σ H Q
def SX(X:Cx)(st:ϧ)(D:Ends)(σ:St)(H:Hp):Prop:=
 ∀(ϵ:List (δ×Obj))(s:μ),Inv X ϵ σ H s->ν (Ϧ X.prog X.w) X.A (exec st X.env) (SP X ϵ D) X.xe s
def Ψ(X:Cx)(st:List ϧ)(D:Ends)(σ:St)(H:Hp):Prop:=
 ∀(ϵ:List (δ×Obj))(s:μ),Inv X ϵ σ H s->ν (Ϧ X.prog X.w) X.A (execs st X.env) (SP X ϵ D) X.xe s
def EG(X:Cx)(tg:π)(v:V)(σ:St)(H:Hp)(Q:St->Hp->Prop):Prop:=
 ∀(ϵ:List (δ×Obj))(s:μ)(u:ε),Inv X ϵ σ H s->RelV v u->ν (Ϧ X.prog X.w) X.A (assign tg X.env u) (λ_ s'=>∃σ' H',Inv X ϵ σ' H' s'/\Q σ' H') X.xe s
def nJ(X:Cx)(ts:List π)(vs:List V)(σ:St)(H:Hp)(Q:St->Hp->Prop):Prop:=
 ∀(ϵ:List (δ×Obj))(s:μ)(us:List ε),Inv X ϵ σ H s->Vals vs us->ν (Ϧ X.prog X.w) X.A (assignInOrder ((akH ts X.env).map (·.2)) us) (λ_ s'=>∃σ' H',Inv X ϵ σ' H' s'/\Q σ' H') X.xe s
def EI(X:Cx)(tg iter:π)(σ:St)(H:Hp)(R:It->Hp->Prop):Prop:=
 ∀(ϵ:List (δ×Obj))(s:μ),Inv X ϵ σ H s->
  ν (Ϧ X.prog X.w) X.A (eval iter X.env) (λv s1=>ν (Ϧ X.prog X.w) X.A (pyIter v) (v5 X ϵ σ tg R) X.xe s1) X.xe s
def OP(X:Cx)(f:ε->ε->Sem ε)(x y:V)(H:Hp)(Q:VK):=∃r,ϙ X f r/\r x y H Q
def UN(X:Cx)(f:ε->Sem ε)(x:V)(H:Hp)(Q:VK):=∃r,qP X f r/\r x H Q
def CL(X:Cx)(f:ε)(xs:List V)(H:Hp)(Q:VK):=∃r,dI X f r/\r xs H Q
def IX(X:Cx)(x y:V)(H:Hp)(Q:VK):=∃r,jL X r/\r x y H Q
def SL(X:Cx)(x:V)(lo hi:Option Int)(H:Hp)(Q:VK):=∃r,qp X r/\r x lo hi H Q
def MT(X:Cx)(id:String)(x:V)(xs:List V)(H:Hp)(Q:VK):=∃r,uH X id r/\r x xs H Q
section
variable{X:Cx}{a b c e:π}{es:List π}{σ:St}{H:Hp}{Q:VK}{QT:Bool->Hp->Prop}{QA:List V->Hp->Prop}{D:Ends}{pos p apos:Pos}{x:Str}{v:V}
theorem ϋ:PE X e (EV X e):=λϵ s _ _ _ I h=>h ϵ s I
theorem jt:PT X e (ET X e):=λϵ s _ _ _ I h=>h ϵ s I
theorem Bu:PW X e (EW X e):=λwhole ϵ s _ _ _ I h=>h whole ϵ s I
theorem lu:PA X es (EA X es):=λpos ϵ s _ _ _ I h=>h pos ϵ s I
theorem M5{o:Option π}:PO X o (EO X o):=λϵ s σ H Q I ⟨_,h,q⟩=>h ϵ s σ H Q I q
theorem Qz{st:ϧ}:PS X st (SX X st):=λϵ s _ _ _ I h=>h ϵ s I
theorem lG{st:List ϧ}:fX X st (Ψ X st):=λϵ s _ _ _ I h=>h ϵ s I
theorem KH{tg:π}:PG X tg (EG X tg):=λϵ s _ _ _ u _ I r h=>h ϵ s u I r
theorem Lg{ts:List π}:nU X ts (nJ X ts):=λϵ s _ _ _ us _ I r h=>h ϵ s us I r
theorem ah9{tg iter:π}:PI X tg iter (EI X tg iter):=λϵ s _ _ _ I h=>h ϵ s I
theorem lA{f:ε->ε->Sem ε}:ϙ X f (OP X f):=λϵ s σ H x y v u Q I rx ry ⟨_,h,q⟩=>h ϵ s σ H x y v u Q I rx ry q
theorem Vg{f:ε->Sem ε}:qP X f (UN X f):=λϵ s σ H x v Q I rx ⟨_,h,q⟩=>h ϵ s σ H x v Q I rx q
theorem Oe{f:ε}:dI X f (CL X f):=λϵ s σ H xs us Q I rx ⟨_,h,q⟩=>h ϵ s σ H xs us Q I rx q
theorem aaK:jL X (IX X):=λva sl ϵ s σ H x y v u Q I rx ry ⟨_,h,q⟩ hs=>h va sl ϵ s σ H x y v u Q I rx ry q hs
theorem Wo:qp X (SL X):=λϵ s σ H x v vl vu lo hi sl Q I rx hs pl pu ⟨_,h,q⟩=>h ϵ s σ H x v vl vu lo hi sl Q I rx hs pl pu q
theorem abp{id:String}:uH X id (MT X id):=λϵ s σ H x xs v us Q I rx rs ⟨_,h,q⟩=>h ϵ s σ H x xs v us Q I rx rs q
theorem Ϥ{t:TE}(h:PE X e t)(q:t σ H Q):EV X e σ H Q:=λϵ s I=>h ϵ s σ H Q I q
theorem qC{t:TT}(h:PT X e t)(q:t σ H QT):ET X e σ H QT:=λϵ s I=>h ϵ s σ H QT I q
theorem JG{t:TA}(h:PA X es t)(q:t σ H QA):EA X es σ H QA:=λpos ϵ s I=>h pos ϵ s σ H QA I q
theorem jd{st:ϧ}{t:TS}(h:PS X st t)(q:t D σ H):SX X st D σ H:=λϵ s I=>h ϵ s σ H D I q
theorem Bp{st:List ϧ}{t:TS}(h:fX X st t)(q:t D σ H):Ψ X st D σ H:=λϵ s I=>h ϵ s σ H D I q
theorem DK{tg:π}{t:TG}{QG:St->Hp->Prop}(h:PG X tg t)(q:t v σ H QG):EG X tg v σ H QG:=λϵ s u I r=>h ϵ s σ H v u QG I r q
theorem Ou{ts:List π}{t:jr}{vs:List V}{QG:St->Hp->Prop}(h:nU X ts t)(q:t vs σ H QG):nJ X ts vs σ H QG:=λϵ s us I r=>h ϵ s σ H vs us QG I r q
theorem Iv{tg iter:π}{t:TI}{R:It->Hp->Prop}(h:PI X tg iter t)(q:t σ H R):EI X tg iter σ H R:=λϵ s I=>h ϵ s σ H R I q
def iR:List Str->St->Str->Option V
 |n::N,o::σ,x=>if n=x then o else iR N σ x
 |_,_,_=>none
theorem Bw:∀{N:List Str}{σ:St}{x:Str}{v:V},iR N σ x=some v->∃i:Nat,N[i]?=some x/\σ[i]?=some (some v)
 |n::N,o::σ,x,v,h=>by
  unfold iR at h;split at h
  .rename_i e;exact⟨0,by simp[e],by simp[h]⟩
  .obtain⟨i,h1,h2⟩:=Bw h;exact⟨i+1,by simpa using h1,by simpa using h2⟩
 |[],_,_,_,h=>by simp[iR]at h
 |_::_,[],_,_,h=>by simp[iR]at h
def nameAt:List Str->Str->Option Nat
 |n::N,x=>if n=x then some 0 else(nameAt N x).map (· +1)
 |[],_=>none
theorem pU:∀{N:List Str}{x:Str}{i:Nat},nameAt N x=some i->N[i]?=some x
 |n::N,x,i,h=>by
  unfold nameAt at h;split at h
  .rename_i e;cases h;simp[e]
  .cases q:nameAt N x with
   |none=>rw[q]at h;cases h
   |some j=>
    rw[q]at h;cases h;simpa using pU q
 |[],_,_,h=>by simp[nameAt]at h
theorem XJ(hn:iR X.N σ x=some v)(hv:v7 X.env.scope x)(q:Q v H)(hd:(x==("__debug__":Str))=false)(hcd:(x==("__classdict__":Str))=false):EV X (.Name x pos) σ H Q:=by
 obtain⟨i,h1,h2⟩:=Bw hn;exact Ϥ (aed h1 hv hd hcd) ⟨v,h2,q⟩
def Gc(mg:Str->Option ε)(x:Str)(v:V):=∃u,mg x=some u/\RelV v u
theorem YS(g:Gc X.mg x v)(hg:Gl X x)(q:Q v H)(hd:(x==("__debug__":Str))=false):EV X (.Name x pos) σ H Q:=by
 obtain⟨u,h1,h2⟩:=g;exact Ϥ (Ln hg h1 h2 hd) q
theorem yX{T:String}(hg:Gl X x)(hm:X.mg x=none)(hv:bootBuiltins x=some (.type T))(q:Q (.ty T) H)(hn:x≠"__name__")(hd:(x==("__debug__":Str))=false):EV X (.Name x pos) σ H Q:=
 Ϥ (ab5 hg hm hv (v:=.ty T) rfl hn hd) q
theorem Y8{i:Int}{j}(q:Q (.int i) H):EV X (.Constant (.int i) j pos) σ H Q:=Ϥ acn q
theorem W0{i:Bool}{j}(q:Q (.bl i) H):EV X (.Constant (.bool i) j pos) σ H Q:=Ϥ ain q
theorem YC{j}(q:Q .non H):EV X (.Constant .none j pos) σ H Q:=Ϥ afn q
theorem Hz{i:Str}{j}(q:Q (.str i) H):EV X (.Constant (.str i) j pos) σ H Q:=Ϥ abD q
theorem U8{op:Operator}(h:EV X a σ H λx H1=>EV X b σ H1 λy H2=>OP X (binaryOp op) x y H2 Q):EV X (.BinOp a op b pos) σ H Q:=Ϥ (aht lA ϋ ϋ) h
theorem T7{op:UnaryOp}(h:EV X a σ H λx H1=>UN X (unaryOp op) x H1 Q):EV X (.UnaryOp op a pos) σ H Q:=Ϥ (WY Vg ϋ) h
theorem aic{op:CmpOp}(hm:behindInMarks op b=false)(h:EV X a σ H λx H1=>EV X b σ H1 λy H2=>OP X (adH op) x y H2 Q):EV X (.Compare a [op] [b] pos) σ H Q:=Ϥ (ahx lA ϋ ϋ hm) h
theorem VG{op:CmpOp}(hm:behindInMarks op b=false)(h:EV X a σ H λx H1=>EV X b σ H1 λy H2=>OP X (adH op) x y H2 λz H3=>∃k,z=.bl k/\QT k H3):ET X (.Compare a [op] [b] pos) σ H QT:=qC (R5 lA ϋ ϋ hm) h
theorem W8{op op':CmpOp}(hm:lastMarks [op,op'] [b,c]=false)(h:EV X a σ H λx H1=>EV X b σ H1 λy H2=>OP X (adH op) x y H2 λz H3=>∃k,z=.bl k/\(if k=true then EV X c σ H3 λw' H4=>OP X (adH op') y w' H4 Q else Q (.bl false) H3)):EV X (.Compare a [op,op'] [b,c] pos) σ H Q:=Ϥ (aio lA lA ϋ ϋ ϋ hm) h
theorem SJ{op op':CmpOp}(hm:lastMarks [op,op'] [b,c]=false)(h:EV X a σ H λx H1=>EV X b σ H1 λy H2=>OP X (adH op) x y H2 λz H3=>∃k,z=.bl k/\(if k=true then EV X c σ H3 λw' H4=>OP X (adH op') y w' H4 λz' H5=>∃k',z'=.bl k'/\QT k' H5 else ∃k',V.bl false=.bl k'/\QT k' H3)):ET X (.Compare a [op,op'] [b,c] pos) σ H QT:=qC (aiz lA lA ϋ ϋ ϋ hm) h
theorem ql(he:∀whole,isTrue e X.env whole=(do let v<-whole;standAt e.pos;holding [v] (truthy v)))(h:EV X e σ H λx H'=>∃k,sO X.K x H' k/\QT k H'):ET X e σ H QT:=qC (ahh ϋ he) h
theorem W7(h:ET X a σ H λk H1=>QT (!k) H1):ET X (.UnaryOp .Not a pos) σ H QT:=qC (agQ jt) h
theorem Le(h:EW X e σ H QT):ET X e σ H QT:=qC Bu.pt h
theorem rQ{t:TT}(h:PW X e t)(q:t σ H QT):EW X e σ H QT:=λwhole ϵ s I=>h whole ϵ s σ H QT I q
theorem YF{rest:List π}(h:ET X a σ H λk H1=>if k=true then EW X (.BoolOp .And (b::rest) pos) σ H1 QT else QT false H1):EW X (.BoolOp .And (a::b::rest) pos) σ H QT:=rQ (Vi jt Bu) h
theorem af1{rest:List π}(h:ET X a σ H λk H1=>if k=true then QT true H1 else EW X (.BoolOp .Or (b::rest) pos) σ H1 QT):EW X (.BoolOp .Or (a::b::rest) pos) σ H QT:=rQ (agZ jt Bu) h
theorem Vs(h:ET X a σ H QT):EW X (.BoolOp .And [a] pos) σ H QT:=rQ (agy jt) h
theorem ZM(h:ET X a σ H QT):EW X (.BoolOp .Or [a] pos) σ H QT:=rQ (ahm jt) h
theorem aei{op}(h:EV X a σ H Q):EV X (.BoolOp op [a] pos) σ H Q:=Ϥ (afo ϋ) h
theorem ab0{rest:List π}(h:EV X a σ H λx H1=>∃k,x=.bl k/\if k=true then EV X (.BoolOp .And (b::rest) pos) σ H1 Q else Q (.bl false) H1):EV X (.BoolOp .And (a::b::rest) pos) σ H Q:=Ϥ (Vd ϋ ϋ) h
theorem aer{rest:List π}(h:EV X a σ H λx H1=>∃k,x=.bl k/\if k=true then Q (.bl true) H1 else EV X (.BoolOp .Or (b::rest) pos) σ H1 Q):EV X (.BoolOp .Or (a::b::rest) pos) σ H Q:=Ϥ (aej ϋ ϋ) h
theorem Xu(h:EV X a σ H λx H1=>∃k,x=.bl k/\Q (.bl (!k)) H1):EV X (.UnaryOp .Not a pos) σ H Q:=Ϥ (abw ϋ) h
theorem adZ(h:ET X c σ H λk H1=>if k=true then EV X a σ H1 Q else EV X b σ H1 Q):EV X (.IfExp c a b pos) σ H Q:=Ϥ (RT jt ϋ ϋ) h
theorem gM(q:QA [] H):EA X [] σ H QA:=JG Ri q
theorem gZ(hs:Ϭ (e::es) X.env=(false,eval e X.env)::Ϭ es X.env)(h:EV X e σ H λx H1=>EA X es σ H1 λxs H2=>QA (x::xs) H2):EA X (e::es) σ H QA:=JG (ahF ϋ lu hs) h
theorem Xj{x1}(h:EA X es σ H λxs H1=>xs.length<=Ϫ/\∀p,H1 p=none->Q (.ref p) (upd H1 p (.tup xs))):EV X (.Tuple es x1 pos) σ H Q:=Ϥ (Wd lu) h
theorem Xc(h:EA X es σ H λxs H1=>xs.length<=Ϫ/\∀p,H1 p=none->Q (.ref p) (upd H1 p (.lst xs))):EV X (.List es pos) σ H Q:=Ϥ (aef lu) h
theorem ou{id:String}(hg:Gl X x)(hm:X.mg x=none)(hv:bootBuiltins x=some (.builtin id))(hn:x≠"__name__")(hdb:(x==("__debug__":Str))=false)(he:Ϭ (e::es) X.env=(false,eval e X.env)::Ϭ es X.env)(hpl:(backTo pos (Ϭ es X.env)).any (·.1)=false)(h:EA X (e::es) σ H λvs H1=>CL X (.builtin id) vs H1 Q):EV X (.Call (.Name x p) (e::es) [] pos) σ H Q:=
 Ϥ (aie Oe hg hm hv lu hn hdb he hpl) h
theorem pZ{T:String}(hg:Gl X x)(hm:X.mg x=none)(hv:bootBuiltins x=some (.type T))(hn:x≠"__name__")(hdb:(x==("__debug__":Str))=false)(he:Ϭ (e::es) X.env=(false,eval e X.env)::Ϭ es X.env)(hpl:(backTo pos (Ϭ es X.env)).any (·.1)=false)(h:EA X (e::es) σ H λvs H1=>CL X (.type T) vs H1 Q):EV X (.Call (.Name x p) (e::es) [] pos) σ H Q:=
 Ϥ (aeo Oe hg hm hv lu hn hdb he hpl) h
structure Def(P:ϯ)(w:ϭ)(K:Ϩ)(mg:Str->Option ε)(base:ϫ)(cc:Bool)(k:Nat)(x:Str)(ps:List Str)(sp:Sp):Prop where
 ex:∃f fd,mg x=some (.ref f)/\alF K (.ref f)=true/\Binds K fd ps []/\cC P w K mg base (bH P w) cc k f fd ps sp
theorem ό.mH{cc aP:Bool}{k:Nat}{A:ϰ}(r:ό cc k A)(h:aP=true->cc=true):ό aP k A:=⟨λz=>r.hd (h z),r.dp,r.un⟩
theorem aap{Kx:St->XK}{cc aP:Bool}{k k':Nat}{ps:List Str}{sp:Sp}(F:Def X.prog X.w X.K X.mg X.base aP k x ps sp)(hr:ό cc k' X.A)(hk:k<=k')(hcc:aP=true->cc=true)(hg:Gl X x)(hx:aZ X Kx)(hdb:(x==("__debug__":Str))=false)(he:Ϭ (e::es) X.env=(false,eval e X.env)::Ϭ es X.env)(hpl:(backTo pos (Ϭ es X.env)).any (·.1)=false)(h:EA X (e::es) σ H λvs H1=>sp vs H1 Q (Kx σ)):EV X (.Call (.Name x p) (e::es) [] pos) σ H Q:=by
 obtain⟨f,fd,h1,h2,h3,h4⟩:=F.ex;intro ϵ s I;refine ajk (jY I hg h1 ?_ hdb);refine amC (h₀:=X.base) I.ok.mod.kin h2 (ρ (h pos ϵ s I) λus s1 ⟨vs,H1,I1,r,q⟩=>⟨I1.kIn,?_⟩) he hpl;exact qi h4 ((hr.mono hk).mH hcc) h3 hx I1 r q
theorem ahX(hs:En b)(h:EV X a σ H λx H1=>EV X b σ H1 λy H2=>IX X x y H2 Q):EV X (.Subscript a b pos) σ H Q:=Ϥ (aeR aaK ϋ ϋ hs) h
theorem Ro{QO:Option Int->Hp->Prop}(q:QO none H):EO X none σ H QO:=⟨_,acY,q⟩
theorem abn{QO:Option Int->Hp->Prop}(q:EV X e σ H λx H1=>∃i,x=.int i/\QO (some i) H1):EO X (some e) σ H QO:=⟨_,R7 ϋ,q⟩
theorem Z1{lo hi:Option π}{p2:Pos}(h:EV X a σ H λx H1=>EO X lo σ H1 λl H2=>EO X hi σ H2 λu H3=>SL X x l u H3 Q):EV X (.Subscript a (.Slice lo hi none p2) pos) σ H Q:=Ϥ (ZQ Wo ϋ M5 M5) h
theorem d8{T id:String}{name:Str}(pa:PlainAttrs T)(slot:Slot T name id)(hty:typeOf (.builtin id)=pure (.type "method_descriptor"))(hbase:attributeBase a name X.env (eval a X.env)=eval a X.env:=by rfl)(hfew:((backTo pos (Ϭ (e::es) X.env)).all (λx=> !x.1)&&(backToKw pos (keywordEach [] X.env)).all (λx=>x.1.isSome)
   &&decide ((e::es).length+([]:List Keyword).length+(if([]:List Keyword).isEmpty then 0 else 1)<30))=true:=by rfl)(hline:(apos.endLine==pos.line)=true:=by rfl)(hs:Ϭ (e::es) X.env=(false,eval e X.env)::Ϭ es X.env:=by rfl)(hplain:(backTo pos (Ϭ es X.env)).any (·.1)=false:=by rfl)(h:EV X a σ H λx H1=>rE X.K T x H1/\EA X (e::es) σ H1 λxs H2=>MT X id x xs H2 Q):EV X (.Call (.Attribute a name apos) (e::es) [] pos) σ H Q:=
 Ϥ (adA pa slot hty abp ϋ lu hbase hfew hline hs hplain) h
theorem Δ(q:D.nx σ H):Ψ X [] D σ H:=Bp acj q
theorem ξ{st:ϧ}{rest:List ϧ}(h:SX X st {D with nx:=λσ' H'=>Ψ X rest D σ' H'} σ H):Ψ X (st::rest) D σ H:=Bp (V8 Qz lG) h
theorem ω{st:ϧ}(h:SX X st D σ H):Ψ X [st] D σ H:=Bp (abZ Qz) h
theorem abd(q:D.bk σ H):SX X (.Break pos) D σ H:=jd aaE q
theorem aQ(hs:ajq e none pos.line X.env=pure false)(h:EV X e σ H λ_ H1=>D.nx σ H1):SX X (.Expr e pos) D σ H:=jd (aiA ϋ hs) h
theorem Κ(h:EV X e σ H D.rt):SX X (.Return (some e) pos) D σ H:=jd (adC ϋ) h
theorem Qf(h:D.rt .non H):SX X (.Return none pos) D σ H:=jd YG h
theorem ϓ{t u:List ϧ}(h:ET X c σ H λk H1=>if k=true then Ψ X t D σ H1 else Ψ X u D σ H1):SX X (.If c t u pos) D σ H:=jd (aaV jt lG lG) h
theorem agE{i:Nat}{p':Pos}(hN:X.N.Nodup)(hi:nameAt X.N x=some i)(hx:Loc X.env.scope x)(hs:ajq e (some (.Name x p')) pos.line X.env=pure false)(hf:X.fn x=true\/X.env.scope.names.lookup x=some .local)(h:EV X e σ H λv H1=>D.nx (σ.set i (some v)) H1):SX X (.Assign [.Name x p'] e pos) D σ H:=jd (ahC hN (pU hi) hx ϋ hs hf) h
theorem Ρ{i:Nat}{QG:St->Hp->Prop}(hN:X.N.Nodup)(hi:nameAt X.N x=some i)(hx:Loc X.env.scope x)(hf:X.fn x=true\/X.env.scope.names.lookup x=some .local)(q:QG (σ.set i (some v)) H):EG X (.Name x pos) v σ H QG:=
 DK (aa4 hN (pU hi) hx hf) q
theorem cu{QG:St->Hp->Prop}(q:QG σ H):nJ X [] [] σ H QG:=Ou afC ⟨rfl,q⟩
theorem ϛ{ts:List π}{vs:List V}{QG:St->Hp->Prop}(hs:(akH (e::ts) X.env).map (·.2)=assign e X.env::(akH ts X.env).map (·.2))(h:EG X e v σ H λσ' H'=>nJ X ts vs σ' H' QG):nJ X (e::ts) (v::vs) σ H QG:=
 Ou (agP KH Lg hs) ⟨v,vs,rfl,h⟩
theorem cG{n:Nat}{k:Nat}{QG:St->Hp->Prop}{q:δ}{xs:List V}(hc:X.calm=true)(hn:(akH es X.env).length=n)(hst:(akH es X.env).findIdx? (·.1)=none)(ht:Β X.K H q xs)(hl:xs.length=n)(h:nJ X es xs σ H QG):EG X (.Tuple es k pos) (.ref q) σ H QG:=
 DK (Yh hc Lg hn hst) ⟨q,xs,rfl,ht,hl,h⟩
theorem sZ{tg iter:π}{body:List ϧ}(hp:alC (Ϧ X.prog X.w) X.A X.env X.xe)(hc:X.calm=true)(hs:∀x,foldedSetIterable iter X.env x=pure x)(h:EI X tg iter σ H λJ H1=>∃W:Nat->Nat->St->Hp->Prop,(∃m,W 0 m σ H1)/\∀i m σ H,W i m σ H->
   (J.stop i H/\D.nx σ H)\/(J.go i H/\∃N:St->Hp->Prop,(∀σ' H',N σ' H'->∃m',m'<m/\W (i+1) m' σ' H')/\∀x H',J.yld i H x H'->EG X tg x σ H' λσ2 H2=>Ψ X body {D with nx:=N,ct:=N,bk:=D.nx} σ2 H2)):SX X (.For tg iter body [] pos) D σ H:=jd (aeJ hp hc ah9 KH lG hs) h
theorem lR{tg l:π}{R:It->Hp->Prop}(h:EV X l σ H λx H1=>∃a,x=.ref a/\(∃xs,η X.K H1 a xs)/\R (gk X.K a) H1):EI X tg l σ H R:=Iv (Wt ϋ) h
theorem adl{tg:π}{R:It->Hp->Prop}(hg:Gl X "range")(hm:X.mg "range"=none)(hs:Ϭ [a] X.env=[(false,eval a X.env)])(h:EA X [a] σ H λvs H1=>∃j:Int,vs=[.int j]/\ -(2^62)<=j/\j<2^62/\R (jf 0 j.toNat) H1):EI X tg (.Call (.Name "range" p) [a] [] pos) σ H R:=Iv (adE hg hm lu hs) h
theorem aF{Q':VK}(h:EV X e σ H Q)(m:∀v H',Q v H'->Q' v H'):EV X e σ H Q':=λϵ s I=>ρ (h ϵ s I) λ_ _ ⟨v,H',I',r,q⟩=>⟨v,H',I',r,m v H' q⟩
theorem bc{f:ε->ε->Sem ε}{r:R2}{y z:V}(h:ϙ X f r)(q:r y z H Q):OP X f y z H Q:=⟨r,h,q⟩
variable{i j:Int}{k k':Bool}{z z':Str}
theorem afu(q:Q (.int (i+j)) H):OP X (binaryOp .Add) (.int i) (.int j) H Q:=bc aaN ⟨i,j,rfl,rfl,q⟩
theorem afG(q:Q (.int (i-j)) H):OP X (binaryOp .Sub) (.int i) (.int j) H Q:=bc afy ⟨i,j,rfl,rfl,q⟩
theorem aaj(c:vg i j)(q:Q (.int (i*j)) H):OP X (binaryOp .Mult) (.int i) (.int j) H Q:=bc aaF ⟨i,j,rfl,rfl,c,q⟩
theorem Xg(c:0<j)(q:Q (.int (i % j)) H):OP X (binaryOp .Mod) (.int i) (.int j) H Q:=bc ah0 ⟨i,j,rfl,rfl,c,q⟩
theorem agr(c:Mr i j)(q:Q (.int (i^j.toNat)) H):OP X (binaryOp .Pow) (.int i) (.int j) H Q:=bc abE ⟨i,j,rfl,rfl,c,q⟩
theorem Sq(q:Q (.bl (decide (i<j))) H):OP X (adH .Lt) (.int i) (.int j) H Q:=bc aiq ⟨i,j,rfl,rfl,q⟩
theorem ab3(q:Q (.bl (decide (i<=j))) H):OP X (adH .LtE) (.int i) (.int j) H Q:=bc aac ⟨i,j,rfl,rfl,q⟩
theorem Zr(q:Q (.bl (decide (j<i))) H):OP X (adH .Gt) (.int i) (.int j) H Q:=bc W4 ⟨i,j,rfl,rfl,q⟩
theorem ac3(q:Q (.bl (decide (j<=i))) H):OP X (adH .GtE) (.int i) (.int j) H Q:=bc adY ⟨i,j,rfl,rfl,q⟩
theorem zB{y z:V}(s:qt y z=true)(q:Q (.bl (decide (y=z))) H):OP X (adH .Eq) y z H Q:=bc agT ⟨s,q⟩
theorem QF{y z:V}(s:qt y z=true)(q:Q (.bl (!decide (y=z))) H):OP X (adH .NotEq) y z H Q:=bc TQ ⟨s,q⟩
theorem agM(q:Q (.bl (decide (z.cps.toList<z'.cps.toList))) H):OP X (adH .Lt) (.str z) (.str z') H Q:=bc ahG ⟨z,z',rfl,rfl,q⟩
theorem aeA(q:Q (.bl (!(Builtin.Str.occurrences z' z 0 z'.length 1).isEmpty)) H):OP X (adH .In) (.str z) (.str z') H Q:=bc Yt ⟨z,z',rfl,rfl,q⟩
theorem Zq{y:V}(q:Q (.bl (decide (y=.non))) H):OP X (adH .Is) y .non H Q:=bc agn ⟨rfl,q⟩
theorem ad2{y:V}(q:Q (.bl (!decide (y=.non))) H):OP X (adH .IsNot) y .non H Q:=bc ait ⟨rfl,q⟩
theorem DP(c:z.length+z'.length<=Ϫ)(q:Q (.str (z++z')) H):OP X (binaryOp .Add) (.str z) (.str z') H Q:=bc Xz ⟨z,z',rfl,rfl,c,q⟩
theorem Yu(q:Q (.int (-i)) H):UN X (unaryOp .USub) (.int i) H Q:=⟨_,acS,i,rfl,q⟩
theorem cX{f:ε}{r:List V->Hp->VK->Prop}{vs:List V}(h:dI X f r)(q:r vs H Q):CL X f vs H Q:=⟨r,h,q⟩
theorem CJ{q:δ}{ys:List V}(h:η X.K H q ys\/ Β X.K H q ys)(g:Q (.int ys.length) H):CL X (.builtin "len") [.ref q] H Q:=cX aaM ⟨q,ys,rfl,h,g⟩
theorem aaz(h:z.length<=Ϫ)(g:Q (.int z.length) H):CL X (.builtin "len") [.str z] H Q:=cX ahu ⟨z,rfl,h,g⟩
theorem Gx(hc:X.calm=true)(g:Q (.int (if j<i then j else i)) H):CL X (.builtin "min") [.int i,.int j] H Q:=cX (Yo hc) ⟨i,j,rfl,g⟩
theorem Wy(g:Q (.int (if i<0 then -i else i)) H):CL X (.builtin "abs") [.int i] H Q:=cX Tw ⟨i,rfl,g⟩
theorem ae5(h:i.natAbs.log2<1920)(g:Q (.str (toString i)) H):CL X (.type "str") [.int i] H Q:=cX acT ⟨i,rfl,h,g⟩
theorem jW{q:δ}{ys:List V}(h:η X.K H q ys\/ Β X.K H q ys)(g:∀l,H l=none->Q (.ref l) (upd H l (.lst ys))):CL X (.type "list") [.ref q] H Q:=cX agB ⟨q,ys,rfl,h,g⟩
theorem tE{r:R2}{y z:V}(h:jL X r)(q:r y z H Q):IX X y z H Q:=⟨r,h,q⟩
theorem ϣ{q:δ}{xs:List V}(h:η X.K H q xs)(e:ϔ xs i=some v)(g:Q v H):IX X (.ref q) (.int i) H Q:=tE Zu ⟨q,xs,i,v,rfl,rfl,h,e,g⟩
theorem aU{q:δ}{xs:List V}(h:Β X.K H q xs)(e:ϔ xs i=some v)(g:Q v H):IX X (.ref q) (.int i) H Q:=tE X3 ⟨q,xs,i,v,rfl,rfl,h,e,g⟩
theorem agX{n:Nat}(h:z.length<=Ϫ)(e:ϔ z.cps.toList i=some n)(g:Q (.str ⟨#[n]⟩) H):IX X (.str z) (.int i) H Q:=tE ahL ⟨z,i,n,rfl,rfl,h,e,g⟩
theorem Bd{q:δ}{xs:List V}{lo hi:Option Int}(h:η X.K H q xs)(g:∀p,H p=none->Q (.ref p) (upd H p (.lst (gW xs lo hi)))):SL X (.ref q) lo hi H Q:=⟨_,Vv,q,xs,rfl,h,g⟩
theorem kY{y:V}{t:ε}{T:String}(ty:aV X.K H y t)(e:anC X.K t (.type T)=some k)(g:Q (.bl k) H):CL X (.builtin "isinstance") [y,.ty T] H Q:=by
 refine⟨λxs H Q=>∃y t T k,xs=[y,.ty T]/\aV X.K H y t/\anC X.K t (.type T)=some k/\Q (.bl k) H,?_,y,t,T,k,rfl,ty,e,g⟩;intro ϵ s σ H xs us Q I r h;obtain⟨y,t,T,k,rfl,ty,e,g⟩:=h;obtain⟨u1,u2,rfl,r1,r2⟩:=vals2 r;cases(show u2=Value.type T from r2);exact ah8 I r1 ty e λtk=>⟨.bl k,H,I.tok tk,rfl,g⟩
end
def Pj(x:Str):It:=⟨λi _=>i<x.cps.size,λi H v H'=>H'=H/\∃c,x.cps[i]?=some c/\v=.str ⟨#[c]⟩,λi _=>x.cps.size<=i⟩
theorem W5{P:ϯ}{w:ϭ}{K:PySem.W.Frag}{tg:π}{T:String}(hT:T="str_ascii_iterator"\/T="str_iterator")(it:δ)(x:Str)(t:Tok):Turn P w K tg (Pj x) [it] it (λi h=>h.IsStrIter it T x t i)where
 mem:=by simp
 obj:=λi h st b hb=>by
  have e:b=it:=by simpa using hb
  subst e;obtain⟨o,e,c,d⟩:=st;exact⟨o,e,λv z=>by rw[d]at z;cases z⟩
 keep:=λi h h' st k=>by
  obtain⟨o,e,c,d⟩:=st;exact⟨o,k it (by simp) o e,c,d⟩
 item:=by
  intro X hP hw hK hc i ϵ s σ H E I hf st hg;subst hP hw hK;obtain⟨f0,f1,f2,f3,f4,f5⟩:=hf it (by simp);have hg':i<x.cps.size:=hg;have hW:∃W:Nat->ϫ->Prop,Walks X.prog X.w X.A it [it] [it] x.cps.size (SignAt x) W/\W=λi h=>h.IsStrIter it T x t i:=by
   obtain rfl|rfl:=hT
   .exact⟨_,Walks.strAscii (I.ok.hd hc) it x t,rfl⟩
   .exact⟨_,Walks.strWide (I.ok.hd hc) it x t,rfl⟩
  obtain⟨_,W,rfl⟩:=hW;refine W.item i s _ _ hg' st λv h' tk hv st' kk=>?_
  obtain⟨c,u,e1,rfl⟩:=hv;have I1:Inv X ϵ σ H {s with heap:=h',toks:=tk}:=I.turned (λb o hb e=>kk b o (by simpa using hb) e) f0 f1 f3 f4 f5;obtain⟨o,e,c',d⟩:=id st';refine⟨_,rfl,vC (s:={s with heap:=h',toks:=tk}) (n:=T) e c' d (by obtain rfl|rfl:=hT<;>decide) ⟨.str ⟨#[c]⟩,H,I1,⟨u,rfl⟩,⟨rfl,c,e1,rfl⟩,st',λb hb=>(hf b hb).1⟩⟩
 done:=by
  intro X hP hw hK hc i ϵ s σ H E I hf st hg;subst hP hw hK;obtain⟨f0,f1,f2,f3,f4,f5⟩:=hf it (by simp);have hg':x.cps[i]?=none:=Array.getElem?_eq_none hg;obtain rfl|rfl:=hT
  .exact wpAny_pyNext_ascii_end (I.ok.hd hc) st hg' λh' eb=>⟨rfl,I.turned (t':=s.toks) (λb o hb e=>eb b o hb e) f0 f1 f3 f4 f5⟩
  .exact wpAny_pyNext_wide_end (I.ok.hd hc) st hg' λh' eb=>⟨rfl,I.turned (t':=s.toks) (λb o hb e=>eb b o hb e) f0 f1 f3 f4 f5⟩
 self:=λ_ _ _ _ _ st h=>by
  obtain rfl|rfl:=hT
  .exact wpAny_pyIter_striter_ascii st h
  .exact wpAny_pyIter_striter_wide st h
section
variable{X:Cx}{tg l:π}{σ:St}{H:Hp}{R:It->Hp->Prop}
theorem abv(h:EV X l σ H λx H1=>∃z,x=.str z/\R (Pj z) H1):EI X tg l σ H R:=by
 intro ϵ s I;refine ρ (h ϵ s I) λv s1 ⟨x,H1,I1,r1,z,e,q⟩=>?_
 subst e;obtain⟨t,rfl⟩:=r1
 have fin:∀T:String,(T="str_ascii_iterator"\/T="str_iterator")->
   v5 X ϵ σ tg R (.ref s1.heap.objs.size) {s1 with heap:=s1.heap.push {cls:=.type T,data:=.fields #[.str z t,.int 0 0]}}:=λT hT=>by
  refine⟨s1.heap.objs.size,[s1.heap.objs.size],_,_,H1,rfl,I1.kept (t':=s1.toks) λb o e=>Heap.get?_push_of_some _ e,W5 hT _ z t,⟨_,abq _ rfl,rfl,rfl⟩,λb hb=>?_,q⟩;have e:b=s1.heap.objs.size:=by simpa using hb
  subst e;exact I1.fpOk (Ϯ _) (I1.hok.fresh (Ϯ _))
 cases ha:z.cps.all (· <128)
 .exact wpAny_pyIter_wide ha (fin _ (.inr rfl))
 .exact wpAny_pyIter_ascii ha (fin _ (.inl rfl))
end
def bj(N' N:List Str)(σ:St)(scope:ahI):St:=N'.map λx=>if scope.names.lookup x=some .free then iR N σ x else none
def aR(X:Cx)(N':List Str)(scope:ahI)(cl:List (Str×δ))(C:δ)(s:μ)(H:Hp)(fp:List δ):Cx:=
 {X with N:=N',s₀:=s,H₀:=H,env:=compEnvC scope cl C X.env,outer:=X.stack,stack:=X.stack,ex:=fp,fn:=λ_=>false,pn:=[],xe:=λ_ _=>False}
def yw(X:Cx)(ifs:List π)(σ:St)(H:Hp)(Q:Bool->Hp->Prop):Prop:=
 ∀(ϵ:List (δ×Obj))(s:μ),Inv X ϵ σ H s->
  ν (Ϧ X.prog X.w) X.A (forIn ifs true λc r=>if r=true then do let ok<-isTrue c X.env (eval c X.env);pure (ForInStep.yield ok)else pure (ForInStep.yield r)) (TP X ϵ σ Q) X.xe s
theorem Dz(env:Env):∀(names:List (Str×alT))(cs:List (Str×δ)),(∀y∈names,y.2=.free->∃c,env.cells.lookup y.1=some c)->
  (forIn names cs (λ(x:Str×alT)(r:List (Str×δ))=>if(x.2==NameKind.free)=true then do let a<-cellOf env x.1;pure (ForInStep.yield ((x.1,a)::r))else pure (ForInStep.yield r)):Sem (List (Str×δ)))=
   pure (names.foldl (λcs y=>if y.2==.free then(y.1,(env.cells.lookup y.1).getD 0)::cs else cs) cs)
 |[],cs,_=>by simp
 |(n,k)::r,cs,h=>by
  rw[List.forIn_cons];by_cases hk:k=.free
  .subst hk;obtain⟨c,e⟩:=h (n,.free) aeM rfl;have e':cellOf env n=pure c:=by
    unfold cellOf;have e2:env.cells.lookup n=some c:=e;rw[e2]
   simp only[beq_self_eq_true,if_true,e',pure_bind];have e2:env.cells.lookup n=some c:=e;rw[Dz env r _ λy hy=>h y (abK _ hy),List.foldl_cons];simp only[beq_self_eq_true,if_true,e2,Option.getD_some]
  .have hb:(k==NameKind.free)=false:=by simpa using hk
   simp only[hb,alS,if_false,pure_bind];rw[Dz env r _ λy hy=>h y (abK _ hy),List.foldl_cons];simp only[hb,alS,if_false]
def ώ(scope:ahI)(env:Env):List (Str×δ):=scope.names.foldl (λcs y=>if y.2==.free then(y.1,(env.cells.lookup y.1).getD 0)::cs else cs) []
theorem xY{scope:ahI}{env:Env}(h:∀y∈scope.names,y.2=.free->∃c,env.cells.lookup y.1=some c):closureFor scope env=pure (ώ scope env):=by
 have:=Dz env scope.names [] h;unfold closureFor ώ;rw[<-this];simp
theorem Gb{env:Env}:∀(names:List (Str×alT))(cs:List (Str×δ)),(∀y∈names,y.2=.free->∃c,env.cells.lookup y.1=some c)->
  ∀x c,(names.foldl (λcs y=>if y.2==.free then(y.1,(env.cells.lookup y.1).getD 0)::cs else cs) cs).lookup x=some c->(env.cells.lookup x=some c\/cs.lookup x=some c)
 |[],cs,_,x,c,e=>.inr e
 |(n,k)::r,cs,h,x,c,e=>by
  rw[List.foldl_cons]at e;rcases Gb r _ (λy hy=>h y (abK _ hy)) x c e with q|q
  .exact .inl q
  .by_cases hk:k=.free
   .subst hk;obtain⟨c',e'⟩:=h (n,.free) aeM rfl;have e2:env.cells.lookup n=some c':=e';simp only[beq_self_eq_true,if_true,e2,Option.getD_some,List.lookup_cons]at q;cases hx:x==n with
    |true=>
     rw[hx]at q;have hx':x=n:=by simpa using hx
     subst hx';exact .inl (e2.trans q)
    |false=>rw[hx]at q;exact .inr q
   .have hb:(k==NameKind.free)=false:=by simpa using hk
    rw[if_neg (by simp[hb])]at q;exact .inr q
theorem yu{env:Env}:∀(names:List (Str×alT))(cs:List (Str×δ))(x:Str),((x,NameKind.free)∈names\/∃c,cs.lookup x=some c)->
  ∃c,(names.foldl (λcs y=>if y.2==.free then(y.1,(env.cells.lookup y.1).getD 0)::cs else cs) cs).lookup x=some c
 |[],cs,x,h=>by
  obtain h|h:=h
  .cases h
  .exact h
 |(n,k)::r,cs,x,h=>by
  rw[List.foldl_cons];refine yu r _ x ?_;by_cases hk:k=.free
  .subst hk;simp only[beq_self_eq_true,if_true,List.lookup_cons];cases hx:x==n with
   |true=>exact .inr ⟨_,rfl⟩
   |false=>
    obtain h|h:=h
    .obtain h|h:=ϴ.mp h
     .cases h;simp at hx
     .exact .inl h
    .exact .inr h
  .have hb:(k==NameKind.free)=false:=by simpa using hk
   rw[if_neg (by simp[hb])];obtain h|h:=h
   .obtain h|h:=ϴ.mp h
    .cases h;exact absurd rfl hk
    .exact .inl h
   .exact .inr h
theorem J3{env:Env}{x:Str}:∀{names:List (Str×alT)},names.lookup x=some .free->
  (names.map λ(n,k)=>if(k==NameKind.free&&env.scope.kind==.function&&env.kindOf n==some .cell)then(n,NameKind.cell)else(n,k)).lookup x=some .cell\/
  (names.map λ(n,k)=>if(k==NameKind.free&&env.scope.kind==.function&&env.kindOf n==some .cell)then(n,NameKind.cell)else(n,k)).lookup x=some .free
 |[],h=>by simp at h
 |(n,k')::r,h=>by
  have ih:= @J3 env x r;show ahP x ((if(k'==NameKind.free&&env.scope.kind==.function&&env.kindOf n==some .cell)=true then(n,NameKind.cell)else(n,k'))::_)=_\/ahP x ((if(k'==NameKind.free&&env.scope.kind==.function&&env.kindOf n==some .cell)=true then(n,NameKind.cell)else(n,k'))::_)=_;cases hx:x==n with
  |true=>
   simp only[List.lookup_cons,hx]at h;cases h;by_cases hc:(NameKind.free==NameKind.free&&env.scope.kind==.function&&env.kindOf n==some .cell)=true
   .rw[if_pos hc];left;simp only[List.lookup_cons,hx]
   .rw[if_neg hc];right;simp only[List.lookup_cons,hx]
  |false=>
   simp only[List.lookup_cons,hx]at h;by_cases hc:(k'==NameKind.free&&env.scope.kind==.function&&env.kindOf n==some .cell)=true
   .rw[if_pos hc];simp only[List.lookup_cons,hx];exact ih h
   .rw[if_neg hc];simp only[List.lookup_cons,hx];exact ih h
theorem DR{env:Env}{x:Str}:∀{names:List (Str×alT)},(∀y∈names,y.2≠.cell)->
  ((names.map λ(n,k)=>if(k==NameKind.free&&env.scope.kind==.function&&env.kindOf n==some .cell)then(n,NameKind.cell)else(n,k)).lookup x=some .cell\/
  (names.map λ(n,k)=>if(k==NameKind.free&&env.scope.kind==.function&&env.kindOf n==some .cell)then(n,NameKind.cell)else(n,k)).lookup x=some .free)->(x,NameKind.free)∈names
 |[],_,h=>by simp at h
 |(n,k')::r,hc0,h=>by
  have ih:= @DR env x r λy hy=>hc0 y (abK _ hy)
  have h':ahP x ((if(k'==NameKind.free&&env.scope.kind==.function&&env.kindOf n==some .cell)=true then(n,NameKind.cell)else(n,k'))::(r.map λ(n,k)=>if(k==NameKind.free&&env.scope.kind==.function&&env.kindOf n==some .cell)then(n,NameKind.cell)else(n,k)))=some .cell\/
   ahP x ((if(k'==NameKind.free&&env.scope.kind==.function&&env.kindOf n==some .cell)=true then(n,NameKind.cell)else(n,k'))::(r.map λ(n,k)=>if(k==NameKind.free&&env.scope.kind==.function&&env.kindOf n==some .cell)then(n,NameKind.cell)else(n,k)))=some .free:=h
  cases hx:x==n with
  |true=>
   have hx':x=n:=by simpa using hx
   subst hx';by_cases hc:(k'==NameKind.free&&env.scope.kind==.function&&env.kindOf x==some .cell)=true
   .have :k'=.free:=by simp only[aa3]at hc;simpa using hc.1.1
    subst this;exact aeM
   .rw[if_neg hc]at h';simp only[List.lookup_cons,hx]at h';obtain h'|h':=h'
    .cases h';exact absurd rfl (hc0 (x,.cell) aeM)
    .cases h';exact aeM
  |false=>
   refine abK _ (ih ?_);by_cases hc:(k'==NameKind.free&&env.scope.kind==.function&&env.kindOf n==some .cell)=true
   .rw[if_pos hc]at h';simpa only[List.lookup_cons,hx]using h'
   .rw[if_neg hc]at h';simpa only[List.lookup_cons,hx]using h'
theorem Ua{prog:ϯ}{w:ϭ}{A:ϰ}{R:Result->μ->Prop}{s:μ}{elt target iter:π}{ifs:List π}{scope:ahI}{pos:Pos}{it acc:ε}{env:Env}(I:Nat->μ->Prop)(turn:∀n s,I n s->ν (Ϧ prog w) A (pyNext it) (λr s₁=>match r with
   |none=>R (.ok .next) s₁
   |some v=>ν (Ϧ prog w) A (letOwnedTupleGo target it v) (λ_ s₁'=>ν (Ϧ prog w) A (assign target env v) (λ_ s₂=>
    ν (Ϧ prog w) A (forIn ifs true λc r=>if r=true then do let ok<-isTrue c env (eval c env);pure (ForInStep.yield ok)else pure (ForInStep.yield r)) (λok s₃=>
     if ok=true then ν (Ϧ prog w) A (eval elt env) (λx s₄=>
      ν (Ϧ prog w) A (call (.builtin "list.append") [acc,x]) (λ_ s₅=>∃m,m<n/\I m s₅) (λ_ _=>False) s₄) (λ_ _=>False) s₃
     else ∃m,m<n/\I m s₃) (λ_ _=>False) s₂) (λ_ _=>False) s₁') (λ_ _=>False) s₁) (λ_ _=>False) s)(n:Nat)(h:I n s):codeAny (Ϧ prog w) A (.compLoop (.ListComp elt [⟨target,iter,ifs,0⟩] scope pos) 0 it acc env) R s:=by
 refine codeAny_loop rfl I (λn s hI=>?_) n h;show ν _ A ((compTurn (.ListComp elt [⟨target,iter,ifs,0⟩] scope pos) 0 it acc env).onRaise (λx=>do noteFrame x env;theTreesLotGoes x)) _ _ s;refine wpAny_noted ?_;rw[compTurn_list];refine ϩ (ajF (ϩ (adm (turn n s hI) (λr s₁ h₁=>?_) λ_ _ h'=>h'.elim)));cases r with
 |none=>exact ϱ h₁
 |some v=>
  refine ϩ (adm h₁ (λ_ s₁' h₁'=>?_) λ_ _ h'=>h'.elim);refine ϩ (adm h₁' (λ_ s₂ h₂=>ϩ (adm h₂ (λok s₃ h₃=>?_) λ_ _ h'=>h'.elim)) λ_ _ h'=>h'.elim);cases ok with
  |false=>exact ϱ ⟨rfl,h₃⟩
  |true=>
   exact ϩ (ϩ (adm h₃ (λx s₄ h₄=>ϩ (adm h₄ (λ_ s₅ h₅=>ϱ (ϱ ⟨rfl,h₅⟩)) λ_ _ h'=>h'.elim)) λ_ _ h'=>h'.elim))
section
variable{X:Cx}{ϵ:List (δ×Obj)}{σ:St}{H H':Hp}{s s':μ}{scope:ahI}{fp:List δ}{N':List Str}
structure bC(env:Env)(scope:ahI):Prop where
 kind:scope.kind=.function
 free:∀y∈scope.names,y.2=.free->env.kindOf y.1=some .cell\/env.kindOf y.1=some .free
 cell:∀y∈scope.names,y.2≠.cell
 loc:∀y∈scope.names,y.2=.local->scope.names.lookup y.1=some .local
theorem bC.has(S:bC X.env scope)(I:Inv X ϵ σ H s):∀y∈scope.names,y.2=.free->∃c,X.env.cells.lookup y.1=some c:=λy hy e=>I.ok.has y.1 (S.free y hy e)
theorem bC.cl(S:bC X.env scope)(I:Inv X ϵ σ H s){x:Str}{c:δ}(h:(ώ scope X.env).lookup x=some c):X.env.cells.lookup x=some c:=by
 obtain q|q:=Gb scope.names [] (S.has I) x c h
 .exact q
 .simp at q
theorem adD(S:bC X.env scope)(I:Inv X ϵ σ H s)(hf:∀b∈fp,aM X ϵ H b)(hfs:∀b∈fp,b<s.heap.objs.size):(aR X N' scope (ώ scope X.env) s.heap.objs.size s H fp).Ok where
 mod:=I.ok.mod
 kind:=S.kind
 glob:=I.ok.glob
 blt:=I.ok.blt
 above:=Ϯ _
 inj:=λx y c h1 h2=>I.ok.inj x y c (S.cl I h1) (S.cl I h2)
 has:=λx hx=>yu (env:=X.env) scope.names [] x (.inl (DR S.cell hx))
 cab:=λx c h _=>by cases h
 hd:=I.ok.hd
 frames:=I.ok.frames
 stk:=.inl rfl
 exf:=λb hb=>⟨ab6 (hfs b hb),λx c h=>(hf b hb).2.2.2.2.1 x c (S.cl I h)⟩
 bs:=I.bs
 bsz:=afK I.ok.bsz I.sz
 noex:=λb o e hb=>by
  rcases(hf b hb).2.2.2.1 with z|z
  .exact I.ok.noex b o e z
  .rw[(I.ok.bs b o e).1]at z;cases z
 exfs:=λb hb z=>by
  rcases ϴ.mp (I.stkSub b z)with e|e
  .exact(hf b hb).2.1 e
  .exact(hf b hb).2.2.1 e
 funs:=I.stack
 frf:=I.stkFree
theorem afP{N:List Str}{i:Nat}{x:Str}{v:V}(h1:N'[i]?=some x)(h2:(bj N' N σ scope)[i]?=some (some v)):scope.names.lookup x=some .free/\iR N σ x=some v:=by
 unfold bj at h2;rw[aca,h1]at h2;have h3:(if scope.names.lookup x=some .free then iR N σ x else none)=some v:=by simpa using h2
 split at h3
 .rename_i e;exact⟨e,h3⟩
 .cases h3
theorem HN(S:bC X.env scope)(I:Inv X ϵ σ H s)(hf:∀b∈fp,aM X ϵ H b)(hfs:∀b∈fp,b<s.heap.objs.size){h₁:ϫ}{m:Str->Option ε}{tk:Nat}(hns:h₁.Ns s.heap.objs.size m)(old:∀b o,s.heap.get? b=some o->h₁.get? b=some o):Inv (aR X N' scope (ώ scope X.env) s.heap.objs.size s H fp) [] (bj N' X.N σ scope) H {s with heap:=h₁,toks:=tk}where
 ok:=adD S I hf hfs
 os:=rfl
 bare:=I.bare
 base:=Un.kept old
 loc:=by
  refine⟨m,hns,λi x v h1 h2 h3=>?_⟩;obtain⟨e1,e2⟩:=afP h1 h2;obtain⟨j,g1,g2⟩:=Bw e2;have hm:(x,NameKind.free)∈scope.names:=PySem.mem_of_lookup e1;have hk:=S.free _ hm rfl;obtain⟨m0,_,hl⟩:=I.loc;have vis:v7 X.env.scope x:=.inr hk;obtain⟨u,r,lk⟩:=hl j x v g1 g2 vis;refine⟨u,r,.inr ⟨J3 (env:=X.env) e1,?_⟩⟩;obtain⟨k,_⟩|⟨_,c,e,z⟩:=lk
  .obtain hk|hk:=hk
   .have hk':X.env.kindOf x=some .cell:=hk;rw[hk']at k;cases k
   .have hk':X.env.kindOf x=some .free:=hk;rw[hk']at k;cases k
  .obtain⟨c',e'⟩:=yu (env:=X.env) scope.names [] x (.inl hm);have e3:=S.cl I (x:=x) (c:=c') e';rw[e]at e3;cases e3;obtain⟨o,ho,hd⟩:=z;exact⟨c,e',o,old _ _ ho,hd⟩
 cell:=λx c h=>by
  obtain⟨v,o,ho,hd⟩:=I.cell x c (S.cl I h);exact⟨v,o,old _ _ ho,hd⟩
 free:=I.hok.fresh (Ϯ _)
 freeC:=λx c h=>I.freeC x c (S.cl I h)
 pin:=λp hp=>absurd (show p∈([]:List (δ×Obj))from hp) (by simp)
 hok:=I.hok.kept old
 len:=by show(bj N' X.N σ scope).length=N'.length;unfold bj;rw[ϳ]
theorem Jt{τ:St}(I:Inv X ϵ σ H s)(hf:∀b∈fp,aM X ϵ H b)(J:Inv (aR X N' scope (ώ scope X.env) s.heap.objs.size s H fp) [] τ H' s'):Inv X ϵ σ H' s':=by
 obtain⟨hh,g,d,t,os'⟩:=s';have e:os'=s.os:=J.os;subst e;exact I.call (h':=hh) (g':=g) (d':=d) (t':=t) (ch:=fp) J.base J.hok J.bare λb hb=>⟨(hf b hb).2.2.2.1,(hf b hb).2.1,(hf b hb).2.2.2.2.1,(hf b hb).2.2.2.2.2⟩
variable{elt iter tg:π}{ifs:List π}{pos:Pos}
def dW(X Y:Cx)(tg elt:π)(ifs:List π)(J:It)(D:δ)(σ':St)(H:Hp)(Q:Hp->Prop):Prop:=
 ∃W:Nat->Nat->St->Hp->Prop,(∃m,W 0 m σ' (upd H D (.lst [])))/\∀i m τ H,W i m τ H->
  (J.stop i H/\Q H)\/(J.go i H/\∃N:St->Hp->Prop,(∀τ' H',N τ' H'->∃m',m'<m/\W (i+1) m' τ' H')/\∀x H',J.yld i H x H'->
   EG Y tg x τ H' λτ2 H2=>yw Y ifs τ2 H2 λk H3=>if k=true then EV Y elt τ2 H3 λy H4=>∃xs,H4 D=some (.lst xs)/\xs.length<Ϫ/\N τ2 (upd H4 D (.lst (xs++[y])))else N τ2 H3)
theorem Hh{R:ε->δ->Result->μ->Prop}{it:δ}{tn:Nat->ϫ->Prop}{J:It}{E:ε->μ->Prop}{Q:δ->Hp->Prop}(hc:X.calm=true)(S:bC X.env scope)(I:Inv X ϵ σ H s)(T:Turn X.prog X.w X.K tg J fp it tn)(st:tn 0 s.heap)(hf:∀b∈fp,aM X ϵ H b)(h:∀(D C:δ)(s3:μ),H D=none->dW X (aR X N' scope (ώ scope X.env) C s3 (upd H D (.lst [])) fp) tg elt ifs J D (bj N' X.N σ scope) H (Q D))(hR:∀(D C:δ)(H':Hp)(s':μ),H D=none->Q D H'->Inv X ϵ σ H' s'->aM X ϵ H' C->(∃m,s'.heap.Ns C m)->R (.ref D) C (.ok .next) s'):ν (Ϧ X.prog X.w) X.A (newList []) (λacc s₃=>ν (Ϧ X.prog X.w) X.A (newFunctionEnv scope X.env.globals (ώ scope X.env) [] X.env.qual none .none (some X.env)) (λcenv s₄=>
   codeAny (Ϧ X.prog X.w) X.A (.compStart (.ListComp elt [⟨tg,iter,ifs,0⟩] scope pos) 0 (.ref it) acc {cenv with scope:=relabel scope X.env}) (R acc cenv.locals) s₄) E s₃) E s:=by
 refine alU ?_;have hD:H s.heap.objs.size=none:=I.hok.fresh (Ϯ _);generalize hs3:({s with heap:=s.heap.push {cls:=.type "list",dict:=none,data:=.seq ([]:List ε).toArray}}:μ)=s3;have I3:Inv X ϵ σ (upd H s.heap.objs.size (.lst [])) s3:=by
  subst hs3;exact I.laid (t':=s.toks) (λb u e=>Heap.get?_push_of_some _ e) (Ϯ _) ⟨agf _,[],0,.nil,abq _ rfl⟩
 have hsz:s3.heap.objs.size=s.heap.objs.size+1:=by subst hs3;exact al0 ..
 have old3:∀b o,s.heap.get? b=some o->s3.heap.get? b=some o:=λb o e=>by subst hs3;exact Heap.get?_push_of_some _ e
 have qd:∀b∈fp,b<s.heap.objs.size:=λb hb=>by
  obtain⟨o,e,_⟩:=T.obj _ _ st b hb;exact abe e
 have f9:∀b∈fp,aM X ϵ (upd H s.heap.objs.size (.lst [])) b:=λb hb=>⟨by rw[ι (ab6 (qd b hb))];exact(hf b hb).1,(hf b hb).2⟩
 have st3:tn 0 s3.heap:=T.keep _ _ _ st λb _ o e=>old3 b o e
 have oH:∀b∈fp,b<s3.heap.objs.size:=λb hb=>by rw[hsz];exact alz (qd b hb)
 refine wpAny_newFunctionEnv S.cell (by intro y hy;simp at hy) (λh₁ hns hsb=>?_) S.kind;have gQ:∀b o,s3.heap.get? b=some o->h₁.get? b=some o:=λb o e=>hsb.extBut b o (ab6 (abe e)) (Heap.get?_push_of_some _ e)
 generalize hY:aR X N' scope (ώ scope X.env) s3.heap.objs.size s3 (upd H s.heap.objs.size (.lst [])) fp=Y;have hT:=h s.heap.objs.size s3.heap.objs.size s3 hD;rw[hY]at hT;obtain⟨W,⟨m0,w0⟩,turn⟩:=hT;generalize pD:({s3 with heap:=h₁,toks:=s3.toks+([]:List (Str×ε)).length}:μ)=s4;have I4:Inv Y [] (bj N' X.N σ scope) (upd H s.heap.objs.size (.lst [])) s4:=by
  subst pD;rw[<-hY];exact HN S I3 f9 oH hns gQ
 have pW:tn 0 s4.heap:=by
  subst pD;exact T.keep _ _ _ st3 λb _ o e=>gQ b o e
 have hP:Y.prog=X.prog:=by rw[<-hY];rfl
 have hw:Y.w=X.w:=by rw[<-hY];rfl
 have hK:Y.K=X.K:=by rw[<-hY];rfl
 have hA:Y.A=X.A:=by rw[<-hY];rfl
 have oR:Y.calm=true:=by rw[<-hY];exact hc
 have hE:Y.xe=λ_ _=>False:=by rw[<-hY];rfl
 have hen:Y.env=compEnvC scope (ώ scope X.env) s3.heap.objs.size X.env:=by rw[<-hY];rfl
 have hloc:Y.env.locals=s3.heap.objs.size:=by rw[hen];rfl
 have kO:∀b∈fp,∀H':Hp,H' b=none->aM Y [] H' b:=λb hb H' e=>by
  rw[<-hY];refine⟨e,ab6 (oH b hb),λz=>?_,.inl hb,λx c q=>(f9 b hb).2.2.2.2.1 x c (S.cl I3 q),λp hp=>absurd (show p∈([]:List (δ×Obj))from hp) (by simp)⟩;rcases ϴ.mp (I3.stkSub b z)with e|e
  .exact(hf b hb).2.1 e
  .exact(hf b hb).2.2.1 e
 have loop:codeAny (Ϧ X.prog X.w) X.A (.compLoop (.ListComp elt [⟨tg,iter,ifs,0⟩] scope pos) 0 (.ref it) (.ref s.heap.objs.size) Y.env) (R (.ref s.heap.objs.size) s3.heap.objs.size) s4:=by
  refine Ua (λn s'=>∃i τ H',Inv Y [] τ H' s'/\tn i s'.heap/\(∀b∈fp,H' b=none)/\W i n τ H') ?_ m0 ⟨0,_,_,I4,pW,λb hb=>(f9 b hb).1,w0⟩
  rintro n s5 ⟨i,τ,H5,I5,st5,fr5,w5⟩
  have toF:∀{α:Type}{t:Sem α}{Q:α->μ->Prop}{s:μ},ν (Ϧ Y.prog Y.w) Y.A t Q Y.xe s->ν (Ϧ X.prog X.w) X.A t Q (λ_ _=>False) s:=λh=>by
   rw[hP,hw,hA,hE]at h;exact h
  obtain⟨stop,qn⟩|⟨go,N,hN,step⟩:=turn i n τ H5 w5
  .have q:=T.done Y hP hw hK oR i [] s5 τ H5 (λ_ _=>False) I5 (λb hb=>kO b hb _ (fr5 b hb)) st5 stop;rw[hA]at q;refine ρ q λr s6 ⟨hr,I6⟩=>?_
   subst hr;have IX6:Inv X ϵ σ H5 s6:=by
    have Hy:=I6;rw[<-hY]at Hy;exact Jt I3 f9 Hy
   refine hR _ _ H5 s6 hD qn IX6 (I3.fpOk (Ϯ _) ?_) ?_
   .have :=I6.free;rw[hloc]at this;exact this
   .obtain⟨m,hn,_⟩:=I6.loc;rw[hloc]at hn;exact⟨m,hn⟩
  .have q:=T.item Y hP hw hK oR i [] s5 τ H5 (λ_ _=>False) I5 (λb hb=>kO b hb _ (fr5 b hb)) st5 go;rw[hA]at q;refine ρ q λr s6 ⟨u,hr,h6⟩=>?_
   subst hr;refine ρ h6 λ_ s7 ⟨x,H7,I7,r7,y7,jK,xu⟩=>?_
   have Ao:=I7.pinned (λb hb=>kO b hb _ (xu b hb)) (T.obj _ _ jK);have oO:∀{τ':St}{H8:Hp}{s8:μ},Inv Y ([]++dq fp s7.heap) τ' H8 s8->tn (i+1) s8.heap/\∀b∈fp,H8 b=none:=λ{τ' H8 s8} I8=>by
    refine⟨T.keep _ _ _ jK λb hb o e=>(I8.pin (b,o) (ack _ (ack _ (mU hb e)))).1,λb hb=>?_⟩;obtain⟨o,e,d⟩:=T.obj _ _ jK b hb;exact(I8.pin (b,o) (ack _ (ack _ (mU hb e)))).2.1
   refine toF (ρ (step x H7 y7 _ s7 u Ao r7) λ_ s8 ⟨τ8,H8,I8,q8⟩=>?_);refine toF (ρ (q8 _ s8 I8) λok s9 ⟨H9,I9,q9⟩=>?_);cases ok with
   |false=>
    have jH:N τ8 H9:=by simpa using q9
    obtain⟨m',hm,w9⟩:=hN _ _ jH;obtain⟨k1,k2⟩:=oO I9;show ∃m,_;exact⟨m',hm,i+1,τ8,H9,I9.unpinned,k1,k2,w9⟩
   |true=>
    have jH:EV Y elt τ8 H9 λy H4=>∃xs,H4 s.heap.objs.size=some (.lst xs)/\xs.length<Ϫ/\N τ8 (upd H4 s.heap.objs.size (.lst (xs++[y]))):=by simpa using q9
    show ν _ _ _ _ _ _;refine toF (ρ (jH _ s9 I9) λz jz ⟨y,d7,zY,r10,xs,e10,l10,n10⟩=>?_);refine toF (ρ (vf _ jz τ8 d7 (.ref s.heap.objs.size) [y] _ [z] (λv pK=>v=.non/\pK=upd d7 s.heap.objs.size (.lst (xs++[y]))) zY rfl (.cons r10 .nil) ⟨_,xs,y,rfl,rfl,e10,l10,rfl,rfl⟩) λ_ s11 ⟨_,pK,oK,_,_,yW⟩=>?_);subst yW;obtain⟨m',hm,w11⟩:=hN _ _ n10;obtain⟨k1,k2⟩:=oO oK;exact⟨m',hm,i+1,τ8,_,oK.unpinned,k1,k2,w11⟩
 rw[hen]at loop;exact codeAny_compStart_list loop (T.self X.A 0 s4 _ _ pW loop)
theorem qN{Q:VK}(hc:X.calm=true)(S:bC X.env scope)(hs:∀x,foldedSetIterable iter X.env x=pure x)(h:EI X tg iter σ H λJ H1=>∀(fp:List δ)(D C:δ)(s3:μ),H1 D=none->dW X (aR X N' scope (ώ scope X.env) C s3 (upd H1 D (.lst [])) fp) tg elt ifs J D (bj N' X.N σ scope) H1 (λH'=>Q (.ref D) H')):EV X (.ListComp elt [⟨tg,iter,ifs,0⟩] scope pos) σ H Q:=by
 intro ϵ s I;rw[eval_ListComp];refine wpAny_comprehension_free (use:=none) rfl hs (xY (S.has I)) S.kind S.loc (ρ (h ϵ s I) λv s1 h1=>ρ h1 λitv s2 h2=>?_);obtain⟨it,fp,tn,J,H2,e,I2,T,st2,f2,q2⟩:=h2;subst e;refine Hh (R:=λacc C=>compPost (Ϧ X.prog X.w) X.A X.xe none (EP X ϵ σ Q) acc C) (Q:=λD H'=>Q (.ref D) H') hc S I2 T st2 f2 (λD C s3 hD=>q2 fp D C s3 hD) λD C H' s' hD qD IX fC hn=>?_
 obtain⟨m,hn⟩:=hn;obtain⟨f0,f1,Ea,f3,f4,f5⟩:=fC;exact⟨m,hn,λh' hsb=>⟨.ref D,H',IX.turned (t':=s'.toks) (λb o hb e=>hsb.extBut b o hb e) f0 f1 f3 f4 f5,rfl,qD⟩⟩
theorem acJ{D:Ends}{y:Str}{py spos:Pos}{j:Nat}(hsw:ajq (.ListComp elt [⟨tg,iter,ifs,0⟩] scope pos) (some (.Name y py)) spos.line X.env=pure true)(hc:X.calm=true)(S:bC X.env scope)(hs:∀x,foldedSetIterable iter X.env x=pure x)(hN:X.N.Nodup)(hi:nameAt X.N y=some j)(hx:X.env.scope.names.lookup y=some .local)(h:EI X tg iter σ H λJ H1=>∀(fp:List δ)(E C:δ)(s3:μ),H1 E=none->dW X (aR X N' scope (ώ scope X.env) C s3 (upd H1 E (.lst [])) fp) tg elt ifs J E (bj N' X.N σ scope) H1 (λH'=>D.nx (σ.set j (some (.ref E))) H')):SX X (.Assign [.Name y py] (.ListComp elt [⟨tg,iter,ifs,0⟩] scope pos) spos) D σ H:=by
 intro ϵ s I;rw[exec_Assign_Name_used _ _ _ _ hsw];refine ϩ (ajF (ϩ ?_));show ν _ X.A (do let _<-comprehension (.ListComp elt [⟨tg,iter,ifs,0⟩] scope pos) scope X.env _ (newList []) false (eval iter X.env) (some (assign (.Name y py) X.env))) _ _ s;refine ϩ (adm (wpAny_comprehension_free (use:=some (assign (.Name y py) X.env)) (Q:=λ_ s'=>SP X ϵ D .next s') rfl hs (xY (S.has I)) S.kind S.loc
  (ρ (h ϵ s I) λv s1 h1=>ρ h1 λitv s2 h2=>?_)) (λ_ s' hq=>ϱ (ϱ hq)) λ_ _ e=>e)
 obtain⟨it,fp,tn,J,H2,e,I2,T,st2,f2,q2⟩:=h2;subst e;refine Hh (R:=λacc C=>compPost (Ϧ X.prog X.w) X.A X.xe (some (assign (.Name y py) X.env)) (λ_ s'=>SP X ϵ D .next s') acc C) (Q:=λE H'=>D.nx (σ.set j (some (.ref E))) H') hc S I2 T st2 f2 (λE C s3 hD=>q2 fp E C s3 hD) λE C H' s' hD qD IX fC hn=>?_
 obtain⟨m,hn⟩:=hn;obtain⟨f0,f1,Ea,f3,f4,f5⟩:=fC;show ν _ _ (assign (.Name y py) X.env (.ref E)) _ _ _;refine wpAny_assign_Name (o9 IX hN (pU hi) (.inl hx) (v:=.ref E) rfl (λs'' yR hb=>?_) (.inr hx));obtain⟨a,sb,ha⟩:=hb;have xK:C≠a:=by
  obtain ha|ha:=ha
  .rw[ha];exact f1
  .intro z;exact f4 y a ha z.symm
 refine⟨m,hn.sameBut sb xK,λh' hsb=>⟨σ.set j (some (.ref E)),H',yR.turned (t':=s''.toks) (λb o hb e=>hsb.extBut b o hb e) f0 f1 f3 f4 f5,qD⟩⟩
theorem Ag{Q:Bool->Hp->Prop}(q:Q true H):yw X [] σ H Q:=λϵ s I=>by
 rw[List.forIn_nil];exact ϱ ⟨H,I,q⟩
theorem Mz{c:π}{Q:Bool->Hp->Prop}(h:ET X c σ H Q):yw X [c] σ H Q:=λϵ s I=>by
 rw[List.forIn_cons];simp only[if_true];refine ϩ (ϩ (ρ (h ϵ s I) λk s1 q=>ϱ ?_));dsimp only;rw[List.forIn_nil];exact ϱ q
end
theorem Ι{c A B:Prop}[Decidable c](h1:c->A)(h2:¬c->B):if decide c=true then A else B:=by
 by_cases h:c
 .rw[if_pos (decide_eq_true h)];exact h1 h
 .rw[if_neg (by simpa using h)];exact h2 h
theorem dF{c A B:Prop}[Decidable c](q:B)(h:¬c:=by decide+kernel):if decide c=true then A else B:=Ι (λz=>absurd z h) λ_=>q
theorem jm{c A B:Prop}[Decidable c](q:A)(h:c:=by rfl):if decide c=true then A else B:=Ι (λ_=>q) λz=>absurd h z
theorem jo{c A B:Prop}[Decidable c](h1:¬c->A)(h2:c->B):if(!decide c)=true then A else B:=by
 by_cases h:c
 .rw[if_neg (by simp[h])];exact h2 h
 .rw[if_pos (by simp[h])];exact h1 h
theorem iD{k:Bool}{A B:Prop}(h1:k=true->A)(h2:k=false->B):if k=true then A else B:=by
 cases k with
 |true=>rw[if_pos rfl];exact h1 rfl
 |false=>rw[if_neg aah];exact h2 rfl
theorem Dy{k:Bool}{A B:Prop}(h1:k=false->A)(h2:k=true->B):if(!k)=true then A else B:=by
 cases k with
 |true=>rw[if_neg (by decide)];exact h2 rfl
 |false=>rw[if_pos (by decide)];exact h1 rfl
theorem ag7{A B:Prop}(h:B):if(!true)=true then A else B:=by rw[if_neg (by decide)];exact h
theorem ahB{A B:Prop}(h:A):if(!false)=true then A else B:=by rw[if_pos (by decide)];exact h
theorem ζ.upd{H:Hp}{p:δ}{o:HO}(h:H p=none):ζ H (L2.upd H p o):=λb u e=>by rw[ι (Η e h)];exact e
theorem aO{H:Hp}{p:δ}(h:H p=none)(o:HO):ζ H (upd H p o)/\(upd H p o) p=some o:=⟨ζ.upd h,υ⟩
section
variable{X:Cx}{a e:π}{σ:St}{H:Hp}{Q:VK}{D:Ends}{pos p p':Pos}
theorem Cy{tg:π}{body:List ϧ}(hp:alC (Ϧ X.prog X.w) X.A X.env X.xe)(hc:X.calm=true)(hg:Gl X "range")(hm:X.mg "range"=none)(hs:Ϭ [a] X.env=[(false,eval a X.env)])(h:EV X a σ H λv H1=>∃n:Int,v=.int n/\ -(2^62)<=n/\n<2^62/\∃Pv:Nat->St->Hp->Prop,Pv 0 σ H1/\
   (∀i σ' H',i<n.toNat->Pv i σ' H'->EG X tg (.int i) σ' H' λσ2 H2=>Ψ X body {D with nx:=Pv (i+1),ct:=Pv (i+1),bk:=D.nx} σ2 H2)/\∀σ' H',Pv n.toNat σ' H'->D.nx σ' H'):SX X (.For tg (.Call (.Name "range" p) [a] [] p') body [] pos) D σ H:=by
 refine sZ hp hc (by intro _;rfl) (adl hg hm hs (gZ hs (aF h λv H1 q=>?_)));obtain⟨n,rfl,h1,h2,Pv,h0,hst,hd⟩:=q;refine gM ⟨n,rfl,h1,h2,?_⟩;exact acE (g:=EG X tg) (tb:=Ψ X body) Pv h0 (λi σ' H' hi hP=>by rw[Int.zero_add];exact hst i σ' H' hi hP) hd
theorem oU{tg:π}{body:List ϧ}(hp:alC (Ϧ X.prog X.w) X.A X.env X.xe)(hc:X.calm=true)(hs:∀x,foldedSetIterable e X.env x=pure x)(h:EV X e σ H λv H1=>∃q xs,v=.ref q/\η X.K H1 q xs/\∃Pv:Nat->St->Hp->Prop,Pv 0 σ H1/\(∀i σ' H',i<=xs.length->Pv i σ' H'->η X.K H' q xs)/\
   (∀i x σ' H',xs[i]?=some x->Pv i σ' H'->EG X tg x σ' H' λσ2 H2=>Ψ X body {D with nx:=Pv (i+1),ct:=Pv (i+1),bk:=D.nx} σ2 H2)/\∀σ' H',Pv xs.length σ' H'->D.nx σ' H'):SX X (.For tg e body [] pos) D σ H:=by
 refine sZ hp hc hs (lR (aF h λv H1 q=>?_));obtain⟨q,xs,rfl,hq,Pv,h0,hl,hst,hd⟩:=q;exact⟨q,rfl,⟨xs,hq⟩,afr (g:=EG X tg) (tb:=Ψ X body) Pv h0 hl hst hd⟩
theorem ahZ{Y:Cx}{elt:π}{J:It}{E:δ}{τ0:St}{Q:Hp->Prop}{y:Str}{py:Pos}{j:Nat}(hN:Y.N.Nodup)(hj:nameAt Y.N y=some j)(hx:Y.env.scope.names.lookup y=some .local)(n:Nat)(hn:n<=Ϫ)(Pi:Nat->V->Prop)(It:Nat->V->Prop)(hE:H E=none)(go:∀i H1,ζ (upd H E (.lst [])) (upd H1 E (.lst []))->i<n->J.go i H1)(stop:∀H1,ζ (upd H E (.lst [])) (upd H1 E (.lst []))->J.stop n H1)(yld:∀i H1 x H2,i<n->ζ (upd H E (.lst [])) (upd H1 E (.lst []))->J.yld i H1 x H2->It i x/\H2=H1)(step:∀i x H1,i<n->It i x->ζ H H1->EV Y elt (τ0.set j (some x)) H1 λv H2=>Pi i v/\ζ H1 H2)(fin:∀H1 xs,xs.length=n->(∀i v,xs[i]?=some v->Pi i v)->H1 E=some (.lst xs)->ζ H H1->Q H1):dW X Y (.Name y py) elt [] J E τ0 H Q:=by
 have sU:∀{H1:Hp},ζ H H1->ζ (upd H E (.lst [])) (upd H1 E (.lst [])):=λ{H1} s b o e=>by
  by_cases hb:b=E
  .subst hb;rw[υ]at e⊢;exact e
  .rw[ι hb]at e⊢;exact s b o e
 refine⟨λi m τ H1=>m=n-i/\i<=n/\ζ H H1/\(τ=τ0\/∃x,τ=τ0.set j (some x))/\∃xs,H1 E=some (.lst xs)/\xs.length=i/\∀k v,xs[k]?=some v->Pi k v,⟨n,by simp,agf _,ζ.upd hE,.inl rfl,[],υ,rfl,λk v e=>by simp at e⟩,?_⟩
 rintro i m τ H1 ⟨rfl,hi,s1,hτ,xs,eE,lx,px⟩
 by_cases hlt:i<n
 .refine .inr ⟨go i H1 (sU s1) hlt,λτ' H'=>ζ H H'/\(τ'=τ0\/∃x,τ'=τ0.set j (some x))/\∃xs,H' E=some (.lst xs)/\xs.length=i+1/\∀k v,xs[k]?=some v->Pi k v,λτ' H' ⟨a,b,c⟩=>⟨n-(i+1),by omega,rfl,hlt,a,b,c⟩,λx H2 y=>?_⟩;obtain⟨hI,e2⟩:=yld i H1 x H2 hlt (sU s1) y;subst e2;refine Ρ hN hj (.inl hx) (.inr hx) (Ag ?_);rw[if_pos rfl];have eτ:τ.set j (some x)=τ0.set j (some x):=by
   obtain e|⟨z,e⟩:=hτ
   .rw[e]
   .rw[e,List.set_set]
  rw[eτ];refine aF (step i x H2 hlt hI s1) λv H3 ⟨pv,s2⟩=>⟨xs,s2 _ _ eE,by omega,?_⟩
  refine⟨λb o e=>?_,.inr ⟨x,rfl⟩,xs++[v],υ,by simp[lx],λk u e=>?_⟩
  .rw[ι (Η e hE)];exact s2 _ _ (s1 _ _ e)
  .by_cases hk:k<xs.length
   .rw[aiI hk]at e;exact px k u e
   .have hk2:k=i:=by
     have:=(aal.mp e).1;rw[abo,ae7]at this;omega
    subst hk2;rw[<-lx,ai1]at e;cases e;exact pv
 .have e:i=n:=by omega
  subst e;exact .inl ⟨stop H1 (sU s1),fin H1 xs lx px eE s1⟩
theorem abT{elt:π}{scope:ahI}{y:Str}{py:Pos}{j:Nat}(N':List Str){σ':St}(hσ:bj N' X.N σ scope=σ')(hc:X.calm=true)(S:bC X.env scope)(hN:N'.Nodup)(hj:nameAt N' y=some j)(hx:scope.names.lookup y=some .local)(hs:∀x,foldedSetIterable e X.env x=pure x)(h:EV X e σ H λv H1=>∃z:Str,v=.str z/\z.cps.size<=Ϫ/\∃Pi:Nat->V->Prop,
   (∀(fp:List δ)(E C:δ)(s3:μ)(H0:Hp)(i c:Nat)(H2:Hp),z.cps.toList[i]?=some c->ζ H1 H2->EV (aR X N' scope (ώ scope X.env) C s3 H0 fp) elt (σ'.set j (some (.str ⟨#[c]⟩))) H2 λv H3=>Pi i v/\ζ H2 H3)/\
   ∀(E:δ)(H2:Hp)(xs:List V),H1 E=none->xs.length=z.cps.size->(∀i v,xs[i]?=some v->Pi i v)->H2 E=some (.lst xs)->ζ H1 H2->Q (.ref E) H2):EV X (.ListComp elt [⟨.Name y py,e,[],0⟩] scope pos) σ H Q:=by
 refine qN (N':=N') hc S hs (abv (aF h λv H1 q=>?_));obtain⟨z,rfl,h2,Pi,hst,hfin⟩:=q;refine⟨z,rfl,λfp E C s3 hE=>?_⟩;rw[hσ];refine ahZ (Y:=aR X N' scope (ώ scope X.env) C s3 (upd H1 E (.lst [])) fp) hN hj (lookup_relabel_local hx) z.cps.size h2 Pi (λi x=>∃c,z.cps.toList[i]?=some c/\x=.str ⟨#[c]⟩) hE (λi _ _ hi=>hi) (λ_ _=>Ϯ _) (λi H1 x H2 _ _ yl=>?_) (λi x H2 hi ex s=>?_) (λH2 xs l px eE s=>hfin E H2 xs hE l px eE s)
 .obtain⟨e1,c,e2,e3⟩:=yl;exact⟨⟨c,by simpa using e2,e3⟩,e1⟩
 .obtain⟨c,e1,e2⟩:=ex;subst e2;exact hst fp E C s3 _ i c H2 e1 s
end
section
variable{P:ϯ}{w:ϭ}{K:Ϩ}{mg:Str->Option ε}{base:ϫ}{cc:Bool}
abbrev ϥ(cc:Bool)(P:ϯ)(w:ϭ)(K:Ϩ)(mg:Str->Option ε)(base:ϫ)(N:List Str)(qual:Str)(scope:ahI)(f:δ)(cd:ε)(A:ϰ)(outer:List Env)(s:μ)(H:Hp)(E:XK):Cx:=
 ji cc (bH P w) P w K mg base N qual scope f cd A outer s H E
theorem tD{x qual:Str}{st:ϧ}{ps N:List Str}{k:Nat}{sp:Sp}{f:δ}{fd:air}(F:bM K x qual st f fd)(S:Α N ps (ο st))(len:∀vs H Q E,sp vs H Q E->vs.length=ps.length)(body:∀(Ϲ:ε)(A:ϰ)(outer:List Env)(s:μ)(H:Hp)(vs:List V)(Q:VK)(E:XK),ό cc k (A.deeper (envOfC qual (ο st) s.heap.objs.size f Ϲ))->sp vs H Q E->
   Ψ (ϥ cc P w K mg base N qual (ο st) f Ϲ A outer s H E) (ϗ st) {nx:=λ_ H'=>Q .non H',rt:=Q} (start N vs) H):cC P w K mg base (bH P w) cc (k+1) f fd ps sp:=by
 obtain⟨oc,od,kV,doc,pm,an,Ϲ,ct,osl,rfl,lk,hcd⟩:=id F.ex;exact Ih lk hcd S len λA outer s H vs Q E hr h=>⟨_,lG,body Ϲ A outer s H vs Q E hr h⟩
theorem Υ{x:Str}{st:ϧ}{ps N:List Str}{k:Nat}{sp:Sp}(F:∃f fd,bM K x x st f fd/\mg x=some (.ref f))(S:Α N ps (ο st))(body:∀(f:δ)(Ϲ:ε)(A:ϰ)(outer:List Env)(s:μ)(H:Hp)(vs:List V)(Q:VK)(E:XK),ό cc k (A.deeper (envOfC x (ο st) s.heap.objs.size f Ϲ))->sp vs H Q E->
   Ψ (ϥ cc P w K mg base N x (ο st) f Ϲ A outer s H E) (ϗ st) {nx:=λ_ H'=>Q .non H',rt:=Q} (start N vs) H)(hb:∀(kV doc pm:ε)(an:Option δ)(Ϲ ct:ε)(us:List ε),us.length=ps.length->bindArgs (amI x x (iz st) (ϗ st) (ο st) .none kV doc pm an Ϲ ct) ⟨us,[]⟩=pure (ps.zip us):=by walk_at"bb")(len:∀vs H Q E,sp vs H Q E->vs.length=ps.length:=by walk_at"ln"):Def P w K mg base cc (k+1) x ps sp:=by
 obtain⟨f,fd,F,hm⟩:=F;exact⟨f,fd,hm,F.kp,F.binds hb,tD F S len λϹ A outer s H vs Q E hr h=>body f Ϲ A outer s H vs Q E hr h⟩
end
def ϐ(z:Str)(lo hi:Option Int):Str:=⟨((z.cps.toList.drop (HT.Φ z.length 0 lo)).take (HT.Φ z.length z.length hi-HT.Φ z.length 0 lo)).toArray⟩
theorem tQ(n d:Nat)(v:Int):max 0 (min (if v<0 then v+(n:Int)else v) (n:Int))=((HT.Φ n d (some v):Nat):Int):=by
 rw[<-HT.abl];split <;>omega
theorem P0(lo hi:Option Int)(n:Nat):Builtin.Str.strSliceIndices lo hi 1 n=(afz (HT.Φ n n hi-HT.Φ n 0 lo)).map (λm=>HT.Φ n 0 lo+m):=by
 have e:Builtin.Str.strSliceIndices lo hi 1 n=sliceRange ((HT.Φ n 0 lo:Nat):Int) ((HT.Φ n n hi:Nat):Int) 1:=by
  cases lo with
  |none=>
   cases hi with
   |none=>rfl
   |some v=>rw[<-tQ n n v];rfl
  |some u=>
   cases hi with
   |none=>rw[<-tQ n 0 u];rfl
   |some v=>rw[<-tQ n 0 u, <-tQ n n v];rfl
 rw[e];generalize HT.Φ n 0 lo=a;generalize HT.Φ n n hi=b;by_cases h:a<=b
 .have :=StrLaws.strSliceIndices_plain (len:=b) h (Ϯ b);rw[<-this];have e2:Builtin.Str.strSliceIndices (some (a:Int)) (some (b:Int)) 1 b=sliceRange (a:Int) (b:Int) 1:=by
   have h1:¬((a:Int)<0):=by omega
   have h2:¬((b:Int)<0):=by omega
   have e1:max (0:Int) (min (a:Int) (b:Int))=a:=by omega
   have e2:max (0:Int) (min (b:Int) (b:Int))=b:=by omega
   simp only[Builtin.Str.strSliceIndices,h1,h2,if_false,e1,e2,show((1:Int)>0)=True from by simp,if_true]
  rw[e2]
 .have e3:b-a=0:=by omega
  rw[e3];have:¬((a:Int)<b):=by omega
  simp[sliceRange,this]
theorem Z9(z:Str)(lo hi:Option Int):(⟨((Builtin.Str.strSliceIndices lo hi 1 z.length).filterMap (z.cps[·]?)).toArray⟩:Str)=ϐ z lo hi:=by
 rw[P0];unfold ϐ;have h1:=HT.Ke z.length z.length (Ϯ _) hi;have hl:z.cps.toList.length=z.length:=by simp[Str.length]
 by_cases h:HT.Φ z.length 0 lo<=HT.Φ z.length z.length hi
 .have :=StrLaws.picks z.cps.toList (HT.Φ z.length z.length hi-HT.Φ z.length 0 lo) (HT.Φ z.length 0 lo) (by omega);rw[<-this];simp
 .have e3:HT.Φ z.length z.length hi-HT.Φ z.length 0 lo=0:=by omega
  rw[e3];simp
theorem Lj{v:ε}{o:Option Int}(h:IsPart v o):∃l:Option (Int×Tok),v=partValue l/\l.map (·.1)=o:=by
 cases h with
 |none=>exact⟨none,rfl,rfl⟩
 |int i t=>exact⟨some (i,t),rfl,rfl⟩
theorem aeI{X:Cx}:qp X (λx lo hi H Q=>∃z,x=.str z/\z.length<=Ϫ/\Q (.str (ϐ z lo hi)) H):=by
 intro ϵ s σ H x v vl vu lo hi sl Q I rx hs pl pu h;obtain⟨z,rfl,hz,q⟩:=h;obtain⟨t,rfl⟩:=rx;refine⟨"str",_,F.slot_str_getitem.lookup,typeIs_str s z t,?_⟩;obtain⟨l,rfl,rfl⟩:=Lj pl;obtain⟨u,rfl,rfl⟩:=Lj pu;have hsl:s.heap.IsSlice sl l u none:=by
  obtain⟨o,ho,hc,hd⟩:=hs;exact⟨o,ho,hc,hd⟩
 refine wpAny_getItem_str_slice hsl rfl ?_;have e:(slicePicked z l u none)=Builtin.Str.strSliceIndices (l.map (·.1)) (u.map (·.1)) 1 z.length:=rfl;unfold sliceMade;have key:(⟨((slicePicked z l u none).filterMap (z.cps[·]?)).toArray⟩:Str)=ϐ z (l.map (·.1)) (u.map (·.1)):=by rw[e];exact Z9 z _ _
 split
 .rename_i hh;have hlen:(slicePicked z l u none).length=z.length:=by
   simp only[aa3,beq_iff_eq]at hh;exact hh.2
  have whole:ϐ z (l.map (·.1)) (u.map (·.1))=z:=by
   rw[e,P0,ϳ,alX]at hlen;have h1:=HT.Ke z.length z.length (Ϯ _) (u.map (·.1));have hl:z.cps.toList.length=z.length:=by simp[Str.length]
   unfold ϐ;by_cases hz0:z.length=0
   .have :z.cps.toList=[]:=List.eq_nil_of_length_eq_zero (by omega);rw[this];have e2:z.cps= #[]:=by
     have:=congrArg afg this;simpa using this
    obtain⟨c⟩:=z;simp at e2;subst e2;simp
   .have ha:HT.Φ z.length 0 (l.map (·.1))=0:=by omega
    have hb:HT.Φ z.length z.length (u.map (·.1))=z.length:=by omega
    rw[ha,hb,ame,amY,agI (by omega)]
  exact⟨.str (ϐ z (l.map (·.1)) (u.map (·.1))),H,I,⟨t,by rw[whole]⟩,q⟩
 .rw[key];refine⟨?_,.str (ϐ z (l.map (·.1)) (u.map (·.1))),H,I.tok _,⟨_,rfl⟩,q⟩;have:(ϐ z (l.map (·.1)) (u.map (·.1))).length<=z.length:=by
   unfold ϐ Str.length;simp;omega
  omega
section
variable{X:Cx}{H:Hp}{Q:VK}{z y:Str}
theorem pO{lo hi:Option Int}(h:z.length<=Ϫ)(g:Q (.str (ϐ z lo hi)) H):SL X (.str z) lo hi H Q:=⟨_,aeI,z,rfl,h,g⟩
theorem jA{id:String}{r:V->List V->Hp->VK->Prop}{x:V}{xs:List V}(h:uH X id r)(q:r x xs H Q):MT X id x xs H Q:=⟨r,h,q⟩
theorem G5{ys:List Str}:∀{us:List ε},Vals (ys.map V.str) us->StrsAre us ys:=by
 induction ys with
 |nil=>intro us r;cases r;exact .nil
 |cons y ys ih=>
  intro us r;cases r with
  |cons r rr=>
   obtain⟨t,rfl⟩:=r;exact .cons y t (ih rr)
theorem Gf{q:δ}{ys:List Str}(h:η X.K H q (ys.map V.str))(hw:(ys.map (·.length)).sum+ys.length*z.length<=16777216)(g:Q (.str (Str.join z ys)) H):MT X "str.join" (.str z) [.ref q] H Q:=by
 refine jA (r:=λx xs H Q=>∃z q ys,x=.str z/\xs=[.ref q]/\η X.K H q (ys.map V.str)/\(ys.map (·.length)).sum+ys.length*z.length<=16777216/\Q (.str (Str.join z ys)) H) ?_ ⟨z,q,ys,rfl,rfl,h,hw,g⟩;intro ϵ s σ H x xs v us Q I rx rs h;obtain⟨z,q,ys,rfl,rfl,h,hw,g⟩:=h;obtain⟨t,rfl⟩:=rx;obtain⟨u,rfl,ru⟩:=vals1 rs;cases(show u=Value.ref q from ru);obtain⟨ϸ,rv,pl,_⟩:=I.list h;refine join_list pl.isList (by simpa using G5 rv) hw λt' k=>⟨.str (Str.join z ys),H,I.tok k,⟨t',?_⟩,g⟩
 have e:Txt.join z ys=Str.join z ys:=by
  unfold Txt.join;cases ys with
  |nil=>rfl
  |cons y r=>exact StrLaws.glued_cons z r y
 rw[e]
theorem Ew(g:Q (.bl (Txt.startswith z y)) H):MT X "str.startswith" (.str z) [.str y] H Q:=by
 refine jA (r:=λx xs H Q=>∃z y,x=.str z/\xs=[.str y]/\Q (.bl (Txt.startswith z y)) H) ?_ ⟨z,y,rfl,rfl,g⟩;intro ϵ s σ H x xs v us Q I rx rs h;obtain⟨z,y,rfl,rfl,g⟩:=h;obtain⟨t,rfl⟩:=rx;obtain⟨u,rfl,ru⟩:=vals1 rs;obtain⟨t',rfl⟩:=ru;exact SC.startswith ⟨.bl _,H,I,rfl,g⟩
theorem GF{q:δ}{bs:List Bool}(hc:X.calm=true)(h:η X.K H q (bs.map V.bl))(g:Q (.bl (bs.all id)) H):CL X (.builtin "all") [.ref q] H Q:=by
 refine cX (r:=λxs H Q=>∃q bs,xs=[.ref q]/\η X.K H q (bs.map V.bl)/\Q (.bl (bs.all id)) H) ?_ ⟨q,bs,rfl,h,g⟩;intro ϵ s σ H xs us Q I r h;obtain⟨q,bs,rfl,h,g⟩:=h;obtain⟨u,rfl,ru⟩:=vals1 r;cases(show u=Value.ref q from ru);obtain⟨ϸ,rv,pl,hz⟩:=I.list h;refine call_all_walk (wpAny_pyIter_list pl.isList ?_);have hq:q<s.heap.objs.size:=by
  obtain⟨o,ho,_⟩:=pl.isList;exact abe ho
 have hlen:ϸ.length=bs.length:=by have:=rv.length;rw[ϳ]at this;exact this.symm
 refine⟨s.heap.objs.size,[s.heap.objs.size,q],[s.heap.objs.size],ϸ.toArray.size,(λi v=>ϸ.toArray[i]?=some v),(λi h=>h.IsListIter s.heap.objs.size q i/\h.IsList q ϸ.toArray),λi=>bs.getD i true,rfl,Walks.list (A:=X.A.in1) (show X.A.in1.handled=none from I.ok.hd hc) s.heap.objs.size q (ab6 hq) ϸ.toArray,⟨⟨_,abq _ rfl,rfl,rfl⟩,?_⟩,?_,λh' tk hk=>?_⟩
 .obtain⟨o,ho,r⟩:=pl.isList;exact⟨o,Heap.get?_push_of_some _ ho,r⟩
 .intro i v s Q E hv hq;have hv':ϸ[i]?=some v:=by simpa using hv
  have hi:i<bs.length:=by rw[<-hlen];exact(aal.mp hv').1
  obtain⟨u,e1,e2⟩:=rv.get (i:=i) (x:=V.bl bs[i]) (by simp[hi]);rw[hv']at e1;cases e1;cases(show v=Value.bool bs[i]from e2);refine ag8 ?_;have:bs.getD i true=bs[i]:=by simp[hi]
  have hq':Q (bs.getD i true) s:=hq;rw[this]at hq';exact hq'
 .have e:(afz ϸ.toArray.size).all (λi=>bs.getD i true)=bs.all id:=by
   rw[aaB,hlen,ahj,aeE,aeE];constructor
   .intro h b hb;obtain⟨i,hi,e⟩:=alK hb;have:=h i (by simpa using hi);simpa [hi,e]using this
   .intro h i hi;have hi':i<bs.length:=by simpa using hi
    have:=h bs[i] (aid hi');simpa [hi']using this
  rw[e];have fp:=I.fpOk (Ϯ _) (I.hok.fresh (Ϯ _));have I1:Inv X ϵ σ H {s with heap:=s.heap.push {cls:=.type "list_iterator",data:=.fields #[.ref q,.int 0 0]}}:=I.kept (t':=s.toks) λb o e=>Heap.get?_push_of_some _ e
  refine⟨.bl _,H,I1.turned (it:=s.heap.objs.size) (λb o hb e=>hk b o (by simpa using hb) e) (I.hok.fresh (Ϯ _)) fp.2.1 fp.2.2.2.1 fp.2.2.2.2.1 fp.2.2.2.2.2,rfl,g⟩
end
theorem b8{env:Env}{scope:ahI}(sc:ahI)(hsc:env.scope=sc)(hk:scope.kind=.function)(h:(scope.names.all λy=>(if y.2==.free then(sc.names.lookup y.1==some .cell||sc.names.lookup y.1==some .free)else true)&&y.2 !=.cell&&(if y.2==.local then scope.names.lookup y.1==some .local else true))=true):bC env scope:=by
 have h':=aeE.mp h;refine⟨hk,λy hy e=>?_,λy hy e=>?_,λy hy e=>?_⟩
 .have q:=h' y hy;simp only[e,beq_self_eq_true,if_true,aa3,al8,beq_iff_eq]at q;show env.scope.names.lookup y.1=_\/env.scope.names.lookup y.1=_;rw[hsc];exact q.1.1
 .have q:=h' y hy;rw[e]at q;simp at q
 .have q:=h' y hy;simp only[e,aa3,beq_iff_eq,beq_self_eq_true,if_true]at q;exact q.2
theorem jb{α:Type}{xs:List V}{ys:List α}(f:α->V)(hl:xs.length=ys.length)(h:∀(i:Nat) v,xs[i]?=some v->∃c,ys[i]?=some c/\v=f c):xs=ys.map f:=by
 apply List.ext_getElem?;intro i;rw[aca];cases e:xs[i]? with
 |none=>
  have:xs.length<=i:=List.getElem?_eq_none_iff.mp e;rw[List.getElem?_eq_none (by omega)];rfl
 |some v=>
  obtain⟨c,e1,e2⟩:=h i v e;rw[e1,e2];rfl
section
variable{X:Cx}{H:Hp}{Q:VK}
end
def EJ(X:Cx)(vs:List π)(out:Str)(σ:St)(H:Hp)(Q:VK):Prop:=
 ∀(ϵ:List (δ×Obj))(s:μ),Inv X ϵ σ H s->ν (Ϧ X.prog X.w) X.A (joinParts out (evalEach vs X.env)) (EP X ϵ σ Q) X.xe s
section
variable{X:Cx}{σ:St}{H:Hp}{Q:VK}{v v₁ v₂:π}{rest:List π}{pos:Pos}{out:Str}
theorem aaL(h:EJ X (v₁::v₂::rest) Str.empty σ H Q):EV X (.JoinedStr (v₁::v₂::rest) pos) σ H Q:=λϵ s I=>h ϵ s I
theorem aeL(hl:out.length<=Ϫ)(q:Q (.str out) H):EJ X [] out σ H Q:=λϵ s I=>joinParts_nil ⟨.str out,H,I.tok _,⟨_,rfl⟩,q⟩ hl
theorem ah3(h:EV X v σ H λx H1=>∃y,x=.str y/\(out++y).length<=Ϫ/\EJ X rest (out++y) σ H1 Q):EJ X (v::rest) out σ H Q:=λϵ s I=>by
 refine joinParts_cons (ρ (h ϵ s I) λu s1 ⟨x,H1,I1,r,y,e,hl,q⟩=>?_);subst e;obtain⟨t,rfl⟩:=r;exact⟨hl,q ϵ s1 I1⟩
theorem lW(h:EV X v σ H λx H1=>∃z,x=.str z/\z.length<=Ϫ/\Q (.str z) H1):EV X (.FormattedValue v (-1) none pos) σ H Q:=λϵ s I=>by
 refine FormattedValue_plain (ρ (h ϵ s I) λu s1 ⟨x,H1,I1,r,z,e,hl,q⟩=>?_);subst e;obtain⟨t,rfl⟩:=r;exact formatField_str (λt' tk=>⟨.str z,H1,I1.tok tk,⟨t',rfl⟩,q⟩) hl
theorem CP(h:EV X v σ H λx H1=>∃i,x=.int i/\i.natAbs.log2<1920/\Q (.str (toString i)) H1):EV X (.FormattedValue v (-1) none pos) σ H Q:=λϵ s I=>by
 refine FormattedValue_plain (ρ (h ϵ s I) λu s1 ⟨x,H1,I1,r,z,e,hl,q⟩=>?_);subst e;obtain⟨t,rfl⟩:=r;exact formatField_int_small hl ⟨.str (toString z),H1,I1.tok _,⟨_,rfl⟩,q⟩
end
def km(X:Cx)(vs:List π)(n:Nat)(σ:St)(H:Hp)(R:Hp->Prop):=∀out:Str,out.length<=n->∀Q:VK,(∀z H',R H'->Q (.str z) H')->EJ X vs out σ H Q
theorem Ot(x y:Str):(x++y).length=x.length+y.length:=by
 show(x.cps++y.cps).size=_;rw[Array.size_append];rfl
section
variable{X:Cx}{σ:St}{H:Hp}{Q:VK}{R:Hp->Prop}{v v₁ v₂:π}{rest:List π}{pos:Pos}{n:Nat}
theorem S5(h:km X (v₁::v₂::rest) 0 σ H λH'=>∀z,Q (.str z) H'):EV X (.JoinedStr (v₁::v₂::rest) pos) σ H Q:=aaL (h Str.empty (Ϯ _) Q λz H' r=>r z)
theorem agw(hn:n<=Ϫ)(r:R H):km X [] n σ H R:=λout ho Q k=>aeL (afK ho hn) (k out H r)
theorem Kf(h:EV X v σ H λx H1=>∃y m,x=.str y/\y.length<=m/\n+m<=Ϫ/\km X rest (n+m) σ H1 R):km X (v::rest) n σ H R:=λout ho Q k=>
 ah3 (aF h λx H1 ⟨y,m,e,hy,hm,q⟩=>⟨y,e,by rw[Ot];omega,q (out++y) (by rw[Ot];omega) Q k⟩)
end
abbrev dj:List ε:=[.type "ValueError",.type "Exception",.type "BaseException",.type "object"]
def θ(mg:Str->Option ε)(x:Str):δ:=match mg x with
 |some (.ref C)=>C
 |_=>0
theorem eQ{mg:Str->Option ε}{x:Str}{C:δ}(h:mg x=some (.ref C)):θ mg x=C:=by unfold θ;rw[h]
structure mL(K:Ϩ)(mg:Str->Option ε)(x:Str):Prop where
 at_:mg x=some (.ref (θ mg x))
 ex:ant K (θ mg x) dj "ValueError.__new__"=true
theorem ZW{K:Ϩ}{mg:Str->Option ε}{x:Str}{C:δ}(h:mg x=some (.ref C))(e:ant K C dj "ValueError.__new__"=true):mL K mg x:=by
 have z:θ mg x=C:=by unfold θ;rw[h]
 exact⟨by rw[z];exact h,by rw[z];exact e⟩
theorem aaR{K:Ϩ}{C:δ}{h:ϫ}(kin:K.In h)(e:ant K C dj "ValueError.__new__"=true):∃bm N nm q bs hdct sn sub ab col dd k0 k1 k2 k3 k5 mN,h.get? C=some (excClassObj nm q C N bs bm hdct sn sub ab col dd k0 k1 k2 k3 k5 "ValueError.__new__")/\h.Ns N mN/\mN "__init__"=none/\OwnTail h dj bm:=by
 unfold ant at e;split at e
 .rename_i dd cd sl ho;split at e
  .rename_i C' bm k0 k1 k2 k3 n k5 hm hs;simp only[aa3,beq_iff_eq,amU]at e;obtain⟨⟨⟨⟨⟨e1,e2⟩,e3⟩,e4⟩,e5⟩,e6⟩:=e;subst e1 e2;obtain⟨nm,bs,mro,ns,qn,hd,sn,sub,ab,col,del⟩:=cd;dsimp only at hm e3 e5 e6;subst hm e3;have hl:sl= #[k0,k1,k2,k3,some (.builtin "ValueError.__new__"),k5]:=by
    obtain⟨l⟩:=sl;simp only at hs;rw[hs]
   subst hl;exact⟨bm,ns,nm,qn,bs,hd,sn,sub,ab,col,dd,k0,k1,k2,k3,k5,_,kin _ _ ho,.of_isNs (W.isNs_of_in kin e5),W.nsMap_none_of_in kin e5 e6,W.tail_of_in kin e4⟩
  .cases e
 .cases e
section
variable{X:Cx}{Kx:St->XK}{D:Ends}{σ:St}{H:Hp}{x:Str}{np cpos pos:Pos}{e:π}{es:List π}
theorem eZ(hx:aZ X Kx)(hc:X.calm=true)(O:mL X.K X.mg x)(hg:Gl X x)(hd:(x==("__debug__":Str))=false)(he:Ϭ (e::es) X.env=(false,eval e X.env)::Ϭ es X.env)(hpl:(backTo cpos (Ϭ es X.env)).any (·.1)=false)(h:EA X (e::es) σ H λvs H1=>vs.length<=Ϫ/\Kx σ (.ref (θ X.mg x)) (none,true) H1):SX X (.Raise (some (.Call (.Name x np) (e::es) [] cpos)) none pos) D σ H:=by
 intro ϵ s I;obtain⟨bm,N,nm,q,bs,hdct,sn,sub,ab,col,dd,k0,k1,k2,k3,k5,mN,hC,hN,hni,T⟩:=aaR I.ok.mod.kin O.ex;refine wpAny_Raise_call_subT (C:=θ X.mg x) (nm:=nm) (q:=q) (N:=N) (bs:=bs) (bm:=bm) (hdct:=hdct) (sn:=sn) (sub:=sub) (ab:=ab) (col:=col) (dd:=dd) (k0:=k0) (k1:=k1) (k2:=k2) (k3:=k3) (k5:=k5)
  F.excBase_ValueError (mN:=mN) (T.hasType (by decide+kernel)) (I.ok.hd hc) ?_ hni (jY I hg O.at_ ⟨rfl,?_⟩ hd)
 .rw[he];show(false||(backTo cpos (Ϭ es X.env)).any (·.1))=false;rw[hpl];rfl
 .have h':=h cpos ϵ s I;rw[he]at h'⊢;refine Calls.evalArgs_plain (ρ h' λus s2 ⟨vs,H1,I2,r,hl,kq⟩=>⟨rfl,by rw[<-r.length];exact hl,I2.bk _ _ hC,hN.keeps I2.bk,T.keeps I2.bk,λh3 a M=>?_⟩);obtain⟨t,m1,m2,m3⟩:=M.there;refine hx ϵ σ H1 _ a _ (none,true) ⟨I2.kept (t':=s2.toks) M.keeps,none,.none,⟨_,_,m1,rfl,rfl,rfl,rfl,by simp,Ctx.yes rfl,λT z=>nomatch z⟩,.inl rfl,λb hb=>?_⟩ kq;have z:b=a:=by simpa using hb
  subst z;exact⟨I2.hok.free M.new,I2.ch M.new⟩
end
abbrev Cx.tri(X:Cx)(F:ε->μ->Prop)(pn:List (δ×Obj)):Cx:={X with xe:=F,pn:=pn}
section
variable{X:Cx}{ϵ pins':List (δ×Obj)}{σ:St}{H:Hp}{s:μ}{F:ε->μ->Prop}{e:ε}
theorem Cx.Ok.tri(ok:X.Ok)(pn:List (δ×Obj)):(X.tri F pn).Ok:=
 ⟨ok.mod,ok.kind,ok.glob,ok.blt,ok.above,ok.inj,ok.has,ok.cab,ok.hd,ok.frames,ok.stk,ok.exf,ok.bs,ok.bsz,ok.noex,ok.exfs,ok.funs,ok.frf⟩
theorem Inv.tri(I:Inv X ϵ σ H s):Inv (X.tri F (X.pn++ϵ)) [] σ H s:=
 ⟨I.ok.tri _,I.os,I.bare,I.base,I.loc,I.cell,I.free,I.freeC,λp hp=>I.pin p (by simpa using hp),I.hok,I.len⟩
theorem Inv.jC(ok:X.Ok)(I:Inv (X.tri F (X.pn++ϵ)) pins' σ H s):Inv X ϵ σ H s:=
 ⟨ok,I.os,I.bare,I.base,I.loc,I.cell,I.free,I.freeC,λp hp=>I.pin p (ahp _ hp),I.hok,I.len⟩
theorem Ch.jC{b:δ}(c:Ch (X.tri F (X.pn++ϵ)) pins' b):Ch X ϵ b:=⟨c.1,c.2.1,c.2.2.1,λp hp=>c.2.2.2 p (ahp _ hp)⟩
end
def EH(X:Cx)(hs:List ak1)(D:Ends)(σ:St)(cls:ε)(d:Option δ×Bool)(H:Hp):Prop:=
 ∀(ϵ:List (δ×Obj))(s:μ)(e T:δ),Inv X ϵ σ H s->bD s.heap e cls d (some T) .none->(∀b∈[e,T],H b=none/\Ch X ϵ b)->
  ν (Ϧ X.prog X.w) X.A (handleBy (.ref e) X.env hs) (SP X ϵ D) X.xe s
section
variable{X:Cx}{D:Ends}{σ:St}{H:Hp}{h₀:ak1}{hs rest:List ak1}{body orelse suite:List ϧ}{b₀:ϧ}{pos np:Pos}{x n:Str}{cls c:ε}{d:Option δ×Bool}
theorem ahc(Kx:St->XK)(hst:X.stack=X.env::X.outer)(hf:X.env.frame=some X.env.locals)(hb:∀F pn,aZ (X.tri F pn) Kx->alC (Ϧ X.prog X.w) X.A X.env F->Ψ (X.tri F pn) body {D with nx:=λσ' H'=>Ψ X orelse D σ' H'} σ H)(hh:∀σ' cls d H',Kx σ' cls d H'->EH X (h₀::hs) D σ' cls d H'):SX X (.Try body (h₀::hs) orelse [] pos) D σ H:=by
 intro ϵ s I;refine wpAny_Try_except ?_;refine adm (hb (λe s1=>ν (Ϧ X.prog X.w) X.A (noteFrame e X.env) (λ_ s2=>ν (Ϧ X.prog X.w) X.A (setFlight e none) (λ_ s3=>ν (Ϧ X.prog X.w) X.A (handleBy e X.env (h₀::hs)) (SP X ϵ D) X.xe s3) X.xe s2) X.xe s1)
  (X.pn++ϵ) ?_ PassesOwn.looking [] s I.tri) (λf s1 q=>?_) λ_ _ q=>q
 .intro pins' σ' H' s' e cls d xa q;obtain⟨I',tb,fl,F',hfl,ch⟩:=xa;have I2:=Inv.jC I.ok I';refine pN.note (X:=X) (ϵ:=ϵ) ⟨I2,tb,fl,F',hfl,λb hb=>⟨(ch b hb).1,(ch b hb).2.jC⟩⟩ hst hf λs2 T I3 F3 c3=>?_
  exact I3.off F3 c3 λs4 I4 F4=>hh σ' cls d H' q ϵ s4 e T I4 F4 c3
 .cases f with
  |next=>
   obtain⟨σ',H',J,q⟩:=q;exact q ϵ s1 (Inv.jC I.ok J)
  |brk=>
   obtain⟨σ',H',J,q⟩:=q;exact⟨σ',H',Inv.jC I.ok J,q⟩
  |cont=>
   obtain⟨σ',H',J,q⟩:=q;exact⟨σ',H',Inv.jC I.ok J,q⟩
  |ret u=>
   obtain⟨v,σ',H',J,r,q⟩:=q;exact⟨v,σ',H',Inv.jC I.ok J,r,q⟩
end
mutual
inductive RD (K:Ϩ) (H:Hp):V->alV->Prop
 |non:RD K H .non .none
 |bl (b:Bool):RD K H (.bl b) (.bool b)
 |int (i:Int):RD K H (.int i) (.int i)
 |str (x:Str):RD K H (.str x) (.str x)
 |lst {a:δ} {xs:List V} {ds:List alV} (h:η K H a xs) (r:dH K H xs ds):RD K H (.ref a) (.list ds)
 |tup {a:δ} {xs:List V} {ds:List alV} (h:Β K H a xs) (r:dH K H xs ds):RD K H (.ref a) (.tuple ds)
inductive dH (K:Ϩ) (H:Hp):List V->List alV->Prop
 |nil:dH K H [] []
 |cons {x:V} {d:alV} {xs:List V} {ds:List alV} (h:RD K H x d) (r:dH K H xs ds):dH K H (x::xs) (d::ds)
end
mutual
theorem RD.reads{X:Cx}{ϵ:List (δ×Obj)}{σ:St}{H:Hp}{s:μ}(I:Inv X ϵ σ H s):∀{v:V}{d:alV}{u:ε},RD X.K H v d->RelV v u->∃as,Reads s.heap u d as
 |_,_,_,.non,e=>by cases(show _=Value.none from e);exact⟨_,.none⟩
 |_,_,_,.bl b,e=>by cases(show _=Value.bool b from e);exact⟨_,.bool b⟩
 |_,_,_,.int i,e=>by obtain⟨t,rfl⟩:=e;exact⟨_,.int i t⟩
 |_,_,_,.str x,e=>by obtain⟨t,rfl⟩:=e;exact⟨_,.str x t⟩
 |_,_,_,.lst h r,e=>by
  cases(show _=Value.ref _ from e);obtain⟨ϸ,rv,pl,_⟩:=I.list h;obtain⟨as,q⟩:=dH.reads I r rv;obtain⟨o,ho,hc,n,hd⟩:=pl.isList;exact⟨_,.list ho hc hd (by simpa using q)⟩
 |_,_,_,.tup h r,e=>by
  cases(show _=Value.ref _ from e);obtain⟨ϸ,rv,tp,_⟩:=I.tuple h;obtain⟨as,q⟩:=dH.reads I r rv;obtain⟨o,ho,hc,n,hd⟩:=tp;exact⟨_,.tuple ho hc hd (by simpa using q)⟩
theorem dH.reads{X:Cx}{ϵ:List (δ×Obj)}{σ:St}{H:Hp}{s:μ}(I:Inv X ϵ σ H s):∀{vs:List V}{ds:List alV}{us:List ε},dH X.K H vs ds->Vals vs us->∃as,ReadsAll s.heap us ds as
 |_,_,_,.nil,.nil=>⟨_,.nil⟩
 |_,_,_,.cons h r,.cons e t=>by
  obtain⟨as,q⟩:=RD.reads I h e;obtain⟨bs,q2⟩:=dH.reads I r t;exact⟨_,.cons q q2⟩
end
section
variable{X:Cx}{H:Hp}{Q:VK}{x y:V}{d d':alV}
theorem MF(hu:X.A.units+64<cLine)(hx:RD X.K H x d)(hy:RD X.K H y d')(h1:d.canLay0=true)(h2:d'.canLay0=true)(hd:d.depth<=60)(q:Q (.bl (PyData.eqv d d')) H):OP X (adH .Eq) x y H Q:=by
 refine⟨λx y H Q=>RD X.K H x d/\RD X.K H y d'/\Q (.bl (PyData.eqv d d')) H,?_,hx,hy,q⟩;intro ϵ s σ H x y v u Q I rx ry ⟨hx,hy,q⟩;obtain⟨as,r1⟩:=RD.reads I hx rx;obtain⟨bs,r2⟩:=RD.reads I hy ry;exact SeqAt.rcAt_reads r1 r2 h1 h2 (by have:=ane d.depth d'.depth;omega) X.prog X.w X.xe _ ⟨.bl _,H,I,rfl,q⟩
theorem ag9(hu:X.A.units+64<cLine)(hx:RD X.K H x d)(hy:RD X.K H y d')(h1:d.canLay0=true)(h2:d'.canLay0=true)(hd:d.depth<=60)(q:Q (.bl (!PyData.eqv d d')) H):OP X (adH .NotEq) x y H Q:=by
 refine⟨λx y H Q=>RD X.K H x d/\RD X.K H y d'/\Q (.bl (!PyData.eqv d d')) H,?_,hx,hy,q⟩;intro ϵ s σ H x y v u Q I rx ry ⟨hx,hy,q⟩;obtain⟨as,r1⟩:=RD.reads I hx rx;obtain⟨bs,r2⟩:=RD.reads I hy ry;exact SeqAt.rcNeAt_reads r1 r2 h1 h2 (by have:=ane d.depth d'.depth;omega) X.prog X.w X.xe _ ⟨.bl _,H,I,rfl,q⟩
end
def oG(l:List ϧ)(i:Nat):ϧ:=l.getD i (.Pass ⟨0,0,0,0⟩)
def Oc(s:ϧ):List ϧ:=match s with
 |.If _ b _ _=>b
 |_=>[]
theorem acN{A B:Prop}(h:A):if decide (V.non=V.non)=true then A else B:=by rw[if_pos (by decide)];exact h
theorem adI{A B:Prop}{i:Int}(h:B):if decide (V.int i=V.non)=true then A else B:=by rw[if_neg (by simp)];exact h
theorem ab2{A B:Prop}{i:Str}(h:B):if decide (V.str i=V.non)=true then A else B:=by rw[if_neg (by simp)];exact h
theorem ael{A B:Prop}{i:δ}(h:B):if decide (V.ref i=V.non)=true then A else B:=by rw[if_neg (by simp)];exact h
theorem agc{A B:Prop}(h:B):if(!decide (V.non=V.non))=true then A else B:=by rw[if_neg (by decide)];exact h
theorem We{A B:Prop}{i:Int}(h:A):if(!decide (V.int i=V.non))=true then A else B:=by rw[if_pos (by simp)];exact h
theorem adG{A B:Prop}{i:Str}(h:A):if(!decide (V.str i=V.non))=true then A else B:=by rw[if_pos (by simp)];exact h
theorem aaY{X:Cx}{H:Hp}{Q:VK}{z:Str}{n:Int}(hn:intText? z=some n)(hl:z.length<=640)(q:Q (.int n) H):CL X (.type "int") [.str z] H Q:=by
 refine cX (r:=λxs H Q=>∃z n,xs=[.str z]/\intText? z=some n/\z.length<=640/\Q (.int n) H) ?_ ⟨z,n,rfl,hn,hl,q⟩;intro ϵ s σ H xs us Q I r h;obtain⟨z,n,rfl,hn,hl,q⟩:=h;obtain⟨u,rfl,ru⟩:=vals1 r;obtain⟨t,rfl⟩:=ru;exact W.KIN.call_text hn hl ⟨.int n,H,I.tok _,⟨_,rfl⟩,q⟩
theorem afU{X:Cx}{H:Hp}{Q:VK}{i:Int}(q:Q (.bl true) H):CL X (.builtin "isinstance") [V.int i,.ty "int"] H Q:=kY (aV.int _) (k:=true) (by rfl) q
theorem ahQ{X:Cx}{H:Hp}{Q:VK}{i:Int}(q:Q (.bl false) H):CL X (.builtin "isinstance") [V.int i,.ty "bool"] H Q:=kY (aV.int _) (k:=false) (by rfl) q
theorem ah5{X:Cx}{H:Hp}{Q:VK}{i:Int}(q:Q (.bl false) H):CL X (.builtin "isinstance") [V.int i,.ty "str"] H Q:=kY (aV.int _) (k:=false) (by rfl) q
theorem V9{X:Cx}{H:Hp}{Q:VK}{i:Str}(q:Q (.bl false) H):CL X (.builtin "isinstance") [V.str i,.ty "int"] H Q:=kY (aV.str _) (k:=false) (by rfl) q
theorem YM{X:Cx}{H:Hp}{Q:VK}{i:Str}(q:Q (.bl true) H):CL X (.builtin "isinstance") [V.str i,.ty "str"] H Q:=kY (aV.str _) (k:=true) (by rfl) q
theorem aib{X:Cx}{H:Hp}{Q:VK}(q:Q (.bl false) H):CL X (.builtin "isinstance") [V.non,.ty "int"] H Q:=kY (aV.non) (k:=false) (by rfl) q
theorem RK{X:Cx}{H:Hp}{Q:VK}(q:Q (.bl false) H):CL X (.builtin "isinstance") [V.non,.ty "str"] H Q:=kY (aV.non) (k:=false) (by rfl) q
section
variable{X:Cx}{e:π}{es:List π}{σ:St}{H:Hp}{Q:VK}{pos p:Pos}
theorem RP(hg:Gl X "len")(hm:X.mg "len"=none)(he:Ϭ (e::es) X.env=(false,eval e X.env)::Ϭ es X.env)(hpl:(backTo pos (Ϭ es X.env)).any (·.1)=false)(h:EA X (e::es) σ H λvs H1=>CL X (.builtin "len") vs H1 Q):EV X (.Call (.Name "len" p) (e::es) [] pos) σ H Q:=ou hg hm PySem.boot_len (by decide) (by decide) he hpl h
theorem Sh(hg:Gl X "isinstance")(hm:X.mg "isinstance"=none)(he:Ϭ (e::es) X.env=(false,eval e X.env)::Ϭ es X.env)(hpl:(backTo pos (Ϭ es X.env)).any (·.1)=false)(h:EA X (e::es) σ H λvs H1=>CL X (.builtin "isinstance") vs H1 Q):EV X (.Call (.Name "isinstance" p) (e::es) [] pos) σ H Q:=ou hg hm PyProof.Rows.boot_isinstance (by decide) (by decide) he hpl h
theorem aa8(hg:Gl X "all")(hm:X.mg "all"=none)(he:Ϭ (e::es) X.env=(false,eval e X.env)::Ϭ es X.env)(hpl:(backTo pos (Ϭ es X.env)).any (·.1)=false)(h:EA X (e::es) σ H λvs H1=>CL X (.builtin "all") vs H1 Q):EV X (.Call (.Name "all" p) (e::es) [] pos) σ H Q:=ou hg hm PyProof.Rows.boot_all (by decide) (by decide) he hpl h
theorem Z3(hg:Gl X "min")(hm:X.mg "min"=none)(he:Ϭ (e::es) X.env=(false,eval e X.env)::Ϭ es X.env)(hpl:(backTo pos (Ϭ es X.env)).any (·.1)=false)(h:EA X (e::es) σ H λvs H1=>CL X (.builtin "min") vs H1 Q):EV X (.Call (.Name "min" p) (e::es) [] pos) σ H Q:=ou hg hm PyProof.Rows.boot_min (by decide) (by decide) he hpl h
theorem ab8(hg:Gl X "abs")(hm:X.mg "abs"=none)(he:Ϭ (e::es) X.env=(false,eval e X.env)::Ϭ es X.env)(hpl:(backTo pos (Ϭ es X.env)).any (·.1)=false)(h:EA X (e::es) σ H λvs H1=>CL X (.builtin "abs") vs H1 Q):EV X (.Call (.Name "abs" p) (e::es) [] pos) σ H Q:=ou hg hm PyProof.Rows.boot_abs (by decide) (by decide) he hpl h
theorem Az(hg:Gl X "sorted")(hm:X.mg "sorted"=none)(he:Ϭ (e::es) X.env=(false,eval e X.env)::Ϭ es X.env)(hpl:(backTo pos (Ϭ es X.env)).any (·.1)=false)(h:EA X (e::es) σ H λvs H1=>CL X (.builtin "sorted") vs H1 Q):EV X (.Call (.Name "sorted" p) (e::es) [] pos) σ H Q:=ou hg hm PyProof.Rows.boot_sorted (by decide) (by decide) he hpl h
theorem ags(hg:Gl X "str")(hm:X.mg "str"=none)(he:Ϭ (e::es) X.env=(false,eval e X.env)::Ϭ es X.env)(hpl:(backTo pos (Ϭ es X.env)).any (·.1)=false)(h:EA X (e::es) σ H λvs H1=>CL X (.type "str") vs H1 Q):EV X (.Call (.Name "str" p) (e::es) [] pos) σ H Q:=pZ hg hm PyProof.Rows.boot_str (by decide) (by decide) he hpl h
theorem abB(hg:Gl X "list")(hm:X.mg "list"=none)(he:Ϭ (e::es) X.env=(false,eval e X.env)::Ϭ es X.env)(hpl:(backTo pos (Ϭ es X.env)).any (·.1)=false)(h:EA X (e::es) σ H λvs H1=>CL X (.type "list") vs H1 Q):EV X (.Call (.Name "list" p) (e::es) [] pos) σ H Q:=pZ hg hm PyProof.Rows.boot_list (by decide) (by decide) he hpl h
theorem aho(hg:Gl X "tuple")(hm:X.mg "tuple"=none)(he:Ϭ (e::es) X.env=(false,eval e X.env)::Ϭ es X.env)(hpl:(backTo pos (Ϭ es X.env)).any (·.1)=false)(h:EA X (e::es) σ H λvs H1=>CL X (.type "tuple") vs H1 Q):EV X (.Call (.Name "tuple" p) (e::es) [] pos) σ H Q:=pZ hg hm PyProof.Rows.boot_tuple (by decide) (by decide) he hpl h
theorem aat(hg:Gl X "int")(hm:X.mg "int"=none)(he:Ϭ (e::es) X.env=(false,eval e X.env)::Ϭ es X.env)(hpl:(backTo pos (Ϭ es X.env)).any (·.1)=false)(h:EA X (e::es) σ H λvs H1=>CL X (.type "int") vs H1 Q):EV X (.Call (.Name "int" p) (e::es) [] pos) σ H Q:=pZ hg hm PyProof.Rows.boot_int (by decide) (by decide) he hpl h
theorem Ud(hg:Gl X "set")(hm:X.mg "set"=none)(he:Ϭ (e::es) X.env=(false,eval e X.env)::Ϭ es X.env)(hpl:(backTo pos (Ϭ es X.env)).any (·.1)=false)(h:EA X (e::es) σ H λvs H1=>CL X (.type "set") vs H1 Q):EV X (.Call (.Name "set" p) (e::es) [] pos) σ H Q:=pZ hg hm PyProof.Rows.boot_set (by decide) (by decide) he hpl h
theorem ty_str(hg:Gl X "str")(hm:X.mg "str"=none)(q:Q (.ty "str") H):EV X (.Name "str" pos) σ H Q:=yX hg hm PyProof.Rows.boot_str q (by decide) (by decide)
theorem ty_int(hg:Gl X "int")(hm:X.mg "int"=none)(q:Q (.ty "int") H):EV X (.Name "int" pos) σ H Q:=yX hg hm PyProof.Rows.boot_int q (by decide) (by decide)
theorem ty_bool(hg:Gl X "bool")(hm:X.mg "bool"=none)(q:Q (.ty "bool") H):EV X (.Name "bool" pos) σ H Q:=yX hg hm PyProof.Rows.boot_bool q (by decide) (by decide)
end
section
variable{X:Cx}{ϵ:List (δ×Obj)}{σ:St}{H:Hp}{s:μ}
theorem Inv.Eb{ch:List δ}{T:δ}{xs:List V}{us:List ε}{h':ϫ}{tk:Nat}(I:Inv X ϵ σ H s)(hf:∀b∈ch,aM X ϵ H b)(hT:s.heap.objs.size<=T)(k:∀b o,b∉ch->s.heap.get? b=some o->h'.get? b=some o)(hz:xs.length<=Ϫ)(rv:Vals xs us)(tp:IsTup h' T us.toArray):Inv X ϵ σ (upd H T (.tup xs)) {s with heap:=h',toks:=tk}:=by
 have nT:=I.hok.fresh hT;have neT:∀b o,s.heap.get? b=some o->b≠T:=λb o e z=>aiE _ (abu (abe e) (z▸hT))
 have nch:∀b u,H b=some u->b∉ch:=λb u e z=>by rw[(hf b z).1]at e;cases e
 refine I.call (g':=s.gens) (d':=s.drawn) (t':=tk) (ch:=ch) (h':=h') ⟨λb o e _ _ hx=>k b o hx e,λb o e _ _ hx=>⟨o.slots,k b o hx e⟩,λb o e n _=>?_,λb o e hx=>⟨o,k b o hx e⟩,λb ys e=>?_,λb o u e=>?_,λb ps e=>⟨#[],?_⟩⟩ ?_ I.bare
  λb hb=>⟨(hf b hb).2.2.2.1,(hf b hb).2.1,(hf b hb).2.2.2.2.1,(hf b hb).2.2.2.2.2⟩
 .rw[ι (neT b o e)];exact n
 .rw[ι (Η e nT)];exact e
 .rw[ι (Η e nT)];exact e
 .rw[ι (Η e nT),e];simp
 .intro b u e;by_cases hb:b=T
  .subst hb;rw[υ]at e;cases e;exact⟨hz,us,rv,tp⟩
  .rw[ι hb]at e;refine(I.hok b u e).stay (λc v hc q=>k c v ?_ q) (λc q=>by rw[ι (Η q nT)];exact q) (λc ys q=>by rw[ι (Η q nT)];exact q) λc ob v q=>by rw[ι (Η q nT)];exact q
   obtain z|z:=hc
   .subst z;exact nch c u e
   .exact nch c _ z
end
def Bc(K:Ϩ)(l:δ):It:=
 ⟨λi H=>∃xs x,η K H l xs/\xs[i]?=some x,λi H v H'=>∃T x,v=.ref T/\H T=none/\H'=upd H T (.tup [.int i,x])/\∀xs,η K H l xs->xs[i]?=some x,λi H=>∃xs,η K H l xs/\xs.length<=i⟩
theorem Xp{P:ϯ}{w:ϭ}{K:PySem.W.Frag}{elts:List π}{k:Nat}{pos:Pos}(l e it:δ)(hei:e≠it)(hle:l≠e)(hli:l≠it):Turn P w K (.Tuple elts k pos) (Bc K l) [e,it] e (λi h=>(∃old,IsEnum h e it i old)/\h.IsListIter it l i)where
 mem:=by simp
 obj:=λi h st b hb=>by
  obtain⟨⟨old,he⟩,o,ho,_,hd⟩:=st;obtain z|z:=ϴ.mp hb
  .subst z;exact⟨_,he,λv z=>by cases z⟩
  .have z':b=it:=by simpa using z
   subst z';exact⟨o,ho,λv z=>by rw[hd]at z;cases z⟩
 keep:=λi h h' st kk=>by
  obtain⟨⟨old,he⟩,o,ho,r⟩:=st;exact⟨⟨old,kk e (by simp) _ he⟩,o,kk it (by simp) _ ho,r⟩
 item:=by
  intro X hP hw hK hc i ϵ s σ H E I hf st hg;subst hP hw hK;obtain⟨⟨old,he⟩,hit⟩:=st;obtain⟨xs,x,hS,hx⟩:=hg;obtain⟨ϸ,rv,pl,hz⟩:=I.list hS;have W:=WalksT.enumerate (prog:=X.prog) (w:=X.w) (A:=X.A) (I.ok.hd hc) e it l hei hle hli ϸ.toArray;have hi:i<ϸ.toArray.size:=by
   rw[aaB, <-rv.length];exact(aal.mp hx).1
  obtain⟨u,hu,ru⟩:=rv.get hx;refine W.item i s _ _ hi ⟨⟨old,he⟩,hit,pl.isList⟩ λT vals h1 tk hp hT tup mid keep=>⟨.ref T,rfl,?_⟩
  obtain⟨t,y,ey,rfl⟩:=hp;have euy:y=u:=by
   have:ϸ[i]?=some y:=by simpa using ey
   rw[hu]at this;exact(Option.some.inj this).symm
  subst euy;refine W.go elts k pos i T {s with heap:=h1,toks:=tk} _ _ mid λh2 st2 kZ=>?_
  obtain⟨⟨ad7,he2⟩,hit2,_⟩:=st2;have Bt:IsTup h2 T [Value.int i t,y].toArray:=by
   obtain⟨o,ho,r⟩:=tup;exact⟨o,kZ T o (W.apart i T h1 mid) ho,r⟩
  refine⟨.ref T,upd H T (.tup [.int i,x]),I.Eb (ch:=[e,it]) (tk:=tk) hf hT (λb o hb q=>kZ b o hb (keep b o hb q)) (by show 2<=Ϫ;rw[ϲ];decide) (.cons ⟨t,rfl⟩ (.cons ru .nil)) Bt,rfl,?_,?_,λb hb=>?_⟩
  .refine⟨T,x,rfl,I.hok.fresh hT,rfl,λys hy=>?_⟩;rw[<-I.list_inj hS hy];exact hx
  .exact⟨⟨ad7,by simpa using he2⟩,hit2⟩
  .have :b≠T:=λz=>by
    obtain⟨o,ho,_⟩:∃o,s.heap.get? b=some o/\True:=by
     obtain z|z:=ϴ.mp hb
     .subst z;exact⟨_,he,trivial⟩
     .have z':b=it:=by simpa using z
      subst z';obtain⟨o,ho,_⟩:=hit;exact⟨o,ho,trivial⟩
    exact aiE _ (abu (abe ho) (z▸hT))
   rw[ι this];exact(hf b hb).1
 done:=by
  intro X hP hw hK hc i ϵ s σ H E I hf st hg;subst hP hw hK;obtain⟨⟨old,he⟩,hit⟩:=st;obtain⟨xs,hS,hx⟩:=hg;obtain⟨ϸ,rv,pl,hz⟩:=I.list hS;have hn:ϸ.toArray[i]?=none:=Array.getElem?_eq_none (by rw[aaB, <-rv.length];exact hx);refine wpAny_pyNext_enum_end (I.ok.hd hc) he hit pl.isList hn λh' hk=>⟨rfl,?_⟩
  obtain⟨f0,f1,f2,f3,f4,f5⟩:=hf it (by simp);exact I.turned (t':=s.toks) (it:=it) (λb o hb q=>hk b o hb q) f0 f1 f3 f4 f5
 self:=λA i s Q E st h=>by
  obtain⟨⟨old,he⟩,_⟩:=st;exact wpAny_pyIter_enum he h
section
variable{X:Cx}{σ:St}{H:Hp}{a b:π}{elts:List π}{k:Nat}{tp p pos:Pos}{R:It->Hp->Prop}
theorem adk(hg:Gl X "enumerate")(hm:X.mg "enumerate"=none)(hs:Ϭ [a] X.env=[(false,eval a X.env)])(h:EV X a σ H λv H1=>∃l xs,v=.ref l/\H1 l=some (.lst xs)/\R (Bc X.K l) H1):EI X (.Tuple elts k tp) (.Call (.Name "enumerate" p) [a] [] pos) σ H R:=by
 intro ϵ s I;refine Call_ (gY I hg hm boot_enumerate (PyProof.Rows.callWith_type1 (ρ (gZ (es:=[]) (QA:=λvs H1=>∃l xs,vs=[.ref l]/\H1 l=some (.lst xs)/\R (Bc X.K l) H1) hs (aF h λv H1 ⟨l,xs,e,q1,q2⟩=>gM ⟨l,xs,by rw[e],q1,q2⟩) pos ϵ s I) λus s1 ⟨vs,H1,I1,r1,l,xs,e,hl,q⟩=>?_) hs rfl));subst e;obtain⟨u,rfl,ru⟩:=vals1 r1;cases(show u=Value.ref l from ru);obtain⟨hz,ϸ,n,rv,ho⟩:=I1.hok l _ hl;refine call_enumerate_1 ho λh' he hit hsz hk=>?_
 refine wpAny_pyIter_enum he ?_;have hlt:l<s1.heap.objs.size:=abe ho;refine⟨s1.heap.objs.size+1,[s1.heap.objs.size+1,s1.heap.objs.size],_,_,H1,rfl,I1.kept (t':=s1.toks) hk,Xp l _ _ (Nat.succ_ne_self _) (ab6 (alz hlt)) (ab6 hlt),⟨⟨_,he⟩,hit⟩,λb hb=>?_,q⟩;have hb':b=s1.heap.objs.size+1\/b=s1.heap.objs.size:=by simpa using hb
 obtain z|z:=hb'<;>subst z
 .exact I1.fpOk (alJ _) (I1.hok.fresh (alJ _))
 .exact I1.fpOk (Ϯ _) (I1.hok.fresh (Ϯ _))
end
section
variable{X:Cx}{ϵ:List (δ×Obj)}{σ:St}{H:Hp}{s:μ}
theorem Inv.acB{ch:List δ}{h':ϫ}{tk:Nat}(I:Inv X ϵ σ H s)(hf:∀b∈ch,aM X ϵ H b)(k:∀b o,b∉ch->s.heap.get? b=some o->h'.get? b=some o):Inv X ϵ σ H {s with heap:=h',toks:=tk}:=by
 have nch:∀b u,H b=some u->b∉ch:=λb u e z=>by rw[(hf b z).1]at e;cases e
 refine I.call (g':=s.gens) (d':=s.drawn) (t':=tk) (ch:=ch) (h':=h') ⟨λb o e _ _ hx=>k b o hx e,λb o e _ _ hx=>⟨o.slots,k b o hx e⟩,λb o e n _=>n,λb o e hx=>⟨o,k b o hx e⟩,λb ys e=>e,λb o u e=>e,λb ps e=>⟨#[],?_⟩⟩ ?_ I.bare
  λb hb=>⟨(hf b hb).2.2.2.1,(hf b hb).2.1,(hf b hb).2.2.2.2.1,(hf b hb).2.2.2.2.2⟩
 .rw[e];simp
 .intro b u e;refine(I.hok b u e).stay (λc v hc q=>k c v ?_ q) (λc q=>q) λc ys q=>q
  obtain z|z:=hc
  .subst z;exact nch c u e
  .exact nch c _ z
end
def Cp(K:Ϩ)(l m:δ):It:=
 ⟨λi H=>∃xs ys x y,η K H l xs/\η K H m ys/\xs[i]?=some x/\ys[i]?=some y,
  λi H v H'=>∃T x y,v=.ref T/\H T=none/\H'=upd H T (.tup [x,y])/\(∀xs,η K H l xs->xs[i]?=some x)/\∀ys,η K H m ys->ys[i]?=some y,
  λi H=>∃xs ys,η K H l xs/\η K H m ys/\min xs.length ys.length<=i⟩
theorem Rb{P:ϯ}{w:ϭ}{K:PySem.W.Frag}{elts:List π}{k:Nat}{pos:Pos}(z TI TO i1 i2 l m:δ)(D:ZipApart z TI TO i1 i2 l m):Turn P w K (.Tuple elts k pos) (Cp K l m) [z,TI,TO,i1,i2] z (λi h=>IsZip h z TI TO .none/\IsPair h TI (.ref i1) (.ref i2)/\(∃a b,IsPair h TO a b)/\h.IsListIter i1 l i/\h.IsListIter i2 m i)where
 mem:=by simp
 obj:=λi h st b hb=>by
  obtain⟨hz,hTI,⟨a,a',hTO⟩,⟨o1,h1,_,d1⟩,⟨o2,h2,_,d2⟩⟩:=st;simp only[List.mem_cons,List.not_mem_nil,or_false]at hb;obtain e|e|e|e|e:=hb<;>subst e
  .exact⟨_,hz,λv z=>by cases z⟩
  .exact⟨_,hTI,λv z=>by cases z⟩
  .exact⟨_,hTO,λv z=>by cases z⟩
  .exact⟨_,h1,λv z=>by rw[d1]at z;cases z⟩
  .exact⟨_,h2,λv z=>by rw[d2]at z;cases z⟩
 keep:=λi h h' st kk=>by
  obtain⟨hz,hTI,⟨a,a',hTO⟩,⟨o1,h1,r1⟩,⟨o2,h2,r2⟩⟩:=st;exact⟨kk z (by simp) _ hz,kk TI (by simp) _ hTI,⟨a,a',kk TO (by simp) _ hTO⟩,⟨o1,kk i1 (by simp) _ h1,r1⟩,⟨o2,kk i2 (by simp) _ h2,r2⟩⟩
 item:=by
  intro X hP hw hK hc i ϵ s σ H E I hf st hg;subst hP hw hK;obtain⟨hz,hTI,hTO,h1,h2⟩:=st;obtain⟨xs,ys,x,y,hS,hS',hx,hy⟩:=hg;obtain⟨ϸ,rv,pl,hsz⟩:=I.list hS;obtain⟨its',rv',xM,hsz'⟩:=I.list hS';have W:=WalksT.zip2 (prog:=X.prog) (w:=X.w) (A:=X.A) (I.ok.hd hc) z TI TO i1 i2 l m D ϸ.toArray its'.toArray;have hi:i<min ϸ.toArray.size its'.toArray.size:=by
   rw[aaB, <-rv.length,aaB, <-rv'.length];exact Nat.lt_min.mpr ⟨(aal.mp hx).1,(aal.mp hy).1⟩
  obtain⟨u,hu,ru⟩:=rv.get hx;obtain⟨u',hu',wV⟩:=rv'.get hy;refine W.item i s _ _ hi ⟨hz,hTI,hTO,h1,h2,pl.isList,xM.isList⟩ λT vals hh tk hp hT tup mid keep=>⟨.ref T,rfl,?_⟩
  obtain⟨v,v',ev,ev',rfl⟩:=hp;have e1:v=u:=by
   have:ϸ[i]?=some v:=by simpa using ev
   rw[hu]at this;exact(Option.some.inj this).symm
  have e2:v'=u':=by
   have:its'[i]?=some v':=by simpa using ev'
   rw[hu']at this;exact(Option.some.inj this).symm
  subst e1 e2;refine W.go elts k pos i T {s with heap:=hh,toks:=tk} _ _ mid λh3 st2 kZ=>?_
  obtain⟨gz,XH,gTO,g1,g2,_⟩:=st2;have nin:∀b,b∉[z,TI,TO,i1,i2]->b∉[z,TO,i1,i2]:=λb hb hb'=>hb (by simp at hb'⊢;obtain e|e|e|e:=hb'<;>simp[e])
  have Bt:IsTup h3 T [v,v'].toArray:=by
   obtain⟨o,ho,r⟩:=tup;exact⟨o,kZ T o (W.apart i T hh mid) ho,r⟩
  refine⟨.ref T,upd H T (.tup [x,y]),I.Eb (ch:=[z,TI,TO,i1,i2]) (tk:=tk) hf hT (λb o hb q=>kZ b o (nin b hb) (keep b o (nin b hb) q)) (by show 2<=Ϫ;rw[ϲ];decide) (.cons ru (.cons wV .nil)) Bt,rfl,?_,⟨gz,XH,gTO,g1,g2⟩,λb hb=>?_⟩
  .refine⟨T,x,y,rfl,I.hok.fresh hT,rfl,λa ha=>?_,λa ha=>?_⟩
   .rw[<-I.list_inj hS ha];exact hx
   .rw[<-I.list_inj hS' ha];exact hy
  .have :b≠T:=λq=>by
    obtain⟨o,ho⟩:∃o,s.heap.get? b=some o:=by
     obtain⟨a,a',hTO⟩:=hTO;obtain⟨o1,h1,_⟩:=h1;obtain⟨o2,h2,_⟩:=h2;simp only[List.mem_cons,List.not_mem_nil,or_false]at hb;obtain e|e|e|e|e:=hb<;>subst e
     .exact⟨_,hz⟩
     .exact⟨_,hTI⟩
     .exact⟨_,hTO⟩
     .exact⟨_,h1⟩
     .exact⟨_,h2⟩
    exact aiE _ (abu (abe ho) (q▸hT))
   rw[ι this];exact(hf b hb).1
 done:=by
  intro X hP hw hK hc i ϵ s σ H E I hf st hg;subst hP hw hK;obtain⟨hz,hTI,⟨a,b,hTO⟩,h1,h2⟩:=st;obtain⟨xs,ys,hS,hS',hx⟩:=hg;obtain⟨ϸ,rv,pl,hsz⟩:=I.list hS;obtain⟨its',rv',xM,hsz'⟩:=I.list hS';have hend:ϸ.toArray[i]?=none\/its'.toArray[i]?=none:=by
   by_cases q:xs.length<=i
   .exact .inl (Array.getElem?_eq_none (by rw[aaB, <-rv.length];exact q))
   .exact .inr (Array.getElem?_eq_none (by rw[aaB, <-rv'.length];omega))
  refine wpAny_pyNext_zip_end (I.ok.hd hc) D hz hTI hTO h1 h2 pl.isList xM.isList hend λh' hk=>⟨rfl,?_⟩
  exact I.acB (tk:=s.toks) hf λb o hb q=>hk b o (λe=>hb (by simp[e])) (λe=>hb (by simp[e])) (λe=>hb (by simp[e])) (λe=>hb (by simp[e])) q
 self:=λA i s Q E st h=>wpAny_pyIter_zip st.1 h
theorem acX(n l m:Nat)(h1:l<n)(h2:m<n):ZipApart (n+4) (n+2) (n+3) n (n+1) l m:=by
 constructor<;>(intro e;have e':(_:Nat)=_:=e;omega)
section
variable{X:Cx}{σ:St}{H:Hp}{a b:π}{elts:List π}{k:Nat}{tp p pos:Pos}{R:It->Hp->Prop}
theorem V2(hg:Gl X "zip")(hm:X.mg "zip"=none)(hs:Ϭ [a,b] X.env=[(false,eval a X.env),(false,eval b X.env)])(hs2:Ϭ [b] X.env=[(false,eval b X.env)])(h:EV X a σ H λv H1=>EV X b σ H1 λv' H2=>∃l m xs ys,v=.ref l/\v'=.ref m/\H2 l=some (.lst xs)/\H2 m=some (.lst ys)/\R (Cp X.K l m) H2):EI X (.Tuple elts k tp) (.Call (.Name "zip" p) [a,b] [] pos) σ H R:=by
 intro ϵ s I;refine Call_ (gY I hg hm boot_zip (PyProof.Rows.callWith_type1 (ρ (gZ (es:=[b]) (QA:=λvs H1=>∃l m xs ys,vs=[.ref l,.ref m]/\H1 l=some (.lst xs)/\H1 m=some (.lst ys)/\R (Cp X.K l m) H1) (by rw[hs,hs2]) (aF h λv H1 q=>gZ (es:=[]) hs2 (aF q λv' H2 ⟨l,m,xs,ys,e,e',q1,q2,q3⟩=>gM ⟨l,m,xs,ys,by rw[e,e'],q1,q2,q3⟩)) pos ϵ s I) λus s1 ⟨vs,H1,I1,r1,l,m,xs,ys,e,hl,hm',q⟩=>?_) (by rw[hs,hs2]) (by rw[hs2];rfl)));subst e;obtain⟨u,u',rfl,ru,wV⟩:=vals2 r1;cases(show u=Value.ref l from ru);cases(show u'=Value.ref m from wV);obtain⟨hz,ϸ,n,rv,ho⟩:=I1.hok l _ hl;obtain⟨hz',its',n',rv',ho'⟩:=I1.hok m _ hm';refine call_zip_2 (xs:=ϸ.toArray) (ys:=its'.toArray) ⟨_,ho,rfl,_,rfl⟩ ⟨_,ho',rfl,_,rfl⟩ λh' h1 h2 h3 h4 h5 hsz hk=>?_
 refine wpAny_pyIter_zip h1 ?_;refine⟨s1.heap.objs.size+4,[s1.heap.objs.size+4,s1.heap.objs.size+2,s1.heap.objs.size+3,s1.heap.objs.size,s1.heap.objs.size+1],_,_,H1,rfl,I1.kept (t':=s1.toks) hk,Rb _ _ _ _ _ l m (acX _ _ _ (abe ho) (abe ho')),⟨h1,h2,⟨_,_,h3⟩,h4,h5⟩,λb hb=>?_,q⟩;have hb':s1.heap.objs.size<=b:=by
  simp only[List.mem_cons,List.not_mem_nil,or_false]at hb;obtain e|e|e|e|e:=hb<;>subst e
  .exact akJ _ _
  .exact akJ _ _
  .exact akJ _ _
  .exact Ϯ _
  .exact akJ _ _
 exact I1.fpOk hb' (I1.hok.fresh hb')
end
section
variable{X:Cx}{a e:π}{σ:St}{H:Hp}{Q:VK}{D:Ends}{pos p p':Pos}
theorem Ue{Y:Cx}{tg elt:π}{J:It}{E:δ}{τ0:St}{Q:Hp->Prop}(n:Nat)(hn:n<=Ϫ)(Tp:St->Prop)(hT:Tp τ0)(Pi:Nat->V->Hp->Prop)(hE:H E=none)(mono:∀i v H1 H2 ys,H1 E=some (.lst ys)->(∀b o,b≠E->H1 b=some o->H2 b=some o)->Pi i v H1->Pi i v H2)(go:∀i H1,ζ H H1->i<n->J.go i H1)(stop:∀H1,ζ H H1->J.stop n H1)(step:∀i τ x H1 H2,i<n->Tp τ->ζ H H1->(∃ys,H1 E=some (.lst ys))->J.yld i H1 x H2->EG Y tg x τ H2 λτ2 H3=>EV Y elt τ2 H3 λv H4=>Tp τ2/\Pi i v H4/\ζ H1 H4)(fin:∀H1 xs,xs.length=n->(∀i v,xs[i]?=some v->Pi i v H1)->H1 E=some (.lst xs)->ζ H H1->Q H1):dW X Y tg elt [] J E τ0 H Q:=by
 refine⟨λi m τ H1=>m=n-i/\i<=n/\ζ H H1/\Tp τ/\∃xs,H1 E=some (.lst xs)/\xs.length=i/\∀k v,xs[k]?=some v->Pi k v H1,⟨n,by simp,agf _,ζ.upd hE,hT,[],υ,rfl,λk v e=>by simp at e⟩,?_⟩
 rintro i m τ H1 ⟨rfl,hi,s1,hτ,xs,eE,lx,px⟩
 by_cases hlt:i<n
 .refine .inr ⟨go i H1 s1 hlt,λτ' H'=>ζ H H'/\Tp τ'/\∃xs,H' E=some (.lst xs)/\xs.length=i+1/\∀k v,xs[k]?=some v->Pi k v H',λτ' H' ⟨a,b,c⟩=>⟨n-(i+1),by omega,rfl,hlt,a,b,c⟩,λx H2 y=>?_⟩;intro ϵ s u I r;refine ρ (step i τ x H1 H2 hlt hτ s1 ⟨xs,eE⟩ y ϵ s u I r) λ_ s' ⟨τ2,H3,I3,q3⟩=>⟨τ2,H3,I3,Ag ?_⟩
  rw[if_pos rfl];refine aF q3 λv H4 ⟨t2,pv,s2⟩=>⟨xs,s2 _ _ eE,by omega,?_⟩
  have mm:∀k w',Pi k w' H4->Pi k w' (upd H4 E (.lst (xs++[v]))):=λk w' q=>mono k w' H4 _ xs (s2 _ _ eE) (λb o hb e=>by rw[ι hb];exact e) q
  refine⟨λb o e=>?_,t2,xs++[v],υ,by simp[lx],λk u e=>?_⟩
  .rw[ι (Η e hE)];exact s2 _ _ (s1 _ _ e)
  .by_cases hk:k<xs.length
   .rw[aiI hk]at e;refine mono k u H1 _ xs eE (λb o hb e=>?_) (px k u e);rw[ι hb];exact s2 _ _ e
   .have hk2:k=i:=by
     have:=(aal.mp e).1;rw[abo,ae7]at this;omega
    subst hk2;rw[<-lx,ai1]at e;cases e;exact mm _ _ pv
 .have e:i=n:=by omega
  subst e;exact .inl ⟨stop H1 s1,fin H1 xs lx px eE s1⟩
variable{tg elt iter:π}{scope:ahI}{σ':St}
def sH(X:Cx)(N':List Str)(scope:ahI)(tg elt:π)(σ':St)(H1:Hp)(Q:VK)(n:Nat)(G:Nat->Hp->V->Hp->Prop):Prop:=
 ∃(Tp:St->Prop)(Pi:δ->Nat->V->Hp->Prop),Tp σ'/\
  (∀E i v H2 H3 ys,H2 E=some (.lst ys)->(∀b o,b≠E->H2 b=some o->H3 b=some o)->Pi E i v H2->Pi E i v H3)/\
  (∀(fp:List δ)(E C:δ)(s3:μ)(H0:Hp)(i:Nat)(τ:St)(x:V)(H2 H3:Hp),H1 E=none->i<n->Tp τ->ζ H1 H2->(∃ys,H2 E=some (.lst ys))->G i H2 x H3->
   EG (aR X N' scope (ώ scope X.env) C s3 H0 fp) tg x τ H3 λτ2 H4=>EV (aR X N' scope (ώ scope X.env) C s3 H0 fp) elt τ2 H4 λv H5=>Tp τ2/\Pi E i v H5/\ζ H2 H5)/\
  ∀(E:δ)(H2:Hp)(xs:List V),H1 E=none->xs.length=n->(∀i v,xs[i]?=some v->Pi E i v H2)->H2 E=some (.lst xs)->ζ H1 H2->Q (.ref E) H2
theorem xq{N':List Str}{J:It}{n:Nat}{G:Nat->Hp->V->Hp->Prop}(hn:n<=Ϫ)(go:∀i H2,ζ H H2->i<n->J.go i H2)(stop:∀H2,ζ H H2->J.stop n H2)(yl:∀i H2 x H3,i<n->ζ H H2->J.yld i H2 x H3->G i H2 x H3)(h:sH X N' scope tg elt σ' H Q n G):∀(fp:List δ)(D C:δ)(s3:μ),H D=none->dW X (aR X N' scope (ώ scope X.env) C s3 (upd H D (.lst [])) fp) tg elt [] J D σ' H (λH'=>Q (.ref D) H'):=by
 intro fp E C s3 hE;obtain⟨Tp,Pi,t0,mono,step,fin⟩:=h;exact Ue n hn Tp t0 (Pi E) hE (λi v H1 H2 ys=>mono E i v H1 H2 ys) go stop (λi τ x H1 H2 hi ht hs hy y=>step fp E C s3 _ i τ x H1 H2 hE hi ht hs hy (yl i H1 x H2 hi hs y)) λH1 xs l px eE s=>fin E H1 xs hE l px eE s
theorem qH(N':List Str)(hσ:bj N' X.N σ scope=σ')(hc:X.calm=true)(S:bC X.env scope)(hs:∀x,foldedSetIterable e X.env x=pure x)(h:EV X e σ H λv H1=>∃l xs,v=.ref l/\η X.K H1 l xs/\xs.length<=Ϫ/\sH X N' scope tg elt σ' H1 Q xs.length λi H2 x H3=>xs[i]?=some x/\H2=H3):EV X (.ListComp elt [⟨tg,e,[],0⟩] scope pos) σ H Q:=by
 refine qN (N':=N') hc S hs (lR (aF h λv H1 q=>?_));obtain⟨l,xs,rfl,hl,hz,hw⟩:=q;refine⟨l,rfl,⟨xs,hl⟩,?_⟩;rw[hσ];refine xq hz (λi H2 s hi=>⟨xs,xs[i],ζ.seq s hl,aaf hi⟩) (λH2 s=>⟨xs,ζ.seq s hl,Ϯ _⟩) (λi H2 x H3 hi s y=>⟨y.2 xs (ζ.seq s hl),y.1.symm⟩) hw
theorem aet{b:π}{elts:List π}{k:Nat}{tp:Pos}(N':List Str)(hσ:bj N' X.N σ scope=σ')(hc:X.calm=true)(S:bC X.env scope)(hg:Gl X "zip")(hm:X.mg "zip"=none)(hs:Ϭ [a,b] X.env=[(false,eval a X.env),(false,eval b X.env)])(hs2:Ϭ [b] X.env=[(false,eval b X.env)])(h:EV X a σ H λv H1=>EV X b σ H1 λv' H2=>∃l m xs ys,v=.ref l/\v'=.ref m/\H2 l=some (.lst xs)/\H2 m=some (.lst ys)/\min xs.length ys.length<=Ϫ/\
   sH X N' scope (.Tuple elts k tp) elt σ' H2 Q (min xs.length ys.length) λi H3 x H4=>∃T y z,x=.ref T/\H3 T=none/\H4=upd H3 T (.tup [y,z])/\xs[i]?=some y/\ys[i]?=some z):EV X (.ListComp elt [⟨.Tuple elts k tp,.Call (.Name "zip" p) [a,b] [] p',[],0⟩] scope pos) σ H Q:=by
 refine qN (N':=N') hc S (by intro _;rfl) (V2 hg hm hs hs2 (aF h λv H1 q=>aF q λv' H2 q=>?_));obtain⟨l,m,xs,ys,e1,e2,hl,hm',h2,hw⟩:=q;refine⟨l,m,xs,ys,e1,e2,hl,hm',?_⟩;rw[hσ];have S1:η X.K H2 l xs:=.inl (.inl hl);have S2:η X.K H2 m ys:=.inl (.inl hm');refine xq h2 (λi H3 s hi=>⟨xs,ys,xs[i]'(by omega),ys[i]'(by omega),ζ.seq s S1,ζ.seq s S2,aaf _,aaf _⟩) (λH3 s=>⟨xs,ys,ζ.seq s S1,ζ.seq s S2,Ϯ _⟩) (λi H3 x H4 hi s y=>?_) hw;obtain⟨T,u,u',a1,a2,a3,a4,a5⟩:=y;exact⟨T,u,u',a1,a2,a3,a4 xs (ζ.seq s S1),a5 ys (ζ.seq s S2)⟩
theorem aex{elts:List π}{k:Nat}{tp:Pos}{body:List ϧ}(hp:alC (Ϧ X.prog X.w) X.A X.env X.xe)(hc:X.calm=true)(hg:Gl X "enumerate")(hm:X.mg "enumerate"=none)(hs:Ϭ [a] X.env=[(false,eval a X.env)])(h:EV X a σ H λv H1=>∃l xs,v=.ref l/\H1 l=some (.lst xs)/\∃Pv:Nat->St->Hp->Prop,Pv 0 σ H1/\(∀i σ' H',i<=xs.length->Pv i σ' H'->η X.K H' l xs)/\
   (∀i x T σ' H',xs[i]?=some x->Pv i σ' H'->H' T=none->EG X (.Tuple elts k tp) (.ref T) σ' (upd H' T (.tup [.int i,x])) λσ2 H2=>Ψ X body {D with nx:=Pv (i+1),ct:=Pv (i+1),bk:=D.nx} σ2 H2)/\∀σ' H',Pv xs.length σ' H'->D.nx σ' H'):SX X (.For (.Tuple elts k tp) (.Call (.Name "enumerate" p) [a] [] p') body [] pos) D σ H:=by
 refine sZ hp hc (by intro _;rfl) (adk hg hm hs (aF h λv H1 q=>?_));obtain⟨l,xs,rfl,hq,Pv,h0,hl,hst,hd⟩:=q;refine⟨l,xs,rfl,hq,λi m σ H=>m=xs.length-i/\i<=xs.length/\Pv i σ H,⟨xs.length,by simp,agf _,h0⟩,?_⟩
 rintro i m σ' H' ⟨rfl,hi,p⟩
 have hS:=hl i σ' H' hi p;by_cases hlt:i<xs.length
 .refine .inr ⟨⟨xs,xs[i],hS,aaf hlt⟩,Pv (i+1),λσ2 H2 p2=>⟨xs.length-(i+1),by omega,rfl,hlt,p2⟩,λx H2 y=>?_⟩;obtain⟨T,u,e1,e2,e3,e4⟩:=y;subst e1 e3;exact hst i u T σ' H' (e4 xs hS) p e2
 .have e:i=xs.length:=by omega
  subst e;exact .inl ⟨⟨xs,hS,Ϯ _⟩,hd σ' H' p⟩
end
section
variable{Kt:Type} [DecidableEq Kt] [BEq Kt] [LawfulBEq Kt]
def bR(ks:List Kt):List Kt:=ks.foldl (λa k=>if k∈a then a else a++[k]) []
theorem qL(ks:List Kt)(k:Kt):bR (ks++[k])=if k∈bR ks then bR ks else bR ks++[k]:=by
 unfold bR;rw[List.foldl_append];rfl
theorem sW:∀n (ks:List Kt),ks.length=n->(bR ks).length<=ks.length
 |0,ks,h=>by rw[aky.mp h];exact Ϯ _
 |n+1,ks,h=>by
  obtain⟨l,k,rfl⟩:∃l k,ks=l++[k]:=⟨_,_,(ale (ajQ h)).symm⟩;have hl:l.length=n:=by simpa using h
  have ih:=sW n l hl;rw[qL];split <;>simp <;>omega
theorem Qi:∀n (ks:List Kt),ks.length=n->∀k,k∈bR ks↔k∈ks
 |0,ks,h=>by rw[aky.mp h];intro k;exact Iff.rfl
 |n+1,ks,h=>by
  obtain⟨l,x,rfl⟩:∃l k,ks=l++[k]:=⟨_,_,(ale (ajQ h)).symm⟩;have hl:l.length=n:=by simpa using h
  have ih:=Qi n l hl;intro k;rw[qL,afw,ac0];split
  .rename_i hx;rw[ih];constructor
   .exact .inl
   .rintro(e|e)
    .exact e
    .rw[e];exact(ih x).mp hx
  .rw[afw,ac0,ih]
theorem Ai:∀n (ks:List Kt),ks.length=n->((bR ks).length=ks.length↔ks.Nodup)
 |0,ks,h=>by rw[aky.mp h];simp[bR]
 |n+1,ks,h=>by
  obtain⟨l,x,rfl⟩:∃l k,ks=l++[k]:=⟨_,_,(ale (ajQ h)).symm⟩;have hl:l.length=n:=by simpa using h
  have ih:=Ai n l hl;have le:=sW n l hl;have me:=Qi n l hl x;rw[qL,aki];split
  .rename_i hx;constructor
   .intro e;simp at e;omega
   .intro e;exact absurd rfl (e.2.2 x (me.mp hx) x (by simp))
  .rename_i hx;rw[abo,abo,ae7];constructor
   .intro e;refine⟨ih.mp (by omega),by simp,λa ha b hb=>?_⟩;rw[ac0.mp hb];intro e';exact hx (me.mpr (e'▸ha))
   .intro e;rw[ih.mpr e.1]
end
section
variable{prog:ϯ}{w:ϭ}{A:ϰ}{E:ε->μ->Prop}{s:μ}{zs:List Str}{us:Array ε}
def strAt(us:Array ε)(zs:List Str):=∀(i:Nat)(v:ε),us[i]?=some v->∃t z,v=.str z t/\zs[i]?=some z
def gf(prog:ϯ)(w:ϭ)(h:ϫ)(S:δ)(zs:List Str):Prop:=h.SetOf (strKind prog w) S (λk=>decide (k∈bR zs)) (bR zs).length
theorem gf.stay{h h':ϫ}{S:δ}(x:gf prog w h S zs)(k:∀o,h.get? S=some o->h'.get? S=some o):gf prog w h' S zs:=by
 obtain⟨o,es,ep,t,ho,rest⟩:=x;exact⟨o,es,ep,t,k _ ho,rest⟩
theorem abx{R:Result->μ->Prop}{it:δ}{fp wr:List δ}{G:Array GenState->Array GenState->Prop}{St:Nat->μ->Prop}(W:WalksS prog w A.in1 it fp wr G us.size (λi v=>us[i]?=some v) St)(S:δ)(hS:S∉fp)(hz:strAt us zs)(hl:us.size=zs.length)(hb:us.size+1<scanBound)(d:Nat):∀(i:Nat)(s:μ),d+i=us.size->St i s->gf prog w s.heap S (zs.take i)->
   (∀s',Moved (S::wr) G s s'->gf prog w s'.heap S zs->R (.ok (.ret .none)) s')->codeAny (Ϧ prog w) A (.builtin "set.update.loop" ⟨[.ref S,.ref it],[]⟩) R s:=by
 have hSw:S∉wr:=λh=>hS (W.sub _ h)
 have up:∀b∈wr,b∈S::wr:=λb hb=>abK _ hb
 induction d with
 |zero=>
  intro i s hi st ts hR;have e:i=us.size:=by omega
  subst e;refine alH F.entry_set_update_loop ?_;rw[Around.under_plainId F.plain_set_update_loop _];refine ϩ (m:=pyNext (.ref it)) (W.done s _ _ st λs' hm=>?_);refine ϱ (hR s' (hm.mono up) ?_);rw[hl,al4]at ts;exact ts.stay λo ho=>hm.heap S o hSw ho
 |succ d ih=>
  intro i s hi st ts hR;refine alH F.entry_set_update_loop ?_;rw[Around.under_plainId F.plain_set_update_loop _];refine ϩ (m:=pyNext (.ref it)) (W.item i s _ _ (by omega) st λv s' hv st' hm=>?_);obtain⟨t,z,rfl,ez⟩:=hz i v hv;have ts':=ts.stay (h':=s'.heap) λo ho=>hm.heap S o hSw ho
  show ν _ A.in1 (holding [Value.str z t] (setAdd S (.str z t))>>=_) _ _ s';refine ϩ (ag0 ?_);unfold setAdd;refine ag0 (ϩ ((strKind prog w).pyHash (k:=z) (strKind_is _ _ _ _) ?_));have et:zs.take (i+1)=zs.take i++[z]:=by rw[alY,ez];rfl
  have room:(bR (zs.take i)).length+1<scanBound:=by
   have:=sW _ (zs.take i) rfl;have:(zs.take i).length<=zs.length:=by simp;omega
   omega
  refine wpAny_setAddHashed_of (knd:=strKind prog w) (s:={s' with toks:=s'.toks+1}) (strKind_is _ _ _ _) rfl ts' room λh' sb Xw=>?_
  have Xa:gf prog w h' S (zs.take (i+1)):=by
   refine SetOf_congr Xw (λk=>?_) ?_
   .rw[et,qL];split
    .rename_i hk;by_cases e:k=z
     .subst e;simp[hk]
     .simp[e]
    .by_cases e:k=z
     .subst e;simp
     .simp[e]
   .rw[et,qL];by_cases hk:z∈bR (zs.take i)
    .simp[hk]
    .simp[hk]
  refine ϱ ⟨plainId_quiet F.plain_set_update_loop _,ih (i+1) _ (by omega) (W.frame _ s' _ _ st' (alJ _) λb hb o e=>?_) Xa λs2 hm2 ts4=>?_⟩
  .rw[sb.2 b (λh:b=S=>hS (h▸hb))];exact e
  .refine hR s2 (Moved.trans W.gtrans ((hm.mono up).then_heap (alJ _) λb o hb e=>?_) hm2) ts4;rw[sb.2 b (λh:b=S=>hb (h▸aeM))];exact e
abbrev newSet(h:ϫ)(led:Bool):ϫ:=h.push {cls:=.type "set",dict:=none,data:=.set #[] 0 (.fresh 0 0 led)}
set_option maxRecDepth 100000 in
theorem Vp{l S:δ}{Q:ε->μ->Prop}(hh:A.handled=none)(hl:s.heap.IsList l us)(hS:∃led,s.heap.get? S=some {cls:=.type "set",dict:=none,data:=.set #[] 0 (.fresh 0 0 led)})(hz:strAt us zs)(hn:us.size=zs.length)(hb:us.size+1<scanBound)(h:∀(h':ϫ)(tk:Nat),gf prog w h' S zs->(∀b o,b≠S->s.heap.get? b=some o->h'.get? b=some o)->Q .none {s with heap:=h',toks:=tk}):codeAny (Ϧ prog w) A (.call (.builtin "set.__init__") ⟨[.ref S,.ref l],[]⟩) (wants Q E) s:=by
 obtain⟨led,hS⟩:=hS;have hT:s.TypeIs (.ref S) "set":=⟨_,hS,rfl⟩;refine codeAny_call_builtin F.called_set.init.plain F.entry_set_init (check_set_init_1 hT ?_);have hl0:=hl;obtain⟨⟨oc,od,odata,os⟩,hol,hc,nl,hd⟩:=hl;simp only at hc hd;subst hc hd;have f1:=F.sub_list_set;have f2:=F.sub_list_frozenset;have f3:(Value.type "list"==Value.type "dict")=false:=by decide
 unfold Builtin.«set.__init__» noKeywords Builtin.Frozenset.updateFrom;generalize hPI:pyIter=PI
 wp_walk
 subst hPI;refine wpAny_pyIter_list hl0 (ϩ (wpAny_runValue ?_));have lS:S<s.heap.objs.size:=abe hS;have ll:l<s.heap.objs.size:=abe hol;have h3:A.in1.in1.handled=none:=by simp[hh]
 have hlS:S≠l:=λe=>by subst e;rw[hS]at hol;simp at hol
 refine abx (us:=us) ((Walks.list h3 _ l (ab6 ll) us).toS) S (by simp only[List.mem_cons,List.not_mem_nil,or_false,not_or];exact⟨ab6 lS,hlS⟩) hz hn hb us.size 0 {s with heap:=s.heap.push {cls:=.type "list_iterator",data:=.fields #[.ref l,.int 0 0]}} (by omega)
  ⟨⟨_,abq _ rfl,rfl,rfl⟩,(hl0.push _)⟩ ?_ ?_
 .have hget:=Heap.get?_push_of_some {cls:=.type "list_iterator",data:=.fields #[.ref l,.int 0 0]} hS;exact SetOf_congr ((setObjOf_fresh (knd:=strKind prog w) led).setOf hget (by unfold scanBound;omega)) (λ_=>rfl) rfl
 .intro s' hm ts;obtain⟨h',g',d',tk',os'⟩:=s';have eg:g'=s.gens:=hm.gens;have ed:d'=s.drawn:=hm.drawn;have eo:os'=s.os:=hm.os;subst eg ed eo;refine ϱ ?_;show ν _ _ (ret Value.none) _ _ _;refine ϱ (h h' tk' ts λb o hb e=>?_);refine hm.heap b o ?_ (Heap.get?_push_of_some _ e);simp only[List.mem_cons,List.not_mem_nil,or_false,not_or];exact⟨hb,ab6 (abe e)⟩
set_option maxRecDepth 100000 in
theorem adq{l:δ}{Q:ε->μ->Prop}(hh:A.handled=none)(hl:s.heap.IsList l us)(hz:strAt us zs)(hn:us.size=zs.length)(hb:us.size+1<scanBound)(h:∀(h':ϫ)(tk:Nat),gf prog w h' s.heap.objs.size zs->(∀b o,s.heap.get? b=some o->h'.get? b=some o)->Q (.ref s.heap.objs.size) {s with heap:=h',toks:=tk}):ν (Ϧ prog w) A (call (.type "set") [.ref l]) Q E s:=by
 obtain⟨c,tl,hmro⟩:=F.called_set.mro;have hmade:=F.called_set.made;have hsub:=F.called_set.sub;have h1:=F.called_set.notType;have h2:=F.called_set.canCreate;have hct:=F.typeCall_set_1 (.ref l);refine wpAny_call (codeAny_of_tree ?_);show ν _ _ (callAny (.type "set") _) _ _ _;refine ϱ ⟨Code.quiet_builtin _ (by decide+kernel),alH F.entry_type_call ?_⟩;rw[Around.under_plain (weight_type_call_type "set" [.ref l] []) rfl]
 repeat (any_goals (first|assumption|wp_step))
 refine aiT (code_set_new_1 (.ref l) (E:=E) (Q₁:=λobj s₁=>∃led:Bool,obj=.ref s.heap.objs.size/\s₁={s with heap:=newSet s.heap led}) λled=>⟨led,rfl,rfl⟩) λr s₁ hr=>?_
 rcases r with e|(_|_|_|obj)
 all_goals first|exact hr|exact hr.elim|skip
 obtain⟨led,rfl,rfl⟩:=hr;have hS:(newSet s.heap led).get? s.heap.objs.size=some {cls:=.type "set",dict:=none,data:=.set #[] 0 (.fresh 0 0 led)}:=abq _ rfl;have hT:Shared.TypeIs {s with heap:=newSet s.heap led} (.ref s.heap.objs.size) "set":=⟨_,hS,rfl⟩;have hli:=F.called_set.init.lookup;have hbi:=F.called_set.init.bind (.ref s.heap.objs.size)
 repeat (any_goals (first|assumption|wp_step))
 refine aiT (Vp (E:=E) (s:={s with heap:=newSet s.heap led}) (Q:=λr s₂=>r=.none/\∃h' tk,s₂={s with heap:=h',toks:=tk}/\gf prog w h' s.heap.objs.size zs/\∀b o,s.heap.get? b=some o->h'.get? b=some o) (by simp[hh]) (hl.push _) ⟨led,hS⟩ hz hn hb λh' tk ts k=>⟨rfl,h',tk,rfl,ts,λb o e=>k b o (ab6 (abe e)) (Heap.get?_push_of_some _ e)⟩) λr₂ s₂ hr₂=>?_
 rcases r₂ with e|(_|_|_|r)
 all_goals first|exact hr₂|exact hr₂.elim|skip
 obtain⟨rfl,h',tk,rfl,ts,k⟩:=hr₂
 repeat (any_goals (first|assumption|wp_step))
 exact h _ _ ts k
end
section
variable{X:Cx}{H:Hp}{Q:VK}{v:V}
def jk(X:Cx)(S:δ)(zs:List Str):HO:=.ext λh=>gf X.prog X.w h S zs
theorem Fy{q:δ}{zs:List Str}(hc:X.calm=true)(h:η X.K H q (zs.map V.str))(hz:zs.length<=4000)(g:∀S,H S=none->Q (.ref S) (upd H S (jk X S zs))):CL X (.type "set") [.ref q] H Q:=by
 refine cX (r:=λxs H Q=>∃q zs,xs=[.ref q]/\η X.K H q (zs.map V.str)/\zs.length<=4000/\∀S,H S=none->Q (.ref S) (upd H S (jk X S zs))) ?_ ⟨q,zs,rfl,h,hz,g⟩;intro ϵ s σ H xs us Q I r h;obtain⟨q,zs,rfl,h,hz,g⟩:=h;obtain⟨u,rfl,ru⟩:=vals1 r;cases(show u=Value.ref q from ru);obtain⟨ϸ,rv,pl,_⟩:=I.list h;have hl:ϸ.length=zs.length:=by have:=rv.length;rw[ϳ]at this;exact this.symm
 have hat:strAt ϸ.toArray zs:=λi v e=>by
  have e':ϸ[i]?=some v:=by simpa using e
  have hi:i<zs.length:=by rw[<-hl];exact(aal.mp e').1
  obtain⟨u,e1,e2⟩:=rv.get (i:=i) (x:=V.str zs[i]) (by simp[hi]);rw[e']at e1;cases e1;obtain⟨t,rfl⟩:=e2;exact⟨t,zs[i],rfl,aaf hi⟩
 refine adq (I.ok.hd hc) pl.isList hat (by simpa using hl) (by show _<4096;simp;omega) λh' tk ts k=>?_
 refine⟨.ref s.heap.objs.size,_,I.laid (t':=tk) (o:=jk X s.heap.objs.size zs) k (Ϯ _) ⟨ts,?_,λh1 h2 ts hk=>ts.stay hk⟩,rfl,g _ (I.hok.fresh (Ϯ _))⟩;obtain⟨o,es,ep,t,ho,_⟩:=ts;exact⟨o,ho⟩
theorem HQ{S:δ}{zs:List Str}(h:H S=some (jk X S zs))(hz:zs.length<=4000)(g:Q (.int (bR zs).length) H):CL X (.builtin "len") [.ref S] H Q:=by
 refine cX (r:=λxs H Q=>∃S zs,xs=[.ref S]/\H S=some (jk X S zs)/\zs.length<=4000/\Q (.int (bR zs).length) H) ?_ ⟨S,zs,rfl,h,hz,g⟩;intro ϵ s σ H xs us Q I r h;obtain⟨S,zs,rfl,h,hz,g⟩:=h;obtain⟨u,rfl,ru⟩:=vals1 r;cases(show u=Value.ref S from ru);obtain⟨⟨o,es,ep,t,ho,hex,hd,hel,hm,hb,hf,hn⟩,_⟩:=I.hok S _ h;have le:=sW _ zs rfl;refine call_len_set ho hex hd hf (by omega) ⟨.int es.size,H,I.tok _,⟨_,rfl⟩,?_⟩;rw[hn];exact g
theorem Kg{x:V}{p:δ}{xs:List V}(h:Β X.K H p xs)(f:dX x=true)(fs:xs.all dX=true)(q:Q (.bl (!fY x xs)) H):OP X (adH .NotIn) x (.ref p) H Q:=bc agR ⟨p,xs,rfl,.inr h,f,fs,q⟩
theorem Ae{x:V}{p:δ}{xs:List V}(h:Β X.K H p xs)(f:dX x=true)(fs:xs.all dX=true)(q:Q (.bl (fY x xs)) H):OP X (adH .In) x (.ref p) H Q:=bc aas ⟨p,xs,rfl,.inr h,f,fs,q⟩
theorem TF{l b:δ}{xs zs:List V}(h1:H l=some (.lst xs))(h2:H b=some (.lst zs))(hz:xs.length+zs.length<=Ϫ)(q:∀p,H p=none->Q (.ref p) (upd H p (.lst (xs++zs)))):OP X (binaryOp .Add) (.ref l) (.ref b) H Q:=bc Wj ⟨l,b,xs,zs,rfl,rfl,h1,h2,hz,q⟩
end
section
variable{X:Cx}{H:Hp}{D:Ends}{σ σ':St}{e a elt tg:π}{scope:ahI}{pos spos py p p':Pos}{y:Str}{j:Nat}
theorem mY(N':List Str)(hσ:bj N' X.N σ scope=σ')(hsw:ajq (.ListComp elt [⟨tg,e,[],0⟩] scope pos) (some (.Name y py)) spos.line X.env=pure true)(hc:X.calm=true)(S:bC X.env scope)(hs:∀x,foldedSetIterable e X.env x=pure x)(hN:X.N.Nodup)(hi:nameAt X.N y=some j)(hx:X.env.scope.names.lookup y=some .local)(h:EV X e σ H λv H1=>∃l xs,v=.ref l/\η X.K H1 l xs/\xs.length<=Ϫ/\sH X N' scope tg elt σ' H1 (λv H'=>D.nx (σ.set j (some v)) H') xs.length λi H2 x H3=>xs[i]?=some x/\H2=H3):SX X (.Assign [.Name y py] (.ListComp elt [⟨tg,e,[],0⟩] scope pos) spos) D σ H:=by
 refine acJ (N':=N') hsw hc S hs hN hi hx (lR (aF h λv H1 q=>?_));obtain⟨l,xs,rfl,hl,hz,hw⟩:=q;refine⟨l,rfl,⟨xs,hl⟩,?_⟩;rw[hσ];refine xq (J:=gk X.K l) hz (λi H2 s hi=>⟨xs,xs[i],ζ.seq s hl,aaf hi⟩) (λH2 s=>⟨xs,ζ.seq s hl,Ϯ _⟩) (λi H2 x H3 hi s y=>⟨y.2 xs (ζ.seq s hl),y.1.symm⟩) hw
end
def cutAt(c:Nat):List Nat->List (List Nat)
 |[]=>[[]]
 |x::r=>if x=c then[]::cutAt c r else match cutAt c r with
  |[]=>[[x]]
  |h::t=>(x::h)::t
def jB(c:Nat):List (List Nat)->List Nat
 |[]=>[]
 |[p]=>p
 |p::q::r=>p++c::jB c (q::r)
theorem Kw{c:Nat}:∀{p:List Nat},c∉p->cutAt c p=[p]
 |[],_=>rfl
 |x::r,h=>by
  have ih:=Kw (c:=c) (p:=r) λz=>h (by simp[z])
  unfold cutAt;rw[if_neg (λz=>h (by simp[z])),ih]
theorem Fv{c:Nat}{l:List Nat}:∀{p:List Nat},c∉p->cutAt c (p++c::l)=p::cutAt c l
 |[],_=>by
  show cutAt c (c::l)=_;rw[cutAt,if_pos rfl]
 |x::r,h=>by
  have ih:=Fv (c:=c) (l:=l) (p:=r) λz=>h (by simp[z])
  show cutAt c (x::(r++c::l))=_;rw[cutAt,if_neg (λz=>h (by simp[z])),ih]
theorem Ay{c:Nat}:∀{ps:List (List Nat)},ps≠[]->(∀p∈ps,c∉p)->cutAt c (jB c ps)=ps
 |[],h,_=>absurd rfl h
 |[p],_,h=>Kw (h p (by simp))
 |p::q::r,_,h=>by
  show cutAt c (p++c::jB c (q::r))=_;rw[Fv (h p (by simp)),Ay (by simp) λx hx=>h x (abK _ hx)]
theorem Dr(c:Nat):∀l,(cutAt c l).length<=l.length+1
 |[]=>by simp[cutAt]
 |x::r=>by
  have ih:=Dr c r;unfold cutAt;split
  .simp;exact ih
  .split
   .simp
   .rename_i h t e;rw[e]at ih;simp at ih⊢;omega
theorem vI(c:Nat):∀ps:List Str,(Str.join ⟨#[c]⟩ ps).cps.toList=jB c (ps.map λp=>p.cps.toList)
 |[]=>rfl
 |[p]=>rfl
 |p::q::r=>by
  have ih:=vI c (q::r);have e:Str.join ⟨#[c]⟩ (p::q::r)=p++⟨#[c]⟩++Str.join ⟨#[c]⟩ (q::r):=rfl;rw[e];show((p.cps++ #[c])++(Str.join ⟨#[c]⟩ (q::r)).cps).toList=_;simp only[al9];rw[ih];simp[jB]
theorem aip(x:Str)(c:Nat):Txt.split x ⟨#[c]⟩≠[]:=by
 unfold Txt.split;split
 .simp
 .split
  .simp
  .unfold Builtin.Str.partsBetween;simp
theorem split_list(x:Str)(c:Nat):(Txt.split x ⟨#[c]⟩).map (λp=>p.cps.toList)=cutAt c x.cps.toList:=by
 have h1:(Str.join ⟨#[c]⟩ (Txt.split x ⟨#[c]⟩)).cps.toList=x.cps.toList:=by rw[StrLaws.join_split]
 rw[vI]at h1;rw[<-h1];refine(Ay (by simpa using aip x c) λp hp=>?_).symm;obtain⟨q,hq,rfl⟩:=acR.mp hp;exact StrLaws.split_free x c q hq
def Ϝ(c:Nat)(x:Str):List Str:=(cutAt c x.cps.toList).map λl=>⟨l.toArray⟩
theorem sG(x:Str)(c:Nat):Txt.split x ⟨#[c]⟩=Ϝ c x:=by
 unfold Ϝ;rw[<-split_list,ahl];have:((λl:List Nat=>(⟨l.toArray⟩:Str))∘λp:Str=>p.cps.toList)=id:=by
  funext p;rfl
 rw[this,anf]
section
variable{X:Cx}{H:Hp}{Q:VK}{z y:Str}{v:V}
theorem NK:∀l:List (Str×Tok),Vals ((l.map (·.1)).map V.str) (strValues l)
 |[]=>.nil
 |p::l=>.cons ⟨p.2,rfl⟩ (NK l)
theorem m_split{c:Nat}(hz:z.length<=100000)(g:∀p,H p=none->Q (.ref p) (upd H p (.lst ((Ϝ c z).map V.str)))):MT X "str.split" (.str z) [.str ⟨#[c]⟩] H Q:=by
 refine jA (r:=λx xs H Q=>∃z c,x=.str z/\xs=[.str ⟨#[c]⟩]/\z.length<=100000/\∀p,H p=none->Q (.ref p) (upd H p (.lst ((Ϝ c z).map V.str)))) ?_ ⟨z,c,rfl,rfl,hz,g⟩;intro ϵ s σ H x xs v us Q I rx rs h;obtain⟨z,c,rfl,rfl,hz,g⟩:=h;obtain⟨t,rfl⟩:=rx;obtain⟨u,rfl,ru⟩:=vals1 rs;obtain⟨t',rfl⟩:=ru;have hl:(Ϝ c z).length<=z.length+1:=by
  have h1:=Dr c z.cps.toList;unfold Ϝ;rw[ϳ];have h2:z.cps.toList.length=z.length:=rfl;omega
 have hsz:=ϲ;have fin:∀(l:List (Str×Tok))(tk:Nat),l.map (·.1)=Ϝ c z->EP X ϵ σ Q (.ref s.heap.objs.size) {s with toks:=tk,heap:=s.heap.push {cls:=.type "list",data:=.seq (strValues l).toArray}}:=λl tk e=>
  ⟨.ref s.heap.objs.size,_,I.laid (t':=tk) (o:=.lst ((Ϝ c z).map V.str)) (λb o q=>Heap.get?_push_of_some _ q) (Ϯ _) ⟨by rw[ϳ];omega,strValues l,_,by rw[<-e];exact NK l,abq _ rfl⟩,rfl,g _ (I.hok.fresh (Ϯ _))⟩
 cases h1:(decide (z.length<(⟨#[c]⟩:Str).length)||decide (Builtin.Str.strKind z<Builtin.Str.strKind ⟨#[c]⟩))
 .cases hf:(Builtin.Str.occurrences z ⟨#[c]⟩ 0 z.length (z.length+1)).isEmpty
  .have e:Txt.split z ⟨#[c]⟩=Builtin.Str.partsBetween z (Builtin.Str.occurrences z ⟨#[c]⟩ 0 z.length (z.length+1)) (⟨#[c]⟩:Str).length:=by
    unfold Txt.split;rw[if_neg (by rw[h1];decide),if_neg (by rw[hf];decide)]
   have hlp:=hl;rw[<-sG,e]at hlp;refine alN F.slot_str_split (typeIs_str _ _ _) F.entry_str_split (F.args_str_split_2 _ _) (meets_str_split_sep z ⟨#[c]⟩ t t' h1 rfl hf (by omega) (by omega)) ?_;have:=fin (numbered s.toks (Txt.split z ⟨#[c]⟩)) (s.toks+(Builtin.Str.partsBetween z (Builtin.Str.occurrences z ⟨#[c]⟩ 0 z.length (z.length+1)) (⟨#[c]⟩:Str).length).length) (by rw[numbered_texts,sG]);rw[<-strsFrom_eq,e]at this;exact this
  .have e:Txt.split z ⟨#[c]⟩=[z]:=by
    unfold Txt.split;rw[if_neg (by rw[h1];decide),if_pos hf]
   exact alN F.slot_str_split (typeIs_str _ _ _) F.entry_str_split (F.args_str_split_2 _ _) (meets_str_split_not_found z ⟨#[c]⟩ t t' h1 rfl hf) (fin [(z,t)] s.toks (by rw[<-sG,e];rfl))
 .have e:Txt.split z ⟨#[c]⟩=[z]:=by
   unfold Txt.split;rw[if_pos h1]
  exact alN F.slot_str_split (typeIs_str _ _ _) F.entry_str_split (F.args_str_split_2 _ _) (meets_str_split_cannot_occur z ⟨#[c]⟩ t t' h1) (fin [(z,t)] s.toks (by rw[<-sG,e];rfl))
end
def wA(K:Ϩ)(l:δ)(n:Nat):It:=
 ⟨λi H=>i<n/\∃xs,η K H l xs/\xs.length=n,λi H x H'=>H'=H/\∀xs,η K H l xs->xs[n-1-i]?=some x,λi _=>i=n⟩
theorem VD{P:ϯ}{w:ϭ}{K:Ϩ}{tg:π}(l it:δ)(n:Nat):Turn P w K tg (wA K l n) [it] it (λi h=>h.IsRevIter it l ((n:Int)-1-(i:Int)))where
 mem:=by simp
 obj:=λi h st b hb=>by
  have e:b=it:=by simpa using hb
  subst e;obtain⟨o,e,c,d⟩:=st;exact⟨o,e,λv z=>by rw[d]at z;cases z⟩
 keep:=λi h h' st k=>st.at λo e=>k it (by simp) o e
 item:=by
  intro X hP hw hK hc i ϵ s σ H E I hf st hg;subst hP hw hK;obtain⟨hi,xs,hq,hx⟩:=hg;obtain⟨ϸ,rv,p,hz⟩:=I.list hq;have hx':n-1-i<xs.length:=by omega
  obtain⟨u,hu,ru⟩:=rv.get (aaf hx');obtain⟨f0,f1,f2,f3,f4,f5⟩:=hf it (by simp);have ei:((n:Int)-1-(i:Int))=((n-1-i:Nat):Int):=by omega
  rw[ei]at st;refine wpAny_pyNext_rev_item st p.isList (x:=u) (by simpa using hu) λh' st' sb=>?_
  have I1:Inv X ϵ σ H {s with heap:=h'}:=I.turned (t':=s.toks) (λb o hb e=>(sb.2 b hb).trans e) f0 f1 f3 f4 f5;obtain⟨o,e,c,d⟩:=id st';refine⟨u,rfl,vC (s:={s with heap:=h'}) e c d (by decide) ⟨_,H,I1,ru,⟨rfl,λys hy=>?_⟩,?_,λb hb=>(hf b hb).1⟩⟩
  .rw[I.list_inj hy hq];exact aaf hx'
  .have e2:((n:Int)-1-((i+1:Nat):Int))=((n-1-i:Nat):Int)-1:=by omega
   rw[e2];exact st'
 done:=by
  intro X hP hw hK hc i ϵ s σ H E I hf st hg;subst hP hw hK;obtain⟨f0,f1,f2,f3,f4,f5⟩:=hf it (by simp);have e:i=n:=hg;have e2:((n:Int)-1-(i:Int))= -1:=by omega
  rw[e2]at st;exact wpAny_pyNext_rev_end (I.ok.hd hc) st λh' eb=>⟨rfl,I.turned (t':=s.toks) (λb o hb e=>eb b o hb e) f0 f1 f3 f4 f5⟩
 self:=λ_ _ _ _ _ st h=>wpAny_pyIter_revIter st h
section
variable{X:Cx}{σ:St}{H:Hp}{a:π}{tg:π}{p pos p':Pos}{R:It->Hp->Prop}{D:Ends}
theorem ab4(hg:Gl X "reversed")(hm:X.mg "reversed"=none)(hs:Ϭ [a] X.env=[(false,eval a X.env)])(h:EV X a σ H λv H1=>∃l xs,v=.ref l/\η X.K H1 l xs/\R (wA X.K l xs.length) H1):EI X tg (.Call (.Name "reversed" p) [a] [] pos) σ H R:=by
 intro ϵ s I;refine Call_ (gY I hg hm boot_reversed (PyProof.Rows.callWith_type1 (ρ (gZ (es:=[]) (QA:=λvs H1=>∃l xs,vs=[.ref l]/\η X.K H1 l xs/\R (wA X.K l xs.length) H1) hs (aF h λv H1 ⟨l,xs,e,q1,q2⟩=>gM ⟨l,xs,by rw[e],q1,q2⟩) pos ϵ s I) λus s1 ⟨vs,H1,I1,r1,l,xs,e,hl,q⟩=>?_) hs rfl));subst e;obtain⟨u,rfl,ru⟩:=vals1 r1;cases(show u=Value.ref l from ru);obtain⟨ϸ,rv,pl,hz⟩:=I1.list hl;have hlen:=rv.length;refine call_reversed_list pl.isList ?_;have hit:(s1.heap.push (revObj l ((ϸ.toArray.size:Int)-1))).IsRevIter s1.heap.objs.size l ((ϸ.toArray.size:Int)-1):=⟨_,abq _ rfl,rfl,rfl⟩;refine wpAny_pyIter_revIter hit ?_;refine⟨s1.heap.objs.size,[s1.heap.objs.size],_,_,H1,rfl,I1.kept (t':=s1.toks) λb o e=>Heap.get?_push_of_some _ e,VD l _ xs.length,?_,λb hb=>?_,q⟩
 .have e:((xs.length:Int)-1-((0:Nat):Int))=(ϸ.toArray.size:Int)-1:=by simp;omega
  rw[e];exact hit
 .have e:b=s1.heap.objs.size:=by simpa using hb
  subst e;exact I1.fpOk (Ϯ _) (I1.hok.fresh (Ϯ _))
theorem Q9{body:List ϧ}(hp:alC (Ϧ X.prog X.w) X.A X.env X.xe)(hc:X.calm=true)(hg:Gl X "reversed")(hm:X.mg "reversed"=none)(hs:Ϭ [a] X.env=[(false,eval a X.env)])(h:EV X a σ H λv H1=>∃q xs,v=.ref q/\η X.K H1 q xs/\∃Pv:Nat->St->Hp->Prop,Pv 0 σ H1/\(∀i σ' H',i<=xs.length->Pv i σ' H'->η X.K H' q xs)/\
   (∀i x σ' H',i<xs.length->xs[xs.length-1-i]?=some x->Pv i σ' H'->EG X tg x σ' H' λσ2 H2=>Ψ X body {D with nx:=Pv (i+1),ct:=Pv (i+1),bk:=D.nx} σ2 H2)/\∀σ' H',Pv xs.length σ' H'->D.nx σ' H'):SX X (.For tg (.Call (.Name "reversed" p) [a] [] p') body [] pos) D σ H:=by
 refine sZ hp hc (by intro _;rfl) (ab4 hg hm hs (aF h λv H1 q=>?_));obtain⟨q,xs,rfl,hq,Pv,h0,hl,hst,hd⟩:=q;refine⟨q,xs,rfl,hq,λi m σ H=>m=xs.length-i/\i<=xs.length/\Pv i σ H,⟨xs.length,by simp,agf _,h0⟩,?_⟩
 rintro i m σ' H' ⟨rfl,hi,p⟩
 by_cases hlt:i<xs.length
 .refine .inr ⟨⟨hlt,xs,hl i σ' H' hi p,rfl⟩,Pv (i+1),λσ2 H2 p2=>⟨xs.length-(i+1),by omega,rfl,hlt,p2⟩,λx H2 y=>?_⟩;obtain⟨rfl,e⟩:=y;exact hst i x σ' _ hlt (e xs (hl i σ' _ hi p)) p
 .have e:i=xs.length:=by omega
  refine .inl ⟨e,?_⟩;subst e;exact hd σ' H' p
end
theorem ag6{M:Model}{A:ϰ}{E:ε->μ->Prop}{s:μ}{α:Type}{e T L:δ}{cls:ε}{d:Option δ×Bool}{fl:ε}{what:String}{env:Env}{Q:α->μ->Prop}(hf:env.frame=some L)(F:bD s.heap e cls d (some T) fl)(k:∀h',qW s.heap h' [T] []->bD h' e cls d (some T) (rawInt L)->E (.ref e) {s with heap:=h'}):ν M A (passOn what (.ref e) env) Q E s:=by
 obtain⟨oe,vs,he,hc,hdx,hd,h1,hz,h2,hT⟩:=F;obtain⟨Ϻ,oT,ws,t1,t2,t3⟩:=hT T rfl;have h3:3<ws.size:=(ajl.mp t3).1;have h1':vs[1]?=some (Value.ref T):=h1;unfold PySem.passOn;refine ϩ (wpAny_field he hd h1' ?_);rw[if_neg (show ¬((Value.ref T==Value.none)=true)from by simp)];refine ϩ ?_;unfold setFlight;refine ϩ (wpAny_field he hd h1' ?_);rw[if_pos (show(Value.ref T !=Value.none)=true from by simp),hf];refine wpAny_setField t1 t2 h3 (wpAny_throw (k _ ⟨λb o q _ n=>?_,λb o q n=>⟨o.slots,?_⟩,λb o q=>?_⟩ ?_))
 .rw[aci _ _ (λz=>n (by simp[z]))];exact q
 .rw[aci _ _ (λz=>n (by simp[z]))];exact q
 .by_cases z:b=T
  .subst z;exact⟨_,afS _ t1 (Obj.isFreed_of_fields (Obj.data_mapFields t2 _))⟩
  .exact⟨o,by rw[aci _ _ (Ne.symm z)];exact q⟩
 .refine⟨oe,vs,?_,hc,hdx,hd,h1,hz,h2.stay λv o ws hv q1 q2=>?_,λT' eT=>?_⟩
  .rw[aci _ _ Ϻ];exact he
  .by_cases z:v=T
   .subst z;rw[t1]at q1;cases q1;exact⟨_,_,afS _ t1 (Obj.isFreed_of_fields (Obj.data_mapFields t2 _)),Obj.data_mapFields q2 _,by rw[aiu (by decide)]⟩
   .exact⟨o,ws,by rw[aci _ _ (Ne.symm z)];exact q1,q2,rfl⟩
  .cases eT;exact⟨Ϻ,_,_,afS _ t1 (Obj.isFreed_of_fields (Obj.data_mapFields t2 _)),Obj.data_mapFields t2 _,by simp[h3]⟩
theorem Sw{prog:ϯ}{w:ϭ}{A:ϰ}{R:Result->μ->Prop}{s:μ}{elt target iter:π}{ifs:List π}{scope:ahI}{pos:Pos}{it acc:ε}{env:Env}(I:Nat->μ->Prop){Er:ε->μ->Prop}(hE:∀x s,Er x s->notedBy (Ϧ prog w) A env (λx s'=>R (.error x) s') x s)(turn:∀n s,I n s->ν (Ϧ prog w) A (pyNext it) (λr s₁=>match r with
   |none=>R (.ok .next) s₁
   |some v=>ν (Ϧ prog w) A (letOwnedTupleGo target it v) (λ_ s₁'=>ν (Ϧ prog w) A (assign target env v) (λ_ s₂=>
    ν (Ϧ prog w) A (forIn ifs true λc r=>if r=true then do let ok<-isTrue c env (eval c env);pure (ForInStep.yield ok)else pure (ForInStep.yield r)) (λok s₃=>
     if ok=true then ν (Ϧ prog w) A (eval elt env) (λx s₄=>
      ν (Ϧ prog w) A (call (.builtin "list.append") [acc,x]) (λ_ s₅=>∃m,m<n/\I m s₅) Er s₄) Er s₃
     else ∃m,m<n/\I m s₃) Er s₂) Er s₁') Er s₁) Er s)(n:Nat)(h:I n s):codeAny (Ϧ prog w) A (.compLoop (.ListComp elt [⟨target,iter,ifs,0⟩] scope pos) 0 it acc env) R s:=by
 refine codeAny_loop rfl I (λn s hI=>?_) n h;show ν _ A ((compTurn (.ListComp elt [⟨target,iter,ifs,0⟩] scope pos) 0 it acc env).onRaise (λx=>do noteFrame x env;theTreesLotGoes x)) _ _ s;refine wpAny_noted ?_;rw[compTurn_list];refine ϩ (ajF (ϩ (adm (turn n s hI) (λr s₁ h₁=>?_) hE)));cases r with
 |none=>exact ϱ h₁
 |some v=>
  refine ϩ (adm h₁ (λ_ s₁' h₁'=>?_) hE);refine ϩ (adm h₁' (λ_ s₂ h₂=>ϩ (adm h₂ (λok s₃ h₃=>?_) hE)) hE);cases ok with
  |false=>exact ϱ ⟨rfl,h₃⟩
  |true=>
   exact ϩ (ϩ (adm h₃ (λx s₄ h₄=>ϩ (adm h₄ (λ_ s₅ h₅=>ϱ (ϱ ⟨rfl,h₅⟩)) hE)) hE))
def wJ(M:Model)(A:ϰ)(E:ε->μ->Prop)(use:Option (ε->Sem Unit))(Q:ε->μ->Prop)(acc:ε)(C:Env)(r:Result)(s':μ):Prop:=
 match r,use with
 |.ok _,none=>∃m,s'.heap.Ns C.locals m/\∀h',akk C.locals s'.heap h'->Q acc {s' with heap:=h'}
 |.ok _,some u=>ν M A (u acc) (λ_ s''=>∃m,s''.heap.Ns C.locals m/\∀h',akk C.locals s''.heap h'->Q .none {s'' with heap:=h'}) E s'
 |.error x,_=>∃m,s'.heap.Ns C.locals m/\∀h',akk C.locals s'.heap h'->ν M A (passOn "comprehension.variables-let-go" x C:Sem ε) (λ_ _=>False) E {s' with heap:=h'}
theorem Y6{M:Model}{A:ϰ}{E:ε->μ->Prop}{s:μ}{env:Env}{e:π}{scope:ahI}{pos:Pos}{newAcc first:Sem ε}{g:Comprehension}{gs:List Comprehension}{cl:List (Str×δ)}{use:Option (ε->Sem Unit)}{Q:ε->μ->Prop}(hcl:clausesOf e=g::gs)(hs:∀x,foldedSetIterable g.iter env x=pure x)(hclos:closureFor scope env=pure cl)(hkind:scope.kind=.function)(hnames:∀x∈scope.names,x.2=.local->scope.names.lookup x.1=some .local)(h:ν M A first (λx s₁=>ν M A (pyIter x) (λit s₂=>ν M A newAcc (λacc s₃=>ν M A (newFunctionEnv scope env.globals cl [] env.qual none .none (some env)) (λcenv s₄=>
   codeAny M A (.compStart e 0 it acc {cenv with scope:=relabel scope env}) (wJ M A E use Q acc {cenv with scope:=relabel scope env}) s₄) E s₃) E s₂) E s₁) E s):ν M A (comprehension e scope env pos newAcc false first use) Q E s:=by
 unfold comprehension;rw[hclos,hcl];refine ϩ (adm h (λx s₁ h₁=>ϩ (ajF (ϩ (wpAny_of_eq (hs x) (ϩ (ag0 (adm h₁ (λit s₂ h₂=>wpAny_standIf (ϩ (adm h₂ (λacc s₃ h₃=>
  ϩ (ϱ (ϩ (adm h₃ (λcenv s₄ h₄=>?_) λ_ _ z=>z)))) λ_ _ z=>z))) λ_ _ z=>z))))))) λ_ _ z=>z)
 dsimp only;have hv:∀x∈(scope.names.filter λx=>(x.2==.local||x.2==.cell)&&x.1 !=(".0":Str)).reverse,x.2=.local->Env.kindOf {cenv with scope:=relabel scope env} x.1=some .local:=
  λx hx hl=>lookup_relabel_local (hnames x (ac8.mp (List.mem_reverse.mp hx)).1 hl)
 have hw:∀x∈(scope.names.filter λx=>(x.2==.local||x.2==.cell)&&x.1 !=(".0":Str)).reverse.drop 1++(scope.names.filter λx=>(x.2==.local||x.2==.cell)&&x.1 !=(".0":Str)).reverse.take 1,x.2=.local->Env.kindOf {cenv with scope:=relabel scope env} x.1=some .local:=λx hx hl=>by
  obtain z|z:=afw.mp hx
  .exact hv x (aiS z) hl
  .exact hv x (ajV z) hl
 refine ag0 (ϩ (wpAny_attempt (ag0 (wpAny_run (aiT h₄ λr s' hr=>?_)))));cases r with
 |ok f=>
  cases use with
  |none=>
   obtain⟨m,hn,hr⟩:=hr;exact ϩ (ag0 (wpAny_comp_letGo (cenv:={cenv with scope:=relabel scope env}) hkind _ s' m hv hn λh' m' _ z=>ϱ (hr h' z)))
  |some u=>
   refine ϩ (wpAny_rule (ϩ (ag0 (adm hr (λ_ s'' hr'=>?_) λ_ _ z=>z))));obtain⟨m,hn,hr'⟩:=hr';exact ϩ (wpAny_comp_letGo (cenv:={cenv with scope:=relabel scope env}) hkind _ s'' m hw hn λh' m' _ z=>ϱ (hr' h' z))
 |error x=>
  have hr':∃m,s'.heap.Ns cenv.locals m/\∀h',akk cenv.locals s'.heap h'->ν M A (passOn "comprehension.variables-let-go" x {cenv with scope:=relabel scope env}:Sem ε) (λ_ _=>False) E {s' with heap:=h'}:=by cases use<;>exact hr
  obtain⟨m,hn,hr⟩:=hr';exact ϩ (ag0 (wpAny_comp_letGo (cenv:={cenv with scope:=relabel scope env}) hkind _ s' m hv hn λh' m' _ z=>adm (hr h' z) (λ_ _ f=>f.elim) λ_ _ y=>y))
abbrev dw(X:Cx)(N':List Str)(scope:ahI)(cl:List (Str×δ))(C:δ)(s:μ)(H:Hp)(fp:List δ)(F:ε->μ->Prop):Cx:=(aR X N' scope cl C s H fp).tri F []
section
variable{X:Cx}{ϵ:List (δ×Obj)}{σ:St}{H:Hp}{s:μ}{scope:ahI}{N':List Str}{fp:List δ}{elt iter tg:π}{ifs:List π}{pos:Pos}{Kx:St->XK}
theorem Vy{R:ε->Env->Result->μ->Prop}{it:δ}{tn:Nat->ϫ->Prop}{J:It}{E:ε->μ->Prop}{Q:δ->Hp->Prop}(hst:X.stack=X.env::X.outer)(hfr:X.env.frame=some X.env.locals)(hc:X.calm=true)(S:bC X.env scope)(I:Inv X ϵ σ H s)(T:Turn X.prog X.w X.K tg J fp it tn)(st:tn 0 s.heap)(hf:∀b∈fp,aM X ϵ H b)(h:∀(D C:δ)(s3:μ)(F:ε->μ->Prop),H D=none->aZ (dw X N' scope (ώ scope X.env) C s3 (upd H D (.lst [])) fp F) (λ_=>Kx σ)->dW X (dw X N' scope (ώ scope X.env) C s3 (upd H D (.lst [])) fp F) tg elt ifs J D (bj N' X.N σ scope) H (Q D))(hR:∀(D:δ)(C:Env)(H':Hp)(s':μ),H D=none->Q D H'->Inv X ϵ σ H' s'->aM X ϵ H' C.locals->(∃m,s'.heap.Ns C.locals m)->R (.ref D) C (.ok .next) s')(hRx:∀(D:δ)(C:Env)(H':Hp)(s':μ)(e t:δ)(cls:ε)(d:Option δ×Bool),C.frame=some X.env.locals->Inv X ϵ σ H' s'->aM X ϵ H' C.locals->(∃m,s'.heap.Ns C.locals m)->bD s'.heap e cls d (some t) (rawInt X.env.locals)->
   (∀b∈[e,t],(H' b=none/\Ch X ϵ b)/\b≠C.locals)->Kx σ cls d H'->R (.ref D) C (.error (.ref e)) s'):ν (Ϧ X.prog X.w) X.A (newList []) (λacc s₃=>ν (Ϧ X.prog X.w) X.A (newFunctionEnv scope X.env.globals (ώ scope X.env) [] X.env.qual none .none (some X.env)) (λcenv s₄=>
   codeAny (Ϧ X.prog X.w) X.A (.compStart (.ListComp elt [⟨tg,iter,ifs,0⟩] scope pos) 0 (.ref it) acc {cenv with scope:=relabel scope X.env}) (R acc {cenv with scope:=relabel scope X.env}) s₄) E s₃) E s:=by
 refine alU ?_;have hD:H s.heap.objs.size=none:=I.hok.fresh (Ϯ _);generalize hs3:({s with heap:=s.heap.push {cls:=.type "list",dict:=none,data:=.seq ([]:List ε).toArray}}:μ)=s3;have I3:Inv X ϵ σ (upd H s.heap.objs.size (.lst [])) s3:=by
  subst hs3;exact I.laid (t':=s.toks) (λb u e=>Heap.get?_push_of_some _ e) (Ϯ _) ⟨agf _,[],0,.nil,abq _ rfl⟩
 have hsz:s3.heap.objs.size=s.heap.objs.size+1:=by subst hs3;exact al0 ..
 have old3:∀b o,s.heap.get? b=some o->s3.heap.get? b=some o:=λb o e=>by subst hs3;exact Heap.get?_push_of_some _ e
 have qd:∀b∈fp,b<s.heap.objs.size:=λb hb=>by
  obtain⟨o,e,_⟩:=T.obj _ _ st b hb;exact abe e
 have f9:∀b∈fp,aM X ϵ (upd H s.heap.objs.size (.lst [])) b:=λb hb=>⟨by rw[ι (ab6 (qd b hb))];exact(hf b hb).1,(hf b hb).2⟩
 have st3:tn 0 s3.heap:=T.keep _ _ _ st λb _ o e=>old3 b o e
 have oH:∀b∈fp,b<s3.heap.objs.size:=λb hb=>by rw[hsz];exact alz (qd b hb)
 refine wpAny_newFunctionEnv S.cell (by intro y hy;simp at hy) (λh₁ hns hsb=>?_) S.kind;have gQ:∀b o,s3.heap.get? b=some o->h₁.get? b=some o:=λb o e=>hsb.extBut b o (ab6 (abe e)) (Heap.get?_push_of_some _ e)
 generalize qy:compEnvC scope (ώ scope X.env) s3.heap.objs.size X.env=Ce;have tM:Ce.locals=s3.heap.objs.size:=by rw[<-qy];rfl
 have hCf:Ce.frame=some X.env.locals:=by rw[<-qy];exact hfr
 generalize hB:aR X N' scope (ώ scope X.env) s3.heap.objs.size s3 (upd H s.heap.objs.size (.lst [])) fp=B;generalize hF:notedBy (Ϧ X.prog X.w) X.A Ce (λx s'=>R (.ref s.heap.objs.size) Ce (.error x) s')=F;generalize pD:({s3 with heap:=h₁,toks:=s3.toks+([]:List (Str×ε)).length}:μ)=s4;have Gy:Inv B [] (bj N' X.N σ scope) (upd H s.heap.objs.size (.lst [])) s4:=by
  subst pD;rw[<-hB];exact HN S I3 f9 oH hns gQ
 have hpn:B.pn=[]:=by rw[<-hB];rfl
 have toX:∀{pins':List (δ×Obj)}{τ:St}{H':Hp}{s':μ},Inv (B.tri F []) pins' τ H' s'->Inv X ϵ σ H' s':=λ{pins' τ H' s'} J=>by
  have J2:Inv B [] τ H' s':=Inv.jC (X:=B) (ϵ:=[]) (F:=F) (pins':=pins') Gy.ok (by rw[hpn];exact J);rw[<-hB]at J2;exact Jt I3 f9 J2
 have hP:(B.tri F []).prog=X.prog:=by rw[<-hB];rfl
 have hw:(B.tri F []).w=X.w:=by rw[<-hB];rfl
 have hK:(B.tri F []).K=X.K:=by rw[<-hB];rfl
 have hA:(B.tri F []).A=X.A:=by rw[<-hB];rfl
 have oR:(B.tri F []).calm=true:=by rw[<-hB];exact hc
 have hen:(B.tri F []).env=Ce:=by rw[<-hB, <-qy];rfl
 have hloc:(B.tri F []).env.locals=s3.heap.objs.size:=by rw[hen,tM]
 have hex:(B.tri F []).ex=fp:=by rw[<-hB];rfl
 have hs0:(B.tri F []).s₀=s3:=by rw[<-hB];rfl
 have Y7:s3.heap.objs.size∉bK X.stack:=λz=>by
  rcases ϴ.mp (I3.stkSub _ z)with e|e
  .exact aiE _ (e▸I3.lt)
  .exact I3.nofs (Ϯ _) e
 have Hr:aZ (B.tri F []) (λ_=>Kx σ):=by
  intro pins' τ H' s' e cls d xa q;obtain⟨J,tb,fl,Fl,hfl,ch⟩:=xa;have IX:=toX J;have chX:∀b∈e::tb.toList,(H' b=none/\Ch X ϵ b)/\b≠s3.heap.objs.size:=λb hb=>by
   obtain⟨c0,c1,c2,c3⟩:=ch b hb;rw[hloc]at c2;rw[hex,hs0]at c1;refine⟨⟨c0,?_⟩,c2⟩;obtain z|z:=c1
   .obtain⟨_,g1,_,g3,g4,g5⟩:=f9 b z;exact⟨g3,g1,g4,g5⟩
   .exact I3.ch z
  have hfl':(fl==rawInt X.env.locals)=false:=by
   obtain z|⟨z,_⟩:=hfl
   .rw[z];simp[rawInt]
   .rw[z,hloc,beq_eq_false_iff_ne];intro z2;simp only[rawInt]at z2;have z3:((s3.heap.objs.size:Nat):Int)=((X.env.locals:Nat):Int):=by injection z2
    have z4:s3.heap.objs.size=X.env.locals:=Int.ofNat.inj z3;have z5:=I3.lt;rw[z4]at z5;exact aiE _ z5
  show F (.ref e) s';rw[<-hF];have hl:=IX.stack;rw[hst]at hl;have en:noteFrame (.ref e) Ce=noteFrame (.ref e) X.env:=by rw[<-qy];rfl
  show ν _ _ (noteFrame (.ref e) Ce) _ _ _;rw[en];refine HH (base:=X.base) (IX.ok.frames.trans (by rw[hst])) hl hfr Fl hfl' λh' t N hT F'=>?_
  have IN:Inv X ϵ σ H' {s' with heap:=h'}:=IX.noted (by rw[hst];exact N) λb hb=>(chX b hb).1
  obtain⟨m,hn,_⟩:=J.loc;rw[hloc]at hn;have hlt:s3.heap.objs.size<s'.heap.objs.size:=hn.lt;have hfree:H' s3.heap.objs.size=none:=by
   have:=J.free;rw[hloc]at this;exact this
  refine hRx _ Ce H' _ e t cls d hCf IN (by rw[tM];exact I3.fpOk (Ϯ _) hfree) ⟨m,?_⟩ F' (λb hb=>?_) q
  .rw[tM];obtain⟨o,a1,a2,ho,hr⟩:=hn;exact⟨o,a1,a2,N.keep _ _ ho (by rw[<-hst];exact Y7) (λz=>(chX _ z).2 rfl),hr⟩
  .rw[tM];obtain z|z:=ϴ.mp hb
   .subst z;exact chX _ aeM
   .have z':b=t:=by simpa using z
    subst z';exact⟨⟨IX.hok.fresh hT,IX.ch (aiP hT)⟩,λz=>aiE _ (abu hlt (z▸hT))⟩
 have hT:=h s.heap.objs.size s3.heap.objs.size s3 F hD (by rw[<-hB]at Hr;exact Hr);rw[show dw X N' scope (ώ scope X.env) s3.heap.objs.size s3 (upd H s.heap.objs.size (.lst [])) fp F=B.tri F []from by rw[<-hB]]at hT;obtain⟨W,⟨m0,w0⟩,turn⟩:=hT;have I4:Inv (B.tri F []) [] (bj N' X.N σ scope) (upd H s.heap.objs.size (.lst [])) s4:=by
  have:=Gy.tri (F:=F);rw[hpn]at this;exact this
 have pW:tn 0 s4.heap:=by
  subst pD;exact T.keep _ _ _ st3 λb _ o e=>gQ b o e
 have kO:∀b∈fp,∀H':Hp,H' b=none->aM (B.tri F []) [] H' b:=λb hb H' e=>by
  rw[<-hB];refine⟨e,ab6 (oH b hb),λz=>?_,.inl hb,λx c q=>(f9 b hb).2.2.2.2.1 x c (S.cl I3 q),λp hp=>absurd (show p∈([]:List (δ×Obj))from hp) (by simp)⟩;rcases ϴ.mp (I3.stkSub b z)with e|e
  .exact(hf b hb).2.1 e
  .exact(hf b hb).2.2.1 e
 have loop:codeAny (Ϧ X.prog X.w) X.A (.compLoop (.ListComp elt [⟨tg,iter,ifs,0⟩] scope pos) 0 (.ref it) (.ref s.heap.objs.size) Ce) (R (.ref s.heap.objs.size) Ce) s4:=by
  refine Sw (Er:=F) (λn s'=>∃i τ H',Inv (B.tri F []) [] τ H' s'/\tn i s'.heap/\(∀b∈fp,H' b=none)/\W i n τ H') (λx s z=>by rw[<-hF]at z;exact z) ?_ m0 ⟨0,_,_,I4,pW,λb hb=>(f9 b hb).1,w0⟩
  rintro n s5 ⟨i,τ,H5,I5,st5,fr5,w5⟩
  have toF:∀{α:Type}{t:Sem α}{Q:α->μ->Prop}{s:μ},ν (Ϧ (B.tri F []).prog (B.tri F []).w) (B.tri F []).A t Q (B.tri F []).xe s->ν (Ϧ X.prog X.w) X.A t Q F s:=λh=>by
   rw[hP,hw,hA]at h;exact h
  rw[<-hen];obtain⟨stop,qn⟩|⟨go,N,hN,step⟩:=turn i n τ H5 w5
  .have q:=T.done (B.tri F []) hP hw hK oR i [] s5 τ H5 F I5 (λb hb=>kO b hb _ (fr5 b hb)) st5 stop;rw[hA]at q;refine ρ q λr s6 ⟨hr,I6⟩=>?_
   subst hr;refine hR _ _ H5 s6 hD qn (toX I6) ?_ ?_
   .rw[hloc];refine I3.fpOk (Ϯ _) ?_;have:=I6.free;rw[hloc]at this;exact this
   .obtain⟨m,hn,_⟩:=I6.loc;exact⟨m,hn⟩
  .have q:=T.item (B.tri F []) hP hw hK oR i [] s5 τ H5 F I5 (λb hb=>kO b hb _ (fr5 b hb)) st5 go;rw[hA]at q;refine ρ q λr s6 ⟨u,hr,h6⟩=>?_
   subst hr;refine ρ h6 λ_ s7 ⟨x,H7,I7,r7,y7,jK,xu⟩=>?_
   have Ao:=I7.pinned (λb hb=>kO b hb _ (xu b hb)) (T.obj _ _ jK);have oO:∀{τ':St}{H8:Hp}{s8:μ},Inv (B.tri F []) ([]++dq fp s7.heap) τ' H8 s8->tn (i+1) s8.heap/\∀b∈fp,H8 b=none:=λ{τ' H8 s8} I8=>by
    refine⟨T.keep _ _ _ jK λb hb o e=>(I8.pin (b,o) (ack _ (ack _ (mU hb e)))).1,λb hb=>?_⟩;obtain⟨o,e,d⟩:=T.obj _ _ jK b hb;exact(I8.pin (b,o) (ack _ (ack _ (mU hb e)))).2.1
   refine toF (ρ (step x H7 y7 _ s7 u Ao r7) λ_ s8 ⟨τ8,H8,I8,q8⟩=>?_);refine toF (ρ (q8 _ s8 I8) λok s9 ⟨H9,I9,q9⟩=>?_);cases ok with
   |false=>
    have jH:N τ8 H9:=by simpa using q9
    obtain⟨m',hm,w9⟩:=hN _ _ jH;obtain⟨k1,k2⟩:=oO I9;show ∃m,_;exact⟨m',hm,i+1,τ8,H9,I9.unpinned,k1,k2,w9⟩
   |true=>
    have jH:EV (B.tri F []) elt τ8 H9 λy H4=>∃xs,H4 s.heap.objs.size=some (.lst xs)/\xs.length<Ϫ/\N τ8 (upd H4 s.heap.objs.size (.lst (xs++[y]))):=by simpa using q9
    show ν _ _ _ _ _ _;refine toF (ρ (jH _ s9 I9) λz jz ⟨y,d7,zY,r10,xs,e10,l10,n10⟩=>?_);refine toF (ρ (vf _ jz τ8 d7 (.ref s.heap.objs.size) [y] _ [z] (λv pK=>v=.non/\pK=upd d7 s.heap.objs.size (.lst (xs++[y]))) zY rfl (.cons r10 .nil) ⟨_,xs,y,rfl,rfl,e10,l10,rfl,rfl⟩) λ_ s11 ⟨_,pK,oK,_,_,yW⟩=>?_);subst yW;obtain⟨m',hm,w11⟩:=hN _ _ n10;obtain⟨k1,k2⟩:=oO oK;exact⟨m',hm,i+1,τ8,_,oK.unpinned,k1,k2,w11⟩
 rw[<-qy]at loop;exact codeAny_compStart_list loop (T.self X.A 0 s4 _ _ pW loop)
theorem T3{Q:ε->μ->Prop}{use:Option (ε->Sem Unit)}(hx:aZ X Kx){acc:ε}{C:Env}{H':Hp}{s':μ}{e t:δ}{cls:ε}{d:Option δ×Bool}(hCf:C.frame=some X.env.locals)(I:Inv X ϵ σ H' s')(fC:aM X ϵ H' C.locals)(hn:∃m,s'.heap.Ns C.locals m)(F:bD s'.heap e cls d (some t) (rawInt X.env.locals))(ch:∀b∈[e,t],(H' b=none/\Ch X ϵ b)/\b≠C.locals)(q:Kx σ cls d H'):wJ (Ϧ X.prog X.w) X.A X.xe use Q acc C (.error (.ref e)) s':=by
 obtain⟨m,hn⟩:=hn;obtain⟨f0,f1,f2,f3,f4,f5⟩:=fC;have main:∃m,s'.heap.Ns C.locals m/\∀h',akk C.locals s'.heap h'->ν (Ϧ X.prog X.w) X.A (passOn "comprehension.variables-let-go" (.ref e) C:Sem ε) (λ_ _=>False) X.xe {s' with heap:=h'}:=by
  refine⟨m,hn,λh' hsb=>?_⟩;have I2:Inv X ϵ σ H' {s' with heap:=h'}:=I.turned (t':=s'.toks) (λb o hb e=>hsb.extBut b o hb e) f0 f1 f3 f4 f5;have F2:bD h' e cls d (some t) (rawInt X.env.locals):=by
   obtain⟨oe,vs,he,hc,hdx,hd,h1,hz,h2,hT⟩:=F;refine⟨oe,vs,hsb.extBut _ _ (ch e (by simp)).2 he,hc,hdx,hd,h1,hz,h2.stay (λv o ws hv q1 q2=>⟨o,ws,hsb.extBut _ _ (λz=>by
    obtain⟨_,_,_,ho,hdd,_⟩:=hn;rw[<-z,q1]at ho;cases ho;rw[q2]at hdd;cases hdd) q1,q2,rfl⟩),λT eT=>?_⟩
   cases eT;obtain⟨Ϻ,oT,ws,t1,t2,t3⟩:=hT t rfl;exact⟨Ϻ,oT,ws,hsb.extBut _ _ (ch t (by simp)).2 t1,t2,t3⟩
  refine ag6 (s:={s' with heap:=h'}) hCf F2 λh2 N F3=>?_
  refine hx ϵ σ H' _ e cls d ⟨I2.noted (ch:=[t]) ⟨λb o q _ n=>N.keep b o q (by simp) n,N.slot,N.there⟩ λb hb=>?_,some t,_,F3,.inr ⟨rfl,rfl⟩,λb hb=>(ch b (by simpa using hb)).1⟩ q;have z:b=t:=by simpa using hb
  subst z;exact(ch b (by simp)).1
 cases use<;>exact main
theorem ahV{D:Ends}{y:Str}{py spos:Pos}{j:Nat}(hx0:aZ X Kx)(hst:X.stack=X.env::X.outer)(hfr:X.env.frame=some X.env.locals)(hsw:ajq (.ListComp elt [⟨tg,iter,ifs,0⟩] scope pos) (some (.Name y py)) spos.line X.env=pure true)(hc:X.calm=true)(S:bC X.env scope)(hs:∀x,foldedSetIterable iter X.env x=pure x)(hN:X.N.Nodup)(hi:nameAt X.N y=some j)(hx:X.env.scope.names.lookup y=some .local)(h:EI X tg iter σ H λJ H1=>∀(fp:List δ)(E C:δ)(s3:μ)(F:ε->μ->Prop),H1 E=none->aZ (dw X N' scope (ώ scope X.env) C s3 (upd H1 E (.lst [])) fp F) (λ_=>Kx σ)->dW X (dw X N' scope (ώ scope X.env) C s3 (upd H1 E (.lst [])) fp F) tg elt ifs J E (bj N' X.N σ scope) H1 (λH'=>D.nx (σ.set j (some (.ref E))) H')):SX X (.Assign [.Name y py] (.ListComp elt [⟨tg,iter,ifs,0⟩] scope pos) spos) D σ H:=by
 intro ϵ s I;rw[exec_Assign_Name_used _ _ _ _ hsw];refine ϩ (ajF (ϩ ?_));show ν _ X.A (do let _<-comprehension (.ListComp elt [⟨tg,iter,ifs,0⟩] scope pos) scope X.env _ (newList []) false (eval iter X.env) (some (assign (.Name y py) X.env))) _ _ s;refine ϩ (adm (Y6 (use:=some (assign (.Name y py) X.env)) (Q:=λ_ s'=>SP X ϵ D .next s') rfl hs (xY (S.has I)) S.kind S.loc
  (ρ (h ϵ s I) λv s1 h1=>ρ h1 λitv s2 h2=>?_)) (λ_ s' hq=>ϱ (ϱ hq)) λ_ _ e=>e)
 obtain⟨it,fp,tn,J,H2,e,I2,T,st2,f2,q2⟩:=h2;subst e;refine Vy (Kx:=Kx) (R:=λacc C=>wJ (Ϧ X.prog X.w) X.A X.xe (some (assign (.Name y py) X.env)) (λ_ s'=>SP X ϵ D .next s') acc C) (Q:=λE H'=>D.nx (σ.set j (some (.ref E))) H') hst hfr hc S I2 T st2 f2 (λE C s3 F hD xo=>q2 fp E C s3 F hD xo) (λE C H' s' hD qD IX fC hn=>?_)
  λD C H' s' e t cls d hCf IX fC hn F ch q=>T3 hx0 hCf IX fC hn F ch q
 obtain⟨m,hn⟩:=hn;obtain⟨f0,f1,Ea,f3,f4,f5⟩:=fC;show ν _ _ (assign (.Name y py) X.env (.ref E)) _ _ _;refine wpAny_assign_Name (o9 IX hN (pU hi) (.inl hx) (v:=.ref E) rfl (λs'' yR hb=>?_) (.inr hx));obtain⟨a,sb,ha⟩:=hb;have xK:C.locals≠a:=by
  obtain ha|ha:=ha
  .rw[ha];exact f1
  .intro z;exact f4 y a ha z.symm
 refine⟨m,hn.sameBut sb xK,λh' hsb=>⟨σ.set j (some (.ref E)),H',yR.turned (t':=s''.toks) (λb o hb e=>hsb.extBut b o hb e) f0 f1 f3 f4 f5,qD⟩⟩
end
section
variable{X:Cx}{a e:π}{σ σ':St}{H:Hp}{Q:VK}{D:Ends}{pos spos py p p':Pos}{tg elt iter:π}{scope:ahI}{Kx:St->XK}{y:Str}{j:Nat}
def Lh(X:Cx)(N':List Str)(scope:ahI)(tg elt:π)(σ σ':St)(Kx:St->XK)(H1:Hp)(Q:VK)(n:Nat)(G:Nat->Hp->V->Hp->Prop):Prop:=
 ∃(Tp:St->Prop)(Pi:δ->Nat->V->Hp->Prop),Tp σ'/\
  (∀E i v H2 H3 ys,H2 E=some (.lst ys)->(∀b o,b≠E->H2 b=some o->H3 b=some o)->Pi E i v H2->Pi E i v H3)/\
  (∀(fp:List δ)(E C:δ)(s3:μ)(H0:Hp)(F:ε->μ->Prop)(i:Nat)(τ:St)(x:V)(H2 H3:Hp),aZ (dw X N' scope (ώ scope X.env) C s3 H0 fp F) (λ_=>Kx σ)->H1 E=none->i<n->Tp τ->ζ H1 H2->(∃ys,H2 E=some (.lst ys)/\ys.length=i/\∀k v,ys[k]?=some v->Pi E k v H2)->G i H2 x H3->
   EG (dw X N' scope (ώ scope X.env) C s3 H0 fp F) tg x τ H3 λτ2 H4=>EV (dw X N' scope (ώ scope X.env) C s3 H0 fp F) elt τ2 H4 λv H5=>Tp τ2/\Pi E i v H5/\ζ H2 H5)/\
  ∀(E:δ)(H2:Hp)(xs:List V),H1 E=none->xs.length=n->(∀i v,xs[i]?=some v->Pi E i v H2)->H2 E=some (.lst xs)->ζ H1 H2->Q (.ref E) H2
theorem abC{Y:Cx}{tg elt:π}{J:It}{E:δ}{τ0:St}{Q:Hp->Prop}(n:Nat)(hn:n<=Ϫ)(Tp:St->Prop)(hT:Tp τ0)(Pi:Nat->V->Hp->Prop)(hE:H E=none)(mono:∀i v H1 H2 ys,H1 E=some (.lst ys)->(∀b o,b≠E->H1 b=some o->H2 b=some o)->Pi i v H1->Pi i v H2)(go:∀i H1,ζ H H1->i<n->J.go i H1)(stop:∀H1,ζ H H1->J.stop n H1)(step:∀i τ x H1 H2,i<n->Tp τ->ζ H H1->(∃ys,H1 E=some (.lst ys)/\ys.length=i/\∀k v,ys[k]?=some v->Pi k v H1)->J.yld i H1 x H2->EG Y tg x τ H2 λτ2 H3=>EV Y elt τ2 H3 λv H4=>Tp τ2/\Pi i v H4/\ζ H1 H4)(fin:∀H1 xs,xs.length=n->(∀i v,xs[i]?=some v->Pi i v H1)->H1 E=some (.lst xs)->ζ H H1->Q H1):dW X Y tg elt [] J E τ0 H Q:=by
 refine⟨λi m τ H1=>m=n-i/\i<=n/\ζ H H1/\Tp τ/\∃xs,H1 E=some (.lst xs)/\xs.length=i/\∀k v,xs[k]?=some v->Pi k v H1,⟨n,by simp,agf _,ζ.upd hE,hT,[],υ,rfl,λk v e=>by simp at e⟩,?_⟩
 rintro i m τ H1 ⟨rfl,hi,s1,hτ,xs,eE,lx,px⟩
 by_cases hlt:i<n
 .refine .inr ⟨go i H1 s1 hlt,λτ' H'=>ζ H H'/\Tp τ'/\∃xs,H' E=some (.lst xs)/\xs.length=i+1/\∀k v,xs[k]?=some v->Pi k v H',λτ' H' ⟨a,b,c⟩=>⟨n-(i+1),by omega,rfl,hlt,a,b,c⟩,λx H2 y=>?_⟩;intro ϵ s u I r;refine ρ (step i τ x H1 H2 hlt hτ s1 ⟨xs,eE,lx,px⟩ y ϵ s u I r) λ_ s' ⟨τ2,H3,I3,q3⟩=>⟨τ2,H3,I3,Ag ?_⟩
  rw[if_pos rfl];refine aF q3 λv H4 ⟨t2,pv,s2⟩=>⟨xs,s2 _ _ eE,by omega,?_⟩
  have mm:∀k w',Pi k w' H4->Pi k w' (upd H4 E (.lst (xs++[v]))):=λk w' q=>mono k w' H4 _ xs (s2 _ _ eE) (λb o hb e=>by rw[ι hb];exact e) q
  refine⟨λb o e=>?_,t2,xs++[v],υ,by simp[lx],λk u e=>?_⟩
  .rw[ι (Η e hE)];exact s2 _ _ (s1 _ _ e)
  .by_cases hk:k<xs.length
   .rw[aiI hk]at e;refine mono k u H1 _ xs eE (λb o hb e=>?_) (px k u e);rw[ι hb];exact s2 _ _ e
   .have hk2:k=i:=by
     have:=(aal.mp e).1;rw[abo,ae7]at this;omega
    subst hk2;rw[<-lx,ai1]at e;cases e;exact mm _ _ pv
 .have e:i=n:=by omega
  subst e;exact .inl ⟨stop H1 s1,fin H1 xs lx px eE s1⟩
theorem Yi{N':List Str}{J:It}{n:Nat}{G:Nat->Hp->V->Hp->Prop}(hn:n<=Ϫ)(go:∀i H2,ζ H H2->i<n->J.go i H2)(stop:∀H2,ζ H H2->J.stop n H2)(yl:∀i H2 x H3,i<n->ζ H H2->J.yld i H2 x H3->G i H2 x H3)(h:Lh X N' scope tg elt σ σ' Kx H Q n G):∀(fp:List δ)(D C:δ)(s3:μ)(F:ε->μ->Prop),H D=none->aZ (dw X N' scope (ώ scope X.env) C s3 (upd H D (.lst [])) fp F) (λ_=>Kx σ)->dW X (dw X N' scope (ώ scope X.env) C s3 (upd H D (.lst [])) fp F) tg elt [] J D σ' H (λH'=>Q (.ref D) H'):=by
 intro fp E C s3 F hE xo;obtain⟨Tp,Pi,t0,mono,step,fin⟩:=h;exact abC n hn Tp t0 (Pi E) hE (λi v H1 H2 ys=>mono E i v H1 H2 ys) go stop (λi τ x H1 H2 hi ht hs hy y=>step fp E C s3 _ F i τ x H1 H2 xo hE hi ht hs hy (yl i H1 x H2 hi hs y)) λH1 xs l px eE s=>fin E H1 xs hE l px eE s
theorem aeD(N':List Str)(hσ:bj N' X.N σ scope=σ')(hx0:aZ X Kx)(hst:X.stack=X.env::X.outer)(hfr:X.env.frame=some X.env.locals)(hsw:ajq (.ListComp elt [⟨tg,e,[],0⟩] scope pos) (some (.Name y py)) spos.line X.env=pure true)(hc:X.calm=true)(S:bC X.env scope)(hs:∀x,foldedSetIterable e X.env x=pure x)(hN:X.N.Nodup)(hi:nameAt X.N y=some j)(hx:X.env.scope.names.lookup y=some .local)(h:EV X e σ H λv H1=>∃l xs,v=.ref l/\η X.K H1 l xs/\xs.length<=Ϫ/\Lh X N' scope tg elt σ σ' Kx H1 (λv H'=>D.nx (σ.set j (some v)) H') xs.length λi H2 x H3=>xs[i]?=some x/\H2=H3):SX X (.Assign [.Name y py] (.ListComp elt [⟨tg,e,[],0⟩] scope pos) spos) D σ H:=by
 refine ahV (N':=N') hx0 hst hfr hsw hc S hs hN hi hx (lR (aF h λv H1 q=>?_));obtain⟨l,xs,rfl,hl,hz,hw⟩:=q;refine⟨l,rfl,⟨xs,hl⟩,?_⟩;rw[hσ];refine Yi (J:=gk X.K l) (Q:=λv H'=>D.nx (σ.set j (some v)) H') hz (λi H2 s hi=>⟨xs,xs[i],ζ.seq s hl,aaf hi⟩) (λH2 s=>⟨xs,ζ.seq s hl,Ϯ _⟩) (λi H2 x H3 hi s y=>⟨y.2 xs (ζ.seq s hl),y.1.symm⟩) hw
end
def iU(K:Ϩ)(C L:δ):Bool:=(W.clsIn K C).any λcd=>cd.hasDict&&cd.mro==.ref C:: .ref L::dj
theorem aeQ{K:Ϩ}{C L:δ}(h:iU K C L=true):∃cd,W.clsIn K C=some cd/\cd.hasDict=true/\cd.mro=.ref C:: .ref L::dj:=by
 obtain⟨cd,h1,h2⟩:=W.any_some h;rw[aa3,beq_iff_eq]at h2;exact⟨cd,h1,h2.1,h2.2⟩
section
variable{prog:ϯ}{w:ϭ}{A:ϰ}{E:ε->μ->Prop}{s:μ}{K:Ϩ}{x C L:δ}{ox:Obj}{vs:Array ε}{name:Str}{v:ε}
theorem ag4{Q:Unit->μ->Prop}(X:K.In s.heap)(hx:s.heap.get? x=some ox)(hc:ox.cls=.ref C)(hf:ox.data=.fields vs)(hd:ox.dict=none)(hs:agO K (.ref C) "__setattr__"=some (some (.builtin "object.__setattr__")))(hm:iU K C L=true)(ht:al7 K C name=some none)(h:∀h' tk,h'.get? x=some {ox with dict:=some s.heap.objs.size}->h'.Ns1 s.heap.objs.size (λy=>if y=name then some v else none)->(∀b o,b≠x->s.heap.get? b=some o->h'.get? b=some o)->Q () {s with heap:=h',toks:=tk}):ν (Ϧ prog w) A (setAttr (.ref x) name v) Q E s:=by
 obtain⟨cd,hcd,hdc,hmro⟩:=aeQ hm;have I:W.InstAt s.heap x ox C none:=⟨hx,hc,by unfold W.notCls;rw[hf],by rw[hd];trivial⟩;refine W.set_plain X I hs ?_;have SF:=F.store_object;have sub:W.Looks (Ϧ prog w) s.heap (isInstance (.ref x) (.type "object")) true:=I.type.andThen (W.looks_mroIn X (by unfold amd;rw[hcd,Option.bind_some,hmro];rfl));refine codeAny_call_builtin SF.slot.plain SF.entry (@W.check_slot (Ϧ prog w) _ _ {s with toks:=s.toks+1} "object.__setattr__" "object" "__setattr__" (.ref x) [.str name s.toks,v] [] _ SF.kind SF.split sub (SF.args (.ref x) (.str name s.toks) v) ?_);obtain⟨attr,ha,hr⟩:=Option.bind_eq_some_iff.mp ht;have hmo:W.Looks (Ϧ prog w) s.heap (mroOf (.ref C)) cd.mro:=(amQ X hcd).andThen .now;have L3:W.Looks (Ϧ prog w) s.heap (Builtin.ObjectAttr.storeTaker? attr) none:=by
  cases attr with
  |none=>exact .now
  |some a=>
   obtain⟨b,hb,e⟩:=aik.mp hr;refine(W.looks_takesIn X hb).andThen ?_;cases b
   .exact .now
   .cases e
 rw[W.osa_eq,refuse_eq];refine ϩ (ϩ (W.Looks.here (s:={s with toks:=s.toks+1}) I.type (ϩ (W.Looks.here (s:={s with toks:=s.toks+1}) hmo ?_))));rw[hmro,refuseLoop_ref,refuseLoop_ref,F.store_ValueError.passes];refine ϱ (ϩ (W.Looks.here (s:={s with toks:=s.toks+1}) I.type (ϩ (W.Looks.here (s:={s with toks:=s.toks+1}) (ank X ha) (ϩ (W.Looks.here (s:={s with toks:=s.toks+1}) L3 ?_))))));obtain⟨oc,od,oda,osl⟩:=ox;dsimp only at hc hf hd;subst hc hf hd;refine ϩ (ϱ (ϩ (ϩ (wpAny_loadPart (s:={s with toks:=s.toks+1}) hx (ϩ (W.Looks.here (s:={s with toks:=s.toks+1}) (amQ X hcd) ?_))))));rw[hdc];rw[if_neg (by decide)];show ν _ _ (if(!true|| !typeHasDict (Value.ref C))=true then pure none else(alloc {cls:=.type "dict",data:=.dict #[]}>>=λd=>update x (λo=>{o with dict:=some d})>>=λ_=>dictMade (Value.ref C) x d)) _ _ _;rw[if_neg (by simp[typeHasDict])];have hx₁:(s.heap.push {cls:=.type "dict",data:=.dict #[]}).get? x=some {cls:=.ref C,data:=.fields vs,slots:=osl}:=Heap.get?_push_of_some _ hx;have hxs:x≠s.heap.objs.size:=ab6 (abe hx);refine ϩ (wpAny_alloc (s:={s with toks:=s.toks+1}) ?_);refine ϩ (wpAny_update (s:={s with heap:=s.heap.push {cls:=.type "dict",data:=.dict #[]},toks:=s.toks+1}) hx₁ ?_);refine ϱ ?_;have hgd:((s.heap.push {cls:=.type "dict",data:=.dict #[]}).update x λo=>{o with dict:=some s.heap.objs.size}).get? s.heap.objs.size=some {cls:=.type "dict",data:=.dict #[]}:=
  (alL _ _ _ _ hxs.symm).trans (amV rfl rfl)
 have hnd:((s.heap.push {cls:=.type "dict",data:=.dict #[]}).update x λo=>{o with dict:=some s.heap.objs.size}).Ns s.heap.objs.size (λ_=>none):=
  ⟨_, #[],_,hgd,rfl,λe he=>absurd he (by simp),λ_=>rfl⟩
 show ν _ _ (Builtin.ObjectAttr.storeInDict s.heap.objs.size (.str name s.toks) name v) _ _ _;unfold Builtin.ObjectAttr.storeInDict Builtin.ObjectAttr.newKeyGuard;refine ϩ (ϱ (ϩ (wpAny_nsSet1 (s:={s with heap:=(s.heap.push {cls:=.type "dict",data:=.dict #[]}).update x λo=>{o with dict:=some s.heap.objs.size},toks:=s.toks+1}) (Heap.Ns1.of_empty hnd) λh' hn' hs'=>?_)));obtain⟨oD,esD,epD,hoD,hdD,hcD⟩:=hn'.count (Within.cons name v Within.nil);refine ϩ (wpAny_lookBehind hoD (by rw[hdD];exact pastItsLine_dict (afK hcD (by rw[List.length_cons,List.length_nil,ϲ];omega))) ?_);refine ϱ (h h' _ ?_ hn' λb ob hbx hb=>?_)
 .refine(hs'.2 x hxs).trans (afS _ hx₁ rfl)
 .exact(hs'.2 b (ab6 (abe hb))).trans ((alL _ _ _ _ hbx).trans (Heap.get?_push_of_some _ hb))
end
theorem abH{K:Ϩ}{h:ϫ}{N:δ}{mg:Str->Option ε}{n:Str}{v:ε}(X:K.In h)(G:h.Ns N mg)(e:anp K N n=some (some v)):mg n=some v:=by
 obtain⟨o,es,ep,ho,hd,_,hf⟩:=G;unfold anp at e;split at e
 .rename_i c d es' n' sl q;have:=X _ _ q;rw[ho]at this;cases this;cases hd;split at e
  .rename_i en he;cases e;rw[<-hf];unfold nsFind findBy;rw[<-amN,he];rfl
  .split at e<;>cases e
 .cases e
def jn(K:Ϩ)(C f:δ):Bool:=match K.lookup C with
 |some ⟨.type "type",_,.cls cd,sl⟩=>(match cd.mro,sl.toList with
  |.ref C'::bm,[_,_,_,_,some (.builtin n),_]=>C'==C&&n=="ValueError.__new__"&& !cd.hasDel&&W.tailIn K dj bm&&W.nsOkIn K cd.ns&&anp K cd.ns "__init__"==some (some (.ref f))
  |_,_=>false)
 |_=>false
theorem G6{K:Ϩ}{C f:δ}{h:ϫ}(kin:K.In h)(e:jn K C f=true):∃bm N nm q bs hdct sn sub ab col dd k0 k1 k2 k3 k5 mN,h.get? C=some (excClassObj nm q C N bs bm hdct sn sub ab col dd k0 k1 k2 k3 k5 "ValueError.__new__")/\h.Ns N mN/\mN "__init__"=some (.ref f)/\OwnTail h dj bm:=by
 unfold jn at e;split at e
 .rename_i dd cd sl ho;split at e
  .rename_i C' bm k0 k1 k2 k3 n k5 hm hs;simp only[aa3,beq_iff_eq,amU]at e;obtain⟨⟨⟨⟨⟨e1,e2⟩,e3⟩,e4⟩,e5⟩,e6⟩:=e;subst e1 e2;obtain⟨nm,bs,mro,ns,qn,hd,sn,sub,ab,col,del⟩:=cd;dsimp only at hm e3 e5 e6;subst hm e3;have hl:sl= #[k0,k1,k2,k3,some (.builtin "ValueError.__new__"),k5]:=by
    obtain⟨l⟩:=sl;simp only at hs;rw[hs]
   subst hl;have hN:h.Ns ns (h.nsMap ns):=.of_isNs (W.isNs_of_in kin e5);exact⟨bm,ns,nm,qn,bs,hd,sn,sub,ab,col,dd,k0,k1,k2,k3,k5,_,kin _ _ ho,hN,abH kin hN e6,W.tail_of_in kin e4⟩
  .cases e
 .cases e
section
variable{prog:ϯ}{w:ϭ}{A:ϰ}{E:ε->μ->Prop}{h:ϫ}{g:Array GenState}{d:Drawn}{t:Nat}{os:OsState}
variable{nm q:Str}{C N x:δ}{bs bm:List ε}{hdct:Bool}{sn:List Str}{sub:List ε}{ab:Bool}{col:Option Bool}{dd:Option δ}{k0 k1 k2 k3 k5:Option ε}{ox:Obj}{vs:Array ε}{v:ε}
theorem Vo{t0:δ}{Q:ε->μ->Prop}(T:OwnTail h dj bm)(hC:h.get? C=some (excClassObj nm q C N bs bm hdct sn sub ab col dd k0 k1 k2 k3 k5 "ValueError.__new__"))(hx:h.get? x=some {cls:=.ref C,data:=.fields #[.ref t0,.none,.none,.none,.bool false,.none]})(hq:∀h' t1,h'.get? x=some {cls:=.ref C,data:=.fields #[.ref t1,.none,.none,.none,.bool false,.none]}->(∀b o,b≠x->h.get? b=some o->h'.get? b=some o)->Q .none ⟨h',g,d,t,os⟩):ν (Ϧ prog w) A (call (.builtin "ValueError.__init__") [.ref x,v]) Q E ⟨h,g,d,t,os⟩:=by
 have F0:=F.excBase_ValueError;refine wpAny_call (codeAny_call_builtin F0.init.plain F0.initEntry (wpAny_check_init_subT F0 T hC hx rfl ?_))
 wp_walk
 refine hq _ h.objs.size ?_ λb o hb q=>?_
 .rw[afS _ (Heap.get?_push_of_some _ hx) rfl];rfl
 .rw[aci _ _ (Ne.symm hb)];exact Heap.get?_push_of_some _ q
theorem aea{mN:Str->Option ε}{rest:List ε}{fI:δ}{oI:Obj}{Q:Fin->μ->Prop}(T:OwnTail h dj bm)(hC:h.get? C=some (excClassObj nm q C N bs bm hdct sn sub ab col dd k0 k1 k2 k3 k5 "ValueError.__new__"))(hn:h.Ns N mN)(hi:mN "__init__"=some (.ref fI))(hfI:h.get? fI=some oI)(hfc:oI.cls=.type "function")(hq:∀h' e,amJ h h' e (.ref C) rest->ν (Ϧ prog w) A (call (.ref fI) (.ref e::rest)) (λr s'=>r=.none/\Q (.done (.ret (.ref e))) s') E ⟨h',g,d,t,os⟩)(hrest:rest.length<=Ϫ):ν (Ϧ prog w) A (Builtin.«type.__call__» ⟨.ref C::rest,[]⟩) Q E ⟨h,g,d,t,os⟩:=by
 have F0:=F.excBase_ValueError
 repeat (first|with_reducible refine alk hC ?_|with_reducible refine wpAny_madeBy_exc hC ?_|wp_step)
 refine codeAny_call_builtin_code (Code.quiet_builtin _ F0.quiet) (wpAny_check_new_subT F0 T hC ?_);refine codeAny_exc_new_subT F0 T hC ?_ hrest;show ν _ _ _ _ _ _;generalize hh1:(h.push {cls:=.type "tuple",data:=.seq rest.toArray}).push {cls:=.ref C,data:=.fields #[.ref h.objs.size,.none,.none,.none,.bool false,.none]}=h1;have k1':∀b o,h.get? b=some o->h1.get? b=some o:=λb o e=>by rw[<-hh1];exact Heap.get?_push_of_some _ (Heap.get?_push_of_some _ e)
 have hC₁:=k1' _ _ hC;have hn₁:h1.Ns N mN:=let⟨o,es,ep,e,r⟩:=hn;⟨o,es,ep,k1' _ _ e,r⟩;have hget:h1.get? (h.objs.size+1)=some {cls:=.ref C,data:=.fields #[.ref h.objs.size,.none,.none,.none,.bool false,.none]}:=by rw[<-hh1];heap_get
 have hcC:(Value.ref C::bm).contains (.ref C)=true:=by simp
 have T₁:=T.keeps k1';unfold isInstance
 repeat (first|with_reducible refine alk hget ?_|(with_reducible refine wpAny_isSubtype_exc hC₁ ?_;rw[hcC])|wp_step)
 show ν _ _ (typeLookup (.ref C) _) _ _ _;refine wpAny_typeLookup_tail hC₁ hn₁ T₁ F0.mroIs F0.init.lookup ?_;rw[hi];refine ag0 (ϩ ?_);unfold bindSpecial;refine ϩ (wpAny_typeOf (T:="function") ⟨_,k1' _ _ hfI,hfc⟩ ?_);rw[if_pos (by decide)];refine ϱ (ϩ (adm (hq h1 (h.objs.size+1) ⟨k1',aiP (alJ _),h.objs.size,hget,aiP (Ϯ _),?_⟩) (λr s' hr=>?_) λ_ _ x=>x))
 .rw[<-hh1];exact Heap.get?_push_of_some _ (amV rfl rfl)
 .obtain⟨rfl,hQ⟩:=hr
  wp_walk
  exact hQ
theorem agb{mN:Str->Option ε}{rest:List ε}{fI:δ}{oI:Obj}{Q:ε->μ->Prop}(T:OwnTail h dj bm)(hC:h.get? C=some (excClassObj nm q C N bs bm hdct sn sub ab col dd k0 k1 k2 k3 k5 "ValueError.__new__"))(hn:h.Ns N mN)(hi:mN "__init__"=some (.ref fI))(hfI:h.get? fI=some oI)(hfc:oI.cls=.type "function")(hq:∀h' e,amJ h h' e (.ref C) rest->ν (Ϧ prog w) (A.under (.builtin "type.__call__" ⟨.ref C::rest,[]⟩)) (call (.ref fI) (.ref e::rest)) (λr s'=>r=.none/\Q (.ref e) s') E ⟨h',g,d,t,os⟩)(hrest:rest.length<=Ϫ):ν (Ϧ prog w) A (call (.ref C) rest) Q E ⟨h,g,d,t,os⟩:=by
 have f1:=tc_lookup;have f2:=tc_bind (.ref C);have hT:(⟨h,g,d,t,os⟩:μ).TypeIs (.ref C) "type":=⟨_,hC,rfl⟩;refine wpAny_call (codeAny_of_tree ?_);show ν _ _ (callAny (.ref C) _) _ _ _
 repeat (any_goals (first|assumption|with_reducible refine alk hC ?_|wp_step))
 refine⟨rfl,?_⟩;exact codeAny_call_builtin_at (Code.quiet_builtin _ (by decide+kernel)) entry_typeCall (wpAny_check_type_call_sub hC (aea T hC hn hi hfI hfc hq hrest))
end
section
variable{prog:ϯ}{w:ϭ}{A:ϰ}{E:ε->μ->Prop}{s:μ}{env:Env}
variable{nm q:Str}{C N:δ}{bs bm:List ε}{hdct:Bool}{sn:List Str}{sub:List ε}{ab:Bool}{col:Option Bool}{dd:Option δ}{k0 k1 k2 k3 k5:Option ε}
theorem aen{M:Model}{x:Sem ε}{Q:Flow->μ->Prop}(hbase:bm.contains (.type "BaseException")=true)(hh:A.handled=none)(h:ν M A x (λv s₁=>∃e t D,v=.ref e/\s₁.heap.get? C=some (excClassObj nm q C N bs bm hdct sn sub ab col dd k0 k1 k2 k3 k5 "ValueError.__new__")/\
   s₁.heap.get? e=some {cls:=.ref C,dict:=D,data:=.fields #[.ref t,.none,.none,.none,.bool false,.none]}/\E (.ref e) s₁) E s):ν M A (raiseStmt env (some x) none) Q E s:=by
 have hcB:(Value.ref C::bm).contains (.type "BaseException")=true:=by rw[List.contains_cons,hbase,Bool.or_true]
 unfold raiseStmt;refine ϩ (adm h (λv s₁ h₁=>?_) λ_ _ x=>x);obtain⟨e,t,D,rfl,hC,he,hE⟩:=h₁;obtain⟨hp,g,d,tk,os⟩:=s₁
 repeat (first|with_reducible refine alk he ?_|with_reducible refine alk hC ?_|(with_reducible refine wpAny_isSubtype_exc hC ?_;rw[hcB])|wp_step)
 exact wpAny_raiseNew_none hh hE
end
def xo(e C:δ)(D:Option δ):HO:=.ext λh=>∃t,h.get? e=some {cls:=.ref C,dict:=D,data:=.fields #[.ref t,.none,.none,.none,.bool false,.none]}
def gB(H:Hp)(e:δ):Hp:=λb=>if b=e then none else H b
theorem gm{H:Hp}{e b:δ}(h:b≠e):gB H e b=H b:=by unfold gB;rw[if_neg h]
theorem JT{H:Hp}{e:δ}:gB H e e=none:=by unfold gB;rw[if_pos rfl]
theorem yN{P:ϯ}{w:ϭ}{H:Hp}{h:ϫ}{e C t:δ}{D:Option δ}(q:h.get? e=some {cls:=.ref C,dict:=D,data:=.fields #[.ref t,.none,.none,.none,.bool false,.none]}):Ϗ P w H h e (xo e C D):=
 ⟨⟨t,q⟩,⟨_,q⟩,λh1 h2 ⟨t,q⟩ k=>⟨t,k _ q⟩⟩
section
variable{X:Cx}{ϵ:List (δ×Obj)}{σ:St}{H:Hp}{s:μ}{e:δ}{φ:ϫ->Prop}
theorem Inv.adopt(I:Inv X ϵ σ H s)(hn:H e=none)(c:Ch X ϵ e)(ok:Ϗ X.prog X.w (upd H e (.ext φ)) s.heap e (.ext φ)):Inv X ϵ σ (upd H e (.ext φ)) s:=by
 have ne:∀b u,H b=some u->b≠e:=λb u q=>Η q hn
 have:=I.step (h':=s.heap) (H':=upd H e (.ext φ)) (g':=s.gens) (d':=s.drawn) (t':=s.toks) (ch:=[e]) (λb hb=>?_) (λb o _ _ _ q _=>q) (λb o _ _ _ q _=>⟨o.slots,q⟩) (λb o hc _ n=>?_) (λb o _ q=>⟨o,q⟩) (λb xs q=>?_) (λb o u q=>?_) (λb ps q=>?_) (λm q=>q) (λb u q=>?_) I.bare
 .exact this
 .have z:b=e:=by simpa using hb
  subst z;exact c
 .rw[ι (λz=>hc (by simp[z]))];exact n
 .rw[ι (ne _ _ q)];exact q
 .rw[ι (ne _ _ q)];exact q
 .exact⟨#[],by rw[ι (ne _ _ q),q];simp⟩
 .by_cases z:b=e
  .subst z;rw[υ]at q;cases q;exact ok
  .rw[ι z]at q;exact(I.hok b u q).stay (λ_ _ _ r=>r) (λc r=>by rw[ι (ne _ _ r)];exact r) (λc xs r=>by rw[ι (ne _ _ r)];exact r) λc ob v r=>by rw[ι (ne _ _ r)];exact r
theorem Inv.forget(I:Inv X ϵ σ H s)(hn:H e=some (.ext φ))(c:Ch X ϵ e):Inv X ϵ σ (gB H e) s:=by
 have:=I.step (h':=s.heap) (H':=gB H e) (g':=s.gens) (d':=s.drawn) (t':=s.toks) (ch:=[e]) (λb hb=>?_) (λb o _ _ _ q _=>q) (λb o _ _ _ q _=>⟨o.slots,q⟩) (λb o hc _ n=>?_) (λb o _ q=>⟨o,q⟩) (λb xs q=>?_) (λb o u q=>?_) (λb ps q=>?_) (λm q=>q) (λb u q=>?_) I.bare
 .exact this
 .have z:b=e:=by simpa using hb
  subst z;exact c
 .rw[gm (λz=>hc (by simp[z]))];exact n
 .rw[gm (λz=>by rw[z,hn]at q;cases q)];exact q
 .rw[gm (λz=>by rw[z,hn]at q;cases q)];exact q
 .exact⟨#[],by rw[gm (λz=>by rw[z,hn]at q;cases q),q];simp⟩
 .by_cases z:b=e
  .subst z;rw[JT]at q;cases q
  .rw[gm z]at q;exact(I.hok b u q).stay (λ_ _ _ r=>r) (λc r=>by rw[gm (λz=>by rw[z,hn]at r;cases r)];exact r) (λc xs r=>by rw[gm (λz=>by rw[z,hn]at r;cases r)];exact r) λc ob v r=>by rw[gm (λz=>by rw[z,hn]at r;cases r)];exact r
end
structure XBase(K:Ϩ)(mg:Str->Option ε)(x:Str):Prop where
 at_:mg x=some (.ref (θ mg x))
 reads:amj K (θ mg x) (.type "type")=true
 ini:amk K (.ref (θ mg x)) (.type "type") "__init__"=some (.val (.builtin "ValueError.__init__"))
 ga:aiY K (.ref (θ mg x)) "__getattribute__"=some (some (.builtin "type.__getattribute__"))
structure ni(K:Ϩ)(mg:Str->Option ε)(Lx x qual fld:Str)(st:ϧ):Prop where
 at_:mg x=some (.ref (θ mg x))
 ex:∃f fd,bM K "__init__" qual st f fd/\jn K (θ mg x) f=true/\amP K (.ref f)=true
 sa:agO K (.ref (θ mg x)) "__setattr__"=some (some (.builtin "object.__setattr__"))
 tk:al7 K (θ mg x) fld=some none
 xc:iU K (θ mg x) (θ mg Lx)=true
def Ba(C:δ)(fld:Str):Sp:=λvs H Q _=>∃e n,vs=[.ref e,.int n]/\n.natAbs<10^60/\H e=some (xo e C none)/\
 ∀D H',D≠e->H D=none->(∀b o,b≠e->H b=some o->H' b=some o)->H' e=some (xo e C (some D))->H' D=some (.xd [(fld,.int n)])->Q .non H'
section
variable{X:Cx}{σ:St}{H:Hp}{Q:VK}{D:Ends}{Lx x f fld:Str}{np apos pos pos' cpos:Pos}{a o value:π}{es:List π}{Kx:St->XK}
theorem Dv{pl:Sem Bool}(B:XBase X.K X.mg Lx)(hg:Gl X Lx)(hd:(Lx==("__debug__":Str))=false)(hst:Ϭ (a::es) X.env=(false,eval a X.env)::Ϭ es X.env)(hpl:(backTo pos (Ϭ es X.env)).any (·.1)=false)(ht:eval (.Call (.Attribute (.Name Lx np) "__init__" apos) (a::es) [] pos) X.env=(do
   let ov<-eval (.Name Lx np) X.env
   standAt apos.atName
   let(f,first)<-holding [ov] (getMethod ov "__init__" pl)
   callWith pos f first (backTo pos (Ϭ (a::es) X.env)) (backToKw pos (keywordEach [] X.env))))(h:EA X (a::es) σ H λvs H1=>CL X (.builtin "ValueError.__init__") vs H1 Q):EV X (.Call (.Attribute (.Name Lx np) "__init__" apos) (a::es) [] pos) σ H Q:=by
 intro ϵ s I;refine ama (pl:=pl) (jY I hg B.at_ ?_ hd) ht;refine W.method_cls I.kIn B.ga (W.cls_value I.kIn B.reads B.ini (by decide+kernel) ?_);have I1:=I.tok (s.toks+1);have h':=h pos ϵ _ I1;rw[hst]at h'⊢;refine Calls.callWith_builtin (by show(false||(backTo pos (Ϭ es X.env)).any (·.1))=false;rw[hpl];rfl) (Calls.evalArgs_plain ?_);refine ρ h' λus s2 ⟨vs,H2,I2,r2,c,h1,q2⟩=>?_
 exact h1 ϵ s2 σ H2 vs us Q I2 r2 q2
theorem Aa{C ff:δ}{e:δ}{v:V}(hi:jn X.K C ff=true)(he:H e=some (xo e C none))(q:Q .non H):CL X (.builtin "ValueError.__init__") [.ref e,v] H Q:=by
 refine cX (r:=λxs H Q=>∃e v,xs=[.ref e,v]/\H e=some (xo e C none)/\Q .non H) ?_ ⟨e,v,rfl,he,q⟩;intro ϵ s σ H xs us Q I r h;obtain⟨e,v,rfl,he,q⟩:=h;obtain⟨u1,u2,rfl,r1,r2⟩:=vals2 r;cases(show u1=Value.ref e from r1);obtain⟨bm,N,nm,qn,bs,hdct,sn,sub,ab,col,dd,k0,k1,k2,k3,k5,mN,hC,hN,hni,T⟩:=G6 I.kIn hi;obtain⟨⟨t,ht⟩,_,_⟩:=I.hok e _ he;obtain⟨hp,g,d,tk,os⟩:=s;refine Vo T hC ht λh' t1 h1 k=>?_
 have hw:=I.write (x:=e) (e:=e) (o:=xo e C none) (h':=h') (t':=tk) (by rw[he];trivial) (.inl rfl) (λb u n q=>k b u n q) ⟨_,h1⟩ (yN h1);have hid:upd H e (xo e C none)=H:=by
  funext b;unfold upd;split
  .rename_i z;rw[z,he]
  .rfl
 rw[hid]at hw;exact⟨.non,H,hw,rfl,q⟩
theorem zr{C L:δ}(hs:agO X.K (.ref C) "__setattr__"=some (some (.builtin "object.__setattr__")))(hm:iU X.K C L=true)(ht:al7 X.K C f=some none)(hsw:ajq value (some (.Attribute o f pos')) pos.line X.env=pure false)(h:EV X value σ H λy H1=>EV X o σ H1 λx H2=>∃e,x=.ref e/\H2 e=some (xo e C none)/\∀E',H2 E'=none->E'≠e->D.nx σ (upd (upd H2 E' (.xd [(f,y)])) e (xo e C (some E')))):SX X (.Assign [.Attribute o f pos'] value pos) D σ H:=by
 intro ϵ s I;refine plainObj_wpAny_Assign_Attribute (ρ (h ϵ s I) λu s1 ⟨y,H1,I1,ry,q⟩=>ρ (q ϵ s1 I1) λov s2 ⟨x,H2,I2,rx,e,ex,he,q2⟩=>?_) hsw;subst ex;obtain rfl:ov=Value.ref e:=rx;obtain⟨⟨t,Ux⟩,_,_⟩:=I2.hok e _ he;refine ag4 I2.kIn Ux rfl rfl rfl hs hm ht λh' tk g1 g2 g3=>?_
 have uC:H2 s2.heap.objs.size=none:=I2.hok.fresh (Ϯ _);have gU:s2.heap.objs.size≠e:=λz=>by rw[z]at uC;rw[uC]at he;cases he
 have ne:∀b u,H2 b=some u->u≠xo e C none->b≠e:=λb u q n z=>by rw[z,he]at q;cases q;exact n rfl
 have nD:∀b u,H2 b=some u->b≠s2.heap.objs.size:=λb u q=>Η q uC
 refine⟨σ,_,?_,q2 s2.heap.objs.size uC gU⟩;refine I2.step (h':=h') (g':=s2.gens) (d':=s2.drawn) (t':=tk) (ch:=[]) (λb hb=>absurd hb (by simp)) (λb o _ _ _ q n=>g3 b o (λz=>by rw[z,he]at n;cases n) q) (λb o _ _ _ q n=>⟨o.slots,g3 b o (λz=>by rw[z,he]at n;cases n) q⟩) (λb o _ q n=>?_) (λb o _ q=>?_) (λb xs q=>?_) (λb o u q=>?_) (λb ps q=>?_) (λm hm'=>?_) (λb u q=>?_) I2.bare
 .rw[ι (λz=>by rw[z,he]at n;cases n),ι (ab6 (abe q))];exact n
 .by_cases z:b=e
  .subst z;exact⟨_,g1⟩
  .exact⟨o,g3 b o z q⟩
 .rw[ι (ne _ _ q (λz=>nomatch z)),ι (nD _ _ q)];exact q
 .rw[ι (ne _ _ q (λz=>nomatch z)),ι (nD _ _ q)];exact q
 .exact⟨#[],by rw[ι (ne _ _ q (λz=>nomatch z)),ι (nD _ _ q),q];simp⟩
 .obtain⟨o,es,ep,ho,r⟩:=hm';exact⟨o,es,ep,g3 _ _ (λz=>by have:=I2.free;rw[z,he]at this;cases this) ho,r⟩
 .by_cases z:b=e
  .subst z;rw[υ]at q;cases q;exact yN g1
  .rw[ι z]at q;by_cases z2:b=s2.heap.objs.size
   .subst z2;rw[υ]at q;cases q;refine⟨_,g2,λn=>?_⟩;by_cases hf:n=f
    .subst hf;simp only[if_true,List.lookup_cons,beq_self_eq_true];exact ry
    .rw[if_neg hf,List.lookup_cons,beq_eq_false_iff_ne.mpr hf];trivial
   .rw[ι z2]at q;refine(I2.hok b u q).stay (λc v hc r=>g3 c v ?_ r) (λc r=>?_) (λc xs r=>?_) λc ob v r=>?_
    .obtain y|y:=hc
     .rw[y];exact z
     .exact ne _ _ y (λz=>nomatch z)
    .rw[ι (ne _ _ r (λz=>nomatch z)),ι (nD _ _ r)];exact r
    .rw[ι (ne _ _ r (λz=>nomatch z)),ι (nD _ _ r)];exact r
    .rw[ι (ne _ _ r (λz=>nomatch z)),ι (nD _ _ r)];exact r
end
structure qG(P:ϯ)(w:ϭ)(K:Ϩ)(mg:Str->Option ε)(base:ϫ)(cc:Bool)(k:Nat)(x fld:Str):Prop where
 at_:mg x=some (.ref (θ mg x))
 ex:∃f fd ps oc od osl,cC P w K mg base (bH P w) cc k f fd ps (Ba (θ mg x) fld)/\Binds K fd ps []/\jn K (θ mg x) f=true/\K.lookup f=some ⟨oc,od,.func fd,osl⟩/\oc=.type "function"
section
variable{prog:ϯ}{w:ϭ}{A:ϰ}{E:ε->μ->Prop}{s:μ}{env:Env}
variable{nm q:Str}{C N:δ}{bs bm:List ε}{hdct:Bool}{sn:List Str}{sub:List ε}{ab:Bool}{col:Option Bool}{dd:Option δ}{k0 k1 k2 k3 k5:Option ε}
theorem Z0{mN:Str->Option ε}{fI:δ}{oI:Obj}{x:Str}{np cpos pos:Pos}{args:List π}{Q:Flow->μ->Prop}(hbase:bm.contains (.type "BaseException")=true)(hh:A.handled=none)(hplain:(backTo cpos (Ϭ args env)).any (·.1)=false)(hi:mN "__init__"=some (.ref fI))(hfc:oI.cls=.type "function")(h:ν (Ϧ prog w) A (eval (.Name x np) env) (λf s₁=>f=.ref C/\ν (Ϧ prog w) A (evalArgs (.ref C) true (backTo cpos (Ϭ args env)) [])
   (λa s₂=>a.kw=[]/\a.pos.length<=Ϫ/\s₂.heap.get? C=some (excClassObj nm q C N bs bm hdct sn sub ab col dd k0 k1 k2 k3 k5 "ValueError.__new__")/\s₂.heap.Ns N mN/\OwnTail s₂.heap dj bm/\s₂.heap.get? fI=some oI/\
    ∀h' e,amJ s₂.heap h' e (.ref C) a.pos->ν (Ϧ prog w) (A.under (.builtin "type.__call__" ⟨.ref C::a.pos,[]⟩)) (call (.ref fI) (.ref e::a.pos))
     (λr s'=>r=.none/\∃t D,s'.heap.get? C=some (excClassObj nm q C N bs bm hdct sn sub ab col dd k0 k1 k2 k3 k5 "ValueError.__new__")/\
      s'.heap.get? e=some {cls:=.ref C,dict:=D,data:=.fields #[.ref t,.none,.none,.none,.bool false,.none]}/\E (.ref e) s') E {s₂ with heap:=h'}) E s₁) E s):ν (Ϧ prog w) A (exec (.Raise (some (.Call (.Name x np) args [] cpos)) none pos) env) Q E s:=by
 rw[arm_exec_Raise];refine ϩ (ajF (aen (C:=C) (nm:=nm) (q:=q) (N:=N) (bs:=bs) (bm:=bm) (hdct:=hdct) (sn:=sn) (sub:=sub) (ab:=ab) (col:=col) (dd:=dd) (k0:=k0) (k1:=k1) (k2:=k2) (k3:=k3) (k5:=k5) hbase hh ?_));refine ϩ (adm (wpAny_Call_ofName (adm h (λf s₁ h₁=>?_) λ_ _ x=>x)) (λv s₃ h₃=>ϩ (ajF (ϱ h₃))) λ_ _ x=>x);obtain⟨rfl,h₁⟩:=h₁;unfold callWith;refine ϩ (ag0 (adm h₁ (λa s₂ h₂=>ϩ (ajF ?_)) λ_ _ x=>x));obtain⟨apos,akw⟩:=a;obtain⟨hkw,hlen,hC,hn,T,hfI,h₂⟩:=h₂;obtain rfl:akw=[]:=hkw;obtain⟨hp,g,d,tk,os⟩:=s₂;simp only[hplain];refine ϩ (wpAny_keeperOf_exc hC ?_);refine ϩ (agb T hC hn hi hfI hfc (λh' e hm=>?_) hlen);refine adm (h₂ h' e hm) (λr s' hr=>⟨hr.1,?_⟩) λ_ _ z=>z
 obtain⟨t,D,g1,g2,g3⟩:=hr.2;exact ϩ (ag0 (wpAny_point (ϱ ⟨e,t,D,rfl,g1,g2,g3⟩)))
end
section
variable{X:Cx}{Kx:St->XK}{D:Ends}{σ:St}{H:Hp}{x fld:Str}{np cpos pos:Pos}{e:π}{es:List π}{cc aP:Bool}{k k':Nat}
theorem uJ(O:qG X.prog X.w X.K X.mg X.base aP k x fld)(hr:ό cc k' X.A)(hk:k+1<=k')(hcc:aP=true->cc=true)(hx:aZ X Kx)(hc:X.calm=true)(hg:Gl X x)(hd:(x==("__debug__":Str))=false)(he:Ϭ (e::es) X.env=(false,eval e X.env)::Ϭ es X.env)(hpl:(backTo cpos (Ϭ es X.env)).any (·.1)=false)(h:EA X (e::es) σ H λvs H1=>∃n,vs=[.int n]/\n.natAbs<10^60/\∀E' H',ζ H1 H'->H' E'=some (.xd [(fld,.int n)])->Kx σ (.ref (θ X.mg x)) (some E',true) H'):SX X (.Raise (some (.Call (.Name x np) (e::es) [] cpos)) none pos) D σ H:=by
 intro ϵ s I;obtain⟨f,fd,ps,oc,od,osl,Fn,hb,hi,hlk,hoc⟩:=O.ex;obtain⟨bm,N,nm,q,bs,hdct,sn,sub,ab,col,dd,k0,k1,k2,k3,k5,mN,hC,hN,hni,T⟩:=G6 I.ok.mod.kin hi;have hr':ό aP (k+1) X.A:=(hr.mono hk).mH hcc;refine Z0 (C:=θ X.mg x) (nm:=nm) (q:=q) (N:=N) (bs:=bs) (bm:=bm) (hdct:=hdct) (sn:=sn) (sub:=sub) (ab:=ab) (col:=col) (dd:=dd) (k0:=k0) (k1:=k1) (k2:=k2) (k3:=k3) (k5:=k5) (mN:=mN) (fI:=f) (oI:=⟨oc,od,.func fd,osl⟩)
  (T.hasType (by decide+kernel)) (I.ok.hd hc) ?_ hni hoc (jY I hg O.at_ ⟨rfl,?_⟩ hd)
 .rw[he];show(false||(backTo cpos (Ϭ es X.env)).any (·.1))=false;rw[hpl];rfl
 .have h':=h cpos ϵ s I;rw[he]at h'⊢;refine Calls.evalArgs_plain (ρ h' λus s2 ⟨vs,H1,I2,r,n,ev,hn,kq⟩=>?_);subst ev;obtain⟨u,rfl,ru⟩:=vals1 r;refine⟨rfl,by show 1<=Ϫ;rw[ϲ];decide,I2.bk _ _ hC,hN.keeps I2.bk,T.keeps I2.bk,I2.kIn _ _ hlk,λh3 a M=>?_⟩;obtain⟨t,m1,m2,m3⟩:=M.there;have hfree:H1 a=none:=I2.hok.free M.new;have hch:Ch X ϵ a:=I2.ch M.new;have I3:Inv X ϵ σ H1 {s2 with heap:=h3}:=I2.kept (t':=s2.toks) M.keeps;have I4:Inv X ϵ σ (upd H1 a (xo a (θ X.mg x) none)) {s2 with heap:=h3}:=I3.adopt hfree hch (yN m1);have rv:Vals [V.ref a,.int n] [Value.ref a,u]:=.cons rfl (.cons ru .nil);have hsp:Ba (θ X.mg x) fld [V.ref a,.int n] (upd H1 a (xo a (θ X.mg x) none)) (λv H'=>v=.non/\∃E',H' a=some (xo a (θ X.mg x) (some E'))/\H' E'=some (.xd [(fld,.int n)])/\E'≠a/\∀b o,b≠a->H1 b=some o->H' b=some o) (λ_ _ _=>False):=
   ⟨a,n,rfl,hn,υ,λE' H' h1 h2 h3' h4 h5=>⟨rfl,E',h4,h5,h1,λb o hb q=>h3' b o hb (by rw[ι hb];exact q)⟩⟩
  have hl:([Value.ref a,u]:List ε).length=ps.length:=by rw[<-rv.length];exact Fn.len _ _ _ _ hsp
  have hb':=hb {s2 with heap:=h3} [Value.ref a,u] I4.kIn (by simpa using hl);rw[List.append_nil]at hb';refine wpAny_call (aiT (Fn.run (X.A.under (.builtin "type.__call__" ⟨.ref (θ X.mg x)::[u],[]⟩)) X.stack {s2 with heap:=h3} _ ⟨[Value.ref a,u],[]⟩ [Value.ref a,u] [V.ref a,.int n] _ (λ_ _ _=>False) (hr'.make (θ X.mg x) [u] [])
   (I4.env0.make (θ X.mg x) [u] []) hb' rv hsp) λr s' hq=>?_)
  cases r with
  |error e=>exact(bH.never hq).elim
  |ok fl=>
   cases fl with
   |ret v=>
    obtain⟨v',H',I5,rr,ev,E',g1,g2,g3,g4⟩:=I4.after hq;subst ev;obtain⟨⟨t',ht'⟩,_,_⟩:=I5.hok a _ g1;have I6:=I5.forget g1 hch;refine⟨rr,t',some E',I5.bk _ _ hC,ht',?_⟩;refine hx ϵ σ _ s' a _ (some E',true) ⟨I6,none,.none,⟨_,_,ht',rfl,rfl,rfl,rfl,by simp,Ctx.yes rfl,λT z=>nomatch z⟩,.inl rfl,λb hb=>?_⟩ (kq E' _ (λb o q=>?_) ?_)
    .have z:b=a:=by simpa using hb
     subst z;exact⟨JT,hch⟩
    .have hba:b≠a:=Η q hfree;rw[gm hba];exact g4 b o hba q
    .rw[gm g3];exact g2
   |next=>exact False.elim hq
   |brk=>exact False.elim hq
   |cont=>exact False.elim hq
end
structure VH(K:Ϩ)(C:δ):Prop where
 hd:alI K C=true
 ga:agO K (.ref C) "__getattribute__"=some (some (.builtin "BaseException.__getattribute__"))
 gt:agO K (.ref C) "__getattr__"=some none
 cl:agO K (.ref C) "__class__"=some (some (.builtin "object.__class__"))
 cg:aiY K (.builtin "object.__class__") "__get__"=some (some (.builtin "getset_descriptor.__get__"))
 ct:anc K (.builtin "object.__class__")=some true
 mo:amd K C (.type "object")=some true
 mb:amd K C (.type "BaseException")=some true
section
variable{prog:ϯ}{w:ϭ}{A:ϰ}{E:ε->μ->Prop}{s:μ}{K:Ϩ}{x C:δ}{ox:Obj}{od:Option Obj}{name:Str}{v:ε}
end
section
variable{X:Cx}{σ:St}{H:Hp}{Q:VK}{e C:δ}{D:Option δ}{k:Bool}
end
section
variable{X:Cx}{ϵ:List (δ×Obj)}{σ:St}{H:Hp}{s:μ}{h':ϫ}
end
section
variable{X:Cx}{D:Ends}{σ:St}{H:Hp}{rest:List ak1}{suite:List ϧ}{b₀:ϧ}{pos np:Pos}{x n:Str}{c:ε}{C:δ}{d:Option δ×Bool}{i:Nat}
end
structure zN(K:Ϩ)(mg:Str->Option ε)(x:Str):Prop extends XBase K mg x where
 ty:amn K (.ref (θ mg x))=some (.type "type")
 mb:amd K (θ mg x) (.type "BaseException")=some true
structure XC(K:Ϩ)(mg:Str->Option ε)(Lx x:Str):Prop where
 at_:mg x=some (.ref (θ mg x))
 xc:iU K (θ mg x) (θ mg Lx)=true
 ty:amn K (.ref (θ mg x))=some (.type "type")
 attr:VH K (θ mg x)
section
variable{K:Ϩ}{mg:Str->Option ε}{Lx x y:Str}
end
theorem Bf{P:ϯ}{w:ϭ}{K:Ϩ}{mg:Str->Option ε}{base:ϫ}{cc:Bool}{k:Nat}{Lx x qual fld:Str}{st:ϧ}{ps N:List Str}(O:ni K mg Lx x qual fld st)(S:Α N ps (ο st))(hb:∀(kV doc pm:ε)(an:Option δ)(Ϲ ct:ε)(us:List ε),us.length=ps.length->bindArgs (amI "__init__" qual (iz st) (ϗ st) (ο st) .none kV doc pm an Ϲ ct) ⟨us,[]⟩=pure (ps.zip us))(len:ps.length=2)(body:∀(f:δ)(Ϲ:ε)(A:ϰ)(outer:List Env)(s:μ)(H:Hp)(vs:List V)(Q:VK)(E:XK),jn K (θ mg x) f=true->ό cc k (A.deeper (envOfC qual (ο st) s.heap.objs.size f Ϲ))->Ba (θ mg x) fld vs H Q E->
   Ψ (ϥ cc P w K mg base N qual (ο st) f Ϲ A outer s H E) (ϗ st) {nx:=λ_ H'=>Q .non H',rt:=Q} (start N vs) H):qG P w K mg base cc (k+1) x fld:=by
 obtain⟨f,fd,F,h1,h2⟩:=O.ex;obtain⟨oc,od,kV,doc,pm,an,Ϲ,ct,osl,e,lk,hcd⟩:=id F.ex;refine⟨O.at_,f,fd,ps,oc,od,osl,tD F S (λvs H Q E h=>by obtain⟨a,n,rfl,_⟩:=h;exact len.symm) λϹ A outer s H vs Q E hr h=>body f Ϲ A outer s H vs Q E h1 hr h,F.binds hb,h1,lk,?_⟩;have h3:amn K (.ref f)=some (.type "function"):=beq_iff_eq.mp h2;have h4:Option.map (λx:Obj=>x.cls) (ahP f K)=some (.type "function"):=h3;rw[lk]at h4;exact Option.some.inj h4
section
variable{K:Ϩ}{mg:Str->Option ε}{Lx x qual fld:Str}{C L f:δ}{st:ϧ}{fd:air}
theorem Rv(h:mg x=some (.ref C))(a1:amj K C (.type "type")=true)(a2:amk K (.ref C) (.type "type") "__init__"=some (.val (.builtin "ValueError.__init__")))(a3:aiY K (.ref C) "__getattribute__"=some (some (.builtin "type.__getattribute__")))(a4:amn K (.ref C)=some (.type "type"))(a5:amd K C (.type "BaseException")=some true):zN K mg x:=by
 have e:=eQ h;exact{at_:=by rw[e];exact h,reads:=by rw[e];exact a1,ini:=by rw[e];exact a2,ga:=by rw[e];exact a3,ty:=by rw[e];exact a4,mb:=by rw[e];exact a5}
theorem abG(h:mg x=some (.ref C))(hL:mg Lx=some (.ref L))(a1:iU K C L=true)(a2:amn K (.ref C)=some (.type "type"))(a3:alI K C=true)(a4:agO K (.ref C) "__getattribute__"=some (some (.builtin "BaseException.__getattribute__")))(a5:agO K (.ref C) "__getattr__"=some none)(a6:agO K (.ref C) "__class__"=some (some (.builtin "object.__class__")))(a7:aiY K (.builtin "object.__class__") "__get__"=some (some (.builtin "getset_descriptor.__get__")))(a8:anc K (.builtin "object.__class__")=some true)(a9:amd K C (.type "object")=some true)(a10:amd K C (.type "BaseException")=some true):XC K mg Lx x:=by
 have e:=eQ h;have eL:=eQ hL;exact⟨by rw[e];exact h,by rw[e,eL];exact a1,by rw[e];exact a2,by rw[e];exact⟨a3,a4,a5,a6,a7,a8,a9,a10⟩⟩
theorem T5(h:mg x=some (.ref C))(hL:mg Lx=some (.ref L))(F:bM K "__init__" qual st f fd)(a1:jn K C f=true)(a2:amP K (.ref f)=true)(a3:agO K (.ref C) "__setattr__"=some (some (.builtin "object.__setattr__")))(a4:al7 K C fld=some none)(a5:iU K C L=true):ni K mg Lx x qual fld st:=by
 have e:=eQ h;have eL:=eQ hL;exact⟨by rw[e];exact h,⟨f,fd,F,by rw[e];exact a1,a2⟩,by rw[e];exact a3,by rw[e];exact a4,by rw[e,eL];exact a5⟩
end
section
variable{prog:ϯ}{w:ϭ}{A:ϰ}{E:ε->μ->Prop}{s:μ}
end
section
variable{prog:ϯ}{w:ϭ}{A:ϰ}{E:ε->μ->Prop}{s:μ}
end
section
variable{X:Cx}{σ:St}{H:Hp}{a b c:π}{elts:List π}{k:Nat}{tp p pos p':Pos}{R:It->Hp->Prop}{D:Ends}
end
theorem zH:∀{us:List ε}{ys:List Str}{m:Nat}{u:ε},StrsAre us ys->us[m]?=some u->∃y t,ys[m]?=some y/\u=.str y t
 |_,_,_,_,.nil,e=>by simp at e
 |_,_,0,u,.cons y t h,e=>by
  simp at e;exact⟨y,t,rfl,e.symm⟩
 |_,_,m+1,u,.cons y t h,e=>by
  obtain⟨y',t',e1,e2⟩:=zH h (by simpa using e);exact⟨y',t',by simpa using e1,e2⟩
section
variable{X:Cx}{H:Hp}{Q:VK}
theorem Ni{a:δ}{zs:List Str}{z:Str}{j:Nat}(h:η X.K H a (zs.map V.str))(hj:zs[j]?=some z)(hno:∀m y,m<j->zs[m]?=some y->¬y=z)(g:Q (.int j) H):MT X "list.index" (.ref a) [.str z] H Q:=by
 refine jA (r:=λx xs H Q=>∃a zs z j,x=.ref a/\xs=[.str z]/\η X.K H a (zs.map V.str)/\zs[j]?=some z/\(∀m y,m<j->zs[m]?=some y->¬y=z)/\Q (.int (j:Nat)) H) ?_ ⟨a,zs,z,j,rfl,rfl,h,hj,hno,g⟩;intro ϵ s σ H x xs v us Q I rx rs h;obtain⟨a,zs,z,j,rfl,rfl,h,hj,hno,g⟩:=h;cases rx;obtain⟨u,rfl,ru⟩:=vals1 rs;obtain⟨t,rfl⟩:=ru;obtain⟨ϸ,r,⟨⟨cls,dd,data,sl⟩,n,e,hc,hd,hs⟩,hz⟩:=I.list h;simp only at hc hd hs;subst hc hd hs;have hS:=G5 r;have hlen:ϸ.length=zs.length:=by have:=r.length;rw[ϳ]at this;exact this.symm
 have hjl:j<ϸ.toArray.size:=by
  rw[aaB,hlen];exact(aal.mp hj).1
 rw[ϳ]at hz;have hsz:=ϲ;have hjz:j<zs.length:=(aal.mp hj).1;refine alN F.slot_list_index ⟨_,e,rfl⟩ F.entry_list_index (F.args_list_index_2 _ _) (SeqAt.list_indexAt a ϸ.toArray n _ sl (.str z t) (isStrOf z) j hjl (by omega) ?_ ?_) ⟨e,λy hy=>(eq_isStrOf z t hS y (by simpa using hy)).at _ _,?_⟩
 .obtain⟨y,t',e1,e2⟩:=zH (m:=j) (u:=ϸ.toArray[j]) hS (by simp);rw[e2];rw[hj]at e1;cases e1;show(z==z)=true;exact beq_self_eq_true z
 .intro m hm hmj;obtain⟨y,t',e1,e2⟩:=zH (m:=m) (u:=ϸ.toArray[m]) hS (by simp);rw[e2];show(y==z)=false;exact beq_eq_false_iff_ne.mpr (hno m y hmj e1)
 .exact⟨.int j,H,I.tok _,⟨_,rfl⟩,g⟩
def ltV:V->V->Bool
 |.int i,.int j=>decide (i<j)
 |.str x,.str y=>decide (x.cps.toList<y.cps.toList)
 |_,_=>false
end
structure Ϣ(P:ϯ)(w:ϭ)(K:Ϩ)(mg:Str->Option ε)(base:ϫ)(cc:Bool)(k:Nat)(C:δ)(m:Str)(ps:List Str)(sp:Sp):Prop where
 cls:ϒ K C
 ex:∃f fd,Meth K C m f/\Binds K fd ps []/\cC P w K mg base (bH P w) cc k f fd ps sp
structure fQ(P:ϯ)(w:ϭ)(K:Ϩ)(mg:Str->Option ε)(base:ϫ)(cc:Bool)(k:Nat)(x:Str)(C:δ)(ps:List Str)(sp:Sp):Prop where
 at_:mg x=some (.ref C)
 ex:∃f fd,Mk K C f/\Binds K fd ps []/\cC P w K mg base (bH P w) cc k f fd ps sp
structure mV(P:ϯ)(w:ϭ)(K:Ϩ)(mg:Str->Option ε)(base:ϫ)(cc:Bool)(k:Nat)(x m:Str)(ps:List Str)(sp:Sp):Prop where
 ex:∃C f fd,mg x=some (.ref C)/\amj K C (.type "type")=true/\amk K (.ref C) (.type "type") m=some (.val (.ref f))/\
  aiY K (.ref C) "__getattribute__"=some (some (.builtin "type.__getattribute__"))/\alF K (.ref f)=true/\Binds K fd ps []/\cC P w K mg base (bH P w) cc k f fd ps sp
section
variable{X:Cx}{σ:St}{H:Hp}{Q:VK}{D:Ends}{x f m:Str}{p np apos pos pos' tpos:Pos}{a e o value:π}{es:List π}{Kx:St->XK}{cc:Bool}{k':Nat}
theorem aA(hb:attributeBase e f X.env (eval e X.env)=eval e X.env)(h:EV X e σ H λx H1=>∃a C dx fs v,x=.ref a/\H1 a=some (.ins C dx fs)/\ϒ X.K C/\ Θ X.K C f/\fs.lookup f=some v/\Q v H1):EV X (.Attribute e f pos) σ H Q:=
 Ϥ (adM ϋ hb) h
theorem dB(hs:ajq value (some (.Attribute o f pos')) pos.line X.env=pure false)(h:EV X value σ H λy H1=>EV X o σ H1 λx H2=>∃a C dx fs,x=.ref a/\H2 a=some (.ins C dx fs)/\ϒ X.K C/\ Θ X.K C f/\fs.length<1000/\D.nx σ (upd H2 a (.ins C dx (ϕ f y fs)))):SX X (.Assign [.Attribute o f pos'] value pos) D σ H:=
 λϵ s I=>ae0 ϋ ϋ hs ϵ s σ H D I h
theorem ad1(h:EV X o σ H λx H1=>∃a C dx fs v,x=.ref a/\H1 a=some (.ins C dx fs)/\ϒ X.K C/\ Θ X.K C f/\fs.lookup f=some v/\
   EV X value σ H1 λy H2=>JD v y H2 λz H3=>∃dx' fs',H3 a=some (.ins C dx' fs')/\fs'.length<1000/\D.nx σ (upd H3 a (.ins C dx' (ϕ f z fs')))):SX X (.AugAssign (.Attribute o f tpos) .Add value pos) D σ H:=
 λϵ s I=>Wx ϋ ϋ abk ϵ s σ H D I h
theorem bO{pl:Sem Bool}(hr:ό cc k' X.A)(hx:aZ X Kx)(hst:Ϭ (e::es) X.env=(false,eval e X.env)::Ϭ es X.env:=by rfl)(hpl:(backTo pos (Ϭ es X.env)).any (·.1)=false:=by rfl)(ht:eval (.Call (.Attribute o m apos) (e::es) [] pos) X.env=(do
   let ov<-eval o X.env
   standAt apos.atName
   let(f,first)<-holding [ov] (getMethod ov m pl)
   callWith pos f first (backTo pos (Ϭ (e::es) X.env)) (backToKw pos (keywordEach [] X.env))):=by rfl)(h:EV X o σ H λx H1=>∃a C dx fs aP k ps sp,x=.ref a/\H1 a=some (.ins C dx fs)/\fs.lookup m=none/\Ϣ X.prog X.w X.K X.mg X.base aP k C m ps sp/\k<=k'/\(aP=true->cc=true)/\EA X (e::es) σ H1 λvs H2=>sp (x::vs) H2 Q (Kx σ)):EV X (.Call (.Attribute o m apos) (e::es) [] pos) σ H Q:=by
 intro ϵ s I;refine ama (pl:=pl) (ρ (h ϵ s I) λu s1 ⟨x,H1,I1,rx,a,C,dx,fs,aP,k,ps,sp,ex,ea,hl,M,hk,hcc,q⟩=>?_) ht;subst ex;cases(show u=Value.ref a from rx);obtain⟨f,fd,hm,hb,F⟩:=M.ex;refine J5 I1 ea M.cls hm hl ?_;refine amC (first:=[.ref a]) (h₀:=X.base) I.ok.mod.kin hm.kp (ρ (q pos ϵ s1 I1) λus s2 ⟨vs,H2,I2,r,q2⟩=>⟨I2.kIn,?_⟩) hst hpl;exact qi (us:=.ref a::us) (vs:=.ref a::vs) F ((hr.mono hk).mH hcc) hb hx I2 (.cons rfl r) q2
theorem qT{pl:Sem Bool}(hr:ό cc k' X.A)(hx:aZ X Kx)(ht:eval (.Call (.Attribute o m apos) [] [] pos) X.env=(do
   let ov<-eval o X.env
   standAt apos.atName
   let(f,first)<-holding [ov] (getMethod ov m pl)
   callWith pos f first (backTo pos (Ϭ [] X.env)) (backToKw pos (keywordEach [] X.env))))(h:EV X o σ H λx H1=>∃a C dx fs aP k ps sp,x=.ref a/\H1 a=some (.ins C dx fs)/\fs.lookup m=none/\Ϣ X.prog X.w X.K X.mg X.base aP k C m ps sp/\k<=k'/\(aP=true->cc=true)/\sp [x] H1 Q (Kx σ)):EV X (.Call (.Attribute o m apos) [] [] pos) σ H Q:=by
 intro ϵ s I;refine ama (pl:=pl) (ρ (h ϵ s I) λu s1 ⟨x,H1,I1,rx,a,C,dx,fs,aP,k,ps,sp,ex,ea,hl,M,hk,hcc,q⟩=>?_) ht;subst ex;cases(show u=Value.ref a from rx);obtain⟨f,fd,hm,hb,F⟩:=M.ex;refine J5 I1 ea M.cls hm hl ?_;exact W.callWith_K0 (first:=[.ref a]) I1.kIn hm.kp (qi (us:=[.ref a]) (vs:=[.ref a]) F ((hr.mono hk).mH hcc) hb hx I1 (.cons rfl .nil) q)
theorem uG{pl:Sem Bool}{aP:Bool}{k:Nat}{ps:List Str}{sp:Sp}(B:mV X.prog X.w X.K X.mg X.base aP k x m ps sp)(hr:ό cc k' X.A)(hk:k<=k')(hcc:aP=true->cc=true)(hx:aZ X Kx)(hg:Gl X x)(hd:(x==("__debug__":Str))=false)(hst:Ϭ (e::es) X.env=(false,eval e X.env)::Ϭ es X.env)(hpl:(backTo pos (Ϭ es X.env)).any (·.1)=false)(ht:eval (.Call (.Attribute (.Name x np) m apos) (e::es) [] pos) X.env=(do
   let ov<-eval (.Name x np) X.env
   standAt apos.atName
   let(f,first)<-holding [ov] (getMethod ov m pl)
   callWith pos f first (backTo pos (Ϭ (e::es) X.env)) (backToKw pos (keywordEach [] X.env))))(h:EA X (e::es) σ H λvs H1=>sp vs H1 Q (Kx σ)):EV X (.Call (.Attribute (.Name x np) m apos) (e::es) [] pos) σ H Q:=by
 obtain⟨C,f,fd,hm,hrd,hf,hga,hkp,hb,F⟩:=B.ex;intro ϵ s I;refine ama (pl:=pl) (jY I hg hm ?_ hd) ht;refine W.method_cls I.kIn hga (W.cls_value I.kIn hrd hf (by rfl) ?_);have I1:=I.tok (s.toks+1);refine amC (first:=[]) (h₀:=X.base) I.ok.mod.kin hkp (ρ (h pos ϵ _ I1) λus s2 ⟨vs,H2,I2,r,q2⟩=>⟨I2.kIn,?_⟩) hst hpl;exact qi F ((hr.mono hk).mH hcc) hb hx I2 r q2
theorem Vm{cc:Bool}{k:Nat}{C g:δ}{fd:air}{ps:List Str}{sp:Sp}{ϵ:List (δ×Obj)}{s:μ}{us:List ε}{vs:List V}(M:Mk X.K C g)(F:cC X.prog X.w X.K X.mg X.base (bH X.prog X.w) cc k g fd ps sp)(hr:ό cc (k+1) X.A)(hb:Binds X.K fd ps [])(hx:aZ X Kx)(I:Inv X ϵ σ H s)(r:Vals vs us)(h:∀y dx,H y=none->H dx=none->dx≠y->sp (.ref y::vs) (upd (upd H dx (.own y)) y (.ins C dx [])) (λv H2=>v=.non/\Q (.ref y) H2) (Kx σ)):ν (Ϧ X.prog X.w) X.A (call (.ref C) us) (EP X ϵ σ Q) X.xe s:=by
 have hy:H (s.heap.objs.size+1)=none:=I.hok.fresh (alJ _);have hdx:H s.heap.objs.size=none:=I.hok.fresh (Ϯ _);have q:=h _ _ hy hdx (ab6 (am1 _));have I2:=Inv.made (C:=C) I;have rr:Vals (V.ref (s.heap.objs.size+1)::vs) (Value.ref (s.heap.objs.size+1)::us):=.cons rfl r;have hl:(Value.ref (s.heap.objs.size+1)::us).length=ps.length:=by rw[<-rr.length];exact F.len _ _ _ _ q
 have hb':=hb {s with heap:=(s.heap.push akx).push (al2 C s.heap.objs.size)} (Value.ref (s.heap.objs.size+1)::us) I2.kIn (by simpa using hl);rw[List.append_nil]at hb';refine wpAny_call (aag (f:=g) I.kIn M.makes M.init (beq_iff_eq.mp M.fn) (aiT (F.run _ X.stack _ _ ⟨Value.ref (s.heap.objs.size+1)::us,[]⟩ _ _ _ (Kx σ) (hr.make C us []) (I2.env0.make C us []) hb' rr q) λres s' hq=>?_))
 match res,hq with
 |.error z,hq=>
   obtain⟨b,cls,d,H',rfl,xa,w⟩:=I2.flown hq;exact hx ϵ σ H' s' b cls d xa w
 |.ok (.ret u),hq=>
   obtain⟨v,H',I3,rv,ev,q3⟩:=I2.after hq;subst ev;exact⟨rv,⟨V.ref (s.heap.objs.size+1),H',I3,rfl,q3⟩⟩
 |.ok .next,hq=>exact False.elim hq
 |.ok .brk,hq=>exact False.elim hq
 |.ok .cont,hq=>exact False.elim hq
theorem gb{aP:Bool}{k:Nat}{C:δ}{ps:List Str}{sp:Sp}(M:fQ X.prog X.w X.K X.mg X.base aP k x C ps sp)(hr:ό cc k' X.A)(hk:k+1<=k')(hcc:aP=true->cc=true)(hx:aZ X Kx)(hg:Gl X x)(hd:(x==("__debug__":Str))=false)(hst:Ϭ (e::es) X.env=(false,eval e X.env)::Ϭ es X.env)(hpl:(backTo pos (Ϭ es X.env)).any (·.1)=false)(h:EA X (e::es) σ H λvs H1=>∀y dx,H1 y=none->H1 dx=none->dx≠y->sp (.ref y::vs) (upd (upd H1 dx (.own y)) y (.ins C dx [])) (λv H2=>v=.non/\Q (.ref y) H2) (Kx σ)):EV X (.Call (.Name x p) (e::es) [] pos) σ H Q:=by
 obtain⟨f,fd,hm,hb,F⟩:=M.ex;intro ϵ s I;refine ajk (jY I hg M.at_ ?_ hd);refine amC (h₀:=X.base) I.ok.mod.kin hm.kp (ρ (h pos ϵ s I) λus s1 ⟨vs,H1,I1,r,q⟩=>⟨I1.kIn,?_⟩) hst hpl;exact Vm hm F ((hr.mono hk).mH hcc) hb hx I1 r q
end
structure OM(K:Ϩ)(C:δ)(m qual:Str)(st:ϧ):Prop where
 ex:∃f fd,bM K m qual st f fd/\Meth K C m f
structure OI(K:Ϩ)(C:δ)(qual:Str)(st:ϧ):Prop where
 ex:∃f fd,bM K "__init__" qual st f fd/\Mk K C f
structure OB(K:Ϩ)(C:δ)(m qual:Str)(st:ϧ):Prop where
 rd:amj K C (.type "type")=true
 ga:aiY K (.ref C) "__getattribute__"=some (some (.builtin "type.__getattribute__"))
 ex:∃f fd,bM K m qual st f fd/\amk K (.ref C) (.type "type") m=some (.val (.ref f))
def FD(P:ϯ)(w:ϭ)(K:Ϩ)(mg:Str->Option ε)(base:ϫ)(cc:Bool)(k:Nat)(m qual:Str)(st:ϧ)(ps:List Str)(sp:Sp):Prop:=
 ∀f fd,bM K m qual st f fd->Binds K fd ps []/\cC P w K mg base (bH P w) cc k f fd ps sp
section
variable{P:ϯ}{w:ϭ}{K:Ϩ}{mg:Str->Option ε}{base:ϫ}{cc:Bool}{k:Nat}{x m qual:Str}{C:δ}{st:ϧ}{ps N:List Str}{sp:Sp}
theorem aG(S:Α N ps (ο st))(body:∀(f:δ)(Ϲ:ε)(A:ϰ)(outer:List Env)(s:μ)(H:Hp)(vs:List V)(Q:VK)(E:XK),ό cc k (A.deeper (envOfC qual (ο st) s.heap.objs.size f Ϲ))->sp vs H Q E->
   Ψ (ϥ cc P w K mg base N qual (ο st) f Ϲ A outer s H E) (ϗ st) {nx:=λ_ H'=>Q .non H',rt:=Q} (start N vs) H)(hb:∀(kV doc pm:ε)(an:Option δ)(Ϲ ct:ε)(us:List ε),us.length=ps.length->bindArgs (amI m qual (iz st) (ϗ st) (ο st) .none kV doc pm an Ϲ ct) ⟨us,[]⟩=pure (ps.zip us):=by walk_at"bb")(len:∀vs H Q E,sp vs H Q E->vs.length=ps.length:=by walk_at"ln"):FD P w K mg base cc (k+1) m qual st ps sp:=
 λf fd F=>⟨F.binds hb,tD F S len λϹ A outer s H vs Q E hr h=>body f Ϲ A outer s H vs Q E hr h⟩
theorem FD.meth(F:FD P w K mg base cc k m qual st ps sp)(c:ϒ K C)(O:OM K C m qual st):Ϣ P w K mg base cc k C m ps sp:=by
 obtain⟨f,fd,h1,h2⟩:=O.ex;exact⟨c,f,fd,h2,F f fd h1⟩
theorem FD.make(F:FD P w K mg base cc k "__init__" qual st ps sp)(hm:mg x=some (.ref C))(O:OI K C qual st):fQ P w K mg base cc k x C ps sp:=by
 obtain⟨f,fd,h1,h2⟩:=O.ex;exact⟨hm,f,fd,h2,F f fd h1⟩
theorem FD.asked(F:FD P w K mg base cc k m qual st ps sp)(hm:mg x=some (.ref C))(O:OB K C m qual st):mV P w K mg base cc k x m ps sp:=by
 obtain⟨f,fd,h1,h2⟩:=O.ex;obtain⟨h3,h4⟩:=F f fd h1;exact⟨C,f,fd,hm,O.rd,h2,O.ga,h1.kp,h3,h4⟩
theorem aam{f:δ}{fd:air}(h:mg x=some (.ref C))(F:bM K m qual st f fd)(a:agO K (.ref C) m=some (some (.ref f)))(b:amP K (.ref f)=true):OM K (θ mg x) m qual st:=by
 rw[eQ h];exact⟨f,fd,F,a,b,F.kp⟩
theorem agS{f:δ}{fd:air}(h:mg x=some (.ref C))(F:bM K "__init__" qual st f fd)(a:agO K (.ref C) "__init__"=some (some (.ref f)))(b:amP K (.ref f)=true)(c:anb K C=true)(d:alF K (.ref C)=true):OI K (θ mg x) qual st:=by
 rw[eQ h];exact⟨f,fd,F,c,a,b,d⟩
theorem abN{f:δ}{fd:air}(h:mg x=some (.ref C))(F:bM K m qual st f fd)(a:amk K (.ref C) (.type "type") m=some (.val (.ref f)))(b:amj K C (.type "type")=true)(c:aiY K (.ref C) "__getattribute__"=some (some (.builtin "type.__getattribute__"))):OB K (θ mg x) m qual st:=by
 rw[eQ h];exact⟨b,c,f,fd,F,a⟩
theorem ad8(h:mg x=some (.ref C))(a:amh K C Str.empty=true)(b:alI K C=true)(c:amL K C=true)(d:agO K (.ref C) "__setattr__"=some (some (.builtin "object.__setattr__"))):ϒ K (θ mg x):=by
 rw[eQ h];exact⟨a,b,c,d⟩
end
theorem nq{X:Cx}{σ:St}{H:Hp}{D:Ends}{elts:List π}{k:Nat}{tp pos:Pos}{value:π}(hs:swapsWithSole [.Tuple elts k tp] value pos.line X.env=pure false)(hw:swappedStores [.Tuple elts k tp] value X.env=pure none)(h:EV X value σ H λv H1=>EG X (.Tuple elts k tp) v σ H1 λσ' H'=>D.nx σ' H'):SX X (.Assign [.Tuple elts k tp] value pos) D σ H:=by
 intro ϵ s I;refine Assign_Tuple (ρ (h ϵ s I) λu s1 ⟨v,H1,I1,r1,q1⟩=>?_) hs hw;exact ρ (q1 ϵ s1 u I1 r1) λ_ s2 ⟨σ',H',I2,q2⟩=>⟨σ',H',I2,q2⟩
section
variable{X:Cx}{σ:St}{H:Hp}{Q:VK}{D:Ends}{pos tpos:Pos}{o i value:π}
end
section
variable{prog:ϯ}{w:ϭ}{A:ϰ}{E:ε->μ->Prop}{s:μ}
end
section
variable{X:Cx}{H:Hp}{Q:VK}{D:Ends}{σ σ':St}{e a b c elt tg:π}{scope:ahI}{pos spos py p p':Pos}{x y:Str}{j:Nat}
theorem Ub{body:List ϧ}(hp:alC (Ϧ X.prog X.w) X.A X.env X.xe)(W:Nat->St->Hp->Prop)(m0:Nat)(h0:W m0 σ H)(turn:∀m σ H,W m σ H->ET X c σ H λk H1=>if k=true then ∃N:St->Hp->Prop,(∀σ' H',N σ' H'->∃m',m'<m/\W m' σ' H')/\ Ψ X body {D with nx:=N,ct:=N,bk:=D.nx} σ H1 else D.nx σ H1):SX X (.While c body [] pos) D σ H:=
 λϵ s I=>YZ (X:=X) hp jt lG ϵ s σ H D I ⟨W,⟨m0,h0⟩,turn⟩
end
section
variable{X:Cx}{σ:St}{H:Hp}{Q:VK}{D:Ends}{pos pos' tpos apos cpos:Pos}{o i e f value:π}{y v:V}{a:δ}{r:Option V}
theorem Ds(h:∀p,H p=none->Q (.ref p) (upd H p (.dK []))):EV X (.Dict [] [] pos) σ H Q:=Ϥ VN h
theorem aeY(hu:X.A.units+1<cLine)(g:ao H a y r)(q:Q (.bl r.isSome) H):OP X (adH .In) y (.ref a) H Q:=by
 refine bc (r:=λx z H Q=>∃a o,z=.ref a/\ao H a x o/\Q (.bl o.isSome) H) ?_ ⟨a,r,rfl,g,q⟩;intro ϵ s σ H x z v u Q I rx rz h;obtain⟨a,o,rfl,g,q⟩:=h;cases(show u=Value.ref a from rz);exact agA hu I g rx λs' I'=>⟨.bl o.isSome,H,I',rfl,q⟩
theorem PL(hu:X.A.units+1<cLine)(g:ao H a y r)(q:Q (.bl (!r.isSome)) H):OP X (adH .NotIn) y (.ref a) H Q:=by
 refine bc (r:=λx z H Q=>∃a o,z=.ref a/\ao H a x o/\Q (.bl (!o.isSome)) H) ?_ ⟨a,r,rfl,g,q⟩;intro ϵ s σ H x z v u Q I rx rz h;obtain⟨a,o,rfl,g,q⟩:=h;cases(show u=Value.ref a from rz);exact aep hu I g rx λs' I'=>⟨.bl (!o.isSome),H,I',rfl,q⟩
theorem yQ(hu:X.A.units+1<cLine)(hs:ajq value (some (.Subscript o i pos')) pos.line X.env=pure false)(h:EV X value σ H λv H1=>EV X o σ H1 λx H2=>EV X i σ H2 λy H3=>∃a H4,x=.ref a/\iK H3 a y v H4/\D.nx σ H4):SX X (.Assign [.Subscript o i pos'] value pos) D σ H:=
 jd (aek hu ϋ ϋ ϋ hs) h
theorem acP(hu:X.A.units+1<cLine)(m:M1 X o "get" apos e cpos)(h:EV X o σ H λx H1=>∃a,x=.ref a/\jM H1 a/\EV X e σ H1 λy H2=>∃o,ao H2 a y o/\Q (o.getD .non) H2):EV X (.Call (.Attribute o "get" apos) [e] [] cpos) σ H Q:=
 Ϥ (Zb hu ϋ ϋ m) h
theorem BK(m:M1 X o "pop" apos e cpos)(h:EV X o σ H λx H1=>∃a,x=.ref a/\jM H1 a/\EV X e σ H1 λy H2=>∃Ϸ k v,H2 a=some (.dK Ϸ)/\y=kV k/\ϟ Ϸ k=some v/\Q v (upd H2 a (.dK (dN Ϸ k)))):EV X (.Call (.Attribute o "pop" apos) [e] [] cpos) σ H Q:=
 Ϥ (TJ ϋ ϋ m) h
theorem JK{Ϸ:List (Key×V)}(e:H a=some (.dK Ϸ))(q:Q (.int Ϸ.length) H):CL X (.builtin "len") [.ref a] H Q:=cX ag1 ⟨a,Ϸ,rfl,e,q⟩
end
end L2
namespace My
open PySem
abbrev SGs:Str:=Str.ofString "-0123456789abcdefghijklmnopqrstuvwxyz"
abbrev pq:Str:=Str.ofString "abcdefghijklmnopqrstuvwxyz0123456789-"
def SG:List Nat:=SGs.cps.toList
def TS:List Nat:=pq.cps.toList
theorem wW:∀c∈SG,c∈TS:=by decide+kernel
def tb:List Nat->List Nat->Bool
 |[],[]=>false
 |[],_::_=>true
 |_::_,[]=>false
 |x::xs,y::ys=>if x=y then tb xs ys else decide (SG.idxOf x<SG.idxOf y)
end My
namespace L2
open PySem PySem.Spec PyProof.Rows
theorem Qc{α:Type}{xs:List α}{f:α->V}{i:Int}(d:α)(h0:0<=i)(h1:i<xs.length):ϔ (xs.map f) i=some (f (xs.getD i.toNat d)):=by
 have e:i=((i.toNat:Nat):Int):=by omega
 have hl:i.toNat<xs.length:=by omega
 have h2:(xs.map f)[i.toNat]?=some (f (xs.getD i.toNat d)):=by
  rw[aca,aaf hl];simp[hl]
 have:=aW h2;rw[<-e]at this;exact this
theorem iw{x y:Str}(h:x.cps.toList=y.cps.toList):x=y:=by
 obtain⟨⟨a⟩⟩:=x;obtain⟨⟨b⟩⟩:=y;simp only at h;rw[h]
theorem c7(x y:Str):(x++y).cps.toList=x.cps.toList++y.cps.toList:=by
 show(x.cps++y.cps).toList=_;simp
theorem len_list(z:Str):z.length=z.cps.toList.length:=by simp[Str.length]
theorem len_app(x y:Str):(x++y).length=x.length+y.length:=by rw[len_list,c7,abo,len_list,len_list]
theorem xF(z:Str)(lo hi:Option Int):(ϐ z lo hi).length<=z.length:=by
 unfold ϐ Str.length;simp;omega
theorem HD(z:Str)(lo hi:Option Int):(ϐ z lo hi).cps.toList=(z.cps.toList.drop (HT.Φ z.length 0 lo)).take (HT.Φ z.length z.length hi-HT.Φ z.length 0 lo):=by
 unfold ϐ;simp
theorem yo(z:Str)(k:Nat):(ϐ z (some (k:Int)) none).cps.toList=z.cps.toList.drop k:=by
 rw[HD,HT.vY,HT.PQ];have hl:=len_list z;by_cases h:k<=z.length
 .rw[ai2 h,agI (by rw[agL];omega)]
 .have h':z.length<=k:=by omega
  rw[akQ h',amx (by omega),amx (by omega)];simp
theorem acf(z:Str)(k:Nat):(ϐ z none (some (k:Int))).cps.toList=z.cps.toList.take k:=by
 rw[HD,HT.vY,HT.PQ,ame,amY];have hl:=len_list z;by_cases h:k<=z.length
 .rw[ai2 h]
 .have h':z.length<=k:=by omega
  rw[akQ h',agI (by omega),agI (by omega)]
theorem M9(z:Str)(c:Nat):Txt.startswith z ⟨#[c]⟩=decide (z.cps.toList[0]?=some c):=by
 rw[ahj,decide_eq_true_eq, <-StrLaws.subAt_one];unfold Txt.startswith
 rw[aa3,decide_eq_true_eq]
end L2
namespace Vl
open PySem L2 PyProof.Rows My NumText
def scalar:V->Bool
 |.non|.int _|.str _=>true
 |_=>false
def jG:V->Bool
 |.int _=>true
 |_=>false
def isNum:V->Bool
 |.int i=>decide (-1000000000000000000<=i/\i<=1000000000000000000)
 |_=>false
def dC(z g:Str):Bool:=z.cps.toList.all λc=>decide (c∈g.cps.toList)
def fV:V->Bool
 |.str z=>decide (z.length<=20)&&dC z pq
 |_=>false
def isVal(kind:Str):V->Bool
 |.non=>true
 |v=>if kind="number" then isNum v else fV v
def before:V->V->Bool
 |_,.non=>false
 |.non,_=>true
 |.int i,.int j=>decide (i<j)
 |.str x,.str y=>decide (x.cps.toList<y.cps.toList)
 |_,_=>false
def short:V->Prop
 |.str z=>z.length<=4000
 |_=>True
def ahf:Sp:=λvs H Q _=>∃v,vs=[v]/\scalar v=true/\Q (.bl (jG v)) H
def Sg:Sp:=λvs H Q _=>∃z g:Str,vs=[.str z,.str g]/\z.length<=4000/\∀H',ζ H H'->Q (.bl (dC z g)) H'
def adO:Sp:=λvs H Q _=>∃v,vs=[v]/\scalar v=true/\Q (.bl (isNum v)) H
def af0:Sp:=λvs H Q _=>∃v,vs=[v]/\scalar v=true/\short v/\∀H',ζ H H'->Q (.bl (fV v)) H'
def ace:Sp:=λvs H Q _=>∃(k:Str)(v:V),vs=[.str k,v]/\scalar v=true/\short v/\∀H',ζ H H'->Q (.bl (isVal k v)) H'
def UJ:Sp:=λvs H Q _=>∃x y:V,vs=[x,y]/\(x=.non\/y=.non\/(∃i j,x=.int i/\y=.int j)\/∃i j,x=.str i/\y=.str j)/\Q (.bl (before x y)) H
def tG(c:Nat):Bool:=decide (48<=c/\c<=57)
abbrev xN:Str:=Str.ofString "0123456789"
theorem aif:∀c:Nat,c∈xN.cps.toList↔(48<=c/\c<=57):=by
 intro c;have e:xN.cps.toList=[48,49,50,51,52,53,54,55,56,57]:=by decide+kernel
 rw[e];simp only[List.mem_cons,List.not_mem_nil,or_false];omega
theorem SM(z:Str):dC z xN=z.cps.toList.all tG:=by
 unfold dC tG
 congr 1
 funext c;rw[decide_eq_decide];exact aif c
def cD(l:List Nat):Bool:=decide (l=[48])||(decide (l≠[])&&(decide (l[0]? ≠some 48)&&l.all tG))
def lX(l:List Nat):Bool:=if l[0]?=some 45 then decide (l.drop 1≠[48])&&cD (l.drop 1)else cD l
def lH(l:List Nat):Int:=if l[0]?=some 45 then -((digitsVal (l.drop 1):Nat):Int)else((digitsVal l:Nat):Int)
theorem FZ{l:List Nat}(h:cD l=true):AllDigits l/\l≠[]:=by
 unfold cD at h;rw[al8,aa3,aa3,decide_eq_true_eq,decide_eq_true_eq]at h;obtain h|⟨h1,_,h2⟩:=h
 .subst h;exact⟨λc hc=>by simp at hc;omega,by simp⟩
 .exact⟨λc hc=>of_decide_eq_true (aeE.mp h2 c hc),h1⟩
def fH(l:List Nat):Option Int:=if lX l=true/\l.length<=20/\ -1000000000000000000<=lH l/\lH l<=1000000000000000000 then some (lH l)else none
def iI(z:Str):Option Str:=if z.cps.toList[0]?=some 39/\fV (.str (ϐ z (some 1) none))=true then some (ϐ z (some 1) none)else none
def vz:Option Int->Option V
 |some i=>some (.int i)
 |none=>none
def Ab:Option Str->Option V
 |some i=>some (.str i)
 |none=>none
def cR(kind word:Str):Option V:=if word="?" then some .non else if kind="number" then vz (fH word.cps.toList)else Ab (iI word)
def wordOf:V->Str
 |.non=>"?"
 |.str z=>Str.ofString "'"++z
 |.int i=>Str.ofString (toString i)
 |_=>""
def Wb:Sp:=λvs H Q _=>∃z,vs=[.str z]/\z.length<=4000/\∀H',ζ H H'->Q (.bl (cD z.cps.toList)) H'
def xR(c:ε)(r:Option V)(H:Hp)(Q:VK)(E:XK):=∀H',ζ H H'->match r with
 |some v=>Q v H'
 |none=>E c (none,true) H'
def YW(c:ε):Sp:=λvs H Q E=>∃z,vs=[.str z]/\z.length<=4000/\xR c (vz (fH z.cps.toList)) H Q E
def aeW(c:ε):Sp:=λvs H Q E=>∃z,vs=[.str z]/\z.length<=4000/\xR c (Ab (iI z)) H Q E
def af9(c:ε):Sp:=λvs H Q E=>∃k z,vs=[.str k,.str z]/\z.length<=4000/\xR c (cR k z) H Q E
def fK(n:Nat)(z:Str):Prop:=z.length<=n/\∀c∈z.cps.toList,c<1114112
theorem fK.lay{n:Nat}{z:Str}(h:fK n z):(PyData.str z).canLay0=true:=by
 show PyData.strOk z=true;unfold PyData.strOk;rw[Array.all_eq_true_iff_forall_mem];intro c hc;exact decide_eq_true (h.2 c (by simpa using hc))
theorem fK.sg{n:Nat}{z:Str}(hl:z.length<=n)(h:∀c∈z.cps.toList,c∈SG):fK n z:=⟨hl,λc hc=>by
 have:∀c∈SG,c<1114112:=by decide+kernel
 exact this c (h c hc)⟩
def dV:V->alV
 |.bl b=>.bool b
 |.int i=>.int i
 |.str x=>.str x
 |_=>.none
def gK:V->Bool
 |.non|.int _|.str _|.bl _=>true
 |_=>false
theorem afk{K:PySem.W.Frag}{H:Hp}{v:V}(h:gK v=true):RD K H v (dV v):=by
 cases v with
 |non=>exact .non
 |bl b=>exact .bl b
 |int i=>exact .int i
 |str x=>exact .str x
 |_=>cases h
theorem qm{K:PySem.W.Frag}{H:Hp}:∀{xs:List V},xs.all gK=true->dH K H xs (xs.map dV)
 |[],_=>.nil
 |x::xs,h=>by
  rw[List.all_cons,aa3]at h;exact .cons (afk h.1) (qm h.2)
theorem uV{i:Int}(h:i.natAbs<10^60):i.natAbs.log2<1920:=by
 by_cases h0:i.natAbs=0
 .rw[h0];decide
 .rw[Nat.log2_lt h0];refine abu h ?_;decide+kernel
theorem qz(m:Nat):(Str.ofString (toString ((m:Nat):Int))).cps.toList=(anA 10 m).map Char.toNat:=PySem.W.KIN.signs_num m
theorem vN(m:Nat):∀c∈(Str.ofString (toString ((m:Nat):Int))).cps.toList,48<=c/\c<=57:=by
 rw[qz];intro c hc;obtain⟨d,hd,rfl⟩:=acR.mp hc;have:=Nat.isDigit_of_mem_toDigits (b:=10) (n:=m) (by decide) (by decide) hd;simp only[Char.isDigit,aa3,decide_eq_true_eq]at this;have h1:(48:UInt32).toNat<=d.val.toNat:=this.1;have h2:d.val.toNat<=(57:UInt32).toNat:=this.2;exact⟨h1,h2⟩
theorem pQ{m k:Nat}(hk:1<=k)(h:m<10^k):(Str.ofString (toString ((m:Nat):Int))).length<=k:=by
 rw[L2.len_list,qz,ϳ];exact PyProof.Rows.digits10_le hk h
theorem rR(m:Nat)(h:0<m):Str.ofString (toString (-((m:Nat):Int)))=Str.ofString "-"++Str.ofString (toString ((m:Nat):Int)):=by
 obtain⟨k,rfl⟩:∃k,m=k+1:=⟨m-1,by omega⟩;have e:(-((k+1:Nat):Int))=Int.negSucc k:=rfl;rw[e];apply iw;rw[c7];rw[PyProof.Rows.signs_ofString,PyProof.Rows.signs_ofString,PyProof.Rows.signs_ofString];show(("-"++Nat.repr (k+1)).toList.map Char.toNat)="-".toList.map Char.toNat++(Nat.repr (k+1)).toList.map Char.toNat;rw[String.toList_append,aln]
end Vl
namespace Lw
open PySem L2 PyProof.Rows My NumText
def t6(ns:List Int)(k:Int):Int:=if 0<ns.length then ns.getD (k % (ns.length:Int)).toNat 0 else 0
def bW(ns:List Int)(k m:Int):Int:=(t6 ns k % 1000003+31*k*k+1)*48271 % 999983*7919 % 524287 % m
theorem il(ns:List Int)(k:Int){m:Int}(h:0<m):0<=bW ns k m:=amD _ (by omega)
theorem jh(ns:List Int)(k:Int){m:Int}(h:0<m):bW ns k m<m:=amS _ h
def afN(K:PySem.W.Frag):Sp:=λvs H Q _=>∃(a:δ)(ns:List Int)(k m:Int),vs=[.ref a,.int k,.int m]/\η K H a (ns.map V.int)/\ns.length<=63/\0<=k/\k<=100000/\0<m/\Q (.int (bW ns k m)) H
end Lw
namespace Vl
open PySem L2 PyProof.Rows My NumText
inductive ψ {α β:Type} (R:α->β->Prop):List α->List β->Prop
 |nil:ψ R [] []
 |cons {a:α} {b:β} {l:List α} {m:List β}:R a b->ψ R l m->ψ R (a::l) (b::m)
theorem ψ.len{α β:Type}{R:α->β->Prop}:∀{l:List α}{m:List β},ψ R l m->l.length=m.length
 |_,_,.nil=>rfl
 |_,_,.cons _ t=>by rw[List.length_cons,List.length_cons,t.len]
theorem ψ.imp{α β:Type}{R S:α->β->Prop}(h:∀a b,R a b->S a b):∀{l:List α}{m:List β},ψ R l m->ψ S l m
 |_,_,.nil=>.nil
 |_,_,.cons r t=>.cons (h _ _ r) (t.imp h)
theorem ψ.get{α β:Type}{R:α->β->Prop}:∀{l:List α}{m:List β},ψ R l m->∀{i:Nat}{a:α},l[i]?=some a->∃b,m[i]?=some b/\R a b
 |_,_,.nil,i,a,e=>by simp at e
 |_,_,.cons r t,0,a,e=>by simp at e;subst e;exact⟨_,rfl,r⟩
 |_,_,.cons r t,i+1,a,e=>by simp at e;exact t.get e
theorem ψ.get'{α β:Type}{R:α->β->Prop}:∀{l:List α}{m:List β},ψ R l m->∀{i:Nat}{b:β},m[i]?=some b->∃a,l[i]?=some a/\R a b
 |_,_,.nil,i,a,e=>by simp at e
 |_,_,.cons r t,0,a,e=>by simp at e;subst e;exact⟨_,rfl,r⟩
 |_,_,.cons r t,i+1,a,e=>by simp at e;exact t.get' e
theorem ψ.app{α β:Type}{R:α->β->Prop}:∀{l l':List α}{m m':List β},ψ R l m->ψ R l' m'->ψ R (l++l') (m++m')
 |_,_,_,_,.nil,h=>h
 |_,_,_,_,.cons r t,h=>.cons r (t.app h)
theorem ψ.drop{α β:Type}{R:α->β->Prop}:∀{l:List α}{m:List β}(n:Nat),ψ R l m->ψ R (l.drop n) (m.drop n)
 |_,_,0,h=>h
 |_,_,n+1,.nil=>.nil
 |_,_,n+1,.cons r t=>t.drop n
theorem ψ.take{α β:Type}{R:α->β->Prop}:∀{l:List α}{m:List β}(n:Nat),ψ R l m->ψ R (l.take n) (m.take n)
 |_,_,0,h=>.nil
 |_,_,n+1,.nil=>.nil
 |_,_,n+1,.cons r t=>.cons r (t.take n)
abbrev χ:=Str×Str
def uP(H:Hp)(v:V)(c:χ):=∃t,v=.ref t/\H t=some (.tup [.str c.1,.str c.2])
theorem uP.same{H H':Hp}{v:V}{c:χ}(h:uP H v c)(s:ζ H H'):uP H' v c:=by
 obtain⟨t,e,q⟩:=h;exact⟨t,e,s _ _ q⟩
def aK(H:Hp)(a:δ)(cs:List χ):=∃vs:List V,H a=some (.lst vs)/\ψ (uP H) vs cs
theorem aK.same{H H':Hp}{a:δ}{cs:List χ}(h:aK H a cs)(s:ζ H H'):aK H' a cs:=by
 obtain⟨vs,e,q⟩:=h;exact⟨vs,s _ _ e,q.imp λa b r=>r.same s⟩
abbrev Mj:Str:=Str.ofString "abcdefghijklmnopqrstuvwxyz"
def isName(z:Str):Bool:=decide (1<=z.length/\z.length<=8)&&dC z Mj
def ie(k:Str):Bool:=decide (k="number"\/k="text")
def Ϡ(cs:List χ):Bool:=decide (1<=cs.length/\cs.length<=6)&&(cs.all λc=>isName c.1&&ie c.2)&&decide ((cs.map Prod.fst).Nodup)
def Y9:Sp:=λvs H Q _=>∃z,vs=[.str z]/\z.length<=4000/\∀H',ζ H H'->Q (.bl (isName z)) H'
def Nb(cs:List χ):=∀c∈cs,c.1.length<=4000/\c.2.length<=4000
def aeS(c:ε):Sp:=λvs H Q E=>∃a cs,vs=[.ref a]/\aK H a cs/\cs.length<=4000/\Nb cs/\∀H',ζ H H'->if Ϡ cs=true then Q .non H' else E c (none,true) H'
def d9:List χ->Str->Nat->V
 |[],_,_=>.non
 |c::r,z,i=>if c.1=z then .int i else d9 r z (i+1)
def Ve:Sp:=λvs H Q _=>∃a cs z,vs=[.ref a,.str z]/\aK H a cs/\∀H',ζ H H'->Q (d9 cs z 0) H'
def K7:V->Bool
 |.int i=>decide (0<=i/\i<=1000000000)
 |_=>false
def Uy:Sp:=λvs H Q _=>∃v,vs=[v]/\scalar v=true/\Q (.bl (K7 v)) H
def lJ:List χ->List V->Bool
 |c::cs,v::vs=>isVal c.2 v&&lJ cs vs
 |_,_=>true
def vL(cs:List χ)(v:V)(xs:List V):Bool:=K7 v&&decide (xs.length=cs.length)&&lJ cs xs
def agl:Sp:=λvs H Q _=>∃a cs v b xs,vs=[.ref a,v,.ref b]/\aK H a cs/\cs.length<=4000/\scalar v=true/\H b=some (.lst xs)/\(∀x∈xs,scalar x=true/\short x)/\∀H',ζ H H'->Q (.bl (vL cs v xs)) H'
theorem pI:∀{xs:List V},(∀x∈xs,gK x=true/\∀z,x=.str z->fK 4000 z)->(PyData.list (xs.map dV)).canLay0=true
 |[],_=>rfl
 |x::xs,h=>by
  have ih:=pI (xs:=xs) λd hd=>h d (by simp[hd])
  have h1:(dV x).canLay0=true:=by
   obtain⟨hs,hz⟩:=h x (by simp);cases x with
   |str z=>exact(hz z rfl).lay
   |_=>rfl
  show((dV x).canLay0&&PyData.canLayAll0 (xs.map dV))=true;rw[h1];exact ih
theorem uQ:∀xs:List V,PyData.depthAll (xs.map dV)<=1
 |[]=>by show(0:Nat)<=1;omega
 |x::xs=>by
  have ih:=uQ xs;have h1:(dV x).depth<=1:=by cases x<;>(show(_:Nat)<=1;exact Nat.le_of_ble_eq_true rfl)
  show max (dV x).depth (PyData.depthAll (xs.map dV))<=1;omega
theorem WM(xs:List V):(PyData.list (xs.map dV)).depth<=60:=by
 have:=uQ xs;simp only[PyData.depth];omega
end Vl
namespace Vl
open PySem L2 PyProof.Rows My NumText
theorem KD:∀(r:List Nat)(a:Nat),a*10^r.length<=r.foldl (λacc c=>acc*10+(c-48)) a
 |[],a=>by simp
 |c::r,a=>by
  have ih:=KD r (a*10+(c-48));rw[List.foldl_cons,List.length_cons,Nat.pow_succ];refine afK ?_ ih;have h1:a*(10^r.length*10)=a*10*10^r.length:=by rw[Nat.mul_comm (10^r.length) 10,Nat.mul_assoc]
  rw[h1];exact al5 _ (akJ _ _)
theorem Hx{l:List Nat}(h:cD l=true)(h1:l≠[48]):10^(l.length-1)<=digitsVal l:=by
 obtain⟨hd,Ϻ⟩:=FZ h;cases l with
 |nil=>exact absurd rfl Ϻ
 |cons c r=>
  have hc:=hd c aeM;have hc2:c≠48:=by
   intro e;subst e;unfold cD at h;rw[decide_eq_false h1,amr]at h;simp at h
  have:=KD r (0*10+(c-48));have h3:1*10^r.length<=(0*10+(c-48))*10^r.length:=al5 _ (by omega);unfold digitsVal;rw[List.foldl_cons];show 10^r.length<=_;omega
theorem w6{l:List Nat}{m:Int}{k:Nat}(h:cD l=true)(hm:((digitsVal l:Nat):Int)<=m)(hk:m<((10^k:Nat):Int))(h1:1<=k):l.length<=k:=by
 by_cases e:l=[48]
 .subst e;exact h1
 .have h2:=Hx h e;have h3:10^(l.length-1)<10^k:=by omega
  have h4:=(Nat.pow_lt_pow_iff_right (a:=10) (by decide)).mp h3;omega
theorem QW{l:List Nat}(h:cD l=true):digitsVal l=0↔l=[48]:=by
 constructor
 .intro e;refine Classical.byContradiction λn=>?_
  have h2:=Hx h n;have h3:0<10^(l.length-1):=Nat.pow_pos (by decide);omega
 .intro e;subst e;rfl
def gO(l:List Nat)(m:Int):Option Int:=if cD l=true/\((digitsVal l:Nat):Int)<=m then some ((digitsVal l:Nat):Int)else none
def pF:Option Int->V
 |none=>.non
 |some i=>.int i
def Yb:Sp:=λvs H Q _=>∃(z:Str)(m:Int)(k:Nat),vs=[.str z,.int m]/\z.length<=4000/\0<=m/\m.natAbs<10^60/\(Str.ofString (toString m)).length=k/\m<((10^k:Nat):Int)/\1<=k/\k<=600/\∀H',ζ H H'->Q (pF (gO z.cps.toList m)) H'
theorem QC{l:List Nat}(h0:¬l[0]?=some 45):fH l=gO l 1000000000000000000:=by
 unfold fH gO lX lH;rw[if_neg h0,if_neg h0];by_cases h:cD l=true/\((digitsVal l:Nat):Int)<=1000000000000000000
 .have :=w6 (k:=19) h.1 h.2 (by decide) (by decide);rw[if_pos h,if_pos ⟨h.1,by omega,by omega,h.2⟩]
 .rw[if_neg h,if_neg λx=>h ⟨x.1,x.2.2.2⟩]
theorem aeu{l:List Nat}(h0:l[0]?=some 45):fH l=match gO (l.drop 1) 1000000000000000000 with
  |some i=>if i=0 then none else some (-i)
  |none=>none:=by
 unfold fH gO lX lH;rw[if_pos h0,if_pos h0];have hl:l.length=(l.drop 1).length+1:=by
  cases l with
  |nil=>simp at h0
  |cons c r=>simp
 rw[hl];generalize l.drop 1=r;by_cases h:cD r=true/\((digitsVal r:Nat):Int)<=1000000000000000000
 .have h2:=w6 (k:=19) h.1 h.2 (by decide) (by decide);have h3:=QW h.1;rw[if_pos h];show _=if((digitsVal r:Nat):Int)=0 then none else some (-((digitsVal r:Nat):Int));by_cases e:r=[48]
  .have hz:((digitsVal r:Nat):Int)=0:=by have:=h3.mpr e;omega
   rw[if_pos hz];refine if_neg λx=>?_
   rw[aa3,decide_eq_true_eq]at x;exact x.1.1 e
  .have hz:¬((digitsVal r:Nat):Int)=0:=λz=>e (h3.mp (by omega))
   rw[if_neg hz];exact if_pos ⟨by rw[decide_eq_true e,h.1];rfl,by omega,by omega,by omega⟩
 .rw[if_neg h];refine if_neg λx=>?_
  rw[aa3]at x;exact h ⟨x.1.2,by omega⟩
end Vl
namespace Vl
open PySem L2 PyProof.Rows My NumText
theorem Ak{n:Int}(h:n.natAbs<10^60):(Str.ofString (toString n)).length<=70:=by
 by_cases h0:0<=n
 .obtain⟨m,rfl⟩:=aeN h0;have:=pQ (m:=m) (k:=60) (by decide) (by simpa using h);omega
 .have e:n= -((n.natAbs:Nat):Int):=by omega
  rw[e,rR n.natAbs (by omega),len_app];have:=pQ (m:=n.natAbs) (k:=60) (by decide) h;have l1:("-":Str).length=1:=by decide+kernel
  omega
end Vl
namespace Vl
open PySem L2 PyProof.Rows My NumText
abbrev Ord:=Str×Bool
def qu(H:Hp)(v:V)(o:Ord):=∃t,v=.ref t/\H t=some (.tup [.str o.1,.bl o.2])
theorem qu.same{H H':Hp}{v:V}{o:Ord}(h:qu H v o)(s:ζ H H'):qu H' v o:=by
 obtain⟨t,e,q⟩:=h;exact⟨t,e,s _ _ q⟩
def cV(H:Hp)(a:δ)(os:List Ord):=∃vs:List V,H a=some (.lst vs)/\ψ (qu H) vs os
theorem cV.same{H H':Hp}{a:δ}{os:List Ord}(h:cV H a os)(s:ζ H H'):cV H' a os:=by
 obtain⟨vs,e,q⟩:=h;exact⟨vs,s _ _ e,q.imp λa b r=>r.same s⟩
def iH{α β:Type}(f:α->Option β):List α->Option (List β)
 |[]=>some []
 |x::r=>match f x,iH f r with
  |some y,some ys=>some (y::ys)
  |_,_=>none
theorem Oj{α β:Type}{f:α->Option β}:∀{l:List α}{x:α},x∈l->f x=none->iH f l=none
 |y::r,x,h,e=>by
  unfold iH;obtain z|z:=ϴ.mp h
  .subst z;rw[e]
  .rw[Oj z e];cases f y<;>rfl
 |[],x,h,_=>by simp at h
theorem GR{α β:Type}{f:α->Option β}:∀{l:List α}{m:List β},l.length=m.length->(∀(i:Nat) x y,l[i]?=some x->m[i]?=some y->f x=some y)->iH f l=some m
 |[],[],_,_=>rfl
 |x::l,y::m,hl,h=>by
  have h1:=h 0 x y rfl rfl;have h2:=GR (l:=l) (m:=m) (by simpa using hl) λi x y e1 e2=>h (i+1) x y (by simpa using e1) (by simpa using e2)
  unfold iH;rw[h1,h2]
 |[],_::_,hl,_=>by simp at hl
 |_::_,[],hl,_=>by simp at hl
theorem Qn{α β:Type}{f:α->Option β}{R:V->β->Prop}:∀{ws:List α}{xs:List V},xs.length=ws.length->(∀(i:Nat) v,xs[i]?=some v->∃z,ws[i]?=some z/\∃b,f z=some b/\R v b)->∃bs,iH f ws=some bs/\ψ R xs bs
 |[],[],_,_=>⟨[],rfl,.nil⟩
 |w::ws,x::xs,hl,h=>by
  obtain⟨z,e1,b,e2,r⟩:=h 0 x rfl;have e1':w=z:=by simpa using e1
  subst e1';obtain⟨bs,e3,t⟩:=Qn (ws:=ws) (xs:=xs) (by simpa using hl) λi v e=>by simpa using h (i+1) v (by simpa using e)
  refine⟨b::bs,?_,.cons r t⟩;unfold iH;rw[e2,e3]
 |[],_::_,hl,_=>by simp at hl
 |_::_,[],hl,_=>by simp at hl
def iC(cs:List χ)(z:Str):Option Ord:=
 if(z.cps.toList[0]?=some 43\/z.cps.toList[0]?=some 45)/\d9 cs (ϐ z (some 1) none) 0≠.non then some (ϐ z (some 1) none,decide (z.cps.toList[0]?=some 43))else none
def lg(cs:List χ)(z:Str):Option (List Ord):=
 if z="" then some []else if 4<(Ϝ 32 z).length then none else match iH (iC cs) (Ϝ 32 z)with
  |none=>none
  |some os=>if(os.map Prod.fst).Nodup then some os else none
def acv(c:ε):Sp:=λvs H Q E=>∃a cs z,vs=[.ref a,.str z]/\aK H a cs/\z.length<=4000/\
 (∀H',ζ H H'->iC cs z=none->E c (none,true) H')/\∀p o H',ζ H H'->iC cs z=some o->H' p=some (.tup [.str o.1,.bl o.2])->Q (.ref p) H'
def agU(c:ε):Sp:=λvs H Q E=>∃a cs z,vs=[.ref a,.str z]/\aK H a cs/\z.length<=4000/\
 (∀H',ζ H H'->lg cs z=none->E c (none,true) H')/\∀p os H',ζ H H'->lg cs z=some os->H p=none->cV H' p os->Q (.ref p) H'
def aD(o:Ord):Str:=(if o.2=true then Str.ofString "+" else Str.ofString "-")++o.1
def gA(os:List Ord):Str:=Str.join " " (os.map aD)
def Ze:Sp:=λvs H Q _=>∃a os,vs=[.ref a]/\cV H a os/\os.length<=4000/\(∀o∈os,o.1.length<=1000)/\∀H',ζ H H'->Q (.str (gA os)) H'
theorem Mt(c:Nat)(z:Str):(Ϝ c z).length<=z.length+1:=by
 have h1:=Dr c z.cps.toList;unfold Ϝ;rw[ϳ];have h2:z.cps.toList.length=z.length:=rfl;omega
theorem Wh{c:Nat}{z y:Str}(h:y∈Ϝ c z):y.length<=z.length:=by
 have key:∀(l:List Nat) p,p∈cutAt c l->p.length<=l.length:=by
  intro l;induction l with
  |nil=>intro p hp;have:p=[]:=by simpa [cutAt]using hp
        subst this;simp
  |cons x r ih=>
   intro p hp;unfold cutAt at hp;split at hp
   .obtain z|z:=ϴ.mp hp
    .subst z;simp
    .have :=ih p z;simp;omega
   .split at hp
    .have :p=[x]:=by simpa using hp
     subst this;simp
    .rename_i a t e;rw[e]at ih;obtain z|z:=ϴ.mp hp
     .subst z;have:=ih a (by simp);simp;omega
     .have :=ih p (by simp[z]);simp;omega
 unfold Ϝ at h;obtain⟨l,hl,rfl⟩:=acR.mp h;have:=key _ l hl;have h2:z.cps.toList.length=z.length:=rfl;show l.toArray.size<=_;simp;omega
end Vl
namespace Vl
open PySem L2 PyProof.Rows My NumText
def Χ:List χ->Str->Nat
 |[],_=>0
 |c::r,z=>if c.1=z then 0 else Χ r z+1
theorem vG:∀{cs:List χ}{z:Str},(∃c∈cs,c.1=z)->Χ cs z<cs.length
 |[],_,h=>by obtain⟨c,hc,_⟩:=h;simp at hc
 |d::r,z,h=>by
  unfold Χ;split
  .simp
  .rename_i hd;have:=vG (cs:=r) (z:=z) (by
    obtain⟨c,hc,e⟩:=h;obtain x|x:=ϴ.mp hc
    .subst x;exact absurd e hd
    .exact⟨c,x,e⟩)
   simp;omega
theorem yg:∀{cs:List χ}{z:Str}(i:Nat),(∃c∈cs,c.1=z)->d9 cs z i=.int ((i+ Χ cs z:Nat):Int)
 |[],_,_,h=>by obtain⟨c,hc,_⟩:=h;simp at hc
 |d::r,z,i,h=>by
  unfold d9 Χ;split
  .rfl
  .rename_i hd;rw[yg (i+1) (by
    obtain⟨c,hc,e⟩:=h;obtain x|x:=ϴ.mp hc
    .subst x;exact absurd e hd
    .exact⟨c,x,e⟩)]
   congr 2
   omega
theorem Ax:∀{cs:List χ}{z:Str},(∃c∈cs,c.1=z)->∃c,cs[Χ cs z]?=some c/\c.1=z
 |[],_,h=>by obtain⟨c,hc,_⟩:=h;simp at hc
 |d::r,z,h=>by
  unfold Χ;split
  .rename_i e;exact⟨d,rfl,e⟩
  .rename_i hd;obtain⟨c,h1,h2⟩:=Ax (cs:=r) (z:=z) (by
    obtain⟨c,hc,e⟩:=h;obtain x|x:=ϴ.mp hc
    .subst x;exact absurd e hd
    .exact⟨c,x,e⟩)
   exact⟨c,by simpa using h1,h2⟩
def Ϟ(cs:List χ)(xs:List V)(z:Str):V:=(xs[Χ cs z]?).getD .non
def Ω(cs:List χ)(os:List Ord)(xs:List V):List V:=os.map λo=>Ϟ cs xs o.1
theorem agJ(cs:List χ)(os:List Ord)(xs:List V):(Ω cs os xs).length=os.length:=ϳ ..
def bh(cs:List χ)(os:List Ord):=∀o∈os,∃c∈cs,c.1=o.1
def aq(x y:V):Prop:=x=.non\/y=.non\/(∃i j,x=.int i/\y=.int j)\/∃i j,x=.str i/\y=.str j
theorem wB{x y:V}(hx:scalar x=true)(hy:scalar y=true):qt x y=true:=by
 cases x<;>cases y<;>first|rfl|(exact absurd hx aah)|(exact absurd hy aah)
def ϝ:List Ord->List V->List V->Int->Int->Bool
 |o::os,x::xs,y::ys,n,k=>if x=y then ϝ os xs ys n k else decide (before x y=o.2)
 |_,_,_,n,k=>decide (n<k)
theorem wK:∀{i:Nat}{os:List Ord}{xs ys:List V}{n k:Int},xs.length=os.length->ys.length=os.length->i<=os.length->(∀j x y,j<i->xs[j]?=some x->ys[j]?=some y->x=y)->ϝ os xs ys n k=ϝ (os.drop i) (xs.drop i) (ys.drop i) n k
 |0,_,_,_,_,_,_,_,_,_=>rfl
 |i+1,[],[],[],_,_,_,_,hi,_=>by simp at hi
 |i+1,o::os,x::xs,y::ys,n,k,h1,h2,hi,h=>by
  show(if x=y then ϝ os xs ys n k else decide (before x y=o.2))=_;rw[if_pos (h 0 x y (by omega) rfl rfl)];exact wK (by simpa using h1) (by simpa using h2) (by simpa using hi) λj x y hj e1 e2=>h (j+1) x y (by omega) (by simpa using e1) (by simpa using e2)
 |i+1,[],_::_,_,_,_,h1,_,_,_=>by simp at h1
 |i+1,[],[],_::_,_,_,_,h2,_,_=>by simp at h2
 |i+1,_::_,[],_,_,_,h1,_,_,_=>by simp at h1
 |i+1,_::_,_::_,[],_,_,_,h2,_,_=>by simp at h2
theorem p8{α:Type}{l:List α}{i:Nat}{x:α}(h:l[i]?=some x):l.drop i=x::l.drop (i+1):=by
 obtain⟨hi,e⟩:=aal.mp h;rw[<-e];exact List.drop_eq_getElem_cons hi
theorem Xv{i:Nat}{os:List Ord}{xs ys:List V}{n k:Int}{o:Ord}{x y:V}(h1:xs.length=os.length)(h2:ys.length=os.length)(ho:os[i]?=some o)(hx:xs[i]?=some x)(hy:ys[i]?=some y)(h:∀j x y,j<i->xs[j]?=some x->ys[j]?=some y->x=y)(Ϻ:¬x=y):ϝ os xs ys n k=decide (before x y=o.2):=by
 have hi:=(aal.mp ho).1;rw[wK h1 h2 (by omega) h,p8 ho,p8 hx,p8 hy];show(if x=y then _ else _)=_;rw[if_neg Ϻ]
theorem abJ{os:List Ord}{xs ys:List V}{n k:Int}(h1:xs.length=os.length)(h2:ys.length=os.length)(h:∀j x y,j<os.length->xs[j]?=some x->ys[j]?=some y->x=y):ϝ os xs ys n k=decide (n<k):=by
 rw[wK h1 h2 (Ϯ _) h,am3];rfl
end Vl
namespace Vl
open PySem L2 PyProof.Rows My NumText
theorem Io(m:Nat):cD (Str.ofString (toString ((m:Nat):Int))).cps.toList=true/\digitsVal (Str.ofString (toString ((m:Nat):Int))).cps.toList=m:=by
 have hd:AllDigits (Str.ofString (toString ((m:Nat):Int))).cps.toList:=vN m;have hv:digitsVal (Str.ofString (toString ((m:Nat):Int))).cps.toList=m:=by rw[qz];exact PySem.W.KIN.val_back m
 refine⟨?_,hv⟩;have Ϻ:(Str.ofString (toString ((m:Nat):Int))).cps.toList≠[]:=by rw[qz];simp[Nat.toDigits_ne_nil]
 have hall:=toDigits_all _ hd;rw[hv]at hall;have e:=qz m;generalize(Str.ofString (toString ((m:Nat):Int))).cps.toList=l at *;have hl:l.length=(anA 10 m).length:=by rw[e,ϳ]
 unfold cD;rw[al8,aa3,aa3,decide_eq_true_eq,decide_eq_true_eq,decide_eq_true_eq];cases l with
 |nil=>exact absurd rfl Ϻ
 |cons c r=>
  by_cases h0:c=48
  .subst h0;left;rw[List.dropWhile_cons,if_pos (by decide)]at hall;cases q:r.dropWhile (· ==48)with
   |nil=>
    rw[q]at hall;rw[hall]at hl;have:r=[]:=by cases r with
     |nil=>rfl
     |cons _ _=>simp at hl
    rw[this]
   |cons d t=>
    rw[q]at hall;rw[hall,ϳ, <-q]at hl;have:=(List.dropWhile_sublist (p:=λx:Nat=>x==48) (l:=r)).length_le;rw[List.length_cons]at hl;omega
  .right;refine⟨by simp,by simpa using h0,?_⟩;rw[aeE];exact λx hx=>decide_eq_true (hd x hx)
theorem U6{i:Int}(h1: -1000000000000000000<=i)(h2:i<=1000000000000000000):fH (Str.ofString (toString i)).cps.toList=some i:=by
 by_cases h0:0<=i
 .obtain⟨m,rfl⟩:=aeN h0;obtain⟨a,b⟩:=Io m;have hd:=vN m;have hn:¬(Str.ofString (toString ((m:Nat):Int))).cps.toList[0]?=some 45:=λe=>by
   have:=hd 45 (aaZ e);omega
  have e:=QC hn;unfold gO at e;rw[a,b,if_pos ⟨rfl,by omega⟩]at e;exact e
 .obtain⟨m,hm,rfl⟩:∃m:Nat,0<m/\i= -((m:Nat):Int):=⟨i.natAbs,by omega,by omega⟩;obtain⟨a,b⟩:=Io m;have hl:=pQ (m:=m) (k:=19) (by decide) (by omega);have e:(Str.ofString (toString (-((m:Nat):Int)))).cps.toList=45::(Str.ofString (toString ((m:Nat):Int))).cps.toList:=by
   rw[rR m hm,c7];have:("-":Str).cps.toList=[45]:=by decide+kernel
   rw[this];rfl
  have hz:=QW a;rw[b]at hz;rw[L2.len_list]at hl;rw[e];generalize(Str.ofString (toString ((m:Nat):Int))).cps.toList=l at a b hz hl⊢;have Ϻ:l≠[48]:=λq=>by have:=hz.mpr q;omega
  have w1:lX (45::l)=true:=by
   unfold lX;rw[if_pos (show(45::l)[0]?=some 45 from rfl)];show(decide (l≠[48])&&cD l)=true;rw[a,decide_eq_true Ϻ];rfl
  have w2:lH (45::l)= -((m:Nat):Int):=by
   unfold lH;rw[if_pos (show(45::l)[0]?=some 45 from rfl)];show -((digitsVal l:Nat):Int)=_;rw[b]
  unfold fH;rw[w1,w2,if_pos ⟨rfl,by rw[List.length_cons];omega,h1,h2⟩]
theorem yJ(i:Int):∀c∈(Str.ofString (toString i)).cps.toList,c=45\/(48<=c/\c<=57):=by
 intro c hc;by_cases h0:0<=i
 .obtain⟨m,rfl⟩:=aeN h0;exact .inr (vN m c hc)
 .obtain⟨m,hm,rfl⟩:∃m:Nat,0<m/\i= -((m:Nat):Int):=⟨i.natAbs,by omega,by omega⟩;rw[rR m hm,c7]at hc;obtain h|h:=afw.mp hc
  .left;have:("-":Str).cps.toList=[45]:=by decide+kernel
   rw[this]at h;simpa using h
  .exact .inr (vN m c h)
theorem af3{i:Int}{k:Nat}(hk:1<=k)(h:i.natAbs<10^k):(Str.ofString (toString i)).length<=k+1:=by
 by_cases h0:0<=i
 .obtain⟨m,rfl⟩:=aeN h0;have:=pQ (m:=m) (k:=k) hk (by simpa using h);omega
 .obtain⟨m,hm,rfl⟩:∃m:Nat,0<m/\i= -((m:Nat):Int):=⟨i.natAbs,by omega,by omega⟩;have:=pQ (m:=m) (k:=k) hk (by simpa using h);have e:("-":Str).length=1:=by decide+kernel
  rw[rR m hm,len_app,e];omega
theorem Ed:("?":Str).cps.toList=[63]:=by decide+kernel
theorem sS:("'":Str).cps.toList=[39]:=by decide+kernel
theorem agd{i:Int}(h1: -1000000000000000000<=i)(h2:i<=1000000000000000000):cR "number" (wordOf (.int i))=some (.int i):=by
 have hn:¬wordOf (.int i)="?":=λe=>by
  have h:63∈(Str.ofString (toString i)).cps.toList:=by
   have e':Str.ofString (toString i)=Str.ofString "?":=e;rw[e',Ed];simp
  have:=yJ i 63 h;omega
 unfold cR;rw[if_neg hn,if_pos rfl];show vz (fH (Str.ofString (toString i)).cps.toList)=_;rw[U6 h1 h2];rfl
theorem af7{z:Str}(hl:z.length<=20)(h:∀c∈z.cps.toList,c∈SG):fV (.str z)=true:=by
 show(decide (z.length<=20)&&dC z pq)=true;rw[decide_eq_true hl,alA];unfold dC;rw[aeE];exact λc hc=>decide_eq_true (wW c (h c hc))
theorem U3(z:Str):ϐ (Str.ofString "'"++z) (some 1) none=z:=by
 apply iw;have:=yo (Str.ofString "'"++z) 1;rw[show((1:Nat):Int)=1 from rfl]at this;rw[this,c7,sS];rfl
theorem VF:¬(("text":Str)="number"):=by decide+kernel
theorem Zd{z:Str}(hl:z.length<=20)(h:∀c∈z.cps.toList,c∈SG):cR "text" (wordOf (.str z))=some (.str z):=by
 have e:wordOf (.str z)=Str.ofString "'"++z:=rfl;have h0:(Str.ofString "'"++z).cps.toList[0]?=some 39:=by rw[c7,sS];rfl
 have hn:¬Str.ofString "'"++z="?":=λe=>by
  have e':Str.ofString "'"++z=Str.ofString "?":=e;rw[e',Ed]at h0;simp at h0
 rw[e];unfold cR;rw[if_neg hn,if_neg VF];unfold iI;rw[U3,if_pos ⟨h0,af7 hl h⟩];rfl
theorem Q3{ps:List Str}(h:ps≠[])(hf:∀p∈ps,32∉p.cps.toList):Ϝ 32 (Str.join " " ps)=ps:=by
 unfold Ϝ;have e:(Str.join " " ps).cps.toList=jB 32 (ps.map λp=>p.cps.toList):=vI 32 ps;rw[e,Ay (by simpa using h) λp hp=>?_,ahl]
 .have :((λl:List Nat=>(⟨l.toArray⟩:Str))∘λp:Str=>p.cps.toList)=id:=by
   funext p;rfl
  rw[this,anf]
 .obtain⟨q,hq,rfl⟩:=acR.mp hp;exact hf q hq
end Vl
namespace L2
open PySem PySem.Spec PyProof.Rows PySem.W
section
variable{X:Cx}{σ:St}{H:Hp}{Q:VK}{a:δ}
def fW{α:Type}(xs:List α)(k:Nat)(y:α):List α:=xs.take k++y::xs.drop k
def Yw:V->List V->Hp->VK->Prop:=λx vs H Q=>∃l xs k y,x=.ref l/\vs=[.int (k:Nat),y]/\H l=some (.lst xs)/\k<=xs.length/\xs.length<Ϫ/\Q .non (upd H l (.lst (fW xs k y)))
theorem R4:Mv X "list.insert" Yw:=by
 intro ϵ s σ H x vs v us Q I rx rv h;obtain⟨l,xs,k,y,rfl,rfl,hH,hk,hz,q⟩:=h;cases rx;obtain⟨u0,u,rfl,YT,ru⟩:=rv.two;obtain⟨t,rfl⟩:=YT;have hsz:=ϲ;obtain⟨z,ϸ,n,r,hl,e⟩:=I.lstM hH;obtain⟨i,hi⟩:∃i:Int,i=(k:Int):=⟨_,rfl⟩;rw[<-hi];have hf:Builtin.List.listFitsIndex i=true:=fitsIndex_both (by omega) (by omega);have hm:=PySem.AutoSeq1.list_insert_list_int_val_1 l ϸ.toArray n i t u (by rw[hf];decide) (by rw[aaB];omega);refine alN F.slot_list_insert ⟨_,e,rfl⟩ F.entry_list_insert (F.args_list_insert_3 (.ref l) (.int i t) u) hm ⟨e,?_⟩;refine⟨.non,_,I.lset (its':=fW ϸ k u) hH e ?_ ((r.take k).append (.cons ru (r.drop k))) ?_,rfl,q⟩
 .show(ϸ.toArray.extract 0 (if i<0 then(i+(ϸ.toArray.size:Int)).toNat else min i.toNat ϸ.toArray.size)).push u++ϸ.toArray.extract (if i<0 then(i+(ϸ.toArray.size:Int)).toNat else min i.toNat ϸ.toArray.size)=(fW ϸ k u).toArray;rw[if_neg (by omega),hi,alW,aaB,ai2 (by omega)];unfold fW;apply am4.mp;simp;rw[agI (by rw[agL];omega)]
 .rw[abo,List.length_cons,agW,agL];omega
theorem ahY{h:ϫ}{d b:δ}{vs:List ε}{out:Array ε}(Ϻ:b≠d){o:Obj}(e:h.get? b=some o):(sortedHeap h d vs out).get? b=some o:=by
 unfold sortedHeap;rw[aci _ _ (Ne.symm Ϻ)];exact Heap.get?_push_of_some _ (Heap.get?_push_of_some _ ((aci _ _ (Ne.symm Ϻ)).trans e))
theorem aba{h:ϫ}{d:δ}{us vs:List ε}{out:Array ε}{n:Nat}(e:h.get? d=some (seqObj "list" us.toArray n)):∃c,(sortedHeap h d vs out).get? d=some (seqObj "list" out c):=by
 unfold sortedHeap;have h1:=get?_update_seq e (λ_=>(#[]:Array ε));have h2:=Heap.get?_push_of_some (seqObj "tuple" vs.toArray 0) h1;have h3:=Heap.get?_push_of_some (seqObj "list" #[] 0) h2;exact⟨_,get?_update_seq h3 (λ_=>out)⟩
theorem afZ{vs:List ε}{ns:List Int}(h:IntsAre vs ns):Vals (ns.map V.int) vs:=by
 induction h with
 |nil=>exact .nil
 |cons n t _ ih=>exact .cons ⟨t,rfl⟩ ih
theorem aew{ks:List Int}:∀{vs:List ε},vs.length=ks.length->(∀(j:Nat) v,vs[j]?=some v->∃i t,ks[j]?=some i/\v=Value.int i t)->IntsAre vs ks:=by
 induction ks with
 |nil=>intro vs h _;have:vs=[]:=by simpa using h
       subst this;exact .nil
 |cons k ks ih=>
  intro vs h g;cases vs with
  |nil=>simp at h
  |cons v vs=>
   obtain⟨i,t,e,rfl⟩:=g 0 v rfl;have:k=i:=by simpa using e
   subst this;exact .cons k t (ih (by simpa using h) λj v e=>by simpa using g (j+1) v (by simpa using e))
theorem ac7{prog:ϯ}{w:ϭ}{A:ϰ}{E:ε->μ->Prop}{s:μ}{ty:String}{q d:δ}{n:Nat}{Pi:Nat->ε->Prop}{Ok:ϫ->Prop}{R:List ε->μ->Prop}(kd:KdlSrc prog w ty q d n Pi Ok)(h0:A.handled=none)(ho:Ok s.heap)(hz:n<=Ϫ)(g:∀(h2:ϫ)(k:Nat)(xs:Array ε),s.heap.objs.size<h2.objs.size->(∀b o,s.heap.get? b=some o->h2.get? b=some o)->ItemsOf Pi xs n->R xs.toList {s with heap:=h2,toks:=k}):ν (Ϧ prog w) A (collect (.ref q)) R E s:=by
 obtain⟨t1,t2⟩:=kd.there _ ho;let N:δ:=s.heap.objs.size;let Rz:Result->μ->Prop:=λr s2=>∃(h2:ϫ)(k:Nat)(xs:Array ε)(c:Nat),r=.ok (.ret (.ref N))/\s2={s with heap:=h2,toks:=k}/\(∀b o,s.heap.get? b=some o->h2.get? b=some o)/\h2.get? N=some {cls:=.type "list",dict:=none,data:=.seq xs c,slots:= #[]}/\ItemsOf Pi xs n
 have fin:∀s2:μ,Rz (.ok (.ret (.ref N))) s2->ν (Ϧ prog w) A (do
   let o<-load N
   match o.data with
   |.seq xs _=>pure xs.toList
   |_=>unsupported "internal:collect") R E s2:=by
  rintro s2 ⟨h2,k,xs,c, -,rfl,hk,hN,hI⟩
  exact ϩ (wpAny_load hN (ϱ (g h2 k xs (abe hN) hk hI)))
 have hn:(s.heap.push {cls:=.type "list",data:=.seq ([]:List ε).toArray}).get? N=some {cls:=.type "list",data:=.seq #[]}:=abq _ rfl;have ho2:Ok (s.heap.push {cls:=.type "list",data:=.seq ([]:List ε).toArray}):=kd.keep _ _ ho λ_ _ _ e=>Heap.get?_push_of_some _ e
 have run:=kdl_extend (A:=A) (s:={s with heap:=s.heap.push {cls:=.type "list",data:=.seq ([]:List ε).toArray}}) (R:=Rz) kd h0 ho2 N (amA t1) (amA t2) (.ref N) 0 hn
  (λh2 k xs c hk hN hI=>⟨h2,k,xs,c,rfl,rfl,λb o e=>hk b o (ab6 (abe e)) (Heap.get?_push_of_some _ e),hN,hI⟩) hz
 unfold collect;refine ϩ (wpAny_runValue (alH entry_proto_collect' ?_));rw[Around.under_plainId F.plain_proto_collect];refine ϩ (m:=newList []) (alU (ϱ ⟨plainId_quiet F.plain_list_iadd _,alH entry_list_iadd' ?_⟩));rw[Around.under_plainId F.plain_list_iadd];refine adm (t:=Builtin.List.listExtendWith (.ref N) (.ref q) (.ref N)) run (λr s2 hr=>?_) λe s2 hr=>?_
 .cases r with
  |done f=>
   obtain⟨h2,k,xs,c,e,rest⟩:=id hr;cases e;exact fin s2 hr
  |again c=>
   refine⟨hr.1,aiT hr.2 λr2 s3 h3=>?_⟩;obtain⟨h2,k,xs,c2,e,rest⟩:=id h3;subst e;exact fin s3 h3
 .obtain⟨_,_,_,_,e2,_⟩:=hr;cases e2
theorem Bl{Ϸ:List (Key×V)}{ks:List Int}(hc:X.calm=true)(e:H a=some (.dK Ϸ))(hk:Ϸ.map (·.1)=ks.map Sum.inl)(h64:ks.length<64)(g:∀(p:δ)(ks':List Int),H p=none->ks'.Perm ks->ks'.Pairwise (· <= ·)->Q (.ref p) (upd H p (.lst (ks'.map V.int)))):CL X (.builtin "sorted") [.ref a] H Q:=by
 refine cX (r:=λxs H Q=>∃(a:δ)(Ϸ:List (Key×V))(ks:List Int),xs=[.ref a]/\H a=some (.dK Ϸ)/\Ϸ.map (·.1)=ks.map Sum.inl/\ks.length<64/\∀(p:δ)(ks':List Int),H p=none->ks'.Perm ks->ks'.Pairwise (· <= ·)->Q (.ref p) (upd H p (.lst (ks'.map V.int)))) ?_ ⟨a,Ϸ,ks,rfl,e,hk,h64,g⟩;intro ϵ s σ H xs us Q I r h;obtain⟨a,Ϸ,ks,rfl,e,hk,h64,g⟩:=h;obtain⟨u,rfl,ru⟩:=vals1 r;cases ru;have hsz:=ϲ;obtain⟨z,lo,vs,tY,hd⟩:=wz I.hok e;obtain⟨ep,hm⟩:=hd.dictAt;have hkl:Ϸ.length=ks.length:=by have:=congrArg amo hk;simpa using this
 have hvl:=tY.length;have hvk:vs.map (·.1)=ks.map Sum.inl:=by rw[<-tY.keys];exact hk
 refine Calls.call_function_entry kind_sorted plain_sorted entry_sorted (args_sorted1 _) ?_;unfold Builtin.«sorted»;refine ϩ (m:=checkCount "sorted" 1 1 _) (ϱ ?_);refine ϩ (ac7 (A:=X.A.in1) (kdl_dict lo) (I.ok.hd hc) hm (by omega) λh' tk acc hgr hkeep hacc=>?_);have hal:acc.toList.length=vs.length:=by rw[akl];exact hacc.1
 have hI:IntsAre acc.toList ks:=by
  refine aew (by omega) λj v ev=>?_
  obtain⟨k,x,e1,e2⟩:=hacc.2 j v (by rw[<-amE];exact ev);have e3:(vs.map (·.1))[j]?=some k:=by rw[aca,e1];rfl
  rw[hvk,aca]at e3;cases e4:ks[j]? with
  |none=>rw[e4]at e3;cases e3
  |some i=>
   rw[e4]at e3;have e5:Sum.inl i=k:=by simpa using e3
   obtain⟨i',t,e6,rfl⟩|⟨y,t,e6,_⟩:=gw (k:=k) (v:=v) e2
   .rw[e6]at e5;cases e5;exact⟨i,t,rfl,rfl⟩
   .rw[e6]at e5;cases e5
 refine ϩ (wpAny_newList ?_ (by omega));have hoL:(h'.push (seqObj "list" acc.toList.toArray 0)).get? h'.objs.size=some (seqObj "list" acc.toList.toArray 0):=abq _ rfl;have hle:s.heap.objs.size<=h'.objs.size:=al3 hgr;refine ϩ (ag0 (wpAny_call_entry slot_list_sort ⟨_,hoL,rfl⟩ entry_list_sort (list_sort_tree hoL hI (by omega) λout ns' a1 a2 a3=>⟨_,rfl,?_⟩) (args_list_sort _)));refine ϱ ⟨_,rfl,?_⟩;obtain⟨c,hc'⟩:=aba (vs:=acc.toList) (out:=out) hoL;refine⟨.ref h'.objs.size,_,I.laid (t':=tk) (o:=.lst (ns'.map V.int)) (λb o eb=>ahY (ab6 (abu (abe eb) hle)) (Heap.get?_push_of_some _ (hkeep _ _ eb))) hle ⟨by rw[ϳ,a2.length_eq];omega,out.toList,c,afZ a1,by simpa using hc'⟩,rfl,g _ ns' (I.hok.fresh hle) a2 a3⟩
theorem xg{y v:V}(hu:X.A.units+1<cLine)(g:ao H a y (some v))(q:Q v H):IX X (.ref a) y H Q:=by
 refine tE (r:=λx y H Q=>∃a v,x=.ref a/\ao H a y (some v)/\Q v H) ?_ ⟨a,v,rfl,g,q⟩;intro value slice ϵ s σ H x y w u Q I rx ry h hs;obtain⟨a,v,rfl,g,q⟩:=h;obtain rfl:w=Value.ref a:=rx;have ty:=aaX I g;have run:ν (Ϧ X.prog X.w) X.A (subscripted slice false (Value.ref a) u) (λr s2=>ν (Ϧ X.prog X.w) X.A (letTemporaryGo value (Value.ref a) r>>=λ_=>pure r) (EP X ϵ σ Q) X.xe s2) X.xe s:=by
  rw[hs];exact wpAny_operating (aga hu I g ry λr s2 I2 rr=>ϩ (wpAny_letTemporaryGo (ϱ ⟨v,H,I2,rr,q⟩)))
 unfold subscriptTail;refine ϩ ?_;rw[getitemInPython_of_ne ty.not_modules];refine ϩ (wpAny_specialOf ty F.slot_dict_getitem.lookup ?_)
 first
  |exact ϱ (ϩ run)
  |exact ϩ (ϱ (ϩ run))
  |exact ϩ run
end
end L2
namespace Vl
open PySem L2 PyProof.Rows My
section
variable{α β:Type}
def ύ(m:List (Int×α))(i:Int):Option α:=(m.find? λp=>decide (p.1=i)).map (·.2)
def bA(m:List (Int×α))(i:Int)(x:α):List (Int×α):=if(m.any λp=>decide (p.1=i))=true then m.map (λp=>if p.1=i then(p.1,x)else p)else m++[(i,x)]
def bZ(m:List (Int×α))(i:Int):List (Int×α):=m.filter λp=>decide (p.1≠i)
abbrev PR(R:V->α->Prop)(kv:Key×V)(p:Int×α):Prop:=kv.1=Sum.inl p.1/\R kv.2 p.2
def DictAt(R:V->α->Prop)(H:Hp)(a:δ)(m:List (Int×α)):=∃Ϸ,H a=some (.dK Ϸ)/\ψ (PR R) Ϸ m
theorem Oo(i j:Int):decide ((Sum.inl i:Key)=Sum.inl j)=decide (i=j):=by
 by_cases h:i=j
 .subst h;simp
 .have :¬(Sum.inl i:Key)=Sum.inl j:=λe=>h (Sum.inl.inj e)
  rw[decide_eq_false this,decide_eq_false h]
theorem yq{R:V->α->Prop}{Ϸ:List (Key×V)}{m:List (Int×α)}(h:ψ (PR R) Ϸ m):Ϸ.map (·.1)=(m.map (·.1)).map Sum.inl:=by
 induction h with
 |nil=>rfl
 |cons h _ ih=>rw[List.map_cons,List.map_cons,List.map_cons,ih,h.1]
theorem iQ{R:V->α->Prop}{Ϸ:List (Key×V)}{m:List (Int×α)}(h:ψ (PR R) Ϸ m)(i:Int):(ϟ Ϸ (Sum.inl i)=none/\ύ m i=none)\/∃v x,ϟ Ϸ (Sum.inl i)=some v/\ύ m i=some x/\R v x:=by
 induction h with
 |nil=>exact .inl ⟨rfl,rfl⟩
 | @cons kv p l m h _ ih=>
   obtain⟨k,v⟩:=kv;obtain⟨j,x⟩:=p;obtain⟨hk,hr⟩:=h;have hk':k=Sum.inl j:=hk;subst hk';unfold ϟ ύ at ih⊢;rw[List.find?_cons,List.find?_cons];show((match decide ((Sum.inl j:Key)=Sum.inl i)with|true=>_|false=>_:Option (Key×V)).map _=_/\_)\/_;rw[Oo];by_cases e:j=i
   .rw[decide_eq_true e];exact .inr ⟨v,x,rfl,rfl,hr⟩
   .rw[decide_eq_false e];exact ih
theorem RM{R:V->α->Prop}{Ϸ:List (Key×V)}{m:List (Int×α)}(h:ψ (PR R) Ϸ m)(i:Int):(Ϸ.any λkv=>decide (kv.1=Sum.inl i))=m.any λp=>decide (p.1=i):=by
 induction h with
 |nil=>rfl
 | @cons kv p l m h _ ih=>rw[List.any_cons,List.any_cons,ih,h.1,Oo]
theorem xZ{R:V->α->Prop}{Ϸ:List (Key×V)}{m:List (Int×α)}(h:ψ (PR R) Ϸ m)(i:Int){v:V}{x:α}(r:R v x):ψ (PR R) (putK Ϸ (Sum.inl i) v) (bA m i x):=by
 unfold putK bA;rw[RM h i];by_cases e:(m.any λp=>decide (p.1=i))=true
 .rw[if_pos e,if_pos e];clear e;induction h with
  |nil=>exact .nil
  | @cons kv p l m h _ ih=>
    refine .cons ?_ ih;obtain⟨hk,hr⟩:=h;show PR R (if kv.1=Sum.inl i then(kv.1,v)else kv) (if p.1=i then(p.1,x)else p);by_cases e:p.1=i
    .rw[if_pos e,if_pos (by rw[hk,e])];exact⟨hk,r⟩
    .rw[if_neg e,if_neg (by rw[hk];exact λz=>e (Sum.inl.inj z))];exact⟨hk,hr⟩
 .rw[if_neg e,if_neg e];exact ψ.app h (.cons ⟨rfl,r⟩ .nil)
theorem BR{R:V->α->Prop}{Ϸ:List (Key×V)}{m:List (Int×α)}(h:ψ (PR R) Ϸ m)(i:Int):ψ (PR R) (dN Ϸ (Sum.inl i)) (bZ m i):=by
 unfold dN bZ;induction h with
 |nil=>exact .nil
 | @cons kv p l m h _ ih=>
   obtain⟨hk,hr⟩:=h;rw[List.filter_cons,List.filter_cons];by_cases e:p.1=i
   .rw[if_neg (by rw[hk,e];simp),if_neg (by rw[e];simp)];exact ih
   .rw[if_pos (by rw[hk];simp[e]),if_pos (by simp[e])];exact .cons ⟨hk,hr⟩ ih
theorem gh{R S:V->α->Prop}{Ϸ:List (Key×V)}{m:List (Int×α)}(h:ψ (PR R) Ϸ m)(f:∀v x,R v x->S v x):ψ (PR S) Ϸ m:=ψ.imp (λ_ _ h=>⟨h.1,f _ _ h.2⟩) h
theorem Ol{m:List (Int×α)}{i j:Int}{x:α}:ύ (bA m i x) j=if j=i then some x else ύ m j:=by
 unfold ύ bA;induction m with
 |nil=>
  rw[List.any_nil,if_neg (by decide),amF,List.find?_cons];by_cases e:j=i
  .subst e;simp
  .have e':¬i=j:=λz=>e z.symm
   simp[e,e']
 |cons p r ih=>
  obtain⟨k,y⟩:=p;rw[List.any_cons];by_cases hk:k=i
  .subst hk;simp only[decide_true,anz,if_true,List.map_cons,List.find?_cons];by_cases e:j=k
   .subst e;simp
   .have e':¬k=j:=λz=>e z.symm
    simp only[e,e',decide_false,if_false];clear ih
    congr 1
    induction r with
    |nil=>rfl
    |cons q r ih2=>
     obtain⟨k2,y2⟩:=q;rw[List.map_cons,List.find?_cons,List.find?_cons,ih2];by_cases h2:k2=k
     .subst h2;simp[e']
     .simp[h2]
  .simp only[hk,decide_false,amr];by_cases ha:(r.any λp=>decide (p.1=i))=true
   .rw[if_pos ha]at ih⊢;rw[List.map_cons,if_neg hk,List.find?_cons,List.find?_cons];by_cases e:k=j
    .subst e;simp[hk]
    .simp only[e,decide_false];exact ih
   .rw[if_neg ha]at ih⊢;rw[am5,List.find?_cons,List.find?_cons];by_cases e:k=j
    .subst e;simp[hk]
    .simp only[e,decide_false];exact ih
theorem Fz{m:List (Int×α)}{i j:Int}:ύ (bZ m i) j=if j=i then none else ύ m j:=by
 unfold ύ bZ;induction m with
 |nil=>simp
 |cons p r ih=>
  obtain⟨k,y⟩:=p;rw[List.filter_cons];by_cases hk:k=i
  .subst hk;simp only[ne_eq,not_true,decide_false,alS,if_false,List.find?_cons];rw[ih];by_cases e:j=k
   .subst e;simp
   .have e':¬k=j:=λz=>e z.symm
    simp[e,e']
  .simp only[ne_eq,hk,not_false_eq_true,decide_true,if_true,List.find?_cons];by_cases e:k=j
   .subst e;simp[hk]
   .simp only[e,decide_false];exact ih
theorem ad0{m:List (Int×α)}{i:Int}{x:α}(h:(m.map (·.1)).Nodup):((bA m i x).map (·.1)).Nodup:=by
 unfold bA;by_cases ha:(m.any λp=>decide (p.1=i))=true
 .rw[if_pos ha];have:(m.map λp=>if p.1=i then(p.1,x)else p).map (·.1)=m.map (·.1):=by
   rw[ahl];refine alM λp _=>?_
   show(if p.1=i then(p.1,x)else p).1=p.1;split <;>rfl
  rw[this];exact h
 .rw[if_neg ha,aln];refine aki.mpr ⟨h,by simp,λa h1 b h2 e=>ha ?_⟩;have h2':b=i:=by simpa using h2
  subst e;subst h2';obtain⟨p,hp,e⟩:=acR.mp h1;exact alG.mpr ⟨p,hp,decide_eq_true e⟩
theorem ahU{m:List (Int×α)}{i:Int}(h:(m.map (·.1)).Nodup):((bZ m i).map (·.1)).Nodup:=h.sublist (List.Sublist.map _ aja)
theorem abh{m:List (Int×α)}{i:Int}{x:α}(h:ύ m i=some x):(i,x)∈m:=by
 unfold ύ at h;cases e:m.find? λp=>decide (p.1=i)with
 |none=>rw[e]at h;cases h
 |some p=>
  rw[e]at h;have h1:=List.find?_some e;have h2:=List.mem_of_find?_eq_some e;obtain⟨k,y⟩:=p;have e1:k=i:=of_decide_eq_true h1;have e2:y=x:=by simpa using h
  subst e1;subst e2;exact h2
theorem J7{m:List (Int×α)}{i:Int}:ύ m i=none↔i∉m.map (·.1):=by
 unfold ύ;rw[Option.map_eq_none_iff,List.find?_eq_none];constructor
 .intro h hm;obtain⟨p,hp,e⟩:=acR.mp hm;exact h p hp (decide_eq_true e)
 .intro h p hp e;exact h (acR.mpr ⟨p,hp,of_decide_eq_true e⟩)
def Out(S:List δ)(H H':Hp):=∀b o,b∉S->H b=some o->H' b=some o
theorem Out.refl(S:List δ)(H:Hp):Out S H H:=λ_ _ _ h=>h
theorem Out.trans{S:List δ}{H H1 H2:Hp}(a:Out S H H1)(b:Out S H1 H2):Out S H H2:=λc o hc h=>b c o hc (a c o hc h)
theorem Out.of{S:List δ}{H H':Hp}(h:ζ H H'):Out S H H':=λb o _ e=>h b o e
theorem Out.upd{S:List δ}{H:Hp}{a:δ}{o:HO}(h:a∈S):Out S H (upd H a o):=λb u hb e=>by
 rw[ι (λz=>hb (by rw[z];exact h))];exact e
theorem Out.mono{S T:List δ}{H H':Hp}(h:Out S H H')(s:∀x∈S,x∈T):Out T H H':=λb o hb e=>h b o (λz=>hb (s b z)) e
def TupAt(H:Hp)(v:V)(xs:List V):=∃t,v=.ref t/\H t=some (.tup xs)
def jQ(H:Hp)(v:V):Option (List V)->Prop
 |none=>v=.non
 |some xs=>TupAt H v xs
structure vH where
 at_:Int
 row:Int
 was:Option (List V)
 is:Option (List V)
def mX(H:Hp)(v:V)(d:vH):=∃t w u,v=.ref t/\H t=some (.tup [.int d.at_,.int d.row,w,u])/\jQ H w d.was/\jQ H u d.is
structure Bk where
 heads:List χ
 rows:List (Int×List V)
 touched:List (Int×Int)
 done:List vH
 known:Int
 now:Int
structure BA where
 b:δ
 dx:δ
 h:δ
 r:δ
 t:δ
 d:δ
def Qy(v:V)(i:Int):Prop:=v=.int i
structure Ο(C:δ)(H:Hp)(A:BA)(B:Bk):Prop where
 ins:H A.b=some (.ins C A.dx [("heads",.ref A.h),("rows",.ref A.r),("touched",.ref A.t),("done",.ref A.d),("known",.int B.known),("now",.int B.now)])
 own:H A.dx=some (.own A.b)
 heads:aK H A.h B.heads
 rows:DictAt (TupAt H) H A.r B.rows
 touched:DictAt Qy H A.t B.touched
 done:∃xs,H A.d=some (.lst xs)/\ψ (mX H) xs B.done
 rt:A.r≠A.t
 hd:A.h≠A.d
def BA.fp(A:BA):List δ:=[A.b,A.r,A.t,A.d]
theorem TupAt.stay{H H':Hp}{v:V}{xs:List V}(h:TupAt H v xs)(s:∀b ys,H b=some (.tup ys)->H' b=some (.tup ys)):TupAt H' v xs:=by
 obtain⟨t,e,h⟩:=h;exact⟨t,e,s _ _ h⟩
theorem jQ.stay{H H':Hp}{v:V}{o:Option (List V)}(h:jQ H v o)(s:∀b ys,H b=some (.tup ys)->H' b=some (.tup ys)):jQ H' v o:=by
 cases o with
 |none=>exact h
 |some xs=>exact TupAt.stay h s
theorem mX.stay{H H':Hp}{v:V}{d:vH}(h:mX H v d)(s:∀b ys,H b=some (.tup ys)->H' b=some (.tup ys)):mX H' v d:=by
 obtain⟨t,w,u,e,h1,h2,h3⟩:=h;exact⟨t,w,u,e,s _ _ h1,h2.stay s,h3.stay s⟩
theorem aK.stay{H H':Hp}{a:δ}{cs:List χ}(h:aK H a cs)(h1:∀xs,H a=some (.lst xs)->H' a=some (.lst xs))(s:∀b ys,H b=some (.tup ys)->H' b=some (.tup ys)):aK H' a cs:=by
 obtain⟨vs,e,h2⟩:=h;exact⟨vs,h1 _ e,ψ.imp (λv c ⟨t,e,h⟩=>⟨t,e,s _ _ h⟩) h2⟩
theorem Ο.stay{C:δ}{H H':Hp}{A:BA}{B:Bk}(k:Ο C H A B)(s:∀b ys,H b=some (.tup ys)->H' b=some (.tup ys))(f:∀x o,x∈[A.b,A.dx,A.h,A.r,A.t,A.d]->H x=some o->H' x=some o):Ο C H' A B where
 ins:=f _ _ (by simp) k.ins
 own:=f _ _ (by simp) k.own
 heads:=k.heads.stay (λxs e=>f _ _ (by simp) e) s
 rows:=by
  obtain⟨Ϸ,e,h⟩:=k.rows;exact⟨Ϸ,f _ _ (by simp) e,gh h λv x h=>h.stay s⟩
 touched:=by
  obtain⟨Ϸ,e,h⟩:=k.touched;exact⟨Ϸ,f _ _ (by simp) e,h⟩
 done:=by
  obtain⟨xs,e,h⟩:=k.done;exact⟨xs,f _ _ (by simp) e,ψ.imp (λv d h=>h.stay s) h⟩
 rt:=k.rt
 hd:=k.hd
theorem Ο.same{C:δ}{H H':Hp}{A:BA}{B:Bk}(k:Ο C H A B)(s:ζ H H'):Ο C H' A B:=k.stay (λ_ _ e=>s _ _ e) λ_ _ _ e=>s _ _ e
section
variable{C:δ}{H H':Hp}{A:BA}{B:Bk}
theorem Ο.JM(k:Ο C H A B){b:δ}(hb:b∈A.fp):(∃fs,H b=some (.ins C A.dx fs))\/(∃Ϸ,H b=some (.dK Ϸ))\/∃xs,H b=some (.lst xs):=by
 have hb':b=A.b\/b=A.r\/b=A.t\/b=A.d:=by simpa [BA.fp]using hb
 obtain rfl|rfl|rfl|rfl:=hb'
 .exact .inl ⟨_,k.ins⟩
 .obtain⟨Ϸ,e,_⟩:=k.rows;exact .inr (.inl ⟨_,e⟩)
 .obtain⟨Ϸ,e,_⟩:=k.touched;exact .inr (.inl ⟨_,e⟩)
 .obtain⟨xs,e,_⟩:=k.done;exact .inr (.inr ⟨_,e⟩)
theorem Ο.tup(k:Ο C H A B)(o:Out A.fp H H'):∀b ys,H b=some (.tup ys)->H' b=some (.tup ys):=λb ys e=>o b _ (λhb=>by
 obtain⟨fs,z⟩|⟨Ϸ,z⟩|⟨xs,z⟩:=k.JM hb<;>rw[e]at z<;>cases z) e
theorem Ο.ne(k:Ο C H A B):A.b≠A.dx/\A.b≠A.h/\A.b≠A.r/\A.b≠A.t/\A.b≠A.d/\A.r≠A.dx/\A.r≠A.h/\A.r≠A.d/\A.t≠A.dx/\A.t≠A.h/\A.t≠A.d/\A.d≠A.dx:=by
 have h1:=k.ins;have h2:=k.own;obtain⟨_,h3,_⟩:=k.heads;obtain⟨_,h4,_⟩:=k.rows;obtain⟨_,h5,_⟩:=k.touched;obtain⟨_,h6,_⟩:=k.done;refine⟨?_,?_,?_,?_,?_,?_,?_,?_,?_,?_,?_,?_⟩<;>intro e
 .rw[e,h2]at h1;cases h1
 .rw[e,h3]at h1;cases h1
 .rw[e,h4]at h1;cases h1
 .rw[e,h5]at h1;cases h1
 .rw[e,h6]at h1;cases h1
 .rw[e,h2]at h4;cases h4
 .rw[e,h3]at h4;cases h4
 .rw[e,h6]at h4;cases h4
 .rw[e,h2]at h5;cases h5
 .rw[e,h3]at h5;cases h5
 .rw[e,h6]at h5;cases h5
 .rw[e,h2]at h6;cases h6
theorem Ο.acG(k:Ο C H A B)(kn nw:Int):Ο C (upd H A.b (.ins C A.dx [("heads",.ref A.h),("rows",.ref A.r),("touched",.ref A.t),("done",.ref A.d),("known",.int kn),("now",.int nw)])) A {B with known:=kn,now:=nw}:=by
 obtain⟨n1,n2,n3,n4,n5,_⟩:=k.ne;have st:∀b ys,H b=some (.tup ys)->(upd H A.b (.ins C A.dx [("heads",.ref A.h),("rows",.ref A.r),("touched",.ref A.t),("done",.ref A.d),("known",.int kn),("now",.int nw)])) b=some (.tup ys):=k.tup (Out.upd (by simp[BA.fp]));refine⟨υ,?_,k.heads.stay (λxs e=>?_) st,?_,?_,?_,k.rt,k.hd⟩
 .rw[ι (Ne.symm n1)];exact k.own
 .rw[ι (Ne.symm n2)];exact e
 .obtain⟨Ϸ,e,h⟩:=k.rows;exact⟨Ϸ,by rw[ι (Ne.symm n3)];exact e,gh h λv x h=>h.stay st⟩
 .obtain⟨Ϸ,e,h⟩:=k.touched;exact⟨Ϸ,by rw[ι (Ne.symm n4)];exact e,h⟩
 .obtain⟨xs,e,h⟩:=k.done;exact⟨xs,by rw[ι (Ne.symm n5)];exact e,ψ.imp (λv d h=>h.stay st) h⟩
theorem Ο.oZ{Ϸ:List (Key×V)}{m:List (Int×List V)}(k:Ο C H A B)(h:ψ (PR (TupAt H)) Ϸ m):Ο C (upd H A.r (.dK Ϸ)) A {B with rows:=m}:=by
 obtain⟨n1,n2,n3,n4,n5,n6,n7,n8,_⟩:=k.ne;have st:∀b ys,H b=some (.tup ys)->(upd H A.r (.dK Ϸ)) b=some (.tup ys):=k.tup (Out.upd (by simp[BA.fp]));refine⟨?_,?_,k.heads.stay (λxs e=>?_) st,⟨Ϸ,υ,gh h λv x h=>h.stay st⟩,?_,?_,k.rt,k.hd⟩
 .rw[ι n3];exact k.ins
 .rw[ι (Ne.symm n6)];exact k.own
 .rw[ι (Ne.symm n7)];exact e
 .obtain⟨Ϸ,e,h⟩:=k.touched;exact⟨Ϸ,by rw[ι (Ne.symm k.rt)];exact e,h⟩
 .obtain⟨xs,e,h⟩:=k.done;exact⟨xs,by rw[ι (Ne.symm n8)];exact e,ψ.imp (λv d h=>h.stay st) h⟩
theorem Ο.PB{Ϸ:List (Key×V)}{m:List (Int×Int)}(k:Ο C H A B)(h:ψ (PR Qy) Ϸ m):Ο C (upd H A.t (.dK Ϸ)) A {B with touched:=m}:=by
 obtain⟨n1,n2,n3,n4,n5,n6,n7,n8,n9,n10,yM,_⟩:=k.ne;have st:∀b ys,H b=some (.tup ys)->(upd H A.t (.dK Ϸ)) b=some (.tup ys):=k.tup (Out.upd (by simp[BA.fp]));refine⟨?_,?_,k.heads.stay (λxs e=>?_) st,?_,⟨Ϸ,υ,h⟩,?_,k.rt,k.hd⟩
 .rw[ι n4];exact k.ins
 .rw[ι (Ne.symm n9)];exact k.own
 .rw[ι (Ne.symm n10)];exact e
 .obtain⟨Ϸ,e,h⟩:=k.rows;exact⟨Ϸ,by rw[ι k.rt];exact e,gh h λv x h=>h.stay st⟩
 .obtain⟨xs,e,h⟩:=k.done;exact⟨xs,by rw[ι (Ne.symm yM)];exact e,ψ.imp (λv d h=>h.stay st) h⟩
theorem Ο.VM{xs:List V}{ds:List vH}(k:Ο C H A B)(h:ψ (mX H) xs ds):Ο C (upd H A.d (.lst xs)) A {B with done:=ds}:=by
 obtain⟨n1,n2,n3,n4,n5,n6,n7,n8,n9,n10,yM,n12⟩:=k.ne;have st:∀b ys,H b=some (.tup ys)->(upd H A.d (.lst xs)) b=some (.tup ys):=k.tup (Out.upd (by simp[BA.fp]));refine⟨?_,?_,k.heads.stay (λxs e=>?_) st,?_,?_,⟨xs,υ,ψ.imp (λv d h=>h.stay st) h⟩,k.rt,k.hd⟩
 .rw[ι n5];exact k.ins
 .rw[ι (Ne.symm n12)];exact k.own
 .rw[ι k.hd];exact e
 .obtain⟨Ϸ,e,h⟩:=k.rows;exact⟨Ϸ,by rw[ι n8];exact e,gh h λv x h=>h.stay st⟩
 .obtain⟨Ϸ,e,h⟩:=k.touched;exact⟨Ϸ,by rw[ι yM];exact e,h⟩
end
end
end Vl
namespace L2
open PySem PySem.Spec PyProof.Rows PySem.W
section
variable{prog:ϯ}{w:ϭ}{A:ϰ}{E:ε->μ->Prop}{s:μ}
variable{I:δ}{fp wr:List δ}{G:Array GenState->Array GenState->Prop}{n:Nat}{P:Nat->ε->Prop}{St:Nat->μ->Prop}
end
section
variable{X:Cx}{σ:St}{H:Hp}{Q:VK}{a:π}{p pos p' pos':Pos}
end
section
variable{X:Cx}{σ:St}{H:Hp}{Q:VK}{D:Ends}{o e f:π}{apos cpos pos:Pos}
end
section
variable{X:Cx}{ϵ:List (δ×Obj)}{σ:St}{H:Hp}{s:μ}{d:δ}
end
section
variable{X:Cx}{σ:St}{H:Hp}{a e:π}{tg:π}{pos:Pos}{R:It->Hp->Prop}{D:Ends}
end
section
variable{X:Cx}{H:Hp}{Q:VK}{e C:δ}{D:Option δ}{k:Bool}
end
section
variable{X:Cx}{σ σ':St}{H:Hp}{Q:VK}{a b tg elt:π}{scope:ahI}{p p' pos:Pos}
end
section
variable{X:Cx}{H:Hp}{Q:VK}
end
section
variable{X:Cx}{H:Hp}{Q:VK}
variable{σ:St}{a b tg:π}{p p' pos:Pos}{D:Ends}
end
section
variable{X:Cx}{σ:St}{H:Hp}{Q:VK}{pos:Pos}
end
end L2
namespace L2
open PySem PySem.Spec PyProof.Rows
section
variable{prog:ϯ}{w:ϭ}{A:ϰ}{E:ε->μ->Prop}{s:μ}{env:Env}
end
section
variable{prog:ϯ}{w:ϭ}{A:ϰ}{E:ε->μ->Prop}{s:μ}{env:Env}
variable{nm q:Str}{C N:δ}{bs bm:List ε}{hdct:Bool}{sn:List Str}{sub:List ε}{ab:Bool}{col:Option Bool}{dd:Option δ}{k0 k1 k2 k3 k5:Option ε}
end
section
variable{X:Cx}{Kx:St->XK}{D:Ends}{σ:St}{H:Hp}{rest:List ak1}{pos np TV cpos rpos p0:Pos}{x y fld:Str}{cls c:ε}{d:Option δ×Bool}{a:π}{as:List π}{cc:Bool}{k k' j0:Nat}
end
end L2
namespace L2
open PySem PySem.Spec PyProof.Rows PySem.Builtin PySem.Builtin.Str
section
variable{X:Cx}{H:Hp}{Q:VK}{z:Str}
end
end L2
namespace L2
open PySem PySem.Spec PyProof.Rows
def eY(keep:Nat->Bool)(val:Nat->V)(n:Nat):List V:=((afz n).filter keep).map val
theorem ad5(keep:Nat->Bool)(val:Nat->V)(n:Nat):eY keep val (n+1)=eY keep val n++(if keep n=true then[val n]else[]):=by
 unfold eY;rw[ang,alh,aln];by_cases h:keep n=true
 .simp[h]
 .have h':keep n=false:=by simpa using h
  simp[h']
theorem aeq(keep:Nat->Bool)(val:Nat->V)(n:Nat):(eY keep val n).length<=n:=by
 unfold eY;rw[ϳ];have:=ahM keep (afz n);rw[alX]at this;exact this
section
variable{X:Cx}{e c:π}{σ σ':St}{H:Hp}{Q:VK}{D:Ends}{pos spos py:Pos}{tg elt:π}{scope:ahI}{y:Str}{j:Nat}
def Q0(X:Cx)(N':List Str)(scope:ahI)(tg elt c:π)(σ':St)(H1:Hp)(Q:VK)(xs:List V):Prop:=
 ∃(Tp:St->Prop)(keep:Nat->Bool)(val:Nat->V),Tp σ'/\
  (∀(fp:List δ)(E C:δ)(s3:μ)(H0:Hp)(i:Nat)(τ:St)(x:V)(H2:Hp),H1 E=none->xs[i]?=some x->Tp τ->ζ H1 H2->
   EG (aR X N' scope (ώ scope X.env) C s3 H0 fp) tg x τ H2 λτ2 H3=>ET (aR X N' scope (ώ scope X.env) C s3 H0 fp) c τ2 H3 λk H4=>k=keep i/\Tp τ2/\ζ H2 H4/\(k=true->EV (aR X N' scope (ώ scope X.env) C s3 H0 fp) elt τ2 H4 λv H5=>v=val i/\ζ H4 H5))/\
  ∀(E:δ)(H2:Hp),H1 E=none->H2 E=some (.lst (eY keep val xs.length))->ζ H1 H2->Q (.ref E) H2
theorem Sv{N':List Str}{l:δ}{xs:List V}(hn:xs.length<=Ϫ)(hl:η X.K H l xs)(h:Q0 X N' scope tg elt c σ' H Q xs):∀(fp:List δ)(E C:δ)(s3:μ),H E=none->dW X (aR X N' scope (ώ scope X.env) C s3 (upd H E (.lst [])) fp) tg elt [c] (gk X.K l) E σ' H (λH'=>Q (.ref E) H'):=by
 intro fp E C s3 hE;obtain⟨Tp,keep,val,t0,step,fin⟩:=h;refine⟨λi m τ H1=>m=xs.length-i/\i<=xs.length/\ζ H H1/\Tp τ/\H1 E=some (.lst (eY keep val i)),⟨xs.length,by simp,agf _,ζ.upd hE,t0,υ⟩,?_⟩
 rintro i m τ H1 ⟨rfl,hi,s1,hτ,eE⟩
 by_cases hlt:i<xs.length
 .refine .inr ⟨⟨xs,xs[i],ζ.seq s1 hl,aaf hlt⟩,λτ' H'=>ζ H H'/\Tp τ'/\H' E=some (.lst (eY keep val (i+1))),λτ' H' ⟨a,b,d⟩=>⟨xs.length-(i+1),by omega,rfl,hlt,a,b,d⟩,λx H2 yl=>?_⟩;have hx:xs[i]?=some x:=yl.2 xs (ζ.seq s1 hl);have hH:H2=H1:=yl.1;subst hH;intro ϵ s u I r;refine ρ (step fp E C s3 _ i τ x _ hE hx hτ s1 ϵ s u I r) λ_ s' ⟨τ2,H3,I3,q3⟩=>⟨τ2,H3,I3,Mz ?_⟩
  refine λϵ s I=>ρ (q3 ϵ s I) λk s' ⟨H4,I4,hk,t2,s2,q⟩=>⟨H4,I4,?_⟩
  subst hk;have eK:=ad5 keep val i;have hkl:=aeq keep val i;by_cases hkp:keep i=true
  .rw[if_pos hkp];rw[if_pos hkp]at eK;refine aF (q hkp) λv H5 ⟨ev,s5⟩=>⟨eY keep val i,s5 _ _ (s2 _ _ eE),by omega,?_⟩
   subst ev;refine⟨λb o e=>?_,t2,by rw[υ,eK]⟩;rw[ι (Η e hE)];exact s5 _ _ (s2 _ _ (s1 _ _ e))
  .rw[if_neg hkp];rw[if_neg hkp,List.append_nil]at eK;exact⟨s1.trans s2,t2,by rw[eK];exact s2 _ _ eE⟩
 .have e:i=xs.length:=by omega
  subst e;exact .inl ⟨⟨xs,ζ.seq s1 hl,Ϯ _⟩,fin E H1 hE eE s1⟩
theorem abY(N':List Str)(hσ:bj N' X.N σ scope=σ')(hc:X.calm=true)(S:bC X.env scope)(hs:∀x,foldedSetIterable e X.env x=pure x)(h:EV X e σ H λv H1=>∃l xs,v=.ref l/\η X.K H1 l xs/\xs.length<=Ϫ/\Q0 X N' scope tg elt c σ' H1 Q xs):EV X (.ListComp elt [⟨tg,e,[c],0⟩] scope pos) σ H Q:=by
 refine qN (N':=N') hc S hs (lR (aF h λv H1 q=>?_));obtain⟨l,xs,rfl,hl,hz,hw⟩:=q;refine⟨l,rfl,⟨xs,hl⟩,?_⟩;rw[hσ];exact Sv hz hl hw
end
section
variable{X:Cx}{e c:π}{es:List π}{σ σ':St}{H:Hp}{Q:VK}{D:Ends}{p pos spos py:Pos}{tg elt:π}{scope:ahI}{y:Str}{j:Nat}
end
section
variable{X:Cx}{Kx:St->XK}{D:Ends}{σ:St}{H:Hp}{rest:List ak1}{pos TV cpos rpos p0 p1 p2 p3 tpos zp:Pos}{x1 x2 x3 y z:Str}{cls c1 c2 c3:ε}{d:Option δ×Bool}{kk j0 j1:Nat}{name:Option Str}{body:List ϧ}
end
section
variable{X:Cx}{a e:π}{σ σ':St}{H:Hp}{Q:VK}{D:Ends}{pos spos py p p':Pos}{tg elt iter:π}{scope:ahI}{Kx:St->XK}{y:Str}{j:Nat}
end
section
variable{X:Cx}{Kx:St->XK}{D:Ends}{σ:St}{H:Hp}{cls:ε}{d:Option δ×Bool}
end
section
variable{X:Cx}{H:Hp}{Q:VK}{z:Str}
end
end L2
namespace L2
open PySem PySem.Spec PyProof.Rows PySem.W
section
variable{X:Cx}{ϵ:List (δ×Obj)}{σ:St}{H:Hp}{s:μ}{d:δ}
end
section
variable{X:Cx}{σ:St}{H:Hp}{a e:π}{tg:π}{pos:Pos}{R:It->Hp->Prop}{D:Ends}
end
def pw{α:Type}(lt:Nat->Nat->Bool)(n:Nat):KasT α->(α->Prop)->Prop
 |.ret a,Q=>Q a
 |.ask i j k,Q=>i<n/\j<n/\pw lt n (k (lt i j)) Q
theorem m6{α β:Type}{lt:Nat->Nat->Bool}{n:Nat}{f:α->KasT β}{Q:β->Prop}:∀(t:KasT α),pw lt n t (λa=>pw lt n (f a) Q)->pw lt n (t.bind f) Q
 |.ret a,h=>h
 |.ask i j k,h=>⟨h.1,h.2.1,m6 (k (lt i j)) h.2.2⟩
theorem fJ{α:Type}{lt:Nat->Nat->Bool}{n:Nat}{Q Q':α->Prop}(hq:∀a,Q a->Q' a):∀(t:KasT α),pw lt n t Q->pw lt n t Q'
 |.ret a,h=>hq a h
 |.ask i j k,h=>⟨h.1,h.2.1,fJ hq (k (lt i j)) h.2.2⟩
theorem Ik{α:Type}{lt:Nat->Nat->Bool}{n:Nat}{cmp:Nat->Nat->(Bool->μ->Prop)->μ->Prop}{I:μ->Prop}{G:α->μ->Prop}(hc:∀i j C s,i<n->j<n->I s->(∀s',I s'->C (lt i j) s')->cmp i j C s):∀(t:KasT α)(s:μ),I s->pw lt n t (λa=>∀s,I s->G a s)->t.kasWp cmp G s
 |.ret a,s,hs,h=>h s hs
 |.ask i j k,s,hs,h=>hc i j _ s h.1 h.2.1 hs λs' hs'=>Ik hc (k (lt i j)) s' hs' h.2.2
structure aj(lt:Nat->Nat->Bool):Prop where
 ir:∀i,lt i i=false
 tr:∀i j k,lt i j=true->lt j k=true->lt i k=true
 nt:∀i j k,lt i k=true->lt i j=true\/lt j k=true
section
variable{lt:Nat->Nat->Bool}{n:Nat}(W:aj lt)
theorem aj.as(W:aj lt){i j:Nat}(h:lt i j=true):lt j i=false:=by
 rw[aiU];intro h2;have:=W.tr i j i h h2;rw[W.ir]at this;cases this
def Rk(lt:Nat->Nat->Bool)(i j:Nat):Prop:=lt i j=true\/(lt j i=false/\i<j)
theorem aj.nA(W:aj lt){a b c:Nat}(h:lt a b=true)(h2:lt c b=false):lt a c=true:=by
 obtain h|h:=W.nt a c b h
 .exact h
 .rw[h2]at h;cases h
theorem aj.N8(W:aj lt){a b c:Nat}(h:lt b c=true)(h2:lt b a=false):lt a c=true:=by
 obtain h|h:=W.nt b a c h
 .rw[h2]at h;cases h
 .exact h
theorem aj.rtr(W:aj lt){i j k:Nat}(h:Rk lt i j)(h2:Rk lt j k):Rk lt i k:=by
 obtain h|⟨h,h'⟩:=h
 .obtain h2|⟨h2,h2'⟩:=h2
  .exact .inl (W.tr _ _ _ h h2)
  .exact .inl (W.nA h h2)
 .obtain h2|⟨h2,h2'⟩:=h2
  .exact .inl (W.N8 h2 h)
  .refine .inr ⟨?_,by omega⟩;rw[aiU];intro h3;obtain h4|h4:=W.nt k j i h3
   .rw[h2]at h4;cases h4
   .rw[h]at h4;cases h4
abbrev gt(p:Array Nat)(k:Nat):Nat:=p.getD k 0
theorem v8{p:Array Nat}{k v:Nat}(h:p[k]?=some v):gt p k=v:=by
 obtain⟨hk,e⟩:=ajl.mp h;show p.getD k 0=v;simp[anq,hk,e]
theorem qU{p:Array Nat}{k:Nat}(h:k<p.size):p[k]?=some (gt p k):=by
 show p[k]?=some (p.getD k 0);simp[anq,h]
theorem cW{p:Array Nat}{i j k:Nat}(hj:j<=p.size)(hk:k<p.size):gt (kas_rev p i j) k=if i<=k/\k<j then gt p (i+j-1-k)else gt p k:=by
 apply v8;unfold kas_rev;rw[getElem?_mirror_all hj];by_cases h:i<=k/\k<j
 .rw[if_pos h,if_pos h];exact qU (by omega)
 .rw[if_neg h,if_neg h];exact qU hk
theorem acV{p:Array Nat}{i j:Nat}:(kas_rev p i j).size=p.size:=mirror_size _ _ _ _
theorem adn{p:Array Nat}{k d j:Nat}(hk:k<p.size)(hd:d<=k)(hj:j<p.size):gt (bubble p k d) j=if j=k-d then gt p k else if k-d<j/\j<=k then gt p (j-1)else gt p j:=by
 apply v8;rw[getElem?_bubble hk d hd];by_cases h1:j=k-d
 .rw[if_pos h1,if_pos h1];exact qU hk
 .rw[if_neg h1,if_neg h1];by_cases h2:k-d<j/\j<=k
  .rw[if_pos h2,if_pos h2];exact qU (by omega)
  .rw[if_neg h2,if_neg h2];exact qU hj
structure Pl(n:Nat)(p:Array Nat)(m:Nat):Prop where
 size:p.size=n
 low:∀i,i<m->gt p i<m
 tail:∀k,m<=k->k<n->gt p k=k
 inj:∀i j,i<n->j<n->gt p i=gt p j->i=j
 pm:p.toList.Perm (afz n)
theorem Pl.all{p:Array Nat}{m:Nat}(h:Pl n p m)(hm:m<=n){i:Nat}(hi:i<n):gt p i<n:=by
 by_cases h1:i<m
 .have :=h.low i h1;omega
 .rw[h.tail i (by omega) hi];exact hi
theorem Pl.up{p:Array Nat}{m:Nat}(h:Pl n p m)(hm:m<n):Pl n p (m+1):=by
 refine⟨h.size,λi hi=>?_,λk h1 h2=>h.tail k (by omega) h2,h.inj,h.pm⟩;by_cases h1:i<m
 .have :=h.low i h1;omega
 .have e:i=m:=by omega
  subst e;rw[h.tail i (Ϯ _) hm];omega
theorem Pl.rev{p:Array Nat}{m i j:Nat}(h:Pl n p m)(hm:m<=n)(hj:j<=m):Pl n (kas_rev p i j) m:=by
 have hs:=h.size;refine⟨by rw[acV];exact hs,λk hk=>?_,λk h1 h2=>?_,λa b ha hb e=>?_,(amb.mp (mirror_perm p i j ((j-i) / 2))).trans h.pm⟩
 .rw[cW (by omega) (by omega)];split
  .exact h.low _ (by omega)
  .exact h.low _ hk
 .rw[cW (by omega) (by omega),if_neg (by omega)];exact h.tail k h1 h2
 .rw[cW (by omega) (by omega),cW (by omega) (by omega)]at e;split at e<;>split at e
  .have :=h.inj _ _ (by omega) (by omega) e;omega
  .have :=h.inj _ _ (by omega) (by omega) e;omega
  .have :=h.inj _ _ (by omega) (by omega) e;omega
  .exact h.inj _ _ ha hb e
def dJ(lt:Nat->Nat->Bool)(p:Array Nat)(m:Nat):=∀i j,i<j->j<m->Rk lt (gt p i) (gt p j)
def gF(lt:Nat->Nat->Bool)(p:Array Nat)(m:Nat):=∀i j,i<j->j<m->Rk lt (gt p j) (gt p i)
theorem gF.rev{p:Array Nat}{m:Nat}(h:gF lt p m)(hm:m<=p.size):dJ lt (kas_rev p 0 m) m:=by
 intro i j hij hj;rw[cW hm (by omega),cW hm (by omega),if_pos (by omega),if_pos (by omega)];exact h _ _ (by omega) (by omega)
theorem Cq(W:aj lt){p:Array Nat}:∀(f m:Nat),1<=m->m+f<=n->Pl n p m->dJ lt p m->pw lt n (kas_asc p f m) λm'=>m<=m'/\m'<=m+f/\Pl n p m'/\dJ lt p m'/\(m'<m+f->lt (gt p m') (gt p (m'-1))=true)
 |0,m,h1,hm,hp,ha=>⟨Ϯ _,Ϯ _,hp,ha,λh=>absurd h (by omega)⟩
 |f+1,m,h1,hm,hp,ha=>by
  refine⟨hp.all (by omega) (by omega),hp.all (by omega) (by omega),?_⟩;cases e:lt (gt p m) (gt p (m-1))with
  |true=>
   show pw lt n (if true=true then _ else _) _;rw[if_pos rfl];exact⟨Ϯ _,by omega,hp,ha,λ_=>e⟩
  |false=>
   show pw lt n (if false=true then _ else _) _;rw[if_neg (by decide)];have hn:Rk lt (gt p (m-1)) (gt p m):=.inr ⟨e,by rw[hp.tail m (Ϯ _) (by omega)];exact hp.low _ (by omega)⟩;refine fJ (λm' h=>⟨by omega,by omega,h.2.2.1,h.2.2.2.1,λh2=>h.2.2.2.2 (by omega)⟩) _ (Cq W f (m+1) (by omega) (by omega) (hp.up (by omega)) λi j hij hj=>?_);by_cases rC:j<m
   .exact ha i j hij rC
   .have e2:j=m:=by omega
    subst e2;by_cases Z8:i=j-1
    .rw[Z8];exact hn
    .exact W.rtr (ha i (j-1) (by omega) (by omega)) hn
structure Dn(lt:Nat->Nat->Bool)(p:Array Nat)(m q:Nat):Prop where
 few:q+1<=m
 ahead:∀i j,i<j->j<m-(q+1)->Rk lt (gt p j) (gt p i)
 drop:∀i j,i<m-(q+1)->m-(q+1)<=j->j<m->lt (gt p j) (gt p i)=true
 aq:∀i j,m-(q+1)<=i->i<j->j<m->lt (gt p i) (gt p j)=false/\lt (gt p j) (gt p i)=false/\gt p i<gt p j
theorem Dn.done{p:Array Nat}{m q:Nat}(h:Dn lt p m q)(hm:m<=p.size):gF lt (if q>0 then kas_rev p (m-(q+1)) m else p) m:=by
 have h1:=h.few;by_cases hq:q>0
 .rw[if_pos hq];intro i j hij hj;rw[cW hm (by omega),cW hm (by omega)];by_cases hi:m-(q+1)<=i
  .rw[if_pos (by omega),if_pos (by omega)];have:=h.aq (m-(q+1)+m-1-j) (m-(q+1)+m-1-i) (by omega) (by omega) (by omega);exact .inr ⟨this.2.1,this.2.2⟩
  .rw[if_neg (show ¬(m-(q+1)<=i/\i<m)by omega)];by_cases hj2:m-(q+1)<=j
   .rw[if_pos (by omega)];exact .inl (h.drop _ _ (by omega) (by omega) (by omega))
   .rw[if_neg (by omega)];exact h.ahead i j hij (by omega)
 .rw[if_neg hq];intro i j hij hj;by_cases hj2:m-(q+1)<=j
  .exact .inl (h.drop _ _ (by omega) hj2 hj)
  .exact h.ahead i j hij (by omega)
theorem gF.next(W:aj lt){p:Array Nat}{m:Nat}(h:gF lt p m)(h1:1<=m)(hl:∀i,i<m->lt (gt p m) (gt p i)=true):Dn lt p (m+1) 0:=by
 refine⟨by omega,λi j hij hj=>h i j hij (by omega),λi j hi hj hj2=>?_,λi j a b c=>absurd b (by omega)⟩;have e:j=m:=by omega
 subst e;exact hl i (by omega)
theorem gF.low(W:aj lt){p:Array Nat}{m x:Nat}(h:gF lt p m)(h1:1<=m)(hl:lt x (gt p (m-1))=true):∀i,i<m->lt x (gt p i)=true:=by
 intro i hi;by_cases e:i=m-1
 .rw[e];exact hl
 .rcases h i (m-1) (by omega) (by omega)with h2|⟨h2,_⟩
  .exact W.tr _ _ _ hl h2
  .exact W.nA hl h2
theorem rO(W:aj lt):∀(f:Nat)(p:Array Nat)(m q:Nat),m+f<=n->Pl n p m->Dn lt p m q->pw lt n (kas_desc f p m q) λr=>m<=r.2.1/\r.2.1<=m+f/\Pl n r.1 r.2.1/\Dn lt r.1 r.2.1 r.2.2
 |0,p,m,q,hm,hp,hd=>⟨Ϯ _,Ϯ _,hp,hd⟩
 |f+1,p,m,q,hm,hp,hd=>by
  have hfew:=hd.few;have hsz:=hp.size;refine⟨hp.all (by omega) (by omega),hp.all (by omega) (by omega),?_⟩;cases e:lt (gt p m) (gt p (m-1))with
  |true=>
   show pw lt n (if true=true then _ else _) _;rw[if_pos rfl];have hD:=hd.done (by omega);by_cases hq:q>0
   .rw[if_pos hq]at hD⊢;have hpr:=hp.rev (i:=m-(q+1)) (j:=m) (by omega) (Ϯ _);have em:gt (kas_rev p (m-(q+1)) m) m=gt p m:=by rw[cW (by omega) (by omega),if_neg (by omega)]
    have el:gt (kas_rev p (m-(q+1)) m) (m-1)=gt p (m-(q+1)):=by
     rw[cW (by omega) (by omega),if_pos (by omega)]
     congr 1
     omega
    have hx:lt (gt p m) (gt p (m-(q+1)))=true:=W.nA e (hd.aq (m-(q+1)) (m-1) (Ϯ _) (by omega) (by omega)).1;refine fJ (λr h=>⟨by omega,by omega,h.2.2⟩) _ (rO W f _ (m+1) 0 (by omega) (hpr.up (by omega)) (hD.next W (by omega) λi hi=>?_));rw[em];exact hD.low W (by omega) (by rw[el];exact hx) i hi
   .rw[if_neg hq]at hD⊢;refine fJ (λr h=>⟨by omega,by omega,h.2.2⟩) _ (rO W f _ (m+1) 0 (by omega) (hp.up (by omega)) (hD.next W (by omega) (hD.low W (by omega) e)))
  |false=>
   show pw lt n (if false=true then _ else _) _;rw[if_neg (by decide)];refine⟨hp.all (by omega) (by omega),hp.all (by omega) (by omega),?_⟩;cases e2:lt (gt p (m-1)) (gt p m)with
   |true=>
    show pw lt n (if true=true then _ else _) _;rw[if_pos rfl];exact⟨Ϯ m,show m<=m+(f+1)by omega,hp,hd⟩
   |false=>
    show pw lt n (if false=true then _ else _) _;rw[if_neg (by decide)];have ZP:=hp.tail m (Ϯ _) (by omega);refine fJ (λr h=>⟨by omega,by omega,h.2.2⟩) _ (rO W f p (m+1) (q+1) (by omega) (hp.up (by omega)) ⟨by omega,λi j hij hj=>hd.ahead i j hij (by omega),λi j hi hj hj2=>?_,λi j hi hij hj=>?_⟩)
    .by_cases rC:j<m
     .exact hd.drop i j (by omega) (by omega) rC
     .have ej:j=m:=by omega
      subst ej;exact W.N8 (hd.drop i (j-1) (by omega) (by omega) (by omega)) e2
    .by_cases rC:j<m
     .exact hd.aq i j (by omega) hij rC
     .have ej:j=m:=by omega
      subst ej;have hlow:gt p i<gt p j:=by rw[ZP];exact hp.low i (by omega)
      by_cases hi2:i=j-1
      .rw[hi2];rw[hi2]at hlow;exact⟨e2,e,hlow⟩
      .have h3:=hd.aq i (j-1) (by omega) (by omega) (by omega);refine⟨?_,?_,hlow⟩
       .rw[aiU];intro h4;obtain h5|h5:=W.nt _ (gt p (j-1)) _ h4
        .rw[h3.1]at h5;cases h5
        .rw[e2]at h5;cases h5
       .rw[aiU];intro h4;obtain h5|h5:=W.nt _ (gt p (j-1)) _ h4
        .rw[e]at h5;cases h5
        .rw[h3.2.1]at h5;cases h5
theorem Pa(W:aj lt){p:Array Nat}{m:Nat}(h1:1<=m)(hm:m<=n)(hp:Pl n p m)(hd:gF lt p m):pw lt n (kas_tail3 m n p) λr=>1<=r.1/\r.1<=n/\Pl n r.2 r.1/\dJ lt r.2 r.1:=by
 have hsz:=hp.size;refine m6 _ (fJ (λm' h=>⟨by show 1<=m';omega,by show m'<=n;omega,h.2.2.1,h.2.2.2.1⟩) _ (Cq W (n-m) m h1 (by omega) (hp.rev hm (Ϯ _)) (hd.rev (by omega))))
theorem Q8(W:aj lt){p:Array Nat}{m:Nat}(h1:1<=m)(hm:m<n)(hp:Pl n p m)(hd:gF lt p m)(hl:lt (gt p m) (gt p (m-1))=true):pw lt n (kas_descPart m n p) λr=>1<=r.1/\r.1<=n/\Pl n r.2 r.1/\dJ lt r.2 r.1:=by
 refine m6 _ (fJ (λr h=>?_) _ (rO W (n-(m+1)) p (m+1) 0 (by omega) (hp.up hm) (hd.next W h1 (hd.low W h1 hl))));obtain⟨a1,a2,a3,a4⟩:=h;have hsz:=a3.size;have hD:=a4.done (by omega);show pw lt n (if r.2.2>0 then _ else _) _;by_cases hq:r.2.2>0
 .rw[if_pos hq]at hD⊢;exact Pa W (by omega) (by omega) (a3.rev (by omega) (Ϯ _)) hD
 .rw[if_neg hq]at hD⊢;exact Pa W (by omega) (by omega) a3 hD
theorem abm:Pl n (afg (afz n)) 1:=by
 have hg:∀k,k<n->gt (afg (afz n)) k=k:=λk hk=>v8 (by simp[hk])
 refine⟨by simp,λi hi=>?_,λk _ h2=>hg k h2,λi j hi hj e=>by rwa [hg i hi,hg j hj]at e,by simp⟩;by_cases h:i<n
 .rw[hg i h];exact hi
 .show(afg (afz n)).getD i 0<1;simp[anq,h]
theorem UT(W:aj lt)(h1:1<=n):pw lt n (kas_count n (afg (afz n))) λr=>1<=r.1/\r.1<=n/\Pl n r.2 r.1/\dJ lt r.2 r.1:=by
 refine m6 _ (fJ (λm h=>?_) _ (Cq W (n-1) 1 (Ϯ _) (by omega) abm λi j a b=>absurd a (by omega)));obtain⟨a1,a2,a3,a4,a5⟩:=h;have hsz:=a3.size;show pw lt n (if(m==n)=true then _ else _) _;by_cases hmn:m=n
 .rw[if_pos (by rw[beq_iff_eq];exact hmn)];exact⟨by show 1<=m;omega,by show m<=n;omega,a3,a4⟩
 .rw[if_neg (by rw[beq_iff_eq];exact hmn)];have hlt:=a5 (by omega);by_cases hm1:m>1
  .rw[if_pos hm1];refine⟨a3.all (by omega) (by omega),a3.all (by omega) (by omega),?_⟩;cases e:lt (gt (afg (afz n)) 0) (gt (afg (afz n)) (m-1))with
   |true=>
    show pw lt n (if true=true then _ else _) _;rw[if_pos rfl];exact⟨by show 1<=m;omega,by show m<=n;omega,a3,a4⟩
   |false=>
    show pw lt n (if false=true then _ else _) _;rw[if_neg (by decide)];generalize afg (afz n)=p at a3 a4 hlt e hsz⊢;have le0:∀i,i<m->lt (gt p i) (gt p 0)=false:=λi hi=>by
     by_cases h0:i=0
     .rw[h0];exact W.ir _
     .rcases a4 0 i (by omega) hi with h|h
      .exact W.as h
      .exact h.1
    have Zn:∀j,j<m->lt (gt p (m-1)) (gt p j)=false:=λj hj=>by
     by_cases h0:j=m-1
     .rw[h0];exact W.ir _
     .rcases a4 j (m-1) (by omega) (by omega)with h|h
      .exact W.as h
      .exact h.1
    have aq:∀i j,i<m->j<m->lt (gt p i) (gt p j)=false:=λi j hi hj=>by
     rw[aiU];intro h;obtain h2|h2:=W.nt _ (gt p 0) _ h
     .rw[le0 i hi]at h2;cases h2
     .obtain h3|h3:=W.nt _ (gt p (m-1)) _ h2
      .rw[e]at h3;cases h3
      .rw[Zn j hj]at h3;cases h3
    have hD:gF lt (kas_rev p 0 m) m:=λi j hij hj=>by
     rw[cW (by omega) (by omega),cW (by omega) (by omega),if_pos (by omega),if_pos (by omega)];refine .inr ⟨aq _ _ (by omega) (by omega),?_⟩;rcases a4 (0+m-1-j) (0+m-1-i) (by omega) (by omega)with h|h
     .rw[aq _ _ (by omega) (by omega)]at h;cases h
     .exact h.2
    refine Q8 W a1 (by omega) (a3.rev (by omega) (Ϯ _)) hD ?_;rw[cW (by omega) (by omega),cW (by omega) (by omega),if_neg (by omega),if_pos (by omega)];exact W.nA hlt (aq _ _ (by omega) (by omega))
  .rw[if_neg hm1];have em:m=1:=by omega
   subst em;exact Q8 W a1 (by omega) a3 (λi j a b=>absurd a (by omega)) hlt
theorem wG(W:aj lt){p:Array Nat}{k:Nat}(hk:k<n)(hp:Pl n p k)(ha:dJ lt p k):∀(f l r:Nat),r-l<=f->l<=r->r<=k->(∀i,i<l->lt (gt p k) (gt p i)=false)->(∀i,r<=i->i<k->lt (gt p k) (gt p i)=true)->
  pw lt n (kas_place p k f l r) λl'=>l'<=k/\(∀i,i<l'->lt (gt p k) (gt p i)=false)/\∀i,l'<=i->i<k->lt (gt p k) (gt p i)=true
 |0,l,r,hf,hlr,hr,h1,h2=>⟨by omega,h1,λi a b=>h2 i (by omega) b⟩
 |f+1,l,r,hf,hlr,hr,h1,h2=>by
  show pw lt n (if l≥r then _ else _) _;by_cases h:l≥r
  .rw[if_pos h];exact⟨by omega,h1,λi a b=>h2 i (by omega) b⟩
  .rw[if_neg h];have hmid:(l+r) / 2<r/\l<=(l+r) / 2:=by omega
   refine⟨hp.all (by omega) hk,hp.all (by omega) (by omega),?_⟩;cases e:lt (gt p k) (gt p ((l+r) / 2))with
   |true=>
    show pw lt n (if true=true then _ else _) _;rw[if_pos rfl];refine wG W hk hp ha f l ((l+r) / 2) (by omega) (by omega) (by omega) h1 λi a b=>?_
    by_cases hi:i=(l+r) / 2
    .rw[hi];exact e
    .rcases ha ((l+r) / 2) i (by omega) b with h3|h3
     .exact W.tr _ _ _ e h3
     .exact W.nA e h3.1
   |false=>
    show pw lt n (if false=true then _ else _) _;rw[if_neg (by decide)];refine wG W hk hp ha f ((l+r) / 2+1) r (by omega) (by omega) hr (λi a=>?_) h2;by_cases hi:i=(l+r) / 2
    .rw[hi];exact e
    .rw[aiU];intro h4;rcases ha i ((l+r) / 2) (by omega) (by omega)with h3|h3
     .have :=W.tr _ _ _ h4 h3;rw[e]at this;cases this
     .have :=W.nA h4 h3.1;rw[e]at this;cases this
theorem NB(W:aj lt):∀(f:Nat)(p:Array Nat)(k:Nat),k+f=n->Pl n p k->dJ lt p k->pw lt n (kas_bin f p k) λp'=>Pl n p' n/\dJ lt p' n
 |0,p,k,hk,hp,ha=>by
  have e:k=n:=by omega
  subst e;exact⟨hp,ha⟩
 |f+1,p,k,hk,hp,ha=>by
  have hsz:=hp.size;refine m6 _ (fJ (λl h=>?_) _ (wG W (by omega) hp ha k 0 k (by omega) (by omega) (Ϯ _) (λi hi=>absurd hi (by omega)) λi a b=>absurd a (by omega)));obtain⟨hl,h1,h2⟩:=h;have hb:∀j,j<n->gt (bubble p k (k-l)) j=if j=l then gt p k else if l<j/\j<=k then gt p (j-1)else gt p j:=λj hj=>by
   rw[adn (by omega) (by omega) (by omega),show k-(k-l)=l by omega]
  have Hi:=hp.tail k (Ϯ _) (by omega);refine NB W f _ (k+1) (by omega) ⟨by rw[bubble_size];exact hsz,λi hi=>?_,λi a b=>?_,λi j hi hj e=>?_,(amb.mp (bubble_perm p k (k-l))).trans hp.pm⟩ λi j hij hj=>?_
  .rw[hb i (by omega)];split
   .rw[Hi];omega
   .split
    .have :=hp.low (i-1) (by omega);omega
    .have :=hp.low i (by omega);omega
  .rw[hb i b,if_neg (by omega),if_neg (by omega)];exact hp.tail i (by omega) b
  .rw[hb i hi,hb j hj]at e
   repeat' split at e
   all_goals first
    |(have:=hp.inj _ _ (by omega) (by omega) e;omega)
  .rw[hb i (by omega),hb j (by omega)];by_cases hil:i<l
   .rw[if_neg (by omega),if_neg (by omega)];by_cases hjl:j=l
    .rw[if_pos hjl];exact .inr ⟨h1 i hil,by rw[Hi];exact hp.low i (by omega)⟩
    .rw[if_neg hjl];split
     .exact ha i (j-1) (by omega) (by omega)
     .exact ha i j hij (by omega)
   .by_cases Hb:i=l
    .rw[if_pos Hb,if_neg (by omega),if_pos (by omega)];exact .inl (h2 (j-1) (by omega) (by omega))
    .rw[if_neg Hb,if_pos (by omega),if_neg (by omega),if_pos (by omega)];exact ha (i-1) (j-1) (by omega) (by omega)
theorem ahb(W:aj lt)(h1:1<=n):pw lt n (kas_sort n) λp=>Pl n p n/\dJ lt p n:=by
 refine m6 _ (fJ (λr h=>?_) _ (UT W h1));obtain⟨a1,a2,a3,a4⟩:=h;show pw lt n (if r.1<n then _ else _) _;by_cases h:r.1<n
 .rw[if_pos h,show max r.1 1=r.1 by omega];exact NB W (n-r.1) r.2 r.1 (by omega) a3 a4
 .rw[if_neg h];have e:r.1=n:=by omega
  rw[e]at a3 a4;exact⟨a3,a4⟩
end
abbrev Cx.ϊ(X:Cx):Cx:={X with A:=X.A.in1.in1}
section
variable{X:Cx}{ϵ:List (δ×Obj)}{σ:St}{H:Hp}{s:μ}
theorem Cx.Ok.ϊ(ok:X.Ok):X.ϊ.Ok:=
 ⟨ok.mod,ok.kind,ok.glob,ok.blt,ok.above,ok.inj,ok.has,ok.cab,ok.hd,ok.frames,ok.stk,ok.exf,ok.bs,ok.bsz,ok.noex,ok.exfs,ok.funs,ok.frf⟩
theorem Inv.ϊ(I:Inv X ϵ σ H s):Inv X.ϊ ϵ σ H s:=⟨I.ok.ϊ,I.os,I.bare,I.base,I.loc,I.cell,I.free,I.freeC,I.pin,I.hok,I.len⟩
theorem Inv.un2(ok:X.Ok)(I:Inv X.ϊ ϵ σ H s):Inv X ϵ σ H s:=⟨ok,I.os,I.bare,I.base,I.loc,I.cell,I.free,I.freeC,I.pin,I.hok,I.len⟩
theorem Inv.VR{e:δ}{o:HO}(I:Inv X ϵ σ H s)(hn:H e=none)(c:Ch X ϵ e)(ok:Ϗ X.prog X.w (upd H e o) s.heap e o):Inv X ϵ σ (upd H e o) s:=by
 have ne:∀b u,H b=some u->b≠e:=λb u q=>Η q hn
 have:=I.step (h':=s.heap) (H':=upd H e o) (g':=s.gens) (d':=s.drawn) (t':=s.toks) (ch:=[e]) (λb hb=>?_) (λb o _ _ _ q _=>q) (λb o _ _ _ q _=>⟨o.slots,q⟩) (λb o hc _ n=>?_) (λb o _ q=>⟨o,q⟩) (λb xs q=>?_) (λb o u q=>?_) (λb ps q=>?_) (λm hm=>hm) (λb u q=>?_) I.bare
 .exact this
 .have z:b=e:=by simpa using hb
  subst z;exact c
 .rw[ι (λz=>hc (by simp[z]))];exact n
 .rw[ι (ne _ _ q)];exact q
 .rw[ι (ne _ _ q)];exact q
 .exact⟨#[],by rw[ι (ne _ _ q),q];simp⟩
 .by_cases z:b=e
  .subst z;rw[υ]at q;cases q;exact ok
  .rw[ι z]at q;exact(I.hok b u q).stay (λ_ _ _ r=>r) (λc r=>by rw[ι (ne _ _ r)];exact r) (λc xs r=>by rw[ι (ne _ _ r)];exact r) λc ob v r=>by rw[ι (ne _ _ r)];exact r
theorem aM.ch{b:δ}(f:aM X ϵ H b):Ch X ϵ b:=⟨f.2.2.2.1,f.2.1,f.2.2.2.2.1,f.2.2.2.2.2⟩
def Ϛ(X:Cx)(ϵ:List (δ×Obj))(H:Hp)(s:μ)(b:δ)(vs:List ε)(e:Nat):Prop:=s.heap.get? b=some (seqObj "list" vs.toArray e)/\aM X ϵ H b
theorem FW{c:String}{xs:Array ε}{e:Nat}:∀v,(seqObj c xs e).data≠.cell v:=λv h=>by cases h
theorem Ϛ.set{b c:δ}{vs us ws:List ε}{e ec:Nat}{g:Array ε->Array ε}(I:Inv X ϵ σ H s)(h:Ϛ X ϵ H s b vs e)(hc:Ϛ X ϵ H s c ws ec)(Ϻ:c≠b)(eg:g vs.toArray=us.toArray):∃e',Inv X ϵ σ H {s with heap:=s.heap.update b (Obj.mapSeq g)}/\Ϛ X ϵ H {s with heap:=s.heap.update b (Obj.mapSeq g)} b us e'/\Ϛ X ϵ H {s with heap:=s.heap.update b (Obj.mapSeq g)} c ws ec:=by
 obtain⟨h1,f0,f1,f2,f3,f4,f5⟩:=h;have hs:=Heap.SameBut.update s.heap b (Obj.mapSeq g);have hu:=get?_update_seq h1 g;rw[eg]at hu;refine⟨_,I.turned (t':=s.toks) (it:=b) (λx o hx q=>(hs.2 x hx).trans q) f0 f1 f3 f4 f5,⟨hu,f0,f1,f2,f3,f4,f5⟩,⟨(hs.2 c Ϻ).trans hc.1,hc.2⟩⟩
theorem Ϛ.pin{kS D:δ}{vs ws:List ε}{e ec:Nat}(I:Inv X ϵ σ H s)(h:Ϛ X ϵ H s kS vs e)(hc:Ϛ X ϵ H s D ws ec):Inv X (ϵ++dq [kS,D] s.heap) σ H s:=
 I.pinned (λb hb=>by
  obtain z|z:=ϴ.mp hb
  .rw[z];exact h.2
  .have z:b=D:=by simpa using z
   rw[z];exact hc.2) λb hb=>by
  obtain z|z:=ϴ.mp hb
  .rw[z];exact⟨_,h.1,FW⟩
  .have z:b=D:=by simpa using z
   rw[z];exact⟨_,hc.1,FW⟩
theorem Ϛ.Ip{kS D:δ}{vs ws:List ε}{e ec:Nat}{H':Hp}{s':μ}(h:Ϛ X ϵ H s kS vs e)(hc:Ϛ X ϵ H s D ws ec)(I:Inv X (ϵ++dq [kS,D] s.heap) σ H' s'):Inv X ϵ σ H' s'/\Ϛ X ϵ H' s' kS vs e/\Ϛ X ϵ H' s' D ws ec:=by
 have one:∀(b:δ)(us:List ε)(eb:Nat),b∈[kS,D]->Ϛ X ϵ H s b us eb->Ϛ X ϵ H' s' b us eb:=λb us eb hb o=>by
  have hp:(b,seqObj "list" us.toArray eb)∈X.pn++(ϵ++dq [kS,D] s.heap):=by
   refine ack _ (ack _ ?_);unfold dq;exact alR.mpr ⟨b,hb,by rw[o.1];rfl⟩
  obtain⟨p1,p2,p3,p4,p5⟩:=I.pin _ hp;exact⟨p1,p2,o.2.2.1,o.2.2.2.1,o.2.2.2.2.1,o.2.2.2.2.2.1,o.2.2.2.2.2.2⟩
 exact⟨I.unpinned,one kS vs e (by simp) h,one D ws ec (by simp) hc⟩
structure uL(X:Cx)(σ:St)(f:ε)(vs:List ε)(H₁:Hp)(Kp:Nat->ε->Hp->Prop):Prop where
 mono:∀i k H H',ζ H H'->Kp i k H->Kp i k H'
 call:∀i v ϵ s H,vs[i]?=some v->ζ H₁ H->Inv X.ϊ ϵ σ H s->ν (Ϧ X.prog X.w) X.A.in1.in1 (call f [v]) (λk s'=>∃H',Inv X.ϊ ϵ σ H' s'/\ζ H H'/\Kp i k H') (λ_ _=>False) s
def Bm(X:Cx)(σ:St)(H:Hp)(ks:List ε)(lt:Nat->Nat->Bool)(κ:SortKind):Prop:=
 ∀i j ki kj ϵ s,ks[i]?=some ki->ks[j]?=some kj->Inv X.ϊ ϵ σ H s->ν (Ϧ X.prog X.w) X.A.in1.in1 (keyLt' κ ki kj) (λr s'=>r=lt i j/\Inv X.ϊ ϵ σ H s') (λ_ _=>False) s
structure lD(X:Cx)(σ:St)(n:Nat)(Kp:Nat->ε->Hp->Prop)(lt:Nat->Nat->Bool):Prop where
 kind:∀ϵ s H ks,Inv X.ϊ ϵ σ H s->ks.length=n->2<=n->(∀(i:Nat) k,ks[i]?=some k->Kp i k H)->
  ν (Ϧ X.prog X.w) X.A.in1.in1 (keyKind' (afg ks)) (λκ s'=>Inv X.ϊ ϵ σ H s'/\Bm X σ H ks lt κ) (λ_ _=>False) s
def gP(b:Bool)(lt:Nat->Nat->Bool)(i j:Nat):Bool:=if b=true then lt j i else lt i j
def cZ(n:Nat)(lt:Nat->Nat->Bool)(q:List Nat):Prop:=q.Perm (afz n)/\q.Pairwise (Rk lt)
theorem Ks{p:Array Nat}{i v:Nat}(h:p.toList[i]?=some v):gt p i=v:=v8 (by rw[<-amE];exact h)
theorem Tg{n:Nat}{lt:Nat->Nat->Bool}{p:Array Nat}(h:Pl n p n)(a:dJ lt p n):cZ n lt p.toList:=by
 refine⟨h.pm,?_⟩;have hl:p.toList.length=n:=by rw[akl];exact h.size
 rw[amf];intro i j hi hj hij;have h1:=Ks (aaf hi);have h2:=Ks (aaf hj);rw[<-h1, <-h2];exact a i j hij (by omega)
theorem agu{n:Nat}{lt:Nat->Nat->Bool}{q:List Nat}(h:cZ n (λi j=>lt (n-1-i) (n-1-j)) q):cZ n (gP true lt) (q.map (n-1- ·)).reverse:=by
 obtain⟨hp,ho⟩:=h;have hlt:∀x∈q,x<n:=λx hx=>alZ.mp (hp.subset hx)
 refine⟨?_,?_⟩
 .refine(amW _).trans ((hp.map _).trans ?_);have e:(afz n).map (n-1- ·)=(afz n).reverse:=by
   apply am6
   .simp
   .intro i h1 h2;simp at h1;simp
  rw[e];exact amW _
 .rw[List.pairwise_reverse,alB];refine ho.imp_of_mem λ{x y} hx hy r=>?_;have h1:=hlt x hx;have h2:=hlt y hy;obtain r|⟨r,r'⟩:=r
  .exact .inl r
  .exact .inr ⟨r,by omega⟩
end
section
variable{X:Cx}{ϵ:List (δ×Obj)}{σ:St}{H H₁:Hp}{s:μ}{vs:List ε}{f:ε}{b:Bool}{Kp:Nat->ε->Hp->Prop}{lt:Nat->Nat->Bool}{kS D:δ}{e1:Nat}
def ag2(X:Cx)(ϵ:List (δ×Obj))(σ:St)(H₁:Hp)(Kp:Nat->ε->Hp->Prop)(kS D:δ)(e1:Nat)(ks:List ε)(s:μ):Prop:=
 ∃H' e,Inv X.ϊ ϵ σ H' s/\ζ H₁ H'/\Ϛ X.ϊ ϵ H' s kS ks e/\Ϛ X.ϊ ϵ H' s D [] e1/\∀(i:Nat) k,ks[i]?=some k->Kp i k H'
theorem HB{body:ε->PUnit->Sem (ForInStep PUnit)}{A:ϰ}{E:ε->μ->Prop}{R:List ε->μ->Prop}(hb:∀i v ks s,vs[i]?=some v->ks.length=i->R ks s->ν (Ϧ X.prog X.w) A (body v ⟨⟩) (λr s'=>r=.yield ⟨⟩/\∃k,R (ks++[k]) s') E s):∀(r ks:List ε)(s:μ),vs.drop ks.length=r->R ks s->ν (Ϧ X.prog X.w) A (forIn r PUnit.unit body) (λ_ s'=>∃ks,ks.length=vs.length/\R ks s') E s\/vs.length<ks.length
 |[],ks,s,hr,h=>by
  by_cases hl:vs.length<ks.length
  .exact .inr hl
  .left;rw[List.forIn_nil];have:=List.drop_eq_nil_iff.mp hr;exact ϱ ⟨ks,by omega,h⟩
 |v::r,ks,s,hr,h=>by
  left;have hv:vs[ks.length]?=some v:=by
   have:=congrArg (λl=>l[0]?) hr;simp only[List.getElem?_drop,amc]at this;simpa using this
  have hlt:=(aal.mp hv).1;rw[List.forIn_cons];refine ϩ (adm (hb ks.length v ks s hv rfl h) (λq s' hq=>?_) λ_ _ x=>x);obtain⟨rfl,k,h2⟩:=hq;show ν (Ϧ X.prog X.w) A (forIn r PUnit.unit body) _ E s';have hr2:vs.drop (ks++[k]).length=r:=by
   rw[abo,ae7, <-anl,hr];rfl
  obtain h3|h3:=HB hb r (ks++[k]) s' hr2 h2
  .exact h3
  .rw[abo,ae7]at h3;omega
theorem G3{P:PySem.Fin->μ->Prop}{E:ε->μ->Prop}{st:SortSt}{ks out:List ε}{e:Nat}(Ϻ:D≠kS)(I:Inv X.ϊ ϵ σ H s)(hk:Ϛ X.ϊ ϵ H s kS ks e)(hD:Ϛ X.ϊ ϵ H s D [] e1)(hout:(arrOf st).map (·.2)=afg out)(hz:out.length<64)(hkz:ks.length<64)(hf:failedOf st=none)(h:∀s' e',Inv X.ϊ ϵ σ H s'->Ϛ X.ϊ ϵ H s' D (katRev b out) e'->P (.done (.ret .none)) s'):ν (Ϧ X.prog X.w) X.A.in1.in1 (ksk_tail D b e1 (.ref kS) st) P E s:=by
 obtain⟨ek,I1,hk1,hD1⟩:=Ϛ.set (us:=[]) (g:=λ_=> #[]) I hk hD Ϻ rfl;obtain⟨ed,I2,hD2,hk2⟩:=Ϛ.set (us:=katRev b out) (g:=λ_=>afg (katRev b out)) I1 hD1 hk1 (Ne.symm Ϻ) rfl;have hsz:(afg (katRev b out)).size=out.length:=by rw[aaB,kat_len]
 unfold ksk_tail
 try dsimp only
 rw[hout,kat_outs];refine ϩ (listUpdate_at hk.1 rfl ?_ (by rw[aaB,ϲ];omega) (agf _));refine ϩ (wpAny_letGo ?_);refine ϩ (seqEpoch_at hD1.1 rfl ?_);refine ϩ (listUpdate_at hD1.1 rfl ?_ (agf _) (afK (alO hsz) (by rw[ϲ];omega)));rw[hf];simp only[bne_self_eq_false,alS,if_false];exact ϱ (h _ ed I2 hD2)
def gD(vs:List ε)(q:List Nat):List ε:=q.map λi=>vs.getD i Value.none
theorem aih{P:PySem.Fin->μ->Prop}{E:ε->μ->Prop}{ks:List ε}{e:Nat}(W:aj lt)(C:lD X σ vs.length Kp lt)(Ϻ:D≠kS)(h64:vs.length<64)(hl:ks.length=vs.length)(I:Inv X.ϊ ϵ σ H s)(hk:Ϛ X.ϊ ϵ H s kS ks e)(hD:Ϛ X.ϊ ϵ H s D [] e1)(hK:∀(i:Nat) k,ks[i]?=some k->Kp i k H)(h:∀s' e' q,Inv X.ϊ ϵ σ H s'->cZ vs.length (gP b lt) q->Ϛ X.ϊ ϵ H s' D (gD vs q) e'->P (.done (.ret .none)) s'):ν (Ϧ X.prog X.w) X.A.in1.in1 (ksk_end D b vs.toArray e1 (.ref kS) (afg ks)) P E s:=by
 have step:∀t:Sem PySem.Fin,ν (Ϧ X.prog X.w) X.A.in1.in1 t P E s->ν (Ϧ X.prog X.w) X.A.in1.in1 (if b=true then(do let _<-rule "list.sort.reverse";t)else t) P E s:=by
  intro t ht;split
  .exact ϩ (wpAny_rule ht)
  .exact ht
 have hlr:(katRev b ks).length=(katRev b vs).length:=by rw[kat_len,kat_len,hl]
 unfold ksk_end
 try dsimp only
 refine step _ ?_;by_cases hn2:vs.length<2
 .have hn2':vs.toArray.size<2:=by rw[aaB];omega
  rw[if_pos hn2',if_pos hn2'];refine ϩ (ϱ ?_);refine ϩ (ϱ ?_)
  try dsimp only
  have hr1:∀{α:Type}(l:List α),l.length<2->katRev b l=l:=λl hl=>by
   unfold katRev
   match l,hl with
   |[],_=>simp
   |[x],_=>simp
  rw[kat_pairs b hl,hr1 ks (by omega),hr1 vs hn2];have har:(arrOf (SortSt.mk' general' ((afg ks).zip vs.toArray) #[] 7 none)).map (·.2)=afg vs:=by
   show((afg ks).zip vs.toArray).map (·.2)=afg vs;apply am4.mp;rw[Array.toList_map,ksk_zip];show(ks.zip vs).map Prod.snd=vs;rw[List.map_snd_zip (by omega)]
  refine G3 Ϻ I hk hD har h64 (by omega) rfl λs' e' I' hD'=>?_
  rw[hr1 vs hn2]at hD';refine h s' e' (afz vs.length) I' ⟨List.Perm.refl _,?_⟩ ?_
  .match vs.length,hn2 with
   |0,_=>exact List.Pairwise.nil
   |1,_=>exact List.pairwise_singleton _ _
  .have e2:gD vs (afz vs.length)=vs:=by
    unfold gD;apply am6
    .simp
    .intro i h1 h2;simp[h2]
   rw[e2];exact hD'
 .have hn2':¬vs.toArray.size<2:=by rw[aaB];omega
  rw[if_neg hn2',if_neg hn2'];refine ϩ (adm (C.kind _ s H ks (hk.pin I hD) hl (by omega) hK) (λκ s0 hk0=>?_) λ_ _ x=>x.elim);obtain⟨I0,hcmp⟩:=hk0;rw[kat_pairs b hl];have hget:∀i,i<vs.length->(katRev b ks).getD i Value.none=ks.getD (if b=true then vs.length-1-i else i) Value.none:=λi hi=>by
   cases b with
   |false=>rfl
   |true=>
    show ks.reverse.getD i Value.none=ks.getD (vs.length-1-i) Value.none;rw[abf,abf,amG (by omega),hl]
  have W':aj (λi j=>lt (if b=true then vs.length-1-i else i) (if b=true then vs.length-1-j else j)):=⟨λi=>W.ir _,λi j k=>W.tr _ _ _,λi j k=>W.nt _ _ _⟩;have hrun:(kas_sort (katRev b vs).length).kasWp (kas_ask X.prog X.w X.A.in1.in1 κ (katRev b ks)) (λp s''=>Inv X.ϊ (ϵ++dq [kS,D] s.heap) σ H s''/\Pl vs.length p vs.length/\dJ (λi j=>lt (if b=true then vs.length-1-i else i) (if b=true then vs.length-1-j else j)) p vs.length) s0:=by
   rw[kat_len];refine Ik (lt:=λi j=>lt (if b=true then vs.length-1-i else i) (if b=true then vs.length-1-j else j)) (n:=vs.length) (I:=λs''=>Inv X.ϊ (ϵ++dq [kS,D] s.heap) σ H s'') (λi j C' s1 hi hj I1 hC=>?_) _ s0 I0 (fJ (λp hp s1 I1=>⟨I1,hp.1,hp.2⟩) _ (ahb W' (by omega)));unfold kas_ask;rw[hget i hi,hget j hj];have hi':(if b=true then vs.length-1-i else i)<ks.length:=by split <;>omega
   have hj':(if b=true then vs.length-1-j else j)<ks.length:=by split <;>omega
   have gi:ks[if b=true then vs.length-1-i else i]?=some (ks.getD (if b=true then vs.length-1-i else i) Value.none):=by
    rw[abf,aaf hi'];rfl
   have gj:ks[if b=true then vs.length-1-j else j]?=some (ks.getD (if b=true then vs.length-1-j else j) Value.none):=by
    rw[abf,aaf hj'];rfl
   refine adm (hcmp _ _ _ _ _ s1 gi gj I1) (λr s2 hr=>?_) λ_ _ x=>x
   obtain⟨rfl,I2⟩:=hr;exact hC s2 I2
  refine ϩ (adm (kat_run (Q:=λst' s'=>∃p:Array Nat,p.size=(katRev b vs).length/\arrOf st'=p.map (kas_item ((afg (katRev b ks)).zip (afg (katRev b vs))))/\failedOf st'=none/\
    Inv X.ϊ (ϵ++dq [kS,D] s.heap) σ H s'/\Pl vs.length p vs.length/\dJ (λi j=>lt (if b=true then vs.length-1-i else i) (if b=true then vs.length-1-j else j)) p vs.length)
   hlr (by rw[kat_len];omega) (by rw[kat_len];exact h64) (λp' st' s' a1 a2 a3 a4=>⟨p',a1,a2,a3,a4⟩) hrun) ?_ λ_ _ x=>x)
  rintro⟨⟨⟩,st'⟩ s' ⟨p,hp,har,hf,I2,hPl,ZD⟩
  try dsimp only
  obtain⟨I3,hk3,rM⟩:=Ϛ.Ip hk hD I2;refine G3 Ϻ I3 hk3 rM (kat_snds hlr har) (by rw[ϳ,akl,hp,kat_len];exact h64) (by omega) hf λs4 e4 I4 qO=>?_
  have hso:=Tg hPl ZD;have hlt:∀x∈p.toList,x<vs.length:=λx hx=>alZ.mp (hso.1.subset hx)
  cases b with
  |false=>
   refine h s4 e4 p.toList I4 hso ?_;exact qO
  |true=>
   refine h s4 e4 _ I4 (agu hso) ?_;have e2:katRev true (p.toList.map λi=>(katRev true vs).getD i Value.none)=gD vs (p.toList.map (vs.length-1- ·)).reverse:=by
    show(p.toList.map λi=>vs.reverse.getD i Value.none).reverse=_;unfold gD;rw[List.map_reverse,ahl]
    congr 1
    refine alM λi hi=>?_
    show vs.reverse.getD i Value.none=vs.getD (vs.length-1-i) Value.none;rw[abf,abf,amG (hlt i hi)]
   rw[e2]at qO;exact qO
theorem agm{P:PySem.Fin->μ->Prop}{E:ε->μ->Prop}(W:aj lt)(F:uL X σ f vs H₁ Kp)(C:lD X σ vs.length Kp lt)(Ϻ:D≠kS)(h64:vs.length<64)(I:Inv X.ϊ ϵ σ H s)(sm:ζ H₁ H)(hk:Ϛ X.ϊ ϵ H s kS [] 0)(hD:Ϛ X.ϊ ϵ H s D [] e1)(h:∀s' H' e' q,Inv X.ϊ ϵ σ H' s'->ζ H₁ H'->cZ vs.length (gP b lt) q->Ϛ X.ϊ ϵ H' s' D (gD vs q) e'->P (.done (.ret .none)) s'):ν (Ϧ X.prog X.w) X.A.in1.in1 (ksk_rest D f b vs.toArray e1 (.ref kS)) P E s:=by
 unfold ksk_rest;refine ϩ (wpAny_rule ?_)
 first
  |rw[List.forIn_toArray]
  |(rw[<-amT];simp only[List.toList_toArray])
  |rw[<-amT]
 refine ϩ (adm ((HB (X:=X) (vs:=vs) (R:=ag2 X ϵ σ H₁ Kp kS D e1) (λi v ks s' hv hi hR=>?_) vs [] s (by simp) ⟨H,0,I,sm,hk,hD,λi k e=>by simp at e⟩).resolve_right (by simp)) (λ_ s' hd=>?_) λ_ _ x=>x)
 .obtain⟨H',e,I',sm',hk',hD',hK⟩:=hR;have hil:=(aal.mp hv).1;refine ϩ (wpAny_attempt (adm (F.call i v _ s' H' hv sm' (hk'.pin I' hD')) (λk s2 hq=>?_) λ_ _ hF=>hF.elim));obtain⟨H2,I2,Ζ,Rx⟩:=hq;obtain⟨I3,hk3,rM⟩:=Ϛ.Ip hk' hD' I2;have ea:(afg ks).push k=afg (ks++[k]):=by simp
  obtain⟨e',I4,dO,qO⟩:=Ϛ.set (us:=ks++[k]) (g:=(·.push k)) I3 hk3 rM Ϻ ea
  try dsimp only
  refine ϩ (listUpdate_at hk3.1 rfl ?_ (by rw[aaB,ϲ];omega) (afK (alO (Array.size_push ..)) (by rw[aaB,ϲ];omega)));refine ϱ ⟨rfl,k,H2,e',I4,sm'.trans Ζ,dO,qO,λj kj hj=>?_⟩;by_cases hjl:j<ks.length
  .rw[aiI hjl]at hj;exact F.mono _ _ _ _ Ζ (hK j kj hj)
  .have hj2:=(aal.mp hj).1;rw[abo,ae7]at hj2;have ej:j=ks.length:=by omega
   subst ej;rw[ai1]at hj;cases hj;rw[hi];exact Rx
 .obtain⟨ks,hl,H',e,I',sm',hk',hD',hK⟩:=hd
  try dsimp only
  refine ϩ (listItems_at hk'.1 rfl ?_);exact aih W C Ϻ h64 hl I' hk' hD' hK λs2 e2 q I2 hs hD2=>h s2 H' e2 q I2 sm' hs hD2
end
section
variable{X:Cx}{ϵ:List (δ×Obj)}{σ:St}{H:Hp}{s:μ}{vs:List ε}{f:ε}{b:Bool}{Kp:Nat->ε->Hp->Prop}{lt:Nat->Nat->Bool}{l:δ}
theorem acg{kw:List (Str×ε)}{Q:ε->μ->Prop}{E:ε->μ->Prop}(W:aj lt)(F:uL X σ f vs H Kp)(C:lD X σ vs.length Kp lt)(h64:vs.length<64)(I:Inv X ϵ σ H s)(hl:s.heap.IsList l vs.toArray)(ha1:argsOk "sorted" ⟨[.ref l],kw⟩)(ha2:∀x,argsOk "list.sort" ⟨[.ref x],kw⟩)(ht:∀x,Builtin.«list.sort» ⟨[.ref x],kw⟩=ksk_tree x f b)(h:∀D s' H' e' q,Inv X ϵ σ H' s'->ζ H H'->cZ vs.length (gP b lt) q->Ϛ X.ϊ ϵ H' s' D (gD vs q) e'->Q (.ref D) s'):ν (Ϧ X.prog X.w) X.A (call (.builtin "sorted") [.ref l] kw) Q E s:=by
 refine call_function_entry_kw kind_sorted plain_sorted entry_sorted ha1 ?_;unfold Builtin.«sorted»;refine ϩ (m:=checkCount "sorted" 1 1 _) (ϱ ?_);refine ϩ (collect_list hl ?_ (by rw[ϲ];omega));refine ϩ (wpAny_newList ?_ (by rw[ϲ];omega));have hsz:((s.heap.push (seqObj "list" #[] 0)).update s.heap.objs.size (Obj.mapSeq (· ++vs.toArray))).objs.size=s.heap.objs.size+1:=by
  rw[am7,size_push']
 have hoL:(((s.heap.push (seqObj "list" #[] 0)).update s.heap.objs.size (Obj.mapSeq (· ++vs.toArray))).push (seqObj "list" vs.toArray 0)).get? (s.heap.objs.size+1)=some (seqObj "list" vs.toArray 0):=by
  rw[<-hsz];exact abq _ rfl
 have keep:∀b o,s.heap.get? b=some o->(((s.heap.push (seqObj "list" #[] 0)).update s.heap.objs.size (Obj.mapSeq (· ++vs.toArray))).push (seqObj "list" vs.toArray 0)).get? b=some o:=λb o q=>by
  have hlt:b<s.heap.objs.size:=abe q;rw[amX _ _ _ (by rw[hsz];exact ab6 (alz hlt)),alL _ _ _ _ (ab6 hlt),amX _ _ _ (ab6 hlt)];exact q
 show ν _ _ _ _ _ {s with heap:=((s.heap.push (seqObj "list" #[] 0)).update s.heap.objs.size (Obj.mapSeq (· ++vs.toArray))).push (seqObj "list" vs.toArray 0)};rw[hsz];have hsz2:(((s.heap.push (seqObj "list" #[] 0)).update s.heap.objs.size (Obj.mapSeq (· ++vs.toArray))).push (seqObj "list" vs.toArray 0)).objs.size=s.heap.objs.size+2:=by rw[size_push',hsz]
 generalize((s.heap.push (seqObj "list" #[] 0)).update s.heap.objs.size (Obj.mapSeq (· ++vs.toArray))).push (seqObj "list" vs.toArray 0)=h2 at hoL keep hsz2⊢;refine ϩ (ag0 (wpAny_call_entry_kw slot_list_sort ⟨_,hoL,rfl⟩ entry_list_sort ?body (ha2 _)))
 case body=>
  show ν (Ϧ X.prog X.w) X.A.in1.in1 (Builtin.«list.sort» ⟨[.ref (s.heap.objs.size+1)],kw⟩) _ _ _;rw[ht];have hal:s.heap.objs.size<=s.heap.objs.size+1:=alJ _;generalize s.heap.objs.size+1=a at hoL hal⊢;obtain⟨e1,ho1⟩:∃e1,(h2.update a (Obj.mapSeq λ_=>(#[]:Array ε))).get? a=some (seqObj "list" #[] e1):=⟨_,get?_update_seq hoL λ_=> #[]⟩;have hkS:((h2.update a (Obj.mapSeq λ_=>(#[]:Array ε))).push (seqObj "tuple" vs.toArray 0)).objs.size=s.heap.objs.size+3:=by rw[size_push',am7,hsz2]
  have kZ:∀b o,s.heap.get? b=some o->(((h2.update a (Obj.mapSeq λ_=>(#[]:Array ε))).push (seqObj "tuple" vs.toArray 0)).push (seqObj "list" #[] 0)).get? b=some o:=λb o q=>by
   have hlt:b<s.heap.objs.size:=abe q;refine Heap.get?_push_of_some _ (Heap.get?_push_of_some _ ?_);rw[alL _ _ _ _ (ab6 (abu hlt hal))];exact keep b o q
  have hka:((h2.update a (Obj.mapSeq λ_=>(#[]:Array ε))).push (seqObj "tuple" vs.toArray 0)).objs.size≠a:=by
   have:=abe hoL;rw[hkS];rw[hsz2]at this;exact amA (alz this)
  unfold ksk_tree;refine ϩ (listItems_at hoL rfl ?_);refine ϩ (listUpdate_at hoL rfl ?_ (by rw[aaB,ϲ];omega) (agf _));refine ϩ (seqEpoch_at ho1 rfl ?_);refine ϩ (wpAny_newTuple ?_ (by show vs.length<=_;rw[ϲ];omega));refine ϩ (wpAny_newList ?_ (agf _));refine ag0 ?_;have I5:Inv X.ϊ ϵ σ H {s with heap:=((h2.update a (Obj.mapSeq λ_=>(#[]:Array ε))).push (seqObj "tuple" vs.toArray 0)).push (seqObj "list" #[] 0)}:=I.ϊ.kept (t':=s.toks) kZ;have hk0:s.heap.objs.size<=((h2.update a (Obj.mapSeq λ_=>(#[]:Array ε))).push (seqObj "tuple" vs.toArray 0)).objs.size:=by rw[hkS];exact akJ _ _
  refine agm (X:=X) (ϵ:=ϵ) (σ:=σ) (H:=H) (H₁:=H) (kS:=((h2.update a (Obj.mapSeq λ_=>(#[]:Array ε))).push (seqObj "tuple" vs.toArray 0)).objs.size) (D:=a) (e1:=e1) W F C (Ne.symm hka) h64 I5 (ζ.refl _) ⟨abq _ rfl,I.ϊ.fpOk hk0 (I.hok.fresh hk0)⟩ ⟨Heap.get?_push_of_some _ (Heap.get?_push_of_some _ ho1),I.ϊ.fpOk hal (I.hok.fresh hal)⟩ λs' H' e' q I' sm hq hD=>⟨_,rfl,?_⟩
  exact ϱ ⟨_,rfl,h a s' H' e' q (Inv.un2 I.ok I') sm hq hD⟩
def bY(xs:List V)(q:List Nat):List V:=q.map λi=>xs.getD i .non
theorem Ex{xs:List V}{vs:List ε}(r:Vals xs vs):∀{q:List Nat},(∀i∈q,i<xs.length)->Vals (bY xs q) (gD vs q)
 |[],_=>.nil
 |i::q,h=>by
  have hil:=h i (by simp);have hi:xs[i]?=some (xs[i]'hil):=aaf hil;obtain⟨u,e,ru⟩:=r.get hi;show Vals (xs.getD i .non::bY xs q) (vs.getD i Value.none::gD vs q);rw[abf,abf,hi,e];exact .cons ru (Ex r λj hj=>h j (by simp[hj]))
theorem j5{n:Nat}{lt:Nat->Nat->Bool}{q:List Nat}(h:cZ n lt q){i:Nat}(hi:i∈q):i<n:=alZ.mp (h.1.mem_iff.mp hi)
theorem aaC{n:Nat}{lt:Nat->Nat->Bool}{q:List Nat}(h:cZ n lt q):q.length=n:=by rw[h.1.length_eq,alX]
theorem Gw{kw:List (Str×ε)}{Q:VK}{E:ε->μ->Prop}{xs:List V}(W:aj lt)(hs:η X.K H l xs)(h64:xs.length<64)(FC:∀vs,Vals xs vs->uL X σ f vs H Kp/\lD X σ xs.length Kp lt)(I:Inv X ϵ σ H s)(ha1:argsOk "sorted" ⟨[.ref l],kw⟩)(ha2:∀x,argsOk "list.sort" ⟨[.ref x],kw⟩)(ht:∀x,Builtin.«list.sort» ⟨[.ref x],kw⟩=ksk_tree x f b)(h:∀p H' q,ζ H H'->H' p=none->cZ xs.length (gP b lt) q->Q (.ref p) (upd H' p (.lst (bY xs q)))):ν (Ϧ X.prog X.w) X.A (call (.builtin "sorted") [.ref l] kw) (EP X ϵ σ Q) E s:=by
 obtain⟨vs,r,pl,hz⟩:=I.list hs;have hlen:=r.length;obtain⟨hF,hC⟩:=FC vs r;rw[hlen]at hC;obtain⟨o,n,e,c,d,ss⟩:=pl;refine acg (b:=b) W hF hC (by omega) I ⟨o,e,c,n,ss⟩ ha1 ha2 ht λD s' H' e' q I' sm hq hD=>?_
 rw[<-hlen]at hq;have hql:=aaC hq;refine⟨.ref D,_,I'.VR (e:=D) (o:=.lst (bY xs q)) hD.2.1 hD.2.ch ⟨?_,gD vs q,e',Ex r λi hi=>j5 hq hi,hD.1⟩,rfl,h D H' q sm hD.2.1 hq⟩;show(q.map _).length<=_;rw[ϳ];omega
end
def qJ(A:ϰ)(s:μ)(fin:Bool):List ε->List ε->Bool->Prop
 |x::xs,y::ys,r=>∃e,SeqAt.EqAt A s x y e/\(e=true->qJ A s fin xs ys r)/\(e=false->∀(prog:ϯ)(w:ϭ)(E:ε->μ->Prop)(Q:ε->μ->Prop),Q (.bool r) s->ν (Ϧ prog w) A (richCompare .Lt x y) Q E s)
 |_,_,r=>r=fin
open PySem.AutoSeq1 (wpAny_loadPart') in
theorem Em(l b:δ)(items items2:Array ε)(n n2:Nat)(dd dd2:Option δ)(sl sl2:Array (Option ε))(r:Bool):Meets (Builtin.«tuple.__lt__» ⟨[.ref l,.ref b],[]⟩)
   (λA R s=>s.heap.get? l=some {cls:=.type "tuple",dict:=dd,data:=.seq items n,slots:=sl}/\s.heap.get? b=some {cls:=.type "tuple",dict:=dd2,data:=.seq items2 n2,slots:=sl2}/\
    qJ A.in1 s (decide (items.size<items2.size)) items.toList items2.toList r/\R (.ok (.ret (.bool r))) s):=
 .of_wp λprog w A R s h=>by
  obtain⟨hp,g,d,tk,os⟩:=s;obtain⟨h1,h2,hL,hR⟩:=h;have hsub:=AutoSeq1.sub_tuple_tuple
  wp_walk using wpAny_loadPart' h1,wpAny_loadPart' h2,wpAny_forIn_list _ (λleft acc s'=>acc.1=none/\s'=⟨hp,g,d,tk,os⟩/\∃p q,left=List.zip p q/\qJ A.in1 ⟨hp,g,d,tk,os⟩ (decide (items.size<items2.size)) p q r) _
  case turn=>
   rintro⟨x,y⟩ left acc s' ⟨ha,rfl,p,q,hz,hL⟩
   match p,q,hL with
   |[],_,_=>cases hz
   |_::_,[],_=>cases hz
   |x'::p,y'::q,hL=>
    rw[List.zip_cons_cons]at hz;injection hz with hxy hrest
    injection hxy with ex ey
    subst ex ey;obtain⟨e,he,ht,hf⟩:=hL;refine ϩ (he prog w _ _ ?_);cases e with
    |true=>
     wp_walk
     exact⟨rfl,rfl,p,q,hrest,ht rfl⟩
    |false=>
     have hlt:=hf rfl prog w
     wp_walk using hlt
     exact⟨_,rfl,by simpa using hR⟩
  case fin=>
   rintro⟨b1,b2⟩ s' ⟨ha,rfl,p,q,hz,hL⟩
   simp only at ha;subst ha;have fin:r=decide (items.size<items2.size):=by
    match p,q,hL with
    |[],[],hL=>exact hL
    |[],_::_,hL=>exact hL
    |_::_,[],hL=>exact hL
    |x'::p,y'::q,hL=>rw[List.zip_cons_cons]at hz;cases hz
   subst fin
   wp_walk
   exact⟨_,rfl,by simpa [Builtin.Tuple.tupleCompareSizes]using hR⟩
  case h=>
   exact⟨rfl,rfl,items.toList,items2.toList,rfl,hL⟩
def aa:List V->List V->Bool
 |[],[]=>false
 |[],_::_=>true
 |_::_,[]=>false
 |x::_,y::_=>ltV x y
def gC(x y:V):Prop:=(∃m n,x=.int m/\y=.int n)\/∃m n,x=.str m/\y=.str n
def jO(r:List V):Prop:=r=[]\/∃x,r=[x]
theorem Aq(x:V):ltV x x=false:=by
 cases x with
 |int i=>exact decide_eq_false (by omega)
 |str z=>exact decide_eq_false (anm _)
 |_=>rfl
section
variable{prog:ϯ}{w:ϭ}{A:ϰ}{E:ε->μ->Prop}{s:μ}{x y:V}{u v:ε}
theorem Gr(h:gC x y)(ru:RelV x u)(rv:RelV y v):∃e,SeqAt.EqAt A s u v e/\(e=true↔x=y):=by
 obtain⟨m,n,rfl,rfl⟩|⟨m,n,rfl,rfl⟩:=h
 .obtain⟨t,rfl⟩:=ru;obtain⟨t2,rfl⟩:=rv;exact⟨_,SeqAt.EqAt.int_int m t n t2,by simp⟩
 .obtain⟨t,rfl⟩:=ru;obtain⟨t2,rfl⟩:=rv;exact⟨_,SeqAt.EqAt.str_str m t n t2,by simp⟩
theorem ZJ{Q:ε->μ->Prop}(h:gC x y)(ru:RelV x u)(rv:RelV y v)(q:Q (.bool (ltV x y)) s):ν (Ϧ prog w) A (richCompare .Lt u v) Q E s:=by
 obtain⟨m,n,rfl,rfl⟩|⟨m,n,rfl,rfl⟩:=h
 .obtain⟨t,rfl⟩:=ru;obtain⟨t2,rfl⟩:=rv;exact lt_int q
 .obtain⟨t,rfl⟩:=ru;obtain⟨t2,rfl⟩:=rv;exact lt_str q
theorem adg{Q:Bool->μ->Prop}(h:gC x y)(ru:RelV x u)(rv:RelV y v)(q:Q (ltV x y) s):ν (Ϧ prog w) A (oneLt' true u v) Q E s:=by
 obtain⟨m,n,rfl,rfl⟩|⟨m,n,rfl,rfl⟩:=h
 .obtain⟨t,rfl⟩:=ru;obtain⟨t2,rfl⟩:=rv;exact oneLt_int q
 .obtain⟨t,rfl⟩:=ru;obtain⟨t2,rfl⟩:=rv;exact oneLt_str q
theorem afA{rx ry:List V}{us ws:List ε}(hx:jO rx)(hy:jO ry)(hk:∀x y,rx=[x]->ry=[y]->gC x y)(ru:Vals rx us)(rv:Vals ry ws):qJ A s (decide (us.length<ws.length)) us ws (aa rx ry):=by
 obtain rfl|⟨x,rfl⟩:=hx
 .cases Vals.zero ru;obtain rfl|⟨y,rfl⟩:=hy
  .cases Vals.zero rv;rfl
  .obtain⟨v,rfl,_⟩:=Vals.one rv;rfl
 .obtain⟨u,rfl,r1⟩:=Vals.one ru;obtain rfl|⟨y,rfl⟩:=hy
  .cases Vals.zero rv;rfl
  .obtain⟨v,rfl,r2⟩:=Vals.one rv;have lk:=hk x y rfl rfl;obtain⟨e,he,hi⟩:=Gr (A:=A) (s:=s) lk r1 r2;refine⟨e,he,λh=>?_,λh prog w E Q q=>ZJ lk r1 r2 q⟩;have:x=y:=hi.mp h;subst this;show ltV x x=decide (1<1);rw[Aq];rfl
end
section
variable{X:Cx}{ϵ:List (δ×Obj)}{σ:St}{H:Hp}{s:μ}{a b:δ}{rx ry:List V}
theorem wU(I:Inv X ϵ σ H s)(h:H a=some (.tup rx)):∃(ϸ:List ε)(n:Nat)(dd:Option δ)(sl:Array (Option ε)),Vals rx ϸ/\s.heap.get? a=some {cls:=.type "tuple",dict:=dd,data:=.seq ϸ.toArray n,slots:=sl}:=by
 obtain⟨_,ϸ,r,⟨cls,dd,data,sl⟩,e,c,n,d⟩:=(I.hok a _ h:Ϗ X.prog X.w H s.heap a (.tup rx));simp only at c d;subst c d;exact⟨ϸ,n,dd,sl,r,e⟩
theorem abz{A:ϰ}{E:ε->μ->Prop}{κ:SortKind}{Q:Bool->μ->Prop}(hu:A.units<cLine)(I:Inv X ϵ σ H s)(ha:H a=some (.tup rx))(hb:H b=some (.tup ry))(hx:jO rx)(hy:jO ry)(hk:∀x y,rx=[x]->ry=[y]->gC x y)(hκ:κ=general'\/κ=oneType'\/(κ=tuples' true/\rx≠[]/\ry≠[]))(q:Q (aa rx ry) s):ν (Ϧ X.prog X.w) A (keyLt' κ (.ref a) (.ref b)) Q E s:=by
 obtain⟨us,n,dd,sl,ru,ea⟩:=wU I ha;obtain⟨ws,n2,dd2,sl2,rv,eb⟩:=wU I hb;have hl:qJ A.in1 s (decide (us.toArray.size<ws.toArray.size)) us.toArray.toList ws.toArray.toList (aa rx ry):=by
  simpa using afA hx hy hk ru rv
 obtain rfl|rfl|⟨rfl,h1,h2⟩:=hκ
 .show ν _ _ (oneLt' false (.ref a) (.ref b)) _ _ _;refine kat_one _ _ ?_;exact richCompare_meets_room (op:=.Lt) ⟨_,ea,rfl⟩ ⟨_,eb,rfl⟩ F.slot_tuple_lt F.entry_tuple_lt (F.args_tuple_lt_2 _ _) (Em a b us.toArray ws.toArray n n2 dd dd2 sl sl2 (aa rx ry)) ⟨ea,eb,hl,(λz=>nomatch z),q⟩ hu
 .show ν _ _ (oneLt' true (.ref a) (.ref b)) _ _ _;rw[oneLt'_eq];simp only[if_true];refine ϩ (wpAny_cRoomFor hu ?_);refine ϩ (wpAny_callSpecialIfBound?_slot (T:="tuple") ⟨_,ea,rfl⟩ F.slot_tuple_lt ?_);refine alN F.slot_tuple_lt ⟨_,ea,rfl⟩ F.entry_tuple_lt (F.args_tuple_lt_2 _ _) (Em a b us.toArray ws.toArray n n2 dd dd2 sl sl2 (aa rx ry)) ⟨ea,eb,hl,?_⟩;exact ag8 q
 .obtain rfl|⟨x,rfl⟩:=hx
  .exact absurd rfl h1
  obtain rfl|⟨y,rfl⟩:=hy
  .exact absurd rfl h2
  obtain⟨u,rfl,r1⟩:=Vals.one ru;obtain⟨v,rfl,r2⟩:=Vals.one rv;have lk:=hk x y rfl rfl;refine kat_lt ea rfl eb rfl ?_;obtain⟨e,he,hi⟩:=Gr (A:=A) (s:=s) lk r1 r2;refine kat_cons (he X.prog X.w _ _ ?_);refine kat_go (λh=>?_) λh=>?_
  .have :x=y:=hi.mp h;subst this;refine kat_yes (kat_nil ?_);have q':Q (ltV x x) s:=q;rw[Aq]at q';exact q'
  .exact kat_no (adg lk r1 r2 q)
end
section
variable{M:Model}{A:ϰ}{E:ε->μ->Prop}{s:μ}
def pA(h:ϫ):List ε->List (Option ε)->Prop
 |[],[]=>True
 |v::vs,f::fs=>(∃a o xs n,v=.ref a/\h.get? a=some o/\o.cls=.type "tuple"/\o.data=.seq xs n/\xs[0]?=f)/\pA h vs fs
 |_,_=>False
theorem Ly:∀(vs:List ε)(fs:List (Option ε)){Q:List (Option ε)->μ->Prop},pA s.heap vs fs->Q fs s->ν M A (vs.mapM firstOfTuple') Q E s
 |[],[],_,_,h=>by rw[List.mapM_nil];exact ϱ h
 |[],_::_,_,t,_=>t.elim
 |_::_,[],_,t,_=>t.elim
 |v::vs,f::fs,Q,t,h=>by
  obtain⟨⟨a,o,xs,n,rfl,ho,hc,hd,hf⟩,t⟩:=t;rw[List.mapM_cons];refine ϩ ?_;rw[kas_first_eq];refine ϩ (Looks.here (show Looks M s.heap (typeOf (.ref a)) o.cls from(Looks.ld ho).andThen .now) ?_);rw[hc,if_neg (by first|decide|simp)];refine ϩ (listItems_at ho hd (ϱ ?_));rw[hf];exact ϩ (Ly vs fs (Q:=λbs s'=>ν M A (pure (f::bs)) Q E s') t (ϱ h))
theorem QR:∀{vs:List ε}{fs:List (Option ε)},pA s.heap vs fs->∀v∈vs,Looks M s.heap (typeOf v) (.type "tuple")
 |v::vs,f::fs,t,u,hu=>by
  obtain⟨⟨a,o,xs,n,rfl,ho,hc,hd,hf⟩,t⟩:=t;obtain rfl|hu:=ϴ.mp hu
  .rw[<-hc];exact(Looks.ld ho).andThen .now
  .exact QR t u hu
theorem kind_any{vs:List ε}{fs:List (Option ε)}{T:ε}{Q:SortKind->μ->Prop}(t:pA s.heap vs fs)(Ϻ:0<vs.length)(hT:∀v,some v∈fs->Looks M s.heap (typeOf v) T)(hT2:(T==T)=true)(hT3:(T !=Value.type "tuple")=true)(h1:(∀f∈fs,f.isSome=true)->Q (tuples' true) s)(h2:Q general' s)(h3:Q oneType' s):ν M A (keyKind' vs.toArray) Q E s:=by
 rw[kat_kind_eq,aml,map_eq_pure_bind];refine ϩ (ϩ (Ly vs _ t (ϱ ?_)));by_cases hall:(fs.toArray.all λx=>x.isSome)=true
 .rw[if_pos hall];have hall':∀f∈fs,f.isSome=true:=by simpa using hall
  refine ϩ (wpAny_rule ?_);have hfl:fs.length=vs.length:=by
   clear hT h1 hall hall' Ϻ;induction vs generalizing fs with
   |nil=>cases fs with
    |nil=>rfl
    |cons _ _=>exact t.elim
   |cons v vs ih=>cases fs with
    |nil=>exact t.elim
    |cons f fs=>simp[ih t.2]
  have hfm:fs.toArray.filterMap id=(fs.filterMap id).toArray:=by simp
  have QM:fs.filterMap id≠[]:=by
   intro z
   match fs,hfl with
   |[],e=>simp at e;omega
   |f::fs,_=>
    obtain⟨v,rfl⟩:=alP.mp (hall' f (by simp));simp at z
  rw[hfm,oneTypeOnly'_eq,aml,map_eq_pure_bind];have hT':∀v∈fs.filterMap id,Looks M s.heap (typeOf v) T:=λv hv=>by
   obtain⟨o,ho,e⟩:=alR.mp hv;have e':o=some v:=e;exact hT v (e'▸ho)
  generalize fs.filterMap id=gs at QM hT';refine ϩ (ϩ (ϩ (kas_mapM (r:=T) _ (λv hv Q' hq=>(hT' v hv).here hq) (ϱ ?_))));obtain⟨g,gr,rfl⟩:∃g gr,gs=g::gr:=by
   match gs,QM with
   |[],z=>exact absurd rfl z
   |g::gr,_=>exact⟨g,gr,rfl⟩
  have hall2:((ams (λ_=>T) (g::gr)).toArray.all λx=>x==T)=true:=by
   simp only[am8,amZ,aeE];intro _ _;exact hT2
  have h0:(ams (λ_=>T) (g::gr)).toArray[0]?=some T:=by simp
  rw[h0];simp only[hall2,if_true];refine ϱ (ϱ ?_);have e:(some T).any (λx=>x !=Value.type "tuple")=true:=hT3;rw[e];exact h1 hall'
 .rw[if_neg hall];split
  .exact ϱ h2
  .rw[oneTypeOnly'_eq,aml,map_eq_pure_bind];refine ϩ (ϩ (ϩ (kas_mapM (r:=Value.type "tuple") _ (λv hv Q' hq=>(QR t v hv).here hq) (ϱ ?_))));obtain⟨g,gr,rfl⟩:∃g gr,vs=g::gr:=by
    match vs,Ϻ with
    |g::gr,_=>exact⟨g,gr,rfl⟩
   have hall2:((ams (λ_=>Value.type "tuple") (g::gr)).toArray.all λx=>x==Value.type "tuple")=true:=by
    simp only[am8,amZ,aeE];intro _ _;show(Value.type "tuple"==Value.type "tuple")=true;decide
   have h0:(ams (λ_=>Value.type "tuple") (g::gr)).toArray[0]?=some (Value.type "tuple"):=by simp
   rw[h0];simp only[hall2,if_true];exact ϱ (ϱ h3)
end
structure qZ(X:Cx)(σ:St)(f:ε)(xs:List V)(H₁:Hp)(KV:Nat->V->Hp->Prop):Prop where
 mono:∀i v H H',ζ H H'->KV i v H->KV i v H'
 call:∀i x u ϵ s H,xs[i]?=some x->RelV x u->ζ H₁ H->Inv X.ϊ ϵ σ H s->ν (Ϧ X.prog X.w) X.A.in1.in1 (call f [u]) (EP X.ϊ ϵ σ λk H'=>ζ H H'/\KV i k H') (λ_ _=>False) s
def rZ(KV:Nat->V->Hp->Prop)(i:Nat)(k:ε)(H:Hp):=∃v,RelV v k/\KV i v H
theorem qZ.fn{X:Cx}{σ:St}{f:ε}{xs:List V}{vs:List ε}{H₁:Hp}{KV:Nat->V->Hp->Prop}(h:qZ X σ f xs H₁ KV)(r:Vals xs vs):uL X σ f vs H₁ (rZ KV)where
 mono:=λi k H H' sm ⟨v,rv,q⟩=>⟨v,rv,h.mono i v H H' sm q⟩
 call:=λi u ϵ s H hu sm I=>by
  have hl:=r.length;have hi:=(aal.mp hu).1;have hx:xs[i]?=some (xs[i]'(by omega)):=aaf _;obtain⟨u',e,ru⟩:=r.get hx;rw[hu]at e;cases e;exact adm (h.call i _ u ϵ s H hx ru sm I) (λk s' ⟨v,H',I',rv,q1,q2⟩=>⟨H',I',q1,v,rv,q2⟩) λ_ _ z=>z
def Fi(f:Nat->Int)(i:Nat)(v:V)(_:Hp):Prop:=v=.int (f i)
section
variable{X:Cx}{σ:St}{n:Nat}
theorem Eh:∀{ks:List ε}{f:Nat->Int},(∀(i:Nat) k,ks[i]?=some k->∃t,k=.int (f i) t)->IntsAre ks ((afz ks.length).map f)
 |[],_,_=>.nil
 |k::ks,f,h=>by
  obtain⟨t,rfl⟩:=h 0 k rfl;have:=Eh (ks:=ks) (f:=λi=>f (i+1)) λi k e=>h (i+1) k (by simpa using e)
  rw[List.length_cons,amy,List.map_cons,ahl];exact .cons _ t this
theorem V7{f:Nat->Int}:lD X σ n (rZ (Fi f)) (λi j=>decide (f i<f j))where
 kind:=λϵ s H ks I hl h2 hK=>by
  have hK':∀(i:Nat) k,ks[i]?=some k->∃t,k=.int (f i) t:=λi k e=>by
   obtain⟨v,rv,rfl⟩:=hK i k e;obtain⟨t,rfl⟩:=rv;exact⟨t,rfl⟩
  rw[ksk_kind (keys:=ks.toArray) (kz:=(afz ks.length).map f) (by simpa using Eh hK') (by rw[aaB];omega)];refine ϱ ⟨I,λi j ki kj ϵ s hi hj I'=>?_⟩;obtain⟨t,rfl⟩:=hK' i ki hi;obtain⟨t2,rfl⟩:=hK' j kj hj;rw[keyLt'_oneType];exact oneLt_int ⟨rfl,I'⟩
theorem aiC{f:Nat->Int}:aj λi j=>decide (f i<f j):=⟨λi=>decide_eq_false (by omega),λi j k h1 h2=>decide_eq_true (by have:=of_decide_eq_true h1;have:=of_decide_eq_true h2;omega),λi j k h=>by
 have:=of_decide_eq_true h;by_cases h2:f i<f j
 .exact .inl (decide_eq_true h2)
 .exact .inr (decide_eq_true (by omega))⟩
def HX(rk:Nat->List V)(i:Nat)(v:V)(H:Hp):=∃a,v=.ref a/\H a=some (.tup (rk i))
def nG(rk:Nat->List V):Prop:=(∀i,jO (rk i))/\((∀i x,rk i=[x]->∃m,x=.int m)\/∀i x,rk i=[x]->∃m,x=.str m)
theorem nG.lk{rk:Nat->List V}(h:nG rk){i j:Nat}{x y:V}(hx:rk i=[x])(hy:rk j=[y]):gC x y:=by
 obtain h|h:=h.2
 .obtain⟨m,rfl⟩:=h i x hx;obtain⟨n,rfl⟩:=h j y hy;exact .inl ⟨m,n,rfl,rfl⟩
 .obtain⟨m,rfl⟩:=h i x hx;obtain⟨n,rfl⟩:=h j y hy;exact .inr ⟨m,n,rfl,rfl⟩
theorem DN{ϵ:List (δ×Obj)}{s:μ}{H:Hp}(I:Inv X ϵ σ H s):∀{ks:List ε}{rk:Nat->List V},(∀i,jO (rk i))->(∀(i:Nat) k,ks[i]?=some k->∃a,k=.ref a/\H a=some (.tup (rk i)))->
  ∃fs,pA s.heap ks fs/\(∀f∈fs,(∃i,(f=none/\rk i=[])\/∃x v,f=some v/\rk i=[x]/\RelV x v))/\∀i,i<ks.length->rk i=[]->none∈fs
 |[],rk,_,_=>⟨[],trivial,λf hf=>by simp at hf,λi hi=>by simp at hi⟩
 |k::ks,rk,hR,h=>by
  obtain⟨a,rfl,ha⟩:=h 0 k rfl;obtain⟨fs,h1,h2,h3⟩:=DN I (ks:=ks) (rk:=λi=>rk (i+1)) (λi=>hR (i+1)) λi k e=>h (i+1) k (by simpa using e)
  obtain⟨us,n,dd,sl,ru,ea⟩:=wU I ha;have hr:=hR 0;generalize hrk:rk 0=r0 at hr ru;obtain rfl|⟨x,rfl⟩:=hr
  .cases Vals.zero ru;refine⟨none::fs,⟨⟨a,_,_,n,rfl,ea,rfl,rfl,rfl⟩,h1⟩,λf hf=>?_,λi hi z=>?_⟩;obtain rfl|hf:=ϴ.mp hf
   .exact⟨0,.inl ⟨rfl,hrk⟩⟩
   .obtain⟨i,q⟩:=h2 f hf;exact⟨i+1,q⟩
   .cases i with
    |zero=>simp
    |succ i=>exact abK _ (h3 i (by simpa using hi) z)
  .obtain⟨u,rfl,r1⟩:=Vals.one ru;refine⟨some u::fs,⟨⟨a,_,_,n,rfl,ea,rfl,rfl,rfl⟩,h1⟩,λf hf=>?_,λi hi z=>?_⟩;obtain rfl|hf:=ϴ.mp hf
   .exact⟨0,.inr ⟨x,u,rfl,hrk,r1⟩⟩
   .obtain⟨i,q⟩:=h2 f hf;exact⟨i+1,q⟩
   .cases i with
    |zero=>rw[hrk]at z;cases z
    |succ i=>exact abK _ (h3 i (by simpa using hi) z)
theorem Kz{rk:Nat->List V}(hu:X.A.in1.in1.units<cLine)(hR:nG rk):lD X σ n (rZ (HX rk)) (λi j=>aa (rk i) (rk j))where
 kind:=λϵ s H ks I hl h2 hK=>by
  have hK':∀(i:Nat) k,ks[i]?=some k->∃a,k=.ref a/\H a=some (.tup (rk i)):=λi k e=>by
   obtain⟨v,rv,a,rfl,ha⟩:=hK i k e;cases rv;exact⟨a,rfl,ha⟩
  obtain⟨fs,t,hf,hn⟩:=DN I hR.1 hK';have any:∀κ,(κ=general'\/κ=oneType'\/(κ=tuples' true/\∀i,i<n->rk i≠[]))->Bm X σ H ks (λi j=>aa (rk i) (rk j)) κ:=λκ hκ i j ki kj ϵ s hi hj I'=>by
   obtain⟨a,rfl,ha⟩:=hK' i ki hi;obtain⟨b,rfl,hb⟩:=hK' j kj hj;have ϻ:=(aal.mp hi).1;have hjn:=(aal.mp hj).1;refine abz (X:=X.ϊ) hu I' ha hb (hR.1 i) (hR.1 j) (λx y e1 e2=>hR.lk e1 e2) ?_ ⟨rfl,I'⟩;obtain h|h|⟨h,h3⟩:=hκ
   .exact .inl h
   .exact .inr (.inl h)
   .exact .inr (.inr ⟨h,h3 i (by omega),h3 j (by omega)⟩)
  have fin:∀(T:ε),(T==T)=true->(T !=Value.type "tuple")=true->(∀v,some v∈fs->Looks (Ϧ X.prog X.w) s.heap (typeOf v) T)->ν (Ϧ X.prog X.w) X.A.in1.in1 (keyKind' (afg ks)) (λκ s'=>Inv X.ϊ ϵ σ H s'/\Bm X σ H ks (λi j=>aa (rk i) (rk j)) κ) (λ_ _=>False) s:=λT t2 t3 hT=>
   kind_any t (by omega) hT t2 t3 (λhall=>⟨I,any _ (.inr (.inr ⟨rfl,λi hi z=>absurd (hall _ (hn i (by omega) z)) (by decide)⟩))⟩) ⟨I,any _ (.inl rfl)⟩ ⟨I,any _ (.inr (.inl rfl))⟩
  obtain hk|hk:=hR.2
  .refine fin (.type "int") (by decide) (by decide) λv hv=>?_
   obtain⟨i,⟨e,_⟩|⟨x,v',e,e2,rv⟩⟩:=hf _ hv
   .cases e
   .cases e;obtain⟨m,rfl⟩:=hk i x e2;obtain⟨t,rfl⟩:=rv;exact .now
  .refine fin (.type "str") (by decide) (by decide) λv hv=>?_
   obtain⟨i,⟨e,_⟩|⟨x,v',e,e2,rv⟩⟩:=hf _ hv
   .cases e
   .cases e;obtain⟨m,rfl⟩:=hk i x e2;obtain⟨t,rfl⟩:=rv;exact .now
theorem T8{x y z:V}(h1:gC x y)(h2:gC y z)(a:ltV x y=true)(b:ltV y z=true):ltV x z=true:=by
 obtain⟨m,n,rfl,rfl⟩|⟨m,n,rfl,rfl⟩:=h1
 .obtain⟨m2,k,e,rfl⟩|⟨_,_,e,_⟩:=h2
  .cases e;exact decide_eq_true (by have:=of_decide_eq_true a;have:=of_decide_eq_true b;omega)
  .cases e
 .obtain⟨_,_,e,_⟩|⟨m2,k,e,rfl⟩:=h2
  .cases e
  .cases e;exact decide_eq_true (anu (of_decide_eq_true a) (of_decide_eq_true b))
theorem Wk{x y z:V}(h1:gC x y)(h2:gC y z)(a:ltV x z=true):ltV x y=true\/ltV y z=true:=by
 obtain⟨m,n,rfl,rfl⟩|⟨m,n,rfl,rfl⟩:=h1
 .obtain⟨m2,k,e,rfl⟩|⟨_,_,e,_⟩:=h2
  .cases e;have:=of_decide_eq_true a;by_cases h:m<n
   .exact .inl (decide_eq_true h)
   .exact .inr (decide_eq_true (by omega))
  .cases e
 .obtain⟨_,_,e,_⟩|⟨m2,k,e,rfl⟩:=h2
  .cases e
  .cases e;by_cases h:m.cps.toList<n.cps.toList
   .exact .inl (decide_eq_true h)
   .refine .inr (decide_eq_true ?_);have hle:n.cps.toList<=m.cps.toList:=anh.mp h;exact List.lt_of_le_of_lt hle (of_decide_eq_true a)
theorem NQ{rk:Nat->List V}(hR:nG rk):aj λi j=>aa (rk i) (rk j)where
 ir:=λi=>by
  show aa (rk i) (rk i)=false;obtain e|⟨x,e⟩:=hR.1 i
  .rw[e];rfl
  .rw[e];exact Aq x
 tr:=λi j k h1 h2=>by
  have h1:aa (rk i) (rk j)=true:=h1;have h2:aa (rk j) (rk k)=true:=h2;show aa (rk i) (rk k)=true;obtain ei|⟨x,ei⟩:=hR.1 i<;>obtain ej|⟨y,ej⟩:=hR.1 j<;>obtain ek|⟨z,ek⟩:=hR.1 k<;>rw[ei]at h1⊢ <;>rw[ej]at h1 h2<;>rw[ek]at h2⊢ <;>first|(cases h1;done)|(cases h2;done)|rfl|exact T8 (hR.lk ei ej) (hR.lk ej ek) h1 h2
 nt:=λi j k h=>by
  have h:aa (rk i) (rk k)=true:=h;show aa (rk i) (rk j)=true\/aa (rk j) (rk k)=true;obtain ei|⟨x,ei⟩:=hR.1 i<;>obtain ej|⟨y,ej⟩:=hR.1 j<;>obtain ek|⟨z,ek⟩:=hR.1 k<;>rw[ei,ek]at h<;>rw[ei,ej,ek]<;>first|(cases h;done)|exact .inl rfl|exact .inr rfl|exact Wk (hR.lk ei ej) (hR.lk ej ek) h
end
section
variable{X:Cx}{σ:St}{H:Hp}{Q:VK}{e ke re:π}{p pos kp rp:Pos}
def vJ(X:Cx)(σ:St)(b:Bool)(v fv:V)(H:Hp)(Q:VK):=∃(l f:δ)(xs:List V)(KV:Nat->V->Hp->Prop)(lt:Nat->Nat->Bool),v=.ref l/\fv=.ref f/\η X.K H l xs/\xs.length<64/\aj lt/\qZ X σ (.ref f) xs H KV/\lD X σ xs.length (rZ KV) lt/\
 ∀p H' q,ζ H H'->H' p=none->cZ xs.length (gP b lt) q->Q (.ref p) (upd H' p (.lst (bY xs q)))
theorem JW(hg:Gl X "sorted")(hm:X.mg "sorted"=none)(he:Ϭ [e] X.env=[(false,eval e X.env)])(h:EV X e σ H λv H1=>EV X ke σ H1 λfv H2=>vJ X σ false v fv H2 Q):EV X (.Call (.Name "sorted" p) [e] [⟨some "key",ke,kp⟩] pos) σ H Q:=by
 intro ϵ s I;refine ajk (gY I hg hm PyProof.Rows.boot_sorted ?_ (by decide) (by decide));have hA:EA X [e] σ H (λvs H1=>∃v,vs=[v]/\EV X ke σ H1 λfv H2=>vJ X σ false v fv H2 Q):=gZ he (aF h λv H1 q=>gM ⟨v,rfl,q⟩);refine callWith_kw (ρ (hA pos ϵ s I) λus s1 ⟨vs,H1,I1,r1,v,ev,q1⟩=>?_) (by rw[he];rfl) (by rw[he];rfl);subst ev;obtain⟨u,rfl,ru⟩:=Vals.one r1;refine kws_cons (ρ (q1 ϵ s1 I1) λu2 s2 ⟨fv,H2,I2,r2,q2⟩=>kws_nil ?_);obtain⟨l,f,xs,KV,lt,rfl,rfl,hs,h64,W,hK,hC,g⟩:=q2;cases ru;cases r2;exact Gw (kw:=[(Str.ofString "key",.ref f)]) W hs h64 (λvs r=>⟨hK.fn r,hC⟩) I2 (ksk_s1 _ _) (λx=>ksk_l1 _ _) (λx=>ksk_t1 f x) g
theorem ahv{b:Bool}(hg:Gl X "sorted")(hm:X.mg "sorted"=none)(he:Ϭ [e] X.env=[(false,eval e X.env)])(h:EV X e σ H λv H1=>EV X ke σ H1 λfv H2=>EV X re σ H2 λrv H3=>rv=.bl b/\vJ X σ b v fv H3 Q):EV X (.Call (.Name "sorted" p) [e] [⟨some "key",ke,kp⟩,⟨some "reverse",re,rp⟩] pos) σ H Q:=by
 intro ϵ s I;refine ajk (gY I hg hm PyProof.Rows.boot_sorted ?_ (by decide) (by decide));have hA:EA X [e] σ H (λvs H1=>∃v,vs=[v]/\EV X ke σ H1 λfv H2=>EV X re σ H2 λrv H3=>rv=.bl b/\vJ X σ b v fv H3 Q):=gZ he (aF h λv H1 q=>gM ⟨v,rfl,q⟩);refine callWith_kw (ρ (hA pos ϵ s I) λus s1 ⟨vs,H1,I1,r1,v,ev,q1⟩=>?_) (by rw[he];rfl) (by rw[he];rfl);subst ev;obtain⟨u,rfl,ru⟩:=Vals.one r1;refine kws_cons (ρ (q1 ϵ s1 I1) λu2 s2 ⟨fv,H2,I2,r2,q2⟩=>kws_cons (ρ (q2 ϵ s2 I2) λu3 s3 ⟨rv,H3,I3,r3,erv,q3⟩=>kws_nil ?_));obtain⟨l,f,xs,KV,lt,rfl,rfl,hs,h64,W,hK,hC,g⟩:=q3;subst erv;cases ru;cases r2;cases r3;exact Gw (kw:=[(Str.ofString "key",.ref f),(Str.ofString "reverse",.bool b)]) W hs h64 (λvs r=>⟨hK.fn r,hC⟩) I3 (ksk_s2 _ _ _) (λx=>ksk_l2 _ _ _) (λx=>ksk_t2 f x b) g
abbrev Cx.o8(X:Cx):Cx:={X.ϊ with xe:=λ_ _=>False}
theorem Inv.o8{ϵ:List (δ×Obj)}{s:μ}(I:Inv X.ϊ ϵ σ H s):Inv X.o8 ϵ σ H s:=
 ⟨⟨I.ok.mod,I.ok.kind,I.ok.glob,I.ok.blt,I.ok.above,I.ok.inj,I.ok.has,I.ok.cab,I.ok.hd,I.ok.frames,I.ok.stk,I.ok.exf,I.ok.bs,I.ok.bsz,I.ok.noex,I.ok.exfs,I.ok.funs,I.ok.frf⟩,I.os,I.bare,I.base,I.loc,I.cell,I.free,I.freeC,I.pin,I.hok,I.len⟩
theorem Inv.Wr{ϵ:List (δ×Obj)}{s:μ}(I:Inv X.o8 ϵ σ H s):Inv X.ϊ ϵ σ H s:=
 ⟨⟨I.ok.mod,I.ok.kind,I.ok.glob,I.ok.blt,I.ok.above,I.ok.inj,I.ok.has,I.ok.cab,I.ok.hd,I.ok.frames,I.ok.stk,I.ok.exf,I.ok.bs,I.ok.bsz,I.ok.noex,I.ok.exfs,I.ok.funs,I.ok.frf⟩,I.os,I.bare,I.base,I.loc,I.cell,I.free,I.freeC,I.pin,I.hok,I.len⟩
theorem aai{cc:Bool}{k:Nat}{x:Str}{ps:List Str}{sp:Sp}{xs:List V}{KV:Nat->V->Hp->Prop}(F:Def X.prog X.w X.K X.mg X.base cc k x ps sp)(hr:ό cc (k+2) X.A)(ahd:∀i v H H',ζ H H'->KV i v H->KV i v H')(h:∀(i:Nat) x H',xs[i]?=some x->ζ H H'->sp [x] H' (λv H2=>ζ H' H2/\KV i v H2) (λ_ _ _=>False)):∃f:δ,X.mg x=some (.ref f)/\qZ X σ (.ref f) xs H KV:=by
 obtain⟨f,fd,h1,h2,h3,h4⟩:=F.ex;refine⟨f,h1,ahd,λi x u ϵ s H' hx ru sm I=>?_⟩;have:=qi (X:=X.o8) (us:=[u]) (vs:=[x]) (Kx:=λ_ _ _ _=>False) h4 hr.in1.in1 h3 (Kd rfl) I.o8 (.cons ru .nil) (h i x H' hx sm);exact adm this (λw s' ⟨v,H2,I2,rv,q⟩=>⟨v,H2,I2.Wr,rv,q⟩) λ_ _ z=>z
theorem WW{x:Str}{f:δ}(h:X.mg x=some (.ref f))(hg:Gl X x)(hd:(x==("__debug__":Str))=false)(q:Q (.ref f) H):EV X (.Name x p) σ H Q:=Ϥ (Ln (v:=.ref f) hg h rfl hd) q
end
theorem Ul{p p':Pos}(h1:p.line=p'.line)(h2:p.col=p'.col)(l:List ε):codeAmong p l=codeAmong p' l:=by
 fun_induction codeAmong p l with
 |case1 a t b u c rest h=>unfold codeAmong;rw[<-h1, <-h2,if_pos h]
 |case2 a t b u c rest h ih=>rw[ih];conv=>rhs;unfold codeAmong
                             rw[<-h1, <-h2,if_neg h]
 |case3 l h=>unfold codeAmong;split <;>first|rfl|(exfalso;exact h _ _ _ _ _ _ rfl)
theorem Z7{p a:Pos}{c cv:ε}(l:List ε)(h:TriplesOk l)(hc:codeAmong p (l++[rawInt a.line,rawInt a.col,c])=some cv):codeAmong p l=some cv\/(cv=c/\a.line=p.line/\a.col=p.col):=by
 fun_induction TriplesOk l with
 |case1=>
  simp only[amF,rawInt,codeAmong]at hc;split at hc
  .rename_i hh;cases hc;simp only[aa3,beq_iff_eq]at hh;exact .inr ⟨rfl,by omega,by omega⟩
  .cases hc
 |case2 x t y u z rest ih=>
  simp only[am5,codeAmong]at hc⊢;split at hc
  .rename_i hh;rw[if_pos hh];exact .inl hc
  .rename_i hh;rw[if_neg hh];exact ih h hc
 |case3 l h1 h2=>exact h.elim
def BM(mg:Str->Option ε)(base:ϫ):=∃bm ob,mg "__builtins__"=some (.ref bm)/\bm≠builtinsNs/\base.get? bm=some ob/\ob.cls=.type "module"/\ob.dict=some builtinsNs/\ob.data=.plain
abbrev uT:HO:=.ext λ_=>True
theorem Bo{P:ϯ}{w:ϭ}{H:Hp}{h:ϫ}{a:δ}{o:Obj}(e:h.get? a=some o):Ϗ P w H h a (.frz o uT):=⟨e,trivial,⟨o,e⟩,λ_ _ _ _=>trivial⟩
section
variable{X:Cx}{σ:St}{H:Hp}{D:Ends}
theorem Vr{name qual:Str}{params:Arguments}{body:List ϧ}{scope:ahI}{pos:Pos}{clos:List (Str×δ)}{c P:δ}{ps:Array ε}{t:Tok}{j:Nat}(hN:X.N.Nodup)(hj:X.N[j]?=some name)(hx:X.env.scope.names.lookup name=some .local)(hcode:X.env.code=.ref c)(C:CodeHd X.base c P)(B:BM X.mg X.base)(hcl:closureFor scope X.env=pure clos)(hP:H P=some (.tbl ps))(hps:codeAmong pos ps.toList=some (.str qual t))(hq:qualnameIn X.env name name=qual)(hd0:params.defaults=[])(hk0:params.kw_defaults=[])(ha:annTrees params none X.env=[])(h:∀(f c':δ)(oc:Obj)(doc pm ctv:ε)(vs:Array ε)(t':Tok)(H':Hp),ζ H H'->H f=none->H' f=some (.frz (fnMade name qual params body scope clos doc pm c' ctv) uT)->(∃u,H' c'=some (.frz oc u))->oc.data=.fields vs->vs[1]?=some (.str qual t')->D.nx (σ.set j (some (.ref f))) H'):SX X (.FunctionDef name params body [] none [] scope none name pos) D σ H:=by
 intro ϵ s I;refine nestDef_K hd0 hk0 ha ?_;rw[hq];obtain⟨qs,eP,tr,z⟩:=(I.hok P _ hP:Ϗ X.prog X.w H s.heap P (.tbl ps));have hg:s.heap.Ns mainGlobals X.mg:=I.mod.glob.keeps I.bk;obtain⟨bm,ob,b1,b2,b3,b4,b5,b6⟩:=B;have pP:=I.bk _ _ b3;have hgP:mainGlobals≠P:=λq=>by
  obtain⟨o,es,ep,e,hd,_⟩:=hg;rw[q,eP]at e;cases e;cases hd
 have hbP:bm≠P:=λq=>by rw[q,eP]at pP;cases pP;cases b4
 have hbG:bm≠mainGlobals:=λq=>by
  obtain⟨o,es,ep,e,hd,_⟩:=hg;rw[q,e]at pP;cases pP;rw[hd]at b6;cases b6
 have hb:s.heap.BuiltinsAt X.mg P:=⟨bm,ob,b1,b2,hbG,hbP,pP,b4,b5,b6⟩;have CC:=C.keeps I.bk;cases hf:codeAmong pos qs.toList with
 |some cv=>
  obtain⟨c',oc,u,q,t2,vs,t',rfl,e2,e3,e4,e5⟩:=z pos cv hf;rw[hps]at e2;cases e2;refine makeFunction_hit hcl I.ok.glob hg hcode CC eP tr hf hb λctv doc h' tk hk hsz=>?_
  have I1:=I.laid (a:=h'.objs.size) (o:=.frz (fnMade name qual params body scope clos doc ((X.mg "__name__").getD .none) c' ctv) uT) (t':=tk) (h':=h'.push (fnMade name qual params body scope clos doc ((X.mg "__name__").getD .none) c' ctv)) (λb o e=>Heap.get?_push_of_some _ (hk b o e)) hsz (Bo (abq _ rfl));have hfr:=I.hok.fresh hsz;have sm:ζ H (upd H h'.objs.size (.frz (fnMade name qual params body scope clos doc ((X.mg "__name__").getD .none) c' ctv) uT)):=ζ.upd hfr;refine o9 (v:=.ref h'.objs.size) I1 hN hj (.inl hx) rfl (λs' I' _=>?_) (.inr hx);exact⟨_,_,I',h _ c' oc doc _ ctv vs t' _ sm hfr υ ⟨u,sm _ _ e3⟩ e4 e5⟩
 |none=>
  refine makeFunction_K hcl I.ok.glob hg hcode CC eP tr hf hgP hb λc' ctv doc h' tk hx' hge hlt hrec htb=>?_
  obtain⟨c₂,oc,vs,t',e2,hoc,hd,hv⟩:=hrec;cases e2;have hcf:H c'=none:=I.hok.fresh hge;have hff:H h'.objs.size=none:=I.hok.fresh (al3 (ah4 hge hlt));have Ϻ:c'≠h'.objs.size:=ab6 hlt;have hPlt:=I.hok.lt hP;have old:∀b u,H b=some u->(upd (upd H c' (.frz oc uT)) h'.objs.size (.frz (fnMade name qual params body scope clos doc ((X.mg "__name__").getD .none) c' ctv) uT)) b=some u:=λb u e=>by
   rw[ι (Η e hff),ι (Η e hcf)];exact e
  have nP:∀b,H b=none->b≠P:=λb e z=>by rw[z,hP]at e;cases e
  have lt':∀b o,s.heap.get? b=some o->b≠c'/\b≠h'.objs.size:=λb o e=>by
   have:=abe e;exact⟨ab6 (abu this hge),ab6 (abu this (al3 (ah4 hge hlt)))⟩
  have kp:∀b o,b≠P->s.heap.get? b=some o->(h'.push (fnMade name qual params body scope clos doc ((X.mg "__name__").getD .none) c' ctv)).get? b=some o:=λb o hb e=>Heap.get?_push_of_some _ (hx' b o hb e)
  have I1:Inv X ϵ σ (upd (upd H c' (.frz oc uT)) h'.objs.size (.frz (fnMade name qual params body scope clos doc ((X.mg "__name__").getD .none) c' ctv) uT)) {s with heap:=h'.push (fnMade name qual params body scope clos doc ((X.mg "__name__").getD .none) c' ctv),toks:=tk}:=by
   refine I.un (t':=tk) ⟨λb o e n _ _=>kp b o (nP b n) e,λb o e n _ _=>⟨o.slots,kp b o (nP b n) e⟩,λb o e n _=>?_,λb o e _=>?_,λb xs q=>old _ _ q,λb o u q=>old _ _ q,λb ps' q=>⟨#[],by rw[old _ _ q];simp⟩⟩ λb u e=>?_
   .rw[ι (lt' b o e).2,ι (lt' b o e).1];exact n
   .by_cases hb:b=P
    .exact⟨_,by rw[hb];exact Heap.get?_push_of_some _ htb⟩
    .exact⟨_,kp b o hb e⟩
   .by_cases h1:b=h'.objs.size
    .subst h1;rw[υ]at e;cases e;exact Bo (abq _ rfl)
    .rw[ι h1]at e;by_cases h2:b=c'
     .subst h2;rw[υ]at e;cases e;exact Bo (Heap.get?_push_of_some _ hoc)
     .rw[ι h2]at e;by_cases h3:b=P
      .subst h3;rw[hP]at e;cases e;refine⟨_,Heap.get?_push_of_some _ htb,?_,λp cv hc=>?_⟩
       .rw[al9];exact TriplesOk_snoc _ _ _ _ tr
       .rw[al9]at hc;obtain h4|⟨rfl,h5,h6⟩:=Z7 _ tr hc
        .obtain⟨c2,oc2,u2,q2,t2,vs2,t3,g1,g2,g3,g4⟩:=z p cv h4;exact⟨c2,oc2,u2,q2,t2,vs2,t3,g1,g2,old _ _ g3,g4⟩
        .refine⟨c',oc,uT,qual,t,vs,t',rfl,?_,?_,hd,hv⟩
         .rw[<-Ul h5 h6];exact hps
         .rw[ι Ϻ,υ]
      .refine(I.hok b u e).stay (λa v ha q=>kp a v ?_ q) (λa q=>old _ _ q) (λa xs q=>old _ _ q) λa ob v q=>old _ _ q
       obtain rfl|ha:=ha
       .exact h3
       .intro z2;rw[z2,hP]at ha;cases ha
  have sm:ζ H (upd (upd H c' (.frz oc uT)) h'.objs.size (.frz (fnMade name qual params body scope clos doc ((X.mg "__name__").getD .none) c' ctv) uT)):=old;refine o9 (v:=.ref h'.objs.size) I1 hN hj (.inl hx) rfl (λs' I' _=>?_) (.inr hx);exact⟨_,_,I',h _ c' oc doc _ ctv vs t' _ sm hff υ ⟨uT,by rw[ι Ϻ,υ]⟩ hd hv⟩
abbrev tZ(X:Cx)(qual:Str)(scope:ahI)(f:δ)(cd:ε)(cl:List (Str×δ))(N:List Str)(s:μ)(H:Hp):Cx where
 prog:=X.prog
 w:=X.w
 K:=X.K
 mg:=X.mg
 base:=X.base
 A:=X.A.deeper (envX qual scope s.heap.objs.size f cd cl)
 N:=N
 s₀:=s
 H₀:=H
 env:=envX qual scope s.heap.objs.size f cd cl
 outer:=X.stack
 stack:=envX qual scope s.heap.objs.size f cd cl::X.stack
 ex:=[]
 fn:=λ_=>false
 calm:=X.calm
 pn:=[]
 xe:=λ_ _=>False
theorem aij{ϵ:List (δ×Obj)}{s:μ}{f c' c:δ}{name qual x y:Str}{params:Arguments}{body:List ϧ}{scope:ahI}{doc pm ctv u:ε}{u0 u1:HO}{oc:Obj}{vs:Array ε}{t':Tok}{v z:V}{j:Nat}{Q:VK}{E:ε->μ->Prop}(I:Inv X ϵ σ H s)(hf:H f=some (.frz (fnMade name qual params body scope [(y,c)] doc pm c' ctv) u0))(hc':H c'=some (.frz oc u1))(hoc:oc.data=.fields vs)(hq:vs[1]?=some (.str qual t'))(hroom:X.A.depth<recursionLimit)(hb:∀doc pm c' ctv (u:ε),bindArgs (fnX name qual params body scope [(y,c)] .none .none doc pm none (.ref c') ctv) ⟨[u],[]⟩=pure [(x,u)])(hk:scope.kind=.function)(hco:scope.isCoroutine=false)(hgen:scope.isGenerator=false)(vq:scope.names.lookup x=some .local)(hyf:scope.names.lookup y=some .free)(hnc:∀a∈scope.names,a.2≠.cell)(hfr:∀a,scope.names.lookup a=some .free->a=y)(hj:X.N[j]?=some y)(hσ:σ[j]?=some (some z))(hyc:X.env.scope.names.lookup y=some .cell)(hcc:X.env.cells.lookup y=some c)(rv:RelV v u)(h:Ψ (tZ X qual scope f (.ref c') [(y,c)] [x,y] s H) body {nx:=λ_ H'=>Q .non H',rt:=Q} [some v,some z] H):ν (Ϧ X.prog X.w) X.A (call (.ref f) [u]) (EP X ϵ σ Q) E s:=by
 have e0:=I.env0;obtain⟨ef,_⟩:=(I.hok f _ hf:Ϗ X.prog X.w H s.heap f (.frz _ u0));obtain⟨ec,_⟩:=(I.hok c' _ hc':Ϗ X.prog X.w H s.heap c' (.frz oc u1));have hcd:s.heap.CodeRec (.ref c') qual:=⟨c',oc,vs,t',rfl,ec,hoc,hq⟩;have hxy:x≠y:=λe=>by rw[e,hyf]at vq;cases vq
 obtain⟨m,hm,hl⟩:=id I.loc;obtain⟨uz,rz,lk⟩:=hl j y z hj hσ (.inr (.inl hyc));obtain⟨Mh⟩:Nonempty (s.heap.IsCell c (some uz)):=by
  obtain⟨k,_⟩|⟨_,c2,e,q⟩:=lk
  .rw[show X.env.kindOf y=X.env.scope.names.lookup y from rfl,hyc]at k;cases k
  .rw[hcc]at e;cases e;exact⟨q⟩
 refine wpAny_call (aiT (codeAny_call_def (R:=λr s'=>match r with|.ok (.ret u)=>CE X.stack X.prog X.w H s Q u s'|.ok _=>False|.error _=>False) (fd:=fnX name qual params body scope [(y,c)] .none .none doc pm none (.ref c') ctv) (body:=body) (binds:=[(x,u)]) hroom ef rfl I.nolimit hcd rfl (.of_eq (hb doc pm c' ctv u)) hnc (λa ha=>by cases ac0.mp ha;exact vq) (λh₁ hns hk₁=>?_) hco hgen hk) λr s' hq=>?_)
 .have I1:Inv (tZ X qual scope f (.ref c') [(y,c)] [x,y] s H) [] [some v,some z] H {s with heap:=h₁,toks:=s.toks+[(x,u)].length}:=by
   have noA:∀b:δ,b∉(tZ X qual scope f (.ref c') [(y,c)] [x,y] s H).ex:=λb z=>absurd (show b∈([]:List δ)from z) (by simp)
   refine⟨⟨e0.mod,hk,rfl,rfl,Ϯ _,λa b d h1 h2=>?_,λa ha=>?_,λa d h1=>(by cases h1),I.ok.hd,Around.frames_deeper e0.frames,.inr ⟨rfl,rfl⟩,λb z=>absurd z (noA b),e0.bs,e0.bsz,λb _ _=>noA b,λb z=>absurd z (noA b),e0.funs,e0.frf⟩,
    rfl,e0.bare,Un.kept hk₁,⟨_,hns,λi a b h1 h2 h3=>?_⟩,λa d h1=>?_,e0.hok.fresh (Ϯ _),λa d h1=>?_,λp hp=>absurd (show p∈([]:List (δ×Obj))from hp) (by simp),e0.hok.kept hk₁,rfl⟩
   .have h1:([(y,c)]:List (Str×δ)).lookup a=some d:=h1;have h2:([(y,c)]:List (Str×δ)).lookup b=some d:=h2;have e1:=PySem.mem_of_lookup h1;have e2:=PySem.mem_of_lookup h2;rw[ac0]at e1 e2;cases e1;cases e2;rfl
   .have ha:scope.names.lookup a=some .cell\/scope.names.lookup a=some .free:=ha;obtain ha|ha:=ha
    .exact absurd rfl (hnc _ (PySem.mem_of_lookup ha))
    .cases hfr a ha;exact⟨c,by show([(y,c)]:List (Str×δ)).lookup y=some c;simp[ahP]⟩
   .match i,h1,h2 with
    |0,h1,h2=>
     cases h1;cases h2;exact⟨u,rv,.inl ⟨vq,by simp[ahP]⟩⟩
    |1,h1,h2=>
     cases h1;cases h2;exact⟨uz,rz,.inr ⟨.inr hyf,c,by show([(y,c)]:List (Str×δ)).lookup y=some c;simp[ahP],Mh.keeps hk₁⟩⟩
    |i+2,h1,h2=>simp at h1
   .have e1:=PySem.mem_of_lookup (show([(y,c)]:List (Str×δ)).lookup a=some d from h1);rw[ac0]at e1;cases e1;exact⟨_,Mh.keeps hk₁⟩
   .have e1:=PySem.mem_of_lookup (show([(y,c)]:List (Str×δ)).lookup a=some d from h1);rw[ac0]at e1;cases e1;exact I.freeC y c hcc
  refine adm (h [] _ I1) (λfl s' hs=>?_) λ_ _ z=>z.elim
  have fin:∀{σ':St}{H':Hp}{v:V}{u:ε},Inv (tZ X qual scope f (.ref c') [(y,c)] [x,y] s H) [] σ' H' s'->RelV v u->Q v H'->CE X.stack X.prog X.w H s Q u s':=
   λ{σ' H' v u} J rv q=>⟨v,H',J.os,J.bare,J.base,J.hok,rv,q⟩
  cases fl with
  |ret u=>
   obtain⟨v,σ',H',J,rv,q⟩:=hs;exact fin J rv q
  |next=>
   obtain⟨σ',H',J,q⟩:=hs;exact fin (v:=V.non) (u:=Value.none) J rfl q
  |brk=>
   obtain⟨_,_,_,q⟩:=hs;exact False.elim q
  |cont=>
   obtain⟨_,_,_,q⟩:=hs;exact False.elim q
 .cases r with
  |error e=>exact hq.elim
  |ok fl=>
   cases fl with
   |ret u=>exact I.after hq
   |next=>exact False.elim hq
   |brk=>exact False.elim hq
   |cont=>exact False.elim hq
end
def fL(K:Ϩ)(x:Str):δ:=((tabIn K x).getD (0,0)).1
def aX(K:Ϩ)(x:Str):δ:=((tabIn K x).getD (0,0)).2
def wu(p:Pos)(q:Str):Array ε:= #[rawInt p.line,rawInt p.col,.str q 0]
theorem SQ(p:Pos)(q:Str):codeAmong p (wu p q).toList=some (.str q 0):=by simp[wu,codeAmong,rawInt]
def yc(K:Ϩ)(x:Str):Bool:=match tabIn K x with
 |some cp=>(K.lookup cp.2).isNone
 |none=>false
theorem aak{K:Ϩ}{x:Str}(h:yc K x=true):tabIn K x=some (fL K x,aX K x)/\K.lookup (aX K x)=none:=by
 unfold yc at h;unfold fL aX;cases e:tabIn K x with
 |none=>rw[e]at h;cases h
 |some cp=>
  rw[e]at h;exact⟨rfl,by simpa using h⟩
structure fZ(K:Ϩ)(mg:Str->Option ε)(base:ϫ)(x:Str):Prop where
 tab:tabIn K x=some (fL K x,aX K x)
 code:CodeHd base (fL K x) (aX K x)
 bm:BM mg base
 kin:K.In base
 glob:base.Ns mainGlobals mg
theorem afq{P:ϯ}{w:ϭ}{K:Ϩ}{mg mb:Str->Option ε}{CX:dm}{k:Nat}{fa a:δ}{fd:air}{x xn:Str}{sp:Sp}{s₁:μ}{vs:List ε}{ns:List Int}{ps:Array ε}(KX:K.In s₁.heap)(hns:s₁.heap.Ns mainGlobals mg)(hb:s₁.heap.Ns builtinsNs mb)(hbb:∀x:Str,x≠"__name__"->mb x=bootBuiltins x)(hlim:s₁.heap.NoLimit)(hg:s₁.gens= #[])(ha:s₁.heap.get? a=some {cls:=.type "list",data:=.seq vs.toArray})(hi:IntsAre vs ns)(hl:ns.length<=Ϫ)(hr:ό cc k callerA)(hT:tabIn K xn=some (fL K xn,aX K xn))(hC:CodeHd s₁.heap (fL K xn) (aX K xn))(hP:s₁.heap.get? (aX K xn)=some (tabObj #[]))(CN:K.lookup (aX K xn)=none)(hB:BM mg s₁.heap)(F:∀base:ϫ,K.In base->base.Ns mainGlobals mg->fZ K mg base xn->cC P w K mg base CX cc k fa fd [x] sp)(hbind:∀(s:μ)(u:ε),BindsTo s fd ⟨[u],[]⟩ [(x,u)])(hsp:∀H:Hp,η K H a (ns.map V.int)->H (aX K xn)=some (.tbl ps)->sp [.ref a] H (λv _=>v=.bl true) λ_ _ _=>False)(hCX:∀H e s',CX [] H s₁ (λ_ _ _=>False) e s'->False):codeAny (Ϧ P w) callerA (.call (.ref fa) ⟨[.ref a],[]⟩) (λr s'=>r=.ok (.ret (.bool true))/\OldK s₁.heap s'.heap/\s'.os=s₁.os/\AllBare s'.gens) s₁:=by
 have rv:=HW hi;have lenV:=hi.length;generalize hpp:aX K xn=pt at hC hP CN hsp;have hpa:pt≠a:=λz=>by rw[z,ha]at hP;cases hP
 have core:∀H:Hp,η K H a (ns.map V.int)->H pt=some (.tbl ps)->Ϙ P w H s₁.heap->(∀b,H b=none\/b=a\/b=pt)->(∀b,H b=none\/K.lookup b=none)->(∀u,H a=some u->∃o v,u=.frz o v)->
   codeAny (Ϧ P w) callerA (.call (.ref fa) ⟨[.ref a],[]⟩) (λr s'=>r=.ok (.ret (.bool true))/\OldK s₁.heap s'.heap/\s'.os=s₁.os/\AllBare s'.gens) s₁:=by
  intro H hS hH hok hA hK hfz;have base_of:∀{b:δ}{o:Obj},s₁.heap.get? b=some o->H b=none->(gG s₁.heap H).get? b=some o:=λe n=>adU e n
  have free:∀{b:δ}{o:Obj},s₁.heap.get? b=some o->o.cls≠.type "list"->o.cls≠.none->H b=none:=λ{b o} e n1 n2=>by
   obtain z|z|z:=hA b
   .exact z
   .rw[z,ha]at e;cases e;exact absurd rfl n1
   .rw[z,hP]at e;cases e;exact absurd rfl n2
  have noA:∀{b:δ}{o:Obj}{es:Array DictEntry}{ep:Nat},s₁.heap.get? b=some o->o.data=.dict es ep->H b=none:=λ{b o es ep} e d=>by
   obtain z|z|z:=hA b
   .exact z
   .rw[z,ha]at e;cases e;have d':Data.seq vs.toArray _=Data.dict es ep:=d;cases d'
   .rw[z,hP]at e;cases e;have d':Data.fields #[]=Data.dict es ep:=d;cases d'
  have nsK:∀{b:δ}{m:Str->Option ε},s₁.heap.Ns b m->(gG s₁.heap H).Ns b m:=λ{b m} ⟨o,es,ep,e,d,r⟩=>⟨o,es,ep,base_of e (noA e d),d,r⟩;have hKb:K.In (gG s₁.heap H):=λb o e=>base_of (KX b o e) (by
   obtain z|z:=hK b
   .exact z
   .rw[z]at e;cases e)
  have hM:Mod K mg (gG s₁.heap H):=⟨hKb,nsK hns,⟨mb,nsK hb,hbb⟩,let⟨mc,h1,h2⟩:=hlim;⟨mc,nsK h1,h2⟩⟩;have hN:fZ K mg (gG s₁.heap H) xn:=by
   refine⟨hT,?_,?_,hKb,nsK hns⟩
   .rw[hpp];obtain⟨o,vs,file,tf,flags,tg,inF,text,tt,e1,r1,r⟩:=hC;exact⟨o,vs,file,tf,flags,tg,inF,text,tt,base_of e1 (free e1 (by rw[r1];decide) (by rw[r1];decide)),r1,r⟩
   .obtain⟨bm,ob,b1,b2,b3,b4,r⟩:=hB;exact⟨bm,ob,b1,b2,base_of b3 (free b3 (by rw[b4];decide) (by rw[b4];decide)),b4,r⟩
  have e0:jZ P w K mg (gG s₁.heap H) callerA [] s₁ H:=⟨rfl,hM,λb o e=>ado e,alO (TY _ _),trivial,λb hb=>absurd (show b∈([]:List δ)from hb) (by simp),hok,.of_eq hg⟩;refine aiT ((F _ hKb (nsK hns) hN).run callerA [] s₁ H ⟨[.ref a],[]⟩ [.ref a] [.ref a] _ _ hr e0 (hbind s₁ (.ref a)) (.cons rfl .nil) (hsp H hS hH)) λr s' h=>?_
  cases r with
  |error e=>exact(hCX H e s' h).elim
  |ok fl=>
   cases fl with
   |next=>exact False.elim h
   |brk=>exact False.elim h
   |cont=>exact False.elim h
   |ret u=>
    obtain⟨v,H',os,bare,un,hok',r',q⟩:=h;have q':v=.bl true:=q;subst q';obtain rfl:u=Value.bool true:=r';obtain⟨more,hm⟩:=un.tbls pt ps hH;obtain⟨qs,eq,_⟩:=(hok' pt _ hm:Ϗ P w H' s'.heap pt (.tbl (ps++more)));have all:∀b o,s₁.heap.get? b=some o->asItWas s₁.heap s'.heap b o:=λb o e=>by
     obtain z|z|z:=hA b
     .exact .inl (un.keep b o e z (by intro z;exact absurd (show b∈([]:List δ)from z) (by simp)) (by simp))
     .cases e3:H b with
      |none=>exact .inl (un.keep b o e e3 (by intro z;exact absurd (show b∈([]:List δ)from z) (by simp)) (by simp))
      |some u=>
       obtain⟨ob,v,rfl⟩:=hfz u (by rw[<-z];exact e3);have z2:=un.frzs b ob _ e3;obtain⟨e1,_⟩:=(hok b _ e3:Ϗ P w H s₁.heap b (.frz ob v));obtain⟨e2,_⟩:=(hok' b _ z2:Ϗ P w H' s'.heap b (.frz ob v));rw[e]at e1;cases e1;exact .inl e2
     .subst z;rw[hP]at e;cases e;obtain⟨o,vs,file,tf,flags,tg,inF,text,tt,e1,r1,r2,r3,_⟩:=hC;refine .inr (.inl ⟨⟨_,o,vs,e1,r1,r2,r3⟩,rfl, #[],qs,rfl,?_⟩);rw[eq];simp
    refine⟨rfl,⟨all,λb o e=>?_⟩,os,bare⟩;exact un.there b o e (by simp)
 cases hk:K.lookup a with
 |some o=>
  have e:=KX a o hk;rw[ha]at e;cases e;refine core (λb=>if b=pt then some (.tbl ps)else none) (.inr ⟨_,vs.toArray,_,hk,rfl,rfl,rfl,by rw[aaB,lenV];exact hl,by simpa using rv⟩) (if_pos rfl) (λb u z=>?_) (λb=>?_) (λb=>?_) λu z=>?_
  .by_cases hb:b=pt
   .have z':=(if_pos hb).symm.trans z;cases z';subst hb;exact⟨#[],hP,trivial,λp cv h=>by simp[codeAmong]at h⟩
   .have z':=(if_neg hb).symm.trans z;cases z'
  .by_cases hb:b=pt
   .exact .inr (.inr hb)
   .exact .inl (if_neg hb)
  .by_cases hb:b=pt
   .exact .inr (by rw[hb];exact CN)
   .exact .inl (if_neg hb)
  .have z':=(if_neg (Ne.symm hpa)).symm.trans z;cases z'
 |none=>
  refine core (λb=>if b=pt then some (.tbl ps)else if b=a then some (.frz {cls:=.type "list",data:=.seq vs.toArray} (.lst (ns.map V.int)))else none) (.inl (.inr ⟨{cls:=.type "list",data:=.seq vs.toArray},(if_neg (Ne.symm hpa)).trans (if_pos rfl)⟩)) (if_pos rfl) (λb u z=>?_) (λb=>?_) (λb=>?_) λu z=>?_
  .by_cases hb:b=pt
   .have z':=(if_pos hb).symm.trans z;cases z';subst hb;exact⟨#[],hP,trivial,λp cv h=>by simp[codeAmong]at h⟩
   .have z':=(if_neg hb).symm.trans z;by_cases hb2:b=a
    .have z2:=(if_pos hb2).symm.trans z';cases z2;subst hb2;exact⟨ha,by rw[ϳ];exact hl,vs,_,rv,ha⟩
    .have z2:=(if_neg hb2).symm.trans z';cases z2
  .by_cases hb:b=pt
   .exact .inr (.inr hb)
   .by_cases hb2:b=a
    .exact .inr (.inl hb2)
    .exact .inl (by rw[if_neg hb,if_neg hb2])
  .by_cases hb:b=pt
   .exact .inr (by rw[hb];exact CN)
   .by_cases hb2:b=a
    .exact .inr (by rw[hb2];exact hk)
    .exact .inl (by rw[if_neg hb,if_neg hb2])
  .have z':=(if_neg (Ne.symm hpa)).symm.trans z;have z2:=(if_pos rfl).symm.trans z';cases z2;exact⟨_,_,rfl⟩
theorem Vc{l:W.OpenLaw}{n k:Nat}{q:ϯ}{loose:List Str}{XP:(Str->Option ε)->ϫ->Prop}{YP:ϭ->ϫ->Prop}{d:DefRec}{K:Params->Ϩ}{CX:ϭ->dm}{sp:ϭ->Sp}{x xn:Str}{ps:Array ε}(hn:l.most=some n)(hn2:n<=Ϫ)(hdf:d.params.defaults=[])(hr:ό cc k callerA)(hY:∀(w:ϭ)(h:ϫ),YP w h->(K w.params).In h)(hrec:((recsOf q).find? (λe=>e.name==xn)).isSome=true)(htab:∀w:ϭ,yc (K w.params) xn=true)(F:∀(w:ϭ)(mg:Str->Option ε)(fa:δ)(h:ϫ),(K w.params).In h->h.Ns mainGlobals mg->mg d.name=some (.ref fa)->
   ∃fd:air,(∀(s:μ)(u:ε),BindsTo s fd ⟨[u],[]⟩ [(x,u)])/\
    ∀base:ϫ,(K w.params).In base->base.Ns mainGlobals mg->fZ (K w.params) mg base xn->cC l.prog w (K w.params) mg base (CX w) cc k fa fd [x] (sp w))(hsp:∀(w:ϭ)(H:Hp)(a:δ)(ns:List Int),ns.length<=n->η (K w.params) H a (ns.map V.int)->H (aX (K w.params) xn)=some (.tbl ps)->sp w [.ref a] H (λv _=>v=.bl true) λ_ _ _=>False)(hCX:∀(w:ϭ)(H:Hp)(s:μ)(e:ε)(s':μ),CX w [] H s (λ_ _ _=>False) e s'->False):W.WalkO q loose XP YP l.row.toRowW d [] (λf vs=>PySem.call f vs):=by
 refine Att.afv hn hdf λw s₀ s₁ mg mb fa o pm cd doc a vs ns G Y ho hd hcd hmg hobj hints hlen hg=>?_
 have KX:=hY w _ Y;obtain⟨fd,hb,hF⟩:=F w mg fa _ KX G.T.g hmg;obtain⟨t1,t2⟩:=aak (htab w);obtain⟨d',hd'⟩:=alP.mp hrec;obtain⟨hC,hP⟩:=tab_of G.T KX hd' t1;exact afq KX G.T.g G.T.b G.T.builtins G.T.nolimit hg hobj hints (afK hlen hn2) hr t1 hC hP t2 G.T.bmain hF hb (λH hS hH=>hsp w H a ns hlen hS hH) λH e s'=>hCX w H s₁ e s'
def K9(K:Ϩ)(x:Str)(ps:Array ε):Sp:=λvs H Q _=>∃(a:δ)(ns:List Int),vs=[.ref a]/\η K H a (ns.map V.int)/\ns.length<=63/\H (aX K x)=some (.tbl ps)/\∀H',Q (.bl true) H'
theorem Zv{P:ϯ}{w:ϭ}{K:Ϩ}{mg:Str->Option ε}{base:ϫ}{x:Str}{st:ϧ}{ps N:List Str}{k:Nat}{sp:Sp}(F:∃f fd,bM K x x st f fd/\mg x=some (.ref f))(hT:fZ K mg base x)(S:Α N ps (ο st))(hb:∀(kV doc pm:ε)(an:Option δ)(Ϲ ct:ε)(us:List ε),us.length=ps.length->bindArgs (amI x x (iz st) (ϗ st) (ο st) .none kV doc pm an Ϲ ct) ⟨us,[]⟩=pure (ps.zip us))(len:∀vs H Q E,sp vs H Q E->vs.length=ps.length)(body:∀(f:δ)(A:ϰ)(outer:List Env)(s:μ)(H:Hp)(vs:List V)(Q:VK)(E:XK),ό cc k (A.deeper (envOfC x (ο st) s.heap.objs.size f (.ref (fL K x))))->sp vs H Q E->
   Ψ (ϥ cc P w K mg base N x (ο st) f (.ref (fL K x)) A outer s H E) (ϗ st) {nx:=λ_ H'=>Q .non H',rt:=Q} (start N vs) H):Def P w K mg base cc (k+1) x ps sp:=by
 obtain⟨f,fd,F,hm⟩:=F;refine⟨f,fd,hm,F.kp,F.binds hb,?_⟩;obtain⟨oc,od,kV,doc,pm,an,Ϲ,ct,osl,rfl,lk,hcd⟩:=id F.ex;have e:=hT.tab;unfold tabIn at e;split at e
 .rename_i f' hf;have hm':=alD hT.kin hT.glob hf;rw[hm]at hm';cases hm';simp only[lk]at e;cases Ϲ with
  |ref c=>
   have ec:c=fL K x:=by
    dsimp only at e;split at e
    .split at e
     .have :=Option.some.inj e;exact congrArg Prod.fst this
     .cases e
    .cases e
   subst ec;exact Ih lk hcd S len λA outer s H vs Q E hr h=>⟨_,lG,body f A outer s H vs Q E hr h⟩
  |_=>cases e
 .cases e
section
variable{X:Cx}{ϵ:List (δ×Obj)}{σ:St}{H:Hp}{s:μ}{d:δ}
end
def ig(keep:Nat->Bool)(n:Nat):List Nat:=(afz n).filter keep
theorem aeT(keep:Nat->Bool)(n:Nat):ig keep (n+1)=ig keep n++(if keep n=true then[n]else[]):=by
 unfold ig;rw[ang,alh];by_cases h:keep n=true
 .simp[h]
 .have h':keep n=false:=by simpa using h
  simp[h']
theorem adf(keep:Nat->Bool)(n:Nat):(ig keep n).length<=n:=by
 have:=ahM keep (afz n);rw[alX]at this;exact this
section
variable{X:Cx}{e c:π}{σ σ':St}{H:Hp}{Q:VK}{D:Ends}{pos:Pos}{tg elt:π}{scope:ahI}
def Lz(X:Cx)(N':List Str)(scope:ahI)(tg elt c:π)(σ':St)(H1:Hp)(Q:VK)(xs:List V):Prop:=
 ∃(Tp:St->Prop)(keep:Nat->Bool)(Pi:δ->Nat->V->Hp->Prop),Tp σ'/\
  (∀E i v H2 H3 ys,H2 E=some (.lst ys)->(∀b o,b≠E->H2 b=some o->H3 b=some o)->Pi E i v H2->Pi E i v H3)/\
  (∀(fp:List δ)(E C:δ)(s3:μ)(H0:Hp)(i:Nat)(τ:St)(x:V)(H2:Hp),H1 E=none->xs[i]?=some x->Tp τ->ζ H1 H2->(∃ys,H2 E=some (.lst ys))->
   EG (aR X N' scope (ώ scope X.env) C s3 H0 fp) tg x τ H2 λτ2 H3=>ET (aR X N' scope (ώ scope X.env) C s3 H0 fp) c τ2 H3 λk H4=>k=keep i/\Tp τ2/\ζ H2 H4/\(k=true->EV (aR X N' scope (ώ scope X.env) C s3 H0 fp) elt τ2 H4 λv H5=>Pi E i v H5/\ζ H4 H5))/\
  ∀(E:δ)(H2:Hp)(us:List V),H1 E=none->H2 E=some (.lst us)->Vl.ψ (λu i=>Pi E i u H2) us (ig keep xs.length)->ζ H1 H2->Q (.ref E) H2
theorem afY{N':List Str}{l:δ}{xs:List V}(hn:xs.length<=Ϫ)(hl:η X.K H l xs)(h:Lz X N' scope tg elt c σ' H Q xs):∀(fp:List δ)(E C:δ)(s3:μ),H E=none->dW X (aR X N' scope (ώ scope X.env) C s3 (upd H E (.lst [])) fp) tg elt [c] (gk X.K l) E σ' H (λH'=>Q (.ref E) H'):=by
 intro fp E C s3 hE;obtain⟨Tp,keep,Pi,t0,mono,step,fin⟩:=h;refine⟨λi m τ H1=>m=xs.length-i/\i<=xs.length/\ζ H H1/\Tp τ/\∃us,H1 E=some (.lst us)/\Vl.ψ (λu i=>Pi E i u H1) us (ig keep i),⟨xs.length,by simp,agf _,ζ.upd hE,t0,[],υ,.nil⟩,?_⟩
 rintro i m τ H1 ⟨rfl,hi,s1,hτ,us,eE,hA⟩
 by_cases hlt:i<xs.length
 .refine .inr ⟨⟨xs,xs[i],ζ.seq s1 hl,aaf hlt⟩,λτ' H'=>ζ H H'/\Tp τ'/\∃us,H' E=some (.lst us)/\Vl.ψ (λu i=>Pi E i u H') us (ig keep (i+1)),λτ' H' ⟨a,b,d⟩=>⟨xs.length-(i+1),by omega,rfl,hlt,a,b,d⟩,λx H2 yl=>?_⟩;have hx:xs[i]?=some x:=yl.2 xs (ζ.seq s1 hl);have hH:H2=H1:=yl.1;subst hH;intro ϵ s u I r;refine ρ (step fp E C s3 _ i τ x _ hE hx hτ s1 ⟨us,eE⟩ ϵ s u I r) λ_ s' ⟨τ2,H3,I3,q3⟩=>⟨τ2,H3,I3,Mz ?_⟩
  refine λϵ s I=>ρ (q3 ϵ s I) λk s' ⟨H4,I4,hk,t2,s2,q⟩=>⟨H4,I4,?_⟩
  subst hk;have eK:=aeT keep i;have hkl:=adf keep i;have wF:=hA.len;by_cases hkp:keep i=true
  .rw[if_pos hkp];rw[if_pos hkp]at eK;refine aF (q hkp) λv H5 ⟨pv,s5⟩=>⟨us,s5 _ _ (s2 _ _ eE),by omega,?_⟩
   have up:∀b o,b≠E->H5 b=some o->(upd H5 E (.lst (us++[v]))) b=some o:=λb o hb e=>by rw[ι hb];exact e
   refine⟨λb o e=>?_,t2,us++[v],υ,?_⟩
   .rw[ι (Η e hE)];exact s5 _ _ (s2 _ _ (s1 _ _ e))
   .rw[eK];refine Vl.ψ.app (hA.imp λu j p=>?_) (.cons (mono E i v H5 _ us (s5 _ _ (s2 _ _ eE)) up pv) .nil);exact mono E j u H5 _ us (s5 _ _ (s2 _ _ eE)) up (mono E j u H2 _ us eE (λb o _ e=>s5 _ _ (s2 _ _ e)) p)
  .rw[if_neg hkp];rw[if_neg hkp,List.append_nil]at eK;refine⟨s1.trans s2,t2,us,s2 _ _ eE,?_⟩;rw[eK];exact hA.imp λu j p=>mono E j u H2 _ us eE (λb o _ e=>s2 _ _ e) p
 .have e:i=xs.length:=by omega
  subst e;exact .inl ⟨⟨xs,ζ.seq s1 hl,Ϯ _⟩,fin E H1 us hE eE hA s1⟩
theorem acs(N':List Str)(hσ:bj N' X.N σ scope=σ')(hc:X.calm=true)(S:bC X.env scope)(hs:∀x,foldedSetIterable e X.env x=pure x)(h:EV X e σ H λv H1=>∃l xs,v=.ref l/\η X.K H1 l xs/\xs.length<=Ϫ/\Lz X N' scope tg elt c σ' H1 Q xs):EV X (.ListComp elt [⟨tg,e,[c],0⟩] scope pos) σ H Q:=by
 refine qN (N':=N') hc S hs (lR (aF h λv H1 q=>?_));obtain⟨l,xs,rfl,hl,hz,hw⟩:=q;refine⟨l,rfl,⟨xs,hl⟩,?_⟩;rw[hσ];exact afY hz hl hw
end
section
variable{X:Cx}{D:Ends}{σ:St}{H:Hp}{rest:List ak1}{suite:List ϧ}{b₀:ϧ}{pos np:Pos}{x n:Str}{c:ε}{C:δ}{d:Option δ×Bool}{i:Nat}
end
end L2
namespace L2
open PySem PySem.Spec PyProof.Rows
section
variable{X:Cx}{a b e:π}{σ σ':St}{H:Hp}{Q:VK}{D:Ends}{pos spos py p p':Pos}{tg elt iter:π}{scope:ahI}{Kx:St->XK}{y:Str}{j:Nat}
end
abbrev DX(K:Ϩ)(mg:Str->Option ε)(x:Str)(st:ϧ):Prop:=∃f fd,bM K x x st f fd/\mg x=some (.ref f)
section
variable{K:Ϩ}{h:ϫ}{mg:Str->Option ε}(X:K.In h)(G:h.Ns mainGlobals mg){x y m qual fld:Str}{st:ϧ}{f C D:δ}{od an:Option δ}{sl:Array (Option ε)}{oc kV dc pm cd ct:ε}{t:Tok}
abbrev cN(K:Ϩ)(x:Str)(C:δ):Prop:=anp K mainGlobals x=some (some (.ref C))
abbrev mZ(K:Ϩ)(m qual:Str)(st:ϧ)(f:δ)(od an:Option δ)(sl:Array (Option ε))(oc kV dc pm cd ct:ε):Prop:=K.lookup f=some ⟨oc,od,.func (amI m qual (iz st) (ϗ st) (ο st) .none kV dc pm an cd ct),sl⟩
include X G
theorem UW(a:cN K x f)(l:mZ K x x st f od an sl oc kV dc pm cd ct)(c:amq K cd x=true)(k:alF K (.ref f)=true):DX K mg x st:=⟨_,_,rK (st:=st) l c k,alD X G a⟩
theorem Vu{z:Str}(g:anp K mainGlobals x=some (some (.str z t))):Gc mg x (.str z):=⟨_,alD X G g,_,rfl⟩
theorem aae{z:Int}(g:anp K mainGlobals x=some (some (.int z t))):Gc mg x (.int z):=⟨_,alD X G g,_,rfl⟩
theorem T6(z:anp K mainGlobals x=some none):mg x=none:=W.mg_none_of X G z
theorem U5(q:cN K x C):mg x=some (.ref (θ mg x)):=by have e:=alD X G q;rw[eQ e];exact e
theorem Vj(q:cN K x C)(y:ant K C dj "ValueError.__new__"=true):mL K mg x:=ZW (alD X G q) y
theorem RL(q:cN K x C)(a1:amj K C (.type "type")=true)(a2:amk K (.ref C) (.type "type") "__init__"=some (.val (.builtin "ValueError.__init__")))(a3:aiY K (.ref C) "__getattribute__"=some (some (.builtin "type.__getattribute__")))(a4:amn K (.ref C)=some (.type "type"))(a5:amd K C (.type "BaseException")=some true):zN K mg x:=Rv (alD X G q) a1 a2 a3 a4 a5
theorem aaJ(q:cN K x C)(r:cN K y D)(a1:iU K C D=true)(a2:amn K (.ref C)=some (.type "type"))(a3:alI K C=true)(a4:agO K (.ref C) "__getattribute__"=some (some (.builtin "BaseException.__getattribute__")))(a5:agO K (.ref C) "__getattr__"=some none)(a6:agO K (.ref C) "__class__"=some (some (.builtin "object.__class__")))(a7:aiY K (.builtin "object.__class__") "__get__"=some (some (.builtin "getset_descriptor.__get__")))(a8:anc K (.builtin "object.__class__")=some true)(a9:amd K C (.type "object")=some true)(a10:amd K C (.type "BaseException")=some true):XC K mg y x:=abG (alD X G q) (alD X G r) a1 a2 a3 a4 a5 a6 a7 a8 a9 a10
theorem WR(q:cN K x C)(r:cN K y D)(a:agO K (.ref C) "__init__"=some (some (.ref f)))(l:mZ K "__init__" qual st f od an sl oc kV dc pm cd ct)(c:amq K cd qual=true)(k:alF K (.ref f)=true)(a1:jn K C f=true)(a2:amP K (.ref f)=true)(a3:agO K (.ref C) "__setattr__"=some (some (.builtin "object.__setattr__")))(a4:al7 K C fld=some none)(a5:iU K C D=true):ni K mg y x qual fld st:=T5 (alD X G q) (alD X G r) (rK (st:=st) l c k) a1 a2 a3 a4 a5
theorem ahg(q:cN K x C)(a:agO K (.ref C) fld=some none):Θ K (θ mg x) fld:=by rw[eQ (alD X G q)];exact a
theorem V1(q:cN K x C)(a:amh K C Str.empty=true)(b:alI K C=true)(c:amL K C=true)(d:agO K (.ref C) "__setattr__"=some (some (.builtin "object.__setattr__"))):ϒ K (θ mg x):=ad8 (alD X G q) a b c d
theorem aar(q:cN K x C)(a:agO K (.ref C) "__init__"=some (some (.ref f)))(l:mZ K "__init__" qual st f od an sl oc kV dc pm cd ct)(c:amq K cd qual=true)(k:alF K (.ref f)=true)(b:amP K (.ref f)=true)(d:anb K C=true)(e:alF K (.ref C)=true):OI K (θ mg x) qual st:=agS (alD X G q) (rK (st:=st) l c k) a b d e
theorem Xm(q:cN K x C)(a:agO K (.ref C) m=some (some (.ref f)))(l:mZ K m qual st f od an sl oc kV dc pm cd ct)(c:amq K cd qual=true)(k:alF K (.ref f)=true)(b:amP K (.ref f)=true):OM K (θ mg x) m qual st:=aam (alD X G q) (rK (st:=st) l c k) a b
theorem Wa(q:cN K x C)(a:amk K (.ref C) (.type "type") m=some (.val (.ref f)))(l:mZ K m qual st f od an sl oc kV dc pm cd ct)(c:amq K cd qual=true)(k:alF K (.ref f)=true)(b:amj K C (.type "type")=true)(d:aiY K (.ref C) "__getattribute__"=some (some (.builtin "type.__getattribute__"))):OB K (θ mg x) m qual st:=abN (alD X G q) (rK (st:=st) l c k) a b d
omit X G
inductive iJ (mg:Str->Option ε):List δ->List δ->Prop
 |nil:iJ mg [] []
 |cons {x:Str} {C:δ} {l m:List δ} (h:mg x=some (.ref C)) (t:iJ mg l m):iJ mg (θ mg x::l) (C::m)
theorem iJ.eq{l m:List δ}(h:iJ mg l m):l=m:=by
 induction h with
 |nil=>rfl
 |cons h _ ih=>rw[eQ h,ih]
include X G
theorem iV{l m:List δ}(q:cN K x C)(t:iJ mg l m):iJ mg (θ mg x::l) (C::m):=.cons (alD X G q) t
omit X G
theorem Vh{l m:List δ}(t:iJ mg l m)(d:m.Nodup):l.Nodup:=by rw[t.eq];exact d
end
section
variable{X:Cx}{H:Hp}{Q:VK}{z y:Str}
end
end L2
namespace L2
open PySem PySem.Spec PyProof.Rows PySem.W
def jG(k:Int):ε->Bool
 |.int i _=>i==k
 |_=>false
theorem Pq:∀{ns:List Int}{us:List ε},Vals (ns.map V.int) us->(∀u∈us,∃i t,u=Value.int i t)/\∀k,us.countP (jG k)=ns.count k
 |[],_,.nil=>⟨λu h=>by simp at h,λk=>rfl⟩
 |n::ns,_,.cons r t=>by
  obtain⟨tk,rfl⟩:=(show ∃t,_=Value.int n t from r);obtain⟨h1,h2⟩:=Pq t;refine⟨λu hu=>?_,λk=>?_⟩
  .obtain rfl|hu:=ϴ.mp hu
   .exact⟨_,_,rfl⟩
   .exact h1 u hu
  .rw[List.countP_cons,List.count_cons,h2 k];rfl
section
variable{X:Cx}{H:Hp}{Q:VK}
theorem Xx{a:δ}{ns:List Int}{k:Int}(h:η X.K H a (ns.map V.int))(g:Q (.int (ns.count k:Nat)) H):MT X "list.count" (.ref a) [.int k] H Q:=by
 refine jA (r:=λx xs H Q=>∃a ns k,x=.ref a/\xs=[.int k]/\η X.K H a (ns.map V.int)/\Q (.int (ns.count k:Nat)) H) ?_ ⟨a,ns,k,rfl,rfl,h,g⟩;intro ϵ s σ H x xs v us Q I rx rs h;obtain⟨a,ns,k,rfl,rfl,h,g⟩:=h;cases rx;obtain⟨u,rfl,ru⟩:=vals1 rs;obtain⟨tk,rfl⟩:=(show ∃t,u=Value.int k t from ru);obtain⟨ϸ,r,⟨⟨cls,dd,data,sl⟩,n,e,hc,hd,hs⟩,hz⟩:=I.list h;simp only at hc hd hs;subst hc hd hs;obtain⟨h1,h2⟩:=Pq r;refine alN F.slot_list_count ⟨_,e,rfl⟩ F.entry_list_count (F.args_list_count_2 _ _) (SeqAt.list_countAt a ϸ.toArray n _ sl (.int k tk) (jG k)) ⟨e,λy hy=>?_,?_⟩
 .obtain⟨i,t,rfl⟩:=h1 y (by simpa using hy);exact SeqAt.EqAt.int_int i t k tk
 .rw[show ϸ.toArray.toList=ϸ from rfl,h2];exact⟨.int _,H,I.tok _,⟨_,rfl⟩,g⟩
end
end L2
local macro_rules | `(tactic| walk_at "sc") => `(tactic| exact ⟨rfl, rfl, rfl, by decide +kernel, rfl, by decide +kernel, by decide +kernel⟩)
local macro_rules | `(tactic| walk_at "nm") => `(tactic| refine L2.XJ (by rfl) (by first | exact Or.inl rfl | exact Or.inr (Or.inl rfl) | exact Or.inr (Or.inr rfl)) ?_ (by decide) (by decide))
local macro_rules | `(tactic| walk_at "gc") => `(tactic| refine L2.YS (by assumption) (by rfl) ?_ (by decide))
local macro_rules | `(tactic| walk_at "ty") => `(tactic| first
 |((with_reducible show L2.EV _ (PySem.Expr.Name "str" _) _ _ _);refine L2.ty_str (by rfl) (by assumption) ?_)
 |((with_reducible show L2.EV _ (PySem.Expr.Name "list" _) _ _ _);refine L2.ty_list (by rfl) (by assumption) ?_)
 |((with_reducible show L2.EV _ (PySem.Expr.Name "tuple" _) _ _ _);refine L2.ty_tuple (by rfl) (by assumption) ?_)
 |((with_reducible show L2.EV _ (PySem.Expr.Name "int" _) _ _ _);refine L2.ty_int (by rfl) (by assumption) ?_)
 |((with_reducible show L2.EV _ (PySem.Expr.Name "set" _) _ _ _);refine L2.ty_set (by rfl) (by assumption) ?_)
 |((with_reducible show L2.EV _ (PySem.Expr.Name "bool" _) _ _ _);refine L2.ty_bool (by rfl) (by assumption) ?_))
local macro_rules | `(tactic| walk_at "cb") => `(tactic| first
 |((with_reducible show L2.EV _ (PySem.Expr.Call (PySem.Expr.Name "len" _) _ _ _) _ _ _);refine L2.RP (by rfl) (by assumption) (by rfl) (by rfl) ?_)
 |((with_reducible show L2.EV _ (PySem.Expr.Call (PySem.Expr.Name "isinstance" _) _ _ _) _ _ _);refine L2.Sh (by rfl) (by assumption) (by rfl) (by rfl) ?_)
 |((with_reducible show L2.EV _ (PySem.Expr.Call (PySem.Expr.Name "all" _) _ _ _) _ _ _);refine L2.aa8 (by rfl) (by assumption) (by rfl) (by rfl) ?_)
 |((with_reducible show L2.EV _ (PySem.Expr.Call (PySem.Expr.Name "min" _) _ _ _) _ _ _);refine L2.Z3 (by rfl) (by assumption) (by rfl) (by rfl) ?_)
 |((with_reducible show L2.EV _ (PySem.Expr.Call (PySem.Expr.Name "abs" _) _ _ _) _ _ _);refine L2.ab8 (by rfl) (by assumption) (by rfl) (by rfl) ?_)
 |((with_reducible show L2.EV _ (PySem.Expr.Call (PySem.Expr.Name "sorted" _) _ _ _) _ _ _);refine L2.Az (by rfl) (by assumption) (by rfl) (by rfl) ?_))
local macro_rules | `(tactic| walk_at "ct") => `(tactic| first
 |((with_reducible show L2.EV _ (PySem.Expr.Call (PySem.Expr.Name "str" _) _ _ _) _ _ _);refine L2.ags (by rfl) (by assumption) (by rfl) (by rfl) ?_)
 |((with_reducible show L2.EV _ (PySem.Expr.Call (PySem.Expr.Name "list" _) _ _ _) _ _ _);refine L2.abB (by rfl) (by assumption) (by rfl) (by rfl) ?_)
 |((with_reducible show L2.EV _ (PySem.Expr.Call (PySem.Expr.Name "tuple" _) _ _ _) _ _ _);refine L2.aho (by rfl) (by assumption) (by rfl) (by rfl) ?_)
 |((with_reducible show L2.EV _ (PySem.Expr.Call (PySem.Expr.Name "int" _) _ _ _) _ _ _);refine L2.aat (by rfl) (by assumption) (by rfl) (by rfl) ?_)
 |((with_reducible show L2.EV _ (PySem.Expr.Call (PySem.Expr.Name "set" _) _ _ _) _ _ _);refine L2.Ud (by rfl) (by assumption) (by rfl) (by rfl) ?_)
 |((with_reducible show L2.EV _ (PySem.Expr.Call (PySem.Expr.Name "bool" _) _ _ _) _ _ _);refine L2.akv (by rfl) (by assumption) (by rfl) (by rfl) ?_))
local macro_rules | `(tactic| walk_at "xo") => `(tactic| first | exact L2.Λ | assumption | exact L2.Kd rfl)
local macro_rules | `(tactic| walk_at "po") => `(tactic| first | exact L2.XF | assumption | exact PySem.PassesOwn.never)
local macro_rules | `(tactic| walk_at "cl") => `(tactic| first
 |refine L2.aap (by assumption) (by assumption) (by first|decide|omega) (by decide) (by rfl) (by walk_at"xo") (by decide) (by rfl) (by rfl) ?_
 |refine L2.akZ (by assumption) (by assumption) (by first|decide|omega) (by decide) (by rfl) (by walk_at"xo") (by decide) ?_)
local macro_rules | `(tactic| walk_at "bm") => `(tactic| first
 |refine L2.d8 PySem.F.plainAttrs_str PySem.F.slot_str_join PySem.F.type_str_join (h:=?_)
 |refine L2.d8 PySem.F.plainAttrs_str PySem.F.slot_str_index PySem.F.type_str_index (h:=?_)
 |refine L2.d8 PySem.F.plainAttrs_str PySem.F.slot_str_startswith PySem.F.type_str_startswith (h:=?_))
local macro_rules | `(tactic| walk_at "e") => `(tactic| first
 |((with_reducible show L2.EV _ (PySem.Expr.Name _ _) _ _ _);first|(walk_at"ty")|(walk_at"nm")|(walk_at"gc"))
 |(with_reducible refine L2.Y8 ?_)
 |(with_reducible refine L2.Hz ?_)
 |(with_reducible refine L2.W0 ?_)
 |(with_reducible refine L2.YC ?_)
 |(with_reducible refine L2.U8 ?_)
 |((with_reducible show L2.EV _ (PySem.Expr.Compare _ [_] [_] _) _ _ _);refine L2.aic (by first|exact L2.Ku _ (by decide) (by decide)|rfl) ?_)
 |((with_reducible show L2.EV _ (PySem.Expr.Compare _ [_,_] [_,_] _) _ _ _);refine L2.W8 (by with_unfolding_all rfl) ?_)
 |(with_reducible refine L2.aei ?_)
 |(with_reducible refine L2.ab0 ?_)
 |(with_reducible refine L2.aer ?_)
 |(with_reducible refine L2.Xu ?_)
 |(with_reducible refine L2.T7 ?_)
 |(with_reducible refine L2.adZ ?_)
 |(with_reducible refine L2.Xj ?_)
 |(with_reducible refine L2.Xc ?_)
 |(with_reducible refine L2.Z1 ?_)
 |((with_reducible show L2.EV _ (PySem.Expr.Subscript _ _ _) _ _ _);refine L2.ahX (λ_ _=>by rfl) ?_)
 |((with_reducible show L2.EV _ (PySem.Expr.Call (PySem.Expr.Name _ _) _ _ _) _ _ _);first|(walk_at"cb")|(walk_at"ct")|(walk_at"cl"))
 |((with_reducible show L2.EV _ (PySem.Expr.Call (PySem.Expr.Attribute _ _ _) _ _ _) _ _ _);(walk_at"bm"))
 |(with_reducible refine L2.S5 ?_)
 |((with_reducible show L2.km _ (PySem.Expr.Constant _ _ _::_) _ _ _ _);refine L2.Kf (L2.Hz ⟨_,200,rfl,by decide+kernel,by omega,?_⟩))
 |((with_reducible show L2.km _ (PySem.Expr.FormattedValue _ _ _ _::_) _ _ _ _);refine L2.Kf ?_)
 |((with_reducible show L2.km _ [] _ _ _ _);refine L2.agw (by omega) ?_)
 |(with_reducible refine L2.gM ?_)
 |((with_reducible show L2.EA _ (_::_) _ _ _);refine L2.gZ (by rfl) ?_)
 |(with_reducible refine L2.Ro ?_)
 |(with_reducible refine L2.abn ?_)
 |((with_reducible show L2.ET _ (PySem.Expr.Compare _ [_] [_] _) _ _ _);refine L2.VG (by first|exact L2.Ku _ (by decide) (by decide)|rfl) ?_)
 |((with_reducible show L2.ET _ (PySem.Expr.Compare _ [_,_] [_,_] _) _ _ _);refine L2.SJ (by with_unfolding_all rfl) ?_)
 |(with_reducible refine L2.W7 ?_)
 |((with_reducible show L2.ET _ (PySem.Expr.BoolOp _ _ _) _ _ _);refine L2.Le ?_)
 |(with_reducible refine L2.Vs ?_)
 |(with_reducible refine L2.ZM ?_)
 |(with_reducible refine L2.YF ?_)
 |(with_reducible refine L2.af1 ?_)
 |((with_reducible show L2.ET _ (PySem.Expr.Name _ _) _ _ _);refine L2.ql (λ_=>by rfl) ?_)
 |((with_reducible show L2.ET _ (PySem.Expr.Call _ _ _ _) _ _ _);refine L2.ql (λ_=>by rfl) ?_)
 |((with_reducible show L2.ET _ (PySem.Expr.Subscript _ _ _) _ _ _);refine L2.ql (λ_=>by rfl) ?_)
 |((with_reducible show L2.ET _ (PySem.Expr.Constant _ _ _) _ _ _);refine L2.ql (λ_=>by rfl) ?_))
local macro_rules | `(tactic| walk_at "o") => `(tactic| with_reducible first
 |refine L2.afu ?_|refine L2.afG ?_|refine L2.Sq ?_|refine L2.ab3 ?_|refine L2.Zr ?_|refine L2.ac3 ?_
 |refine L2.Zq ?_|refine L2.ad2 ?_|refine L2.agM ?_|refine L2.aeA ?_|refine L2.alu ?_|refine L2.Yu ?_
 |refine L2.ake ?_|refine L2.akG ?_|refine L2.ajg ?_|refine L2.aks ?_)
local macro_rules | `(tactic| walk_at "o2") => `(tactic| first
 |((with_reducible show L2.OP _ (PySem.compareOp PySem.CmpOp.Eq) _ _ _ _);refine L2.zB (by rfl) ?_)
 |((with_reducible show L2.OP _ (PySem.compareOp PySem.CmpOp.NotEq) _ _ _ _);refine L2.QF (by rfl) ?_)
 |((with_reducible show L2.OP _ (PySem.binaryOp PySem.Operator.Mod) (L2.V.int _) (L2.V.int _) _ _);refine L2.Xg (by first|decide|omega) ?_)
 |((with_reducible show L2.OP _ (PySem.binaryOp PySem.Operator.Mult) (L2.V.int _) (L2.V.int _) _ _);refine L2.aaj (by first|exact Or.inr ⟨by decide,by decide⟩|exact Or.inl ⟨by decide,by decide⟩|exact Or.inl ⟨by omega,by omega⟩|exact Or.inr ⟨by omega,by omega⟩) ?_)
 |((with_reducible show L2.OP _ (PySem.binaryOp PySem.Operator.Pow) (L2.V.int _) (L2.V.int _) _ _);refine L2.agr ⟨by decide,by decide,by decide⟩ ?_)
 |((with_reducible show L2.CL _ (PySem.Value.builtin "len") [L2.V.ref _] _ _);refine L2.CJ (Or.inl (by assumption)) ?_)
 |((with_reducible show L2.CL _ (PySem.Value.builtin "len") [L2.V.str _] _ _);refine L2.aaz (by omega) ?_)
 |((with_reducible show L2.CL _ (PySem.Value.builtin "ord") [L2.V.str _] _ _);refine L2.alj ?_)
 |((with_reducible show L2.CL _ (PySem.Value.builtin "isinstance") _ _ _);with_reducible first|refine L2.afU ?_|refine L2.ahQ ?_|refine L2.ah5 ?_|refine L2.ajs ?_|refine L2.ak5 ?_|refine L2.aka ?_|refine L2.akV ?_|refine L2.ak2 ?_|refine L2.ajv ?_|refine L2.ai0 ?_|refine L2.akN ?_|refine L2.aj4 ?_|refine L2.V9 ?_|refine L2.ajR ?_|refine L2.YM ?_|refine L2.alf ?_|refine L2.aiQ ?_|refine L2.ajo ?_|refine L2.aib ?_|refine L2.ajW ?_|refine L2.RK ?_|refine L2.ajU ?_|refine L2.akm ?_|refine L2.akq ?_))
local macro_rules | `(tactic| walk_at "t") => `(tactic| first
 |(with_reducible refine L2.Sx ?_)
 |(with_reducible refine L2.ah6 ?_)
 |(with_reducible refine L2.ag7 ?_)
 |(with_reducible refine L2.ahB ?_)
 |(with_reducible first|refine L2.acN ?_|refine L2.adI ?_|refine L2.ab2 ?_|refine L2.ael ?_|refine L2.aiX ?_|refine L2.agc ?_|refine L2.We ?_|refine L2.adG ?_|refine L2.akB ?_|refine L2.ak9 ?_)
 |((with_reducible show ∃k,L2.V.bl _=L2.V.bl k/\_);refine⟨_,rfl,?_⟩)
 |((with_reducible show ∃k,L2.sO _ (L2.V.bl _) _ k/\_);refine⟨_,rfl,?_⟩)
 |((with_reducible show ∃i,L2.V.int _=L2.V.int i/\_);refine⟨_,rfl,?_⟩)
 |((with_reducible show L2.rE _ _ (L2.V.str _) _/\_);refine⟨by rfl,?_⟩))
local macro_rules | `(tactic| walk_at "s") => `(tactic| first
 |(with_reducible refine L2.Δ ?_)
 |(with_reducible refine L2.ω ?_)
 |(with_reducible refine L2.ξ ?_)
 |(with_reducible refine L2.Κ ?_)
 |(with_reducible refine L2.Qf ?_)
 |(with_reducible refine L2.akU ?_)
 |(with_reducible refine L2.ϓ ?_)
 |((with_reducible show L2.SX _ (PySem.Stmt.Assign [PySem.Expr.Name _ _] _ _) _ _ _);refine L2.agE (by assumption) (by rfl) (by first|exact Or.inl rfl|exact Or.inr rfl) (by rfl) (by first|exact Or.inl rfl|exact Or.inr rfl) ?_)
 |((with_reducible show L2.SX _ (PySem.Stmt.Expr _ _) _ _ _);refine L2.aQ (by rfl) ?_))
local macro_rules | `(tactic| walk_at "go") => `(tactic| repeat' (first | (walk_at "e") | (walk_at "o") | (walk_at "o2") | (walk_at "t") | (walk_at "s")))
local macro_rules | `(tactic| walk_at "ex") => `(tactic| repeat' (first | (walk_at "e") | (walk_at "o") | (walk_at "o2") | (walk_at "t")))
namespace L2
theorem Wi{α:Type}{us:List α}(h:us.length=1):∃a,us=[a]:=match us,h with|[a],_=>⟨a,rfl⟩
theorem RV{α:Type}{us:List α}(h:us.length=2):∃a b,us=[a,b]:=match us,h with|[a,b],_=>⟨a,b,rfl⟩
theorem Fg{α:Type}{us:List α}(h:us.length=3):∃a b c,us=[a,b,c]:=match us,h with|[a,b,c],_=>⟨a,b,c,rfl⟩
theorem XM{α:Type}{us:List α}(h:us.length=4):∃a b c d,us=[a,b,c,d]:=match us,h with|[a,b,c,d],_=>⟨a,b,c,d,rfl⟩
theorem aee{α:Type}{us:List α}(h:us.length=5):∃a b c d e,us=[a,b,c,d,e]:=match us,h with|[a,b,c,d,e],_=>⟨a,b,c,d,e,rfl⟩
end L2
local macro_rules | `(tactic| walk_at "b1") => `(tactic| (intro _ _ _ _ _ _ us hl; obtain ⟨_, e⟩ := L2.Wi hl; subst e; rfl))
local macro_rules | `(tactic| walk_at "b2") => `(tactic| (intro _ _ _ _ _ _ us hl; obtain ⟨_, _, e⟩ := L2.RV hl; subst e; rfl))
local macro_rules | `(tactic| walk_at "b3") => `(tactic| (intro _ _ _ _ _ _ us hl; obtain ⟨_, _, _, e⟩ := L2.Fg hl; subst e; rfl))
local macro_rules | `(tactic| walk_at "b4") => `(tactic| (intro _ _ _ _ _ _ us hl; obtain ⟨_, _, _, _, e⟩ := L2.XM hl; subst e; rfl))
local macro_rules | `(tactic| walk_at "b5") => `(tactic| (intro _ _ _ _ _ _ us hl; obtain ⟨_, _, _, _, _, e⟩ := L2.aee hl; subst e; rfl))
local macro_rules | `(tactic| walk_at "bb") => `(tactic| first | walk_at "b1" | walk_at "b2" | walk_at "b3" | walk_at "b4" | walk_at "b5")
local macro_rules | `(tactic| walk_at "ln") => `(tactic| (intro _ _ _ _ h; repeat (first | (obtain ⟨e, _⟩ := h; exact congrArg List.length e) | (obtain ⟨_, h⟩ := h))))
local macro_rules | `(tactic| walk_at "A") => `(tactic| (refine L2.ξ ?_; walk_at "s"; walk_at "ex"))
namespace K94
open PySem L2 PyProof.Rows
def top(i:Nat):ϧ:=PySem.Challenge.pw_turnleaf_k94_whole_by_places.main.body.getD i (.Pass ⟨0,0,0,0⟩)
abbrev Mm:ϧ:=top 22
abbrev zJ:ϧ:=top 23
abbrev Et:ϧ:=top 24
abbrev IV:ϧ:=top 25
abbrev Oa:ϧ:=top 26
abbrev LC:ϧ:=top 27
abbrev Oh:ϧ:=top 28
abbrev ur:ϧ:=top 29
abbrev ue:ϧ:=top 30
abbrev ud:ϧ:=top 31
abbrev Ge:ϧ:=top 32
abbrev QL:ϧ:=top 37
abbrev vX:ϧ:=top 38
abbrev Oz:ϧ:=top 39
abbrev Jw:ϧ:=top 40
abbrev Dq:ϧ:=top 41
abbrev Ka:ϧ:=top 46
abbrev mQ:ϧ:=top 47
abbrev Jo:ϧ:=top 49
abbrev Pk:ϧ:=top 50
abbrev tK:ϧ:=top 51
abbrev yF:ϧ:=top 52
abbrev tR:ϧ:=top 53
abbrev Jc:ϧ:=top 56
abbrev nM:ϧ:=top 82
abbrev Om:ϧ:=top 83
abbrev QK:ϧ:=top 84
abbrev Mu:ϧ:=top 85
abbrev Hj:ϧ:=top 86
abbrev HS:ϧ:=top 87
abbrev K5:ϧ:=top 88
abbrev Li:ϧ:=top 89
abbrev Pb:ϧ:=top 90
abbrev zO:ϧ:=top 92
abbrev Aj:ϧ:=top 94
abbrev Il:ϧ:=top 97
abbrev vA:ϧ:=top 98
abbrev nY:ϧ:=top 99
abbrev Pz:ϧ:=top 100
abbrev yI:ϧ:=top 101
abbrev Ov:ϧ:=top 102
abbrev Pr:ϧ:=top 103
abbrev Nu:ϧ:=top 104
abbrev oE:ϧ:=top 105
abbrev yP:ϧ:=top 106
abbrev iZ:ϧ:=top 107
abbrev cA:ϧ:=top 108
abbrev QD:ϧ:=inClass (top 8) 0
abbrev Kh:ϧ:=inClass (top 10) 0
abbrev Je:ϧ:=inClass (top 9) 0
abbrev uD:ϧ:=inClass (top 58) 0
abbrev Ci:ϧ:=inClass (top 58) 1
abbrev Cv:ϧ:=inClass (top 60) 0
abbrev CK:ϧ:=inClass (top 60) 1
abbrev my:ϧ:=inClass (top 61) 0
abbrev mW:ϧ:=inClass (top 61) 1
abbrev wM:ϧ:=inClass (top 61) 2
abbrev Dg:ϧ:=inClass (top 63) 0
abbrev Br:ϧ:=inClass (top 64) 0
abbrev zK:ϧ:=inClass (top 65) 0
abbrev yG:ϧ:=inClass (top 66) 0
abbrev Ck:ϧ:=inClass (top 66) 1
abbrev vo:ϧ:=inClass (top 67) 0
abbrev Am:ϧ:=inClass (top 68) 0
abbrev Dc:ϧ:=inClass (top 69) 0
abbrev Ad:ϧ:=inClass (top 95) 0
abbrev ye:ϧ:=inClass (top 95) 1
abbrev yx:ϧ:=inClass (top 95) 2
abbrev DG:ϧ:=inClass (top 95) 3
abbrev qg:ϧ:=inClass (top 95) 4
abbrev Bx:ϧ:=inClass (top 95) 5
abbrev xH:ϧ:=inClass (top 95) 6
abbrev CZ:ϧ:=inClass (top 95) 7
abbrev Cu:ϧ:=inClass (top 95) 8
abbrev xx:ϧ:=inClass (top 95) 12
structure Txt(K:Ϩ)(mg:Str->Option ε):Prop where
 pY:DX K mg "is_whole" Mm
 qK:DX K mg "made_of" zJ
 zP:DX K mg "is_number_value" Et
 u6:DX K mg "is_text_value" IV
 wj:DX K mg "is_value" Oa
 uW:DX K mg "value_before" LC
 Bq:DX K mg "are_figures" Oh
 wN:DX K mg "read_figures" ur
 zR:DX K mg "read_number_word" ue
 CQ:DX K mg "read_text_word" ud
 yH:DX K mg "read_value" Ge
 yU:DX K mg "is_name" QL
 Ar:DX K mg "ask_columns" vX
 ph:DX K mg "place_of" Oz
 xr:DX K mg "is_row_number" Jw
 Dh:DX K mg "is_row" Dq
 Dd:DX K mg "read_order_word" Ka
 BL:DX K mg "read_order" mQ
 zb:DX K mg "number_of" Jo
 xQ:DX K mg "rank_of" Pk
 BP:DX K mg "sorted_by" tK
 zZ:DX K mg "let_through" yF
 xX:DX K mg "line_of" tR
 yp:DX K mg "ask_size" Jc
 nO:DX K mg "word_at" nM
 jJ:DX K mg "text_between" Om
 uE:DX K mg "read_column" QK
 wy:DX K mg "read_word" Mu
 xJ:DX K mg "read_none" Hj
 yL:DX K mg "read_of_value" HS
 BV:DX K mg "read_of_sieves" K5
 Gh:DX K mg "read_part" Li
 RB:DX K mg "read_sieve" Pb
 vR:DX K mg "leaf_by_place" zO
 Ca:DX K mg "told_rows" Aj
 jX:DX K mg "_law_draw" Il
 yK:DX K mg "_law_values" vA
 rN:DX K mg "_law_deed" nY
 Dj:DX K mg "_law_order" Pz
 BW:DX K mg "_law_order_words" yI
 ym:DX K mg "_law_sieve_words" Ov
 Af:DX K mg "_law_lets" Pr
 yt:DX K mg "_law_ahead" Nu
 Ac:DX K mg "_law_line" oE
 um:DX K mg "_law_leaf" yP
 zM:DX K mg "_law_loss" iZ
 Uz:DX K mg "law" cA
 xV:Gc mg "NUMBER" (.str "number")
 GJ:Gc mg "TEXT" (.str "text")
 Yc:Gc mg "FIGURES" (.str "0123456789")
 Vf:Gc mg "LETTERS" (.str "abcdefghijklmnopqrstuvwxyz")
 afj:Gc mg "TEXT_SIGNS" (.str "abcdefghijklmnopqrstuvwxyz0123456789-")
 Qm:Gc mg "LARGEST" (.int 1000000000000000000)
 Zi:Gc mg "LONGEST" (.int 20)
 af2:Gc mg "NONE_WORD" (.str "?")
 ahR:Gc mg "TEXT_AHEAD" (.str "'")
 ahJ:Gc mg "BELOW_AHEAD" (.str "-")
 Rm:Gc mg "MOST_COLUMNS" (.int 6)
 ahq:Gc mg "LONGEST_NAME" (.int 8)
 ahD:Gc mg "LARGEST_ROW" (.int 1000000000)
 agx:Gc mg "MOST_IN_ORDER" (.int 4)
 adN:Gc mg "UP_AHEAD" (.str "+")
 Uw:Gc mg "DOWN_AHEAD" (.str "-")
 afE:Gc mg "LARGEST_SIZE" (.int 100)
 abI:Gc mg "MOST_WORDS" (.int 60)
 v9:Gc mg "MOST_WITHIN" (.int 20)
 Pn:Gc mg "ALL" (.str "all")
 NP:Gc mg "NONE" (.str "none")
 Cw:Gc mg "IS" (.str "is")
 zU:Gc mg "UNDER" (.str "under")
 xf:Gc mg "OVER" (.str "over")
 yr:Gc mg "HOLDS" (.str "holds")
 su:Gc mg "NOT" (.str "not")
 rT:Gc mg "BOTH" (.str "both")
 afd:Gc mg "EITHER" (.str "either")
 VB:mg "abs"=none
 JP:mg "all"=none
 aes:mg "bool"=none
 Ry:mg "enumerate"=none
 M4:mg "int"=none
 Oi:mg "isinstance"=none
 cJ:mg "len"=none
 nZ:mg "list"=none
 PX:mg "min"=none
 GQ:mg "range"=none
 Ru:mg "reversed"=none
 Fp:mg "set"=none
 qI:mg "sorted"=none
 Qu:mg "str"=none
 La:mg "tuple"=none
 adP:mg "zip"=none
 uZ:mg "Sieve"=some (.ref (θ mg "Sieve"))
 Wn:mg "AllSieve"=some (.ref (θ mg "AllSieve"))
 aaW:mg "NoneSieve"=some (.ref (θ mg "NoneSieve"))
 ZS:mg "IsSieve"=some (.ref (θ mg "IsSieve"))
 ZC:mg "UnderSieve"=some (.ref (θ mg "UnderSieve"))
 ail:mg "OverSieve"=some (.ref (θ mg "OverSieve"))
 aeC:mg "HoldsSieve"=some (.ref (θ mg "HoldsSieve"))
 ahK:mg "NotSieve"=some (.ref (θ mg "NotSieve"))
 aaP:mg "BothSieve"=some (.ref (θ mg "BothSieve"))
 ago:mg "EitherSieve"=some (.ref (θ mg "EitherSieve"))
 Ur:mg "Book"=some (.ref (θ mg "Book"))
 Px:mL K mg "NoValue"
 qj:mL K mg "NoColumns"
 ux:mL K mg "NoOrder"
 Dm:zN K mg "LeafError"
 ug:ni K mg "LeafError" "NoSieve" "NoSieve.__init__" "at" QD
 uB:ni K mg "LeafError" "Absent" "Absent.__init__" "row" Kh
 t7:ni K mg "LeafError" "Twice" "Twice.__init__" "row" Je
 Mf:ϒ K (θ mg "AllSieve")
 Xq:OI K (θ mg "AllSieve") "Sieve.__init__" uD
 acx:OM K (θ mg "AllSieve") "lets" "Sieve.lets" Ci
 Yy:Θ K (θ mg "AllSieve") "text"
 CG:ϒ K (θ mg "NoneSieve")
 Xf:OI K (θ mg "NoneSieve") "NoneSieve.__init__" Cv
 Wu:OM K (θ mg "NoneSieve") "lets" "NoneSieve.lets" CK
 Ws:Θ K (θ mg "NoneSieve") "text"
 Hk:Θ K (θ mg "NoneSieve") "place"
 uK:ϒ K (θ mg "IsSieve")
 afp:OI K (θ mg "IsSieve") "ValueSieve.__init__" my
 aix:OM K (θ mg "IsSieve") "fits" "ValueSieve.fits" wM
 Tu:OM K (θ mg "IsSieve") "lets" "ValueSieve.lets" mW
 W2:Θ K (θ mg "IsSieve") "text"
 KR:Θ K (θ mg "IsSieve") "place"
 HJ:Θ K (θ mg "IsSieve") "value"
 vy:ϒ K (θ mg "UnderSieve")
 Yr:OI K (θ mg "UnderSieve") "ValueSieve.__init__" my
 afx:OM K (θ mg "UnderSieve") "fits" "UnderSieve.fits" Dg
 adh:OM K (θ mg "UnderSieve") "lets" "ValueSieve.lets" mW
 aby:Θ K (θ mg "UnderSieve") "text"
 Ga:Θ K (θ mg "UnderSieve") "place"
 Jx:Θ K (θ mg "UnderSieve") "value"
 t8:ϒ K (θ mg "OverSieve")
 adv:OI K (θ mg "OverSieve") "ValueSieve.__init__" my
 agV:OM K (θ mg "OverSieve") "fits" "OverSieve.fits" Br
 abL:OM K (θ mg "OverSieve") "lets" "ValueSieve.lets" mW
 adw:Θ K (θ mg "OverSieve") "text"
 Hw:Θ K (θ mg "OverSieve") "place"
 G4:Θ K (θ mg "OverSieve") "value"
 uf:ϒ K (θ mg "HoldsSieve")
 Rc:OI K (θ mg "HoldsSieve") "ValueSieve.__init__" my
 Wg:OM K (θ mg "HoldsSieve") "fits" "HoldsSieve.fits" zK
 aez:OM K (θ mg "HoldsSieve") "lets" "ValueSieve.lets" mW
 agi:Θ K (θ mg "HoldsSieve") "text"
 K1:Θ K (θ mg "HoldsSieve") "place"
 N7:Θ K (θ mg "HoldsSieve") "value"
 BJ:ϒ K (θ mg "NotSieve")
 agp:OI K (θ mg "NotSieve") "NotSieve.__init__" yG
 aa7:OM K (θ mg "NotSieve") "lets" "NotSieve.lets" Ck
 agj:Θ K (θ mg "NotSieve") "text"
 MN:Θ K (θ mg "NotSieve") "one"
 uI:ϒ K (θ mg "BothSieve")
 agF:OI K (θ mg "BothSieve") "PairSieve.__init__" vo
 ad6:OM K (θ mg "BothSieve") "lets" "BothSieve.lets" Am
 RZ:Θ K (θ mg "BothSieve") "text"
 JX:Θ K (θ mg "BothSieve") "one"
 El:Θ K (θ mg "BothSieve") "other"
 uF:ϒ K (θ mg "EitherSieve")
 ahW:OI K (θ mg "EitherSieve") "PairSieve.__init__" vo
 afM:OM K (θ mg "EitherSieve") "lets" "EitherSieve.lets" Dc
 acQ:Θ K (θ mg "EitherSieve") "text"
 O5:Θ K (θ mg "EitherSieve") "one"
 Fe:Θ K (θ mg "EitherSieve") "other"
 aH:ϒ K (θ mg "Book")
 Ut:OI K (θ mg "Book") "Book.__init__" Ad
 Hu:OM K (θ mg "Book") "ask_row" "Book.ask_row" yx
 Lr:OM K (θ mg "Book") "ask_there" "Book.ask_there" DG
 V4:OM K (θ mg "Book") "change" "Book.change" xH
 afe:OM K (θ mg "Book") "columns" "Book.columns" ye
 xG:OM K (θ mg "Book") "do" "Book.do" qg
 yd:OM K (θ mg "Book") "moment" "Book.moment" Cu
 adR:OM K (θ mg "Book") "now_rows" "Book.now_rows" xx
 agk:OM K (θ mg "Book") "put" "Book.put" Bx
 agY:OM K (θ mg "Book") "take" "Book.take" CZ
 BZ:Θ K (θ mg "Book") "heads"
 rA:Θ K (θ mg "Book") "rows"
 Gm:Θ K (θ mg "Book") "touched"
 Np:Θ K (θ mg "Book") "done"
 Rw:Θ K (θ mg "Book") "known"
 Bb:Θ K (θ mg "Book") "now"
 rW:OB K (θ mg "Sieve") "__init__" "Sieve.__init__" uD
abbrev Yn:List Str:=["self","text"]
theorem Rj:Α Yn ["self","text"] (ο uD):=by walk_at"sc"
abbrev acF:List Str:=["self","values"]
theorem aeg:Α acF ["self","values"] (ο Ci):=by walk_at"sc"
abbrev acd:List Str:=["self","text","place"]
theorem Xk:Α acd ["self","text","place"] (ο Cv):=by walk_at"sc"
abbrev aem:List Str:=["self","values"]
theorem afh:Α aem ["self","values"] (ο CK):=by walk_at"sc"
abbrev age:List Str:=["self","text","place","value"]
theorem afi:Α age ["self","text","place","value"] (ο my):=by walk_at"sc"
abbrev Wz:List Str:=["self","values","value"]
theorem Fb:Α Wz ["self","values"] (ο mW):=by walk_at"sc"
abbrev ae2:List Str:=["self","value"]
theorem Y4:Α ae2 ["self","value"] (ο wM):=by walk_at"sc"
abbrev Tq:List Str:=["self","value"]
theorem Tt:Α Tq ["self","value"] (ο Dg):=by walk_at"sc"
abbrev Xb:List Str:=["self","value"]
theorem W6:Α Xb ["self","value"] (ο Br):=by walk_at"sc"
abbrev ahO:List Str:=["self","value"]
theorem adi:Α ahO ["self","value"] (ο zK):=by walk_at"sc"
abbrev ahn:List Str:=["self","text","one"]
theorem Wl:Α ahn ["self","text","one"] (ο yG):=by walk_at"sc"
abbrev adV:List Str:=["self","values"]
theorem YH:Α adV ["self","values"] (ο Ck):=by walk_at"sc"
abbrev XN:List Str:=["self","text","one","other"]
theorem aaI:Α XN ["self","text","one","other"] (ο vo):=by walk_at"sc"
abbrev ahw:List Str:=["self","values"]
theorem aiF:Α ahw ["self","values"] (ο Am):=by walk_at"sc"
abbrev X5:List Str:=["self","values"]
theorem afm:Α X5 ["self","values"] (ο Dc):=by walk_at"sc"
abbrev ada:List Str:=["self","columns"]
theorem acD:Α ada ["self","columns"] (ο Ad):=by walk_at"sc"
abbrev acO:List Str:=["self"]
theorem ac1:Α acO ["self"] (ο ye):=by walk_at"sc"
abbrev afO:List Str:=["self","row","values"]
theorem Zc:Α afO ["self","row","values"] (ο yx):=by walk_at"sc"
abbrev acp:List Str:=["self","row"]
theorem aan:Α acp ["self","row"] (ο DG):=by walk_at"sc"
abbrev Qe:List Str:=["self","row","values","was"]
theorem LQ:Α Qe ["self","row","values"] (ο qg):=by walk_at"sc"
abbrev adu:List Str:=["self","row","values"]
theorem ahe:Α adu ["self","row","values"] (ο Bx):=by walk_at"sc"
abbrev abM:List Str:=["self","row","values"]
theorem adt:Α abM ["self","row","values"] (ο xH):=by walk_at"sc"
abbrev ZR:List Str:=["self","row"]
theorem afF:Α ZR ["self","row"] (ο CZ):=by walk_at"sc"
abbrev agK:List Str:=["self"]
theorem acr:Α agK ["self"] (ο Cu):=by walk_at"sc"
abbrev Xh:List Str:=["self"]
theorem ae8:Α Xh ["self"] (ο xx):=by walk_at"sc"
abbrev afL:List Str:=["self","at"]
theorem YD:Α afL ["self","at"] (ο QD):=by walk_at"sc"
abbrev abW:List Str:=["self","row"]
theorem aeU:Α abW ["self","row"] (ο Kh):=by walk_at"sc"
abbrev Wm:List Str:=["self","row"]
theorem aa0:Α Wm ["self","row"] (ο Je):=by walk_at"sc"
abbrev Yd:List Str:=["value"]
theorem SN:Α Yd ["value"] (ο Mm):=by walk_at"sc"
abbrev Xo:List Str:=["text","signs"]
theorem Up:Α Xo ["text","signs"] (ο zJ):=by walk_at"sc"
abbrev agC:List Str:=["value"]
theorem aao:Α agC ["value"] (ο Et):=by walk_at"sc"
abbrev Uo:List Str:=["value"]
theorem XS:Α Uo ["value"] (ο IV):=by walk_at"sc"
abbrev ach:List Str:=["kind","value"]
theorem aaw:Α ach ["kind","value"] (ο Oa):=by walk_at"sc"
abbrev agG:List Str:=["one","other"]
theorem Zk:Α agG ["one","other"] (ο LC):=by walk_at"sc"
abbrev ahy:List Str:=["word"]
theorem Uq:Α ahy ["word"] (ο Oh):=by walk_at"sc"
abbrev Mp:List Str:=["word","most","number"]
theorem Jv:Α Mp ["word","most"] (ο ur):=by walk_at"sc"
abbrev Pu:List Str:=["word","below","number"]
theorem J4:Α Pu ["word"] (ο ue):=by walk_at"sc"
abbrev NZ:List Str:=["word"]
theorem O3:Α NZ ["word"] (ο ud):=by walk_at"sc"
abbrev aa5:List Str:=["kind","word"]
theorem UL:Α aa5 ["kind","word"] (ο Ge):=by walk_at"sc"
abbrev adb:List Str:=["name"]
theorem X7:Α adb ["name"] (ο QL):=by walk_at"sc"
abbrev Q7:List Str:=["columns","name","kind","names"]
theorem Ff:Α Q7 ["columns"] (ο vX):=by walk_at"sc"
abbrev abi:List Str:=["columns","name","place","column"]
theorem FN:Α abi ["columns","name"] (ο Oz):=by walk_at"sc"
abbrev abt:List Str:=["row"]
theorem Yl:Α abt ["row"] (ο Jw):=by walk_at"sc"
abbrev aft:List Str:=["columns","row","values"]
theorem Ib:Α aft ["columns","row","values"] (ο Dq):=by walk_at"sc"
abbrev ZG:List Str:=["columns","word","sign","name"]
theorem M6:Α ZG ["columns","word"] (ο Ka):=by walk_at"sc"
abbrev z9:List Str:=["columns","text","words","order","names"]
theorem Mw:Α z9 ["columns","text"] (ο mQ):=by walk_at"sc"
abbrev aaA:List Str:=["told"]
theorem ac4:Α aaA ["told"] (ο Jo):=by walk_at"sc"
abbrev acC:List Str:=["value"]
theorem aaT:Α acC ["value"] (ο Pk):=by walk_at"sc"
def iM:Array ε:=wu ⟨145,4,146,38⟩ "sorted_by.<locals>.rank"
abbrev Gp:List Str:=["rows","place","up","rank"]
theorem LK:Α Gp ["rows","place","up"] (ο tK):=by walk_at"sc"
abbrev ab7:List Str:=["sieve","rows"]
theorem ac9:Α ab7 ["sieve","rows"] (ο yF):=by walk_at"sc"
abbrev Ii:List Str:=["columns","order","rows","line","name","up"]
theorem QX:Α Ii ["columns","order","rows"] (ο tR):=by walk_at"sc"
abbrev af8:List Str:=["size"]
theorem Tv:Α af8 ["size"] (ο Jc):=by walk_at"sc"
abbrev wX:List Str:=["words","place"]
theorem Ug:Α wX ["words","place"] (ο nM):=by walk_at"sc"
abbrev adJ:List Str:=["words","start","behind"]
theorem S7:Α adJ ["words","start","behind"] (ο Om):=by walk_at"sc"
abbrev WL:List Str:=["columns","words","place","column"]
theorem Ob:Α WL ["columns","words","place"] (ο QK):=by walk_at"sc"
abbrev afV:List Str:=["kind","words","place","word","value"]
theorem Jj:Α afV ["kind","words","place"] (ο Mu):=by walk_at"sc"
abbrev Yk:List Str:=["columns","words","start","column"]
theorem Kq:Α Yk ["columns","words","start"] (ο Hj):=by walk_at"sc"
abbrev acH:List Str:=["columns","words","start","word","column","kind","value","text"]
theorem Jm:Α acH ["columns","words","start"] (ο HS):=by walk_at"sc"
abbrev Um:List Str:=["columns","words","start","within","word","one","behind","other","text"]
theorem m9:Α Um ["columns","words","start","within"] (ο K5):=by walk_at"sc"
abbrev Zt:List Str:=["columns","words","start","within","word"]
theorem uc:Α Zt ["columns","words","start","within"] (ο Li):=by walk_at"sc"
abbrev adx:List Str:=["columns","text","words","sieve","behind"]
theorem Eg:Α adx ["columns","text"] (ο Pb):=by walk_at"sc"
abbrev aab:List Str:=["book","order","sieve","size","number","columns","ordered","through","line","ahead","rows"]
theorem O8:Α aab ["book","order","sieve","size","number"] (ο zO):=by walk_at"sc"
abbrev ae6:List Str:=["rows"]
theorem aa9:Α ae6 ["rows"] (ο Aj):=by walk_at"sc"
abbrev ahr:List Str:=["_law_script","_law_k","_law_many","_law_cell","_law_seed"]
theorem Im:Α ahr ["_law_script","_law_k","_law_many"] (ο Il):=by walk_at"sc"
abbrev Ft:List Str:=["_law_script","_law_base","_law_number"]
theorem M8:Α Ft ["_law_script","_law_base"] (ο vA):=by walk_at"sc"
abbrev xW:List Str:=["_law_script","_law_k","_law_way","_law_book","_law_table","_law_row","_law_values_here"]
theorem Qd:Α xW ["_law_script","_law_k","_law_way","_law_book","_law_table"] (ο nY):=by walk_at"sc"
abbrev ad4:List Str:=["_law_k"]
theorem ab1:Α ad4 ["_law_k"] (ο Pz):=by walk_at"sc"
abbrev afR:List Str:=["_law_order_here"]
theorem agh:Α afR ["_law_order_here"] (ο yI):=by walk_at"sc"
abbrev S6:List Str:=["_law_sieve"]
theorem V3:Α S6 ["_law_sieve"] (ο Ov):=by walk_at"sc"
abbrev aad:List Str:=["_law_sieve","_law_values_here"]
theorem ahN:Α aad ["_law_sieve","_law_values_here"] (ο Pr):=by walk_at"sc"
abbrev aaD:List Str:=["_law_order_here","_law_one","_law_other","_law_name","_law_up","_law_at","_law_first","_law_second","_law_before"]
theorem Js:Α aaD ["_law_order_here","_law_one","_law_other"] (ο Nu):=by walk_at"sc"
abbrev yV:List Str:=["_law_table","_law_order_here","_law_sieve","_law_line_here","_law_row","_law_one","_law_at"]
theorem Qv:Α yV ["_law_table","_law_order_here","_law_sieve"] (ο oE):=by walk_at"sc"
abbrev ag5:List Str:=["_law_leaf_here","_law_line_here","_law_first","_law_size","_law_moment","_law_at","_law_rows"]
theorem Gk:Α ag5 ["_law_leaf_here","_law_line_here","_law_first","_law_size","_law_moment"] (ο yP):=by walk_at"sc"
abbrev Fj:List Str:=["_law_lines","_law_told","_law_order_here","_law_names","_law_loss_here","_law_one","_law_key","_law_kept","_law_line_here","_law_same"]
theorem Ml:Α Fj ["_law_lines","_law_told","_law_order_here"] (ο iZ):=by walk_at"sc"
abbrev mK:List Str:=["_law_script","_law_book","_law_table","_law_many","_law_k","_law_order_here","_law_text","_law_sieve","_law_words","_law_size","_law_lines","_law_told","_law_deeds","_law_number","_law_line_here","_law_leaf_here","_law_i","_law_far"]
theorem sJ:Α mK ["_law_script"] (ο cA):=by walk_at"sc"
section
variable{P:ϯ}{w:ϭ}{K:Ϩ}{mg:Str->Option ε}{base:ϫ}{cc:Bool}{k:Nat}{sp:Sp}
theorem GK(T:Txt K mg){cc:Bool}:qG P w K mg base cc 1 "NoSieve" "at":=by
 refine Bf T.ug YD (by walk_at"b2") rfl (λf Ϲ A outer s H vs Q E hi hr h=>?_);obtain⟨e,n,rfl,hn,he,q⟩:=h;have hsz:=ϲ;refine ξ (aQ (by rfl) ?_);refine Dv (pl:=_) T.Dm.toXBase (by rfl) (by decide) (by rfl) (by rfl) (by rfl) ?_;walk_at"go";refine CP ?_;walk_at"e";refine⟨n,rfl,Vl.uV hn,_,70,rfl,Vl.Ak hn,by omega,?_⟩;walk_at"go";intro zz;refine gM (Aa hi he ?_);refine ω (zr T.ug.sa T.ug.xc T.ug.tk (by rfl) ?_);walk_at"e";walk_at"e";refine⟨e,rfl,he,λD hD gU=>q D _ gU hD (λb o hb r=>?_) υ ?_⟩
 .rw[ι hb,ι (Η r hD)];exact r
 .rw[ι gU,υ]
theorem Y5(T:Txt K mg){cc:Bool}:qG P w K mg base cc 1 "Absent" "row":=by
 refine Bf T.uB aeU (by walk_at"b2") rfl (λf Ϲ A outer s H vs Q E hi hr h=>?_);obtain⟨e,n,rfl,hn,he,q⟩:=h;have hsz:=ϲ;refine ξ (aQ (by rfl) ?_);refine Dv (pl:=_) T.Dm.toXBase (by rfl) (by decide) (by rfl) (by rfl) (by rfl) ?_;walk_at"go";refine CP ?_;walk_at"e";refine⟨n,rfl,Vl.uV hn,_,70,rfl,Vl.Ak hn,by omega,?_⟩;walk_at"go";intro zz;refine gM (Aa hi he ?_);refine ω (zr T.uB.sa T.uB.xc T.uB.tk (by rfl) ?_);walk_at"e";walk_at"e";refine⟨e,rfl,he,λD hD gU=>q D _ gU hD (λb o hb r=>?_) υ ?_⟩
 .rw[ι hb,ι (Η r hD)];exact r
 .rw[ι gU,υ]
theorem Vk(T:Txt K mg){cc:Bool}:qG P w K mg base cc 1 "Twice" "row":=by
 refine Bf T.t7 aa0 (by walk_at"b2") rfl (λf Ϲ A outer s H vs Q E hi hr h=>?_);obtain⟨e,n,rfl,hn,he,q⟩:=h;have hsz:=ϲ;refine ξ (aQ (by rfl) ?_);refine Dv (pl:=_) T.Dm.toXBase (by rfl) (by decide) (by rfl) (by rfl) (by rfl) ?_;walk_at"go";refine CP ?_;walk_at"e";refine⟨n,rfl,Vl.uV hn,_,70,rfl,Vl.Ak hn,by omega,?_⟩;walk_at"go";intro zz;refine gM (Aa hi he ?_);refine ω (zr T.t7.sa T.t7.xc T.t7.tk (by rfl) ?_);walk_at"e";walk_at"e";refine⟨e,rfl,he,λD hD gU=>q D _ gU hD (λb o hb r=>?_) υ ?_⟩
 .rw[ι hb,ι (Η r hD)];exact r
 .rw[ι gU,υ]
end
end K94
namespace K94
open PySem L2 PyProof.Rows My Vl Lw
section
variable{P:ϯ}{w:ϭ}{K:Ϩ}{mg:Str->Option ε}{base:ϫ}
theorem jX(T:Txt K mg):Def P w K mg base true 1 "_law_draw" ["_law_script","_law_k","_law_many"] (afN K):=by
 refine Υ T.jX Im (λ_ _ _ _ _ H vs Q E hr h=>?_);obtain⟨a,ns,k,m,rfl,hS,hl,hk0,hk1,hm,q⟩:=h;have n1:=T.cJ;have nd:=Im.nd;have bQ:(ns.map V.int).length=ns.length:=ϳ ..;refine ξ ?_;walk_at"go";rw[bQ];have fin:∀c:Int,c=t6 ns k->Q (.int ((c % 1000003+31*k*k+1)*48271 % 999983*7919 % 524287 % m)) H:=λc e=>by rw[e];exact q
 refine Ι (λh=>?_) (λh=>?_)
 .walk_at "go";rw[bQ];walk_at"go";refine ϣ hS (Qc 0 (amD _ (by omega)) (amS _ (by omega))) ?_;walk_at"go";exact fin _ (by unfold t6;rw[if_pos (by omega)])
 .walk_at "go";exact fin _ (by unfold t6;rw[if_neg (by omega)])
def ϑ(kd:Str)(v:V):Prop:=v=.non\/(kd="number"/\∃i,v=.int i/\ -1000000000000000000<=i/\i<=1000000000000000000)\/(¬kd="number"/\∃z,v=.str z/\z.length<=20/\∀c∈z.cps.toList,c∈SG)
theorem ϑ.sc{kd:Str}{v:V}(h:ϑ kd v):scalar v=true:=by
 obtain rfl|⟨_,i,rfl,_⟩|⟨_,z,rfl,_⟩:=h<;>rfl
theorem ϑ.gK{kd:Str}{v:V}(h:ϑ kd v):gK v=true/\∀z,v=.str z->fK 4000 z:=by
 obtain rfl|⟨_,i,rfl,_⟩|⟨_,z,rfl,hl,hz⟩:=h
 .exact⟨rfl,λz e=>by cases e⟩
 .exact⟨rfl,λz e=>by cases e⟩
 .exact⟨rfl,λy e=>by cases e;exact fK.sg (by omega) hz⟩
theorem rD{α β:Type}{R:α->β->Prop}:∀{l:List α}{m:List β},m.length=l.length->(∀(i:Nat) b,m[i]?=some b->∃a,l[i]?=some a/\R a b)->ψ R l m
 |[],[],_,_=>.nil
 |[],_::_,h,_=>by simp at h
 |_::_,[],h,_=>by simp at h
 |a::l,b::m,h,g=>by
  obtain⟨a',e,r⟩:=g 0 b rfl;have:a=a':=by simpa using e
  subst this;exact .cons r (rD (by simpa using h) λi x e=>by simpa using g (i+1) x (by simpa using e))
theorem K8:∀{cs:List χ}{z:Str}{m:Nat}{c:χ},m< Χ cs z->cs[m]?=some c->¬c.1=z
 |[],_,_,_,h,_=>by simp[Χ]at h
 |d::r,z,m,c,h,e=>by
  unfold Χ at h;split at h
  .omega
  .rename_i hd;cases m with
   |zero=>simp at e;subst e;exact hd
   |succ m=>exact K8 (cs:=r) (m:=m) (by omega) (by simpa using e)
theorem Iu{cs:List χ}{z:Str}(h:∃c∈cs,c.1=z):(cs.map Prod.fst)[Χ cs z]?=some z:=by
 obtain⟨c,e1,e2⟩:=Ax h;rw[aca,e1, <-e2];rfl
theorem DW{cs:List χ}{z:Str}{m:Nat}{y:Str}(h:m< Χ cs z)(e:(cs.map Prod.fst)[m]?=some y):¬y=z:=by
 rw[aca]at e;cases e2:cs[m]? with
 |none=>rw[e2]at e;cases e
 |some c=>
  rw[e2]at e;have e3:c.1=y:=by simpa using e
  rw[<-e3];exact K8 h e2
def VP(K:Ϩ)(mg:Str->Option ε):Sp:=λvs H Q E=>∃(a:δ)(ws:List Str)(p:Nat),vs=[.ref a,.int p]/\η K H a (ws.map V.str)/\ws.length<=4000/\p<=100000/\
 (¬(p<ws.length/\p<60)->∀e H',ζ H H'->H' e=some (.xd [("at",.int p)])->E (.ref (θ mg "NoSieve")) (some e,true) H')/\∀z,ws[p]?=some z->p<60->Q (.str z) H
theorem nO(T:Txt K mg):Def P w K mg base true 3 "word_at" ["words","place"] (VP K mg):=by
 refine Υ T.nO Ug (λf Ϲ A outer s H vs Q E hr h=>?_);obtain⟨a,ws,p,rfl,hS,hl,hp,bad,q⟩:=h;have n1:=T.cJ;have g1:=T.abI;have bQ:(ws.map V.str).length=ws.length:=ϳ ..;have rest:¬(p<ws.length/\p<60)->Ψ (ϥ true P w K mg base wX "word_at" (ο nM) f Ϲ A outer s H E) [oG (Oc (oG (ϗ nM) 0)) 0] {nx:=λσ' H'=>Ψ (ϥ true P w K mg base wX "word_at" (ο nM) f Ϲ A outer s H E) ((ϗ nM).drop 1) {nx:=λ_ H'=>Q .non H',rt:=Q} σ' H',rt:=Q} [some (.ref a),some (.int p)] H:=by
  intro hb;refine ω (uJ (GK T (cc:=true)) hr (by decide) (λ_=>rfl) Λ (by rfl) (by rfl) (by decide) (by rfl) (by rfl) ?_);walk_at"go";exact⟨p,rfl,by omega,λe H' sm he=>bad hb e H' sm he⟩
 refine ξ ?_;walk_at"go";rw[bQ];refine Ι (λh=>?_) (λh=>?_)
 .exact rest (by omega)
 .walk_at "go";refine Ι (λh2=>?_) (λh2=>?_)
  .exact rest (by omega)
  .walk_at "go";have hlt:p<ws.length:=by omega
   have hg:ws[p]?=some ws[p]:=aaf hlt;refine ϣ hS (aW (by rw[aca,hg];rfl)) ?_;exact q _ hg (by omega)
def bB(ws:List Str)(s b:Nat):Str:=Str.join " " ((ws.drop s).take (b-s))
def Wc(K:Ϩ):Sp:=λvs H Q _=>∃(a:δ)(ws:List Str)(s b:Nat),vs=[.ref a,.int s,.int b]/\η K H a (ws.map V.str)/\ws.length<=4000/\(∀z∈ws,z.length<=1000)/\s<=b/\b<=ws.length/\∀H',ζ H H'->Q (.str (bB ws s b)) H'
theorem Ej:∀{l:List Str},(∀z∈l,z.length<=1000)->(l.map (·.length)).sum<=l.length*1000
 |[],_=>by simp
 |z::l,h=>by
  have h1:=Ej (l:=l) λy hy=>h y (by simp[hy])
  have h2:=h z (by simp);simp only[List.map_cons,List.sum_cons,List.length_cons];omega
theorem jJ(T:Txt K mg):Def P w K mg base true 1 "text_between" ["words","start","behind"] (Wc K):=by
 refine Υ T.jJ S7 (λ_ _ _ _ _ H vs Q E hr h=>?_);obtain⟨a,ws,i,j,rfl,hS,hl,hz,hij,hj,q⟩:=h;have lb:(" ":Str).length=1:=by decide+kernel
 have hsz:=ϲ;refine ω (Κ ?_);walk_at"go";refine Bd hS λp hp=>?_
 have e:gW (ws.map V.str) (some (i:Int)) (some (j:Int))=((ws.drop i).take (j-i)).map V.str:=by
  unfold gW;have bQ:(ws.map V.str).length=ws.length:=ϳ ..;have e1:HT.Φ (ws.map V.str).length 0 (some (i:Int))=i:=by
   rw[bQ];unfold HT.Φ;split
   .rename_i h;cases h
   .rename_i h;cases h;rw[if_neg (by omega)];omega
  have e2:HT.Φ (ws.map V.str).length (ws.map V.str).length (some (j:Int))=j:=by
   rw[bQ];unfold HT.Φ;split
   .rename_i h;cases h
   .rename_i h;cases h;rw[if_neg (by omega)];omega
  rw[e1,e2, <-anv, <-anw]
 rw[e];obtain⟨sm,ep⟩:=aO hp (.lst (((ws.drop i).take (j-i)).map V.str));generalize upd H p (.lst (((ws.drop i).take (j-i)).map V.str))=H2 at sm ep⊢;walk_at"go";refine Gf (η.of ep) ?_ (q H2 sm);have h1:=Ej (l:=(ws.drop i).take (j-i)) λz h=>hz z (aiS (ajV h))
 have h2:((ws.drop i).take (j-i)).length<=4000:=by
  rw[agW,agL];omega
 rw[lb];omega
theorem aaO{cs:List χ}{z:Str}:∀{i:Nat}{c:χ}(j:Nat),cs[i]?=some c->(∀k c,k<i->cs[k]?=some c->¬c.1=z)->c.1=z->d9 cs z j=.int ((j+i:Nat):Int):=by
 induction cs with
 |nil=>intro i c j e;simp at e
 |cons d r ih=>
  intro i c j e h hz;unfold d9;cases i with
  |zero=>
   simp at e;subst e;rw[if_pos hz];rfl
  |succ i=>
   rw[if_neg (h 0 d (by omega) rfl)];rw[ih (j+1) (by simpa using e) (λk c hk e'=>h (k+1) c (by omega) (by simpa using e')) hz]
   congr 2
   omega
theorem JZ{cs:List χ}{z:Str}:∀(j:Nat),(∀c∈cs,¬c.1=z)->d9 cs z j=.non:=by
 induction cs with
 |nil=>intro j h;rfl
 |cons d r ih=>
  intro j h;unfold d9;rw[if_neg (h d (by simp)),ih (j+1) λc hc=>h c (by simp[hc])]
theorem ph(T:Txt K mg):Def P w K mg base true 1 "place_of" ["columns","name"] Ve:=by
 refine Υ T.ph FN (λ_ _ _ _ _ H vs Q E hr h=>?_);obtain⟨a,cs,z,rfl,⟨vs,ha,hvs⟩,q⟩:=h;have n1:=T.Ry;have nd:=FN.nd;refine ξ ?_;refine aex (by walk_at"po") (by rfl) (by rfl) n1 (by rfl) ?_;walk_at"go";refine⟨a,vs,rfl,ha,λi σ H'=>(∃o1 o2,σ=[some (.ref a),some (.str z),o1,o2])/\ζ H H'/\∀k c,k<i->cs[k]?=some c->¬c.1=z,⟨⟨none,none,rfl⟩,ζ.refl _,λk c hk=>by omega⟩,λi σ H' hi hP=>.inl (.inl (hP.2.1 _ _ ha)),λi x T' σ H' hx hP hT=>?_,λσ H' hP=>?_⟩
 .obtain⟨⟨o1,o2,rfl⟩,sm,hn⟩:=hP;obtain⟨c,hc,t,rfl,ht⟩:=hvs.get hx;have Ζ :=sm.trans (ζ.upd (o:=.tup [.int i,.ref t]) hT);have eT:(upd H' T' (.tup [.int i,.ref t])) T'=some (.tup [.int i,.ref t]):=υ;generalize upd H' T' (.tup [.int i,.ref t])=H2 at Ζ eT⊢;refine cG (by rfl) (by rfl) (by rfl) (Β.of eT) (by rfl) (ϛ (by rfl) (Ρ nd (by rfl) (.inl rfl) (.inl rfl) (ϛ (by rfl) (Ρ nd (by rfl) (.inl rfl) (.inl rfl) (cu ?_)))));refine ω ?_;walk_at"go";refine aU (Β.of (Ζ _ _ ht)) (show ϔ [V.str c.1,V.str c.2] 0=some (V.str c.1)from rfl) ?_;walk_at"go";refine Ι (λh=>?_) (λh=>?_)
  .have hz:c.1=z:=by injection h
   walk_at"go";have:=aaO 0 hc hn hz;rw[alQ]at this;rw[<-this];exact q H2 Ζ
  .have hz:¬c.1=z:=λe=>h (by rw[e])
   walk_at"go";refine⟨⟨_,_,rfl⟩,Ζ,λk d hk hd=>?_⟩;by_cases e:k=i
   .subst e;rw[hc]at hd;cases hd;exact hz
   .exact hn k d (by omega) hd
 .obtain⟨⟨o1,o2,rfl⟩,sm,hn⟩:=hP;refine ω ?_;walk_at"go";have:=JZ (cs:=cs) (z:=z) 0 λc hc=>by
   obtain⟨k,hk,e⟩:=alK hc;exact hn k c (by rw[hvs.len];exact hk) (by rw[<-e];exact aaf hk)
  rw[<-this];exact q H' sm
def di(cs:List χ)(ws:List Str)(p:Nat):Option Nat:=if p<60 then match ws[p]? with
 |none=>none
 |some z=>if cs.any (λc=>decide (c.1=z))=true then some (Χ cs z)else none
 else none
def WD(K:Ϩ)(mg:Str->Option ε):Sp:=λvs H Q E=>∃(b:δ)(cs:List χ)(a:δ)(ws:List Str)(p:Nat),vs=[.ref b,.ref a,.int p]/\aK H b cs/\η K H a (ws.map V.str)/\ws.length<=4000/\p<=100000/\
 (di cs ws p=none->∀e H',ζ H H'->H' e=some (.xd [("at",.int p)])->E (.ref (θ mg "NoSieve")) (some e,true) H')/\∀i H',ζ H H'->di cs ws p=some i->Q (.int (i:Nat)) H'
theorem uE(T:Txt K mg):Def P w K mg base true 4 "read_column" ["columns","words","place"] (WD K mg):=by
 refine Υ T.uE Ob (λ_ _ _ _ _ H vs Q E hr h=>?_);obtain⟨b,cs,a,ws,p,rfl,hC,hS,hl,hp,bad,q⟩:=h;have nd:=Ob.nd;have D1:= @ph P w K mg base T;have D2:= @nO P w K mg base T;refine ξ ?_;walk_at"go";refine⟨a,ws,p,rfl,hS,hl,hp,λhb e H' sm he=>bad ?_ e H' sm he,λz hz pR=>?_⟩
 .unfold di;by_cases pR:p<60
  .rw[if_pos pR,List.getElem?_eq_none (by omega)]
  .rw[if_neg pR]
 .walk_at "go";refine⟨b,cs,z,rfl,hC,λH2 sm=>?_⟩;by_cases ϻ:∃c∈cs,c.1=z
  .have e:di cs ws p=some (Χ cs z):=by
    unfold di;rw[if_pos pR,hz];exact if_pos (by rw[alG];obtain⟨c,hc,e⟩:=ϻ;exact⟨c,hc,decide_eq_true e⟩)
   rw[yg 0 ϻ,alQ];walk_at"go";exact q _ H2 sm e
  .have e:di cs ws p=none:=by
    unfold di;rw[if_pos pR,hz];exact if_neg (by rw[alG];rintro⟨c,hc,e⟩;exact ϻ ⟨c,hc,of_decide_eq_true e⟩)
   rw[JZ 0 λc hc e=>ϻ ⟨c,hc,e⟩];refine ξ ?_;walk_at"go";refine uJ (GK T (cc:=true)) hr (by decide) (λ_=>rfl) Λ (by rfl) (by rfl) (by decide) (by rfl) (by rfl) ?_;walk_at"go";exact⟨p,rfl,by omega,λe' H' sm' he=>bad e e' H' (sm.trans sm') he⟩
theorem uW(T:Txt K mg):Def P w K mg base true 1 "value_before" ["one","other"] UJ:=by
 refine Υ T.uW Zk (λ_ _ _ _ _ H vs Q E hr h=>?_);obtain⟨x,y,rfl,hs,q⟩:=h;refine ξ ?_;walk_at"go";refine Ι (λh=>?_) (λh=>?_)
 .subst h;walk_at"go";have e:before x .non=false:=by cases x<;>rfl
  rw[e]at q;exact q
 .walk_at "go";refine Ι (λh2=>?_) (λh2=>?_)
  .subst h2;walk_at"go";have e:before .non y=true:=by cases y<;>first|rfl|exact absurd rfl h
   rw[e]at q;exact q
  .obtain e|e|⟨i,j,rfl,rfl⟩|⟨i,j,rfl,rfl⟩:=hs
   .exact absurd e h2
   .exact absurd e h
   .walk_at "go";exact q
   .walk_at "go";exact q
def nQ(K:Ϩ):Sp:=λvs H Q _=>∃(a C dx:δ)(fs:List (Str×V))(z:Str),vs=[.ref a,.str z]/\H a=some (.ins C dx fs)/\ϒ K C/\ Θ K C "text"/\fs.length<900/\Q .non (upd H a (.ins C dx (ϕ "text" (.str z) fs)))
theorem oX{cc:Bool}:FD P w K mg base cc 1 "__init__" "Sieve.__init__" uD ["self","text"] (nQ K):=by
 refine aG Rj (λ_ _ _ _ _ H vs Q E hr h=>?_);obtain⟨a,C,dx,fs,z,rfl,ha,hc,hn,hl,q⟩:=h;refine ω (dB (by rfl) ?_);walk_at"e";walk_at"e";exact⟨a,C,dx,fs,rfl,ha,hc,hn,by omega,q⟩
def Q6(K:Ϩ):Sp:=λvs H Q _=>∃(a C dx:δ)(fs:List (Str×V))(z:Str)(p:V),vs=[.ref a,.str z,p]/\H a=some (.ins C dx fs)/\ϒ K C/\ Θ K C "text"/\ Θ K C "place"/\fs.length<800/\
 Q .non (upd (upd H a (.ins C dx (ϕ "text" (.str z) fs))) a (.ins C dx (ϕ "place" p (ϕ "text" (.str z) fs))))
theorem adW(T:Txt K mg){cc:Bool}:FD P w K mg base cc 2 "__init__" "NoneSieve.__init__" Cv ["self","text","place"] (Q6 K):=by
 refine aG Xk (λ_ _ _ _ _ H vs Q E hr h=>?_);obtain⟨a,C,dx,fs,z,p,rfl,ha,hc,hn,hn2,hl,q⟩:=h;have B:mV P w K mg base cc 1 "Sieve" "__init__" ["self","text"] (nQ K):=oX.asked T.uZ T.rW;have hz:=jx "text" (V.str z) fs;refine ξ (aQ (by rfl) ?_);refine uG (pl:=_) B hr (by decide) id Λ (by rfl) (by decide) (by rfl) (by rfl) (by rfl) ?_;walk_at"go";refine⟨a,C,dx,fs,z,rfl,ha,hc,hn,by omega,?_⟩;refine ω (dB (by rfl) ?_);walk_at"e";walk_at"e";exact⟨a,C,dx,_,rfl,υ,hc,hn2,by omega,q⟩
def rF(K:Ϩ):Sp:=λvs H Q _=>∃(a C dx:δ)(fs:List (Str×V))(z:Str)(p v:V),vs=[.ref a,.str z,p,v]/\H a=some (.ins C dx fs)/\ϒ K C/\ Θ K C "text"/\ Θ K C "place"/\ Θ K C "value"/\fs.length<800/\
 ∀H',H' a=some (.ins C dx (ϕ "value" v (ϕ "place" p (ϕ "text" (.str z) fs))))->(∀b o,b≠a->H b=some o->H' b=some o)->Q .non H'
theorem uh(T:Txt K mg){cc:Bool}:FD P w K mg base cc 2 "__init__" "ValueSieve.__init__" my ["self","text","place","value"] (rF K):=by
 refine aG afi (λ_ _ _ _ _ H vs Q E hr h=>?_);obtain⟨a,C,dx,fs,z,p,v,rfl,ha,hc,hn,hn2,wY,hl,q⟩:=h;have B:mV P w K mg base cc 1 "Sieve" "__init__" ["self","text"] (nQ K):=oX.asked T.uZ T.rW;have hz:=jx "text" (V.str z) fs;have hz2:=jx "place" p (ϕ "text" (V.str z) fs);refine ξ (aQ (by rfl) ?_);refine uG (pl:=_) B hr (by decide) id Λ (by rfl) (by decide) (by rfl) (by rfl) (by rfl) ?_;walk_at"go";refine⟨a,C,dx,fs,z,rfl,ha,hc,hn,by omega,?_⟩;refine ξ (dB (by rfl) ?_);walk_at"e";walk_at"e";refine⟨a,C,dx,_,rfl,υ,hc,hn2,by omega,?_⟩;refine ω (dB (by rfl) ?_);walk_at"e";walk_at"e";refine⟨a,C,dx,_,rfl,υ,hc,wY,by omega,q _ υ λb o hb e=>?_⟩;rw[ι hb,ι hb,ι hb];exact e
inductive Lk|is|under|over|holds
def vU:Lk->V->V->Bool
 |.is,x,v=>decide (x=v)
 |.under,x,v=>before x v
 |.over,x,v=>before v x
 |.holds,.str x,.str v=> !(Builtin.Str.occurrences x v 0 x.length 1).isEmpty
 |.holds,_,_=>false
abbrev F3(z:Str)(p:Nat)(v:V):List (Str×V):=[("text",.str z),("place",.int p),("value",v)]
def zf:Lk->V->V->Prop
 |.holds,x,v=>∃y z,x=.str y/\v=.str z
 |_,x,v=>scalar x=true/\scalar v=true/\aq x v
def qR(l:Lk)(C:δ):Sp:=λvs H Q _=>∃(a dx:δ)(z:Str)(p:Nat)(x v:V),vs=[.ref a,x]/\H a=some (.ins C dx (F3 z p v))/\zf l x v/\Q (.bl (vU l x v)) H
theorem RJ{cc:Bool}{C:δ}(c:ϒ K C)(n:Θ K C "value"):FD P w K mg base cc 2 "fits" "ValueSieve.fits" wM ["self","value"] (qR .is C):=by
 refine aG Y4 (λ_ _ _ _ _ H vs Q E hr h=>?_);obtain⟨a,dx,z,p,x,v,rfl,ha,⟨sx,sv,hl⟩,q⟩:=h;refine ω (Κ ?_);walk_at"e";walk_at"e";refine aA (by rfl) ?_;walk_at"e";refine⟨a,C,dx,_,v,rfl,ha,c,n,rfl,?_⟩;refine zB (wB sx sv) ?_;exact q
theorem Th{x y:V}(h:aq x y):aq y x:=by
 obtain h|h|⟨i,j,a,b⟩|⟨i,j,a,b⟩:=h
 .exact .inr (.inl h)
 .exact .inl h
 .exact .inr (.inr (.inl ⟨j,i,b,a⟩))
 .exact .inr (.inr (.inr ⟨j,i,b,a⟩))
theorem Uj(T:Txt K mg){C:δ}(c:ϒ K C)(n:Θ K C "value"):FD P w K mg base true 2 "fits" "UnderSieve.fits" Dg ["self","value"] (qR .under C):=by
 refine aG Tt (λ_ _ _ _ _ H vs Q E hr h=>?_);obtain⟨a,dx,z,p,x,v,rfl,ha,⟨sx,sv,hl⟩,q⟩:=h;have D1:= @uW P w K mg base T;refine ω (Κ ?_);walk_at"go";refine aA (by rfl) ?_;walk_at"e";refine⟨a,C,dx,_,v,rfl,ha,c,n,rfl,?_⟩;walk_at"go";exact⟨x,v,rfl,hl,q⟩
theorem afH(T:Txt K mg){C:δ}(c:ϒ K C)(n:Θ K C "value"):FD P w K mg base true 2 "fits" "OverSieve.fits" Br ["self","value"] (qR .over C):=by
 refine aG W6 (λ_ _ _ _ _ H vs Q E hr h=>?_);obtain⟨a,dx,z,p,x,v,rfl,ha,⟨sx,sv,hl⟩,q⟩:=h;have D1:= @uW P w K mg base T;refine ω (Κ ?_);walk_at"go";refine aA (by rfl) ?_;walk_at"e";refine⟨a,C,dx,_,v,rfl,ha,c,n,rfl,?_⟩;walk_at"go";exact⟨v,x,rfl,Th hl,q⟩
theorem aaa{cc:Bool}{C:δ}(c:ϒ K C)(n:Θ K C "value"):FD P w K mg base cc 2 "fits" "HoldsSieve.fits" zK ["self","value"] (qR .holds C):=by
 refine aG adi (λ_ _ _ _ _ H vs Q E hr h=>?_);obtain⟨a,dx,z,p,x,v,rfl,ha,⟨y,u,rfl,rfl⟩,q⟩:=h;refine ω (Κ ?_);walk_at"e";refine aA (by rfl) ?_;walk_at"e";refine⟨a,C,dx,_,_,rfl,ha,c,n,rfl,?_⟩;walk_at"go";exact q
def Jr(K:Ϩ)(l:Lk)(C:δ):Sp:=λvs H Q _=>∃(a dx:δ)(z:Str)(p:Nat)(v:V)(b:δ)(xs:List V)(x:V),vs=[.ref a,.ref b]/\H a=some (.ins C dx (F3 z p v))/\η K H b xs/\xs[p]?=some x/\(x=.non\/zf l x v)/\Q (.bl (!decide (x=.non)&&vU l x v)) H
theorem sE{l:Lk}{C:δ}(M:Ϣ P w K mg base true 2 C "fits" ["self","value"] (qR l C))(n:Θ K C "place"):FD P w K mg base true 3 "lets" "ValueSieve.lets" mW ["self","values"] (Jr K l C):=by
 refine aG Fb (λ_ _ _ _ _ H vs Q E hr h=>?_);obtain⟨a,dx,z,p,v,b,xs,x,rfl,ha,hb,hx,hl,q⟩:=h;have nd:=Fb.nd;refine ξ ?_;walk_at"go";refine aA (by rfl) ?_;walk_at"e";refine⟨a,C,dx,_,_,rfl,ha,M.cls,n,rfl,?_⟩;refine ϣ hb (aW hx) ?_;walk_at"go";refine iD (λh=>?_) (λh=>?_)
 .have hx':¬x=.non:=by simpa using h
  refine bO (pl:=_) hr Λ (h:=?_);walk_at"e";refine⟨a,C,dx,_,_,_,_,_,rfl,ha,rfl,M,by decide,λ_=>rfl,?_⟩;walk_at"go";refine⟨a,dx,z,p,x,v,rfl,ha,hl.resolve_left hx',?_⟩;rw[h,alA]at q;exact q
 .rw[h]at q;exact q
theorem qK(T:Txt K mg):Def P w K mg base true 1 "made_of" ["text","signs"] Sg:=by
 refine Υ T.qK Up (λ_ _ _ _ _ H vs Q E hr h=>?_);obtain⟨z,g,rfl,hz,q⟩:=h;have n1:=T.JP;refine ω (Κ ?_);walk_at"e";walk_at"e";refine abT ["sign","signs"] (σ':=[none,some (.str g)]) (by rfl) (by rfl) (b8 (ο zJ) (by rfl) (by rfl) (by decide+kernel)) (by decide+kernel) (by rfl) (by rfl) (by intro _;rfl) ?_;walk_at"e";refine⟨z,rfl,?_,λi v=>∃c,z.cps.toList[i]?=some c/\v=.bl (decide (c∈g.cps.toList)),λfp E' C s3 H0 i c H2 hc sm=>?_,λE' H2 xs hE hl hx e2 sm=>?_⟩
 .have :z.cps.size=z.length:=rfl;have h2:Ϫ=16777216:=ϲ;omega
 .walk_at "go";exact⟨⟨c,hc,by rw[StrLaws.found_one]⟩,ζ.refl _⟩
 .have ex:=jb (ys:=z.cps.toList) (λc=>V.bl (decide (c∈g.cps.toList))) (by rw[hl];simp) hx;have WT:xs=(z.cps.toList.map λc=>decide (c∈g.cps.toList)).map V.bl:=by rw[ex,ahl];rfl
  subst WT;walk_at"go";refine GF (by rfl) (η.of e2) ?_;have e3:(z.cps.toList.map λc=>decide (c∈g.cps.toList)).all id=dC z g:=by rw[amZ];rfl
  rw[e3];exact q _ sm
theorem u6(T:Txt K mg):Def P w K mg base true 2 "is_text_value" ["value"] af0:=by
 refine Υ T.u6 XS (λ_ _ _ _ _ H vs Q E hr h=>?_);obtain⟨v,rfl,hs,hz,q⟩:=h;have g1:=T.Zi;have g2:=T.afj;have n1:=T.Oi;have n2:=T.Qu;have n3:=T.cJ;have D1:= @qK P w K mg base T;have hsz:=ϲ;refine ω (Κ ?_);cases v with
 |int i=>
  walk_at"go";exact q H (ζ.refl _)
 |non=>
  walk_at"go";exact q H (ζ.refl _)
 |str z=>
  have hz':z.length<=4000:=hz;walk_at"go";refine Ι (λh=>?_) (λh=>?_)
  .walk_at "go";refine⟨z,_,rfl,hz',λH' sm=>?_⟩;have e:fV (.str z)=dC z pq:=by
    have h':z.length<=20:=by omega
    unfold fV;simp[h']
   rw[e]at q;exact q H' sm
  .have e:fV (.str z)=false:=by
    have h':¬z.length<=20:=by omega
    unfold fV;simp[h']
   rw[e]at q;exact q H (ζ.refl _)
 |_=>cases hs
theorem Bq(T:Txt K mg):Def P w K mg base true 2 "are_figures" ["word"] Wb:=by
 refine Υ T.Bq Uq (λ_ _ _ _ _ H vs Q E hr h=>?_);obtain⟨z,rfl,hz,q⟩:=h;have g1:=T.Yc;have D1:= @qK P w K mg base T;have hsz:=ϲ;have e0:("0":Str).cps.toList=[48]:=by decide+kernel
 have e1:("":Str).cps.toList=[]:=by decide+kernel
 unfold cD at q;refine ω (Κ ?_);walk_at"go";refine Ι (λh=>?_) (λh=>?_)
 .have h':z.cps.toList=[48]:=by cases h;exact e0
  rw[h']at q;exact q H (ζ.refl _)
 .have h':¬z.cps.toList=[48]:=λh2=>h (by rw[iw (h2.trans e0.symm)])
  rw[decide_eq_false h',amr]at q;walk_at"go";refine jo (λh2=>?_) (λh2=>?_)
  .have h2':z.cps.toList≠[]:=λh3=>h2 (by rw[iw (h3.trans e1.symm)])
   rw[decide_eq_true h2',alA]at q;obtain⟨c,r,hc⟩:=List.exists_cons_of_ne_nil h2';have hc0:z.cps.toList[0]?=some c:=by rw[hc];rfl
   walk_at"go";refine agX (by omega) (aW (j:=0) hc0) ?_;walk_at"go";rw[hc0]at q;refine jo (λh3=>?_) (λh3=>?_)
   .have h3':some c≠some 48:=λh4=>h3 (by cases h4;exact congrArg V.str (iw e0.symm))
    rw[decide_eq_true h3',alA]at q;walk_at"go";refine⟨z,_,rfl,hz,λH' sm=>?_⟩;rw[SM];exact q H' sm
   .have h3':¬(some c≠some 48):=λh4=>h4 (by
     have:=congrArg (λv:V=>match v with|.str x=>x.cps.toList|_=>[]) h3;have h5:[c]=("0":Str).cps.toList:=this;rw[e0]at h5;cases h5;rfl)
    rw[decide_eq_false h3',akW]at q;exact q H (ζ.refl _)
  .have h2':¬z.cps.toList≠[]:=λh3=>h3 (by cases h2;exact e1)
   rw[decide_eq_false h2',akW]at q;exact q H (ζ.refl _)
theorem wN(T:Txt K mg):Def P w K mg base true 3 "read_figures" ["word","most"] Yb:=by
 refine Υ T.wN Jv (λf Ϲ A outer s H vs Q E hr h=>?_);obtain⟨z,m,k,rfl,hz,m0,m1,hk,hmk,k1,k2,q⟩:=h;have n1:=T.cJ;have n2:=T.Qu;have n3:=T.M4;have nd:=Jv.nd;have D1:= @Bq P w K mg base T;have hsz:=ϲ;have hl:=L2.len_list z;have out:∀(H1:Hp)(o:Option V),ζ H H1->gO z.cps.toList m=none->Ψ (ϥ true P w K mg base Mp "read_figures" (ο ur) f Ϲ A outer s H E) ((ϗ ur).drop 1) {nx:=λ_ H'=>Q .non H',rt:=Q} [some (.str z),some (.int m),o] H1:=by
  intro H1 o sm e;have q1:=q H1 sm;rw[e]at q1;refine ω ?_;walk_at"go";exact q1
 refine ξ ?_;walk_at"go";refine⟨z,rfl,hz,λH1 Ν =>?_⟩;walk_at"go";refine iD (λh1=>?_) (λh1=>?_)
 .walk_at "go";refine ae5 (uV m1) ?_;walk_at"go";rw[hk];refine Ι (λh2=>?_) (λh2=>?_)
  .walk_at "go";obtain⟨hd,Ϻ⟩:=FZ h1;refine aaY (intText_digits hd Ϻ (by omega)) (by omega) ?_;walk_at"go";refine Ι (λh3=>?_) (λh3=>?_)
   .have q1:=q H1 Ν;have e:gO z.cps.toList m=some _:=if_pos ⟨h1,h3⟩;rw[e]at q1;walk_at"go";exact q1
   .exact Δ (out H1 _ Ν (if_neg λx=>h3 x.2))
  .refine Δ (out H1 _ Ν (if_neg λx=>h2 ?_));have:=w6 x.1 x.2 hmk k1;omega
 .exact Δ (out H1 _ Ν (if_neg λx=>by rw[h1]at x;exact aah x.1))
theorem zR(T:Txt K mg):Def P w K mg base true 4 "read_number_word" ["word"] (YW (.ref (θ mg "NoValue"))):=by
 refine Υ T.zR J4 (λf Ϲ A outer s H vs Q E hr h=>?_);obtain⟨z,rfl,hz,q⟩:=h;have g1:=T.ahJ;have g2:=T.Qm;have nd:=J4.nd;have D1:= @wN P w K mg base T;have hsz:=ϲ;have lm:(Str.ofString (toString (1000000000000000000:Int))).length=19:=by decide+kernel
 have rz:fH z.cps.toList=none->∀H1,ζ H H1->∀o1 o2 D,SX (ϥ true P w K mg base Pu "read_number_word" (ο ue) f Ϲ A outer s H E) (oG (Oc (oG (ϗ ue) 2)) 0) D [some (.str z),o1,o2] H1:=by
  intro hn H1 sm o1 o2 D;refine eZ Λ (by rfl) T.Px (by rfl) (by decide) (by rfl) (by rfl) ?_;walk_at"go";refine lW ?_;walk_at"e";refine⟨z,rfl,by omega,_,4000,rfl,hz,by omega,?_⟩;walk_at"go";intro zz;walk_at"go";have q1:=q H1 sm;rw[hn]at q1;exact⟨by rw[hsz];simp,q1⟩
 refine ξ ?_;walk_at"go";refine Ew ?_;rw[show Txt.startswith z "-"=decide (z.cps.toList[0]?=some 45)from M9 z 45];walk_at"go";refine Ι (λh0=>?_) (λh0=>?_)
 .rw[decide_eq_true h0];walk_at"go";refine pO (by omega) ?_;walk_at"go";have hcl:=xF z (some 1) none;refine⟨_,_,19,rfl,by omega,by decide,by decide,lm,by decide,by decide,by decide,λH1 Ν =>?_⟩;rw[show(ϐ z (some 1) none).cps.toList=z.cps.toList.drop 1 from yo z 1];have er:=aeu h0;cases e:gO (z.cps.toList.drop 1) 1000000000000000000 with
  |none=>
   rw[e]at er;simp only[pF];walk_at"go";exact rz er H1 Ν _ _ _
  |some i=>
   rw[e]at er;dsimp only at er;simp only[pF];walk_at"go";refine Ι (λh1=>?_) (λh1=>?_)
   .have h2:i=0:=by injection h1
    rw[if_pos h2]at er;exact ω (rz er H1 Ν _ _ _)
   .have h2:¬i=0:=λe=>h1 (by rw[e])
    rw[if_neg h2]at er;have q1:=q H1 Ν;rw[er]at q1;refine Δ ?_;walk_at"go";exact q1
 .rw[decide_eq_false h0];walk_at"go";refine⟨_,_,19,rfl,by omega,by decide,by decide,lm,by decide,by decide,by decide,λH1 Ν =>?_⟩;have er:=QC h0;cases e:gO z.cps.toList 1000000000000000000 with
  |none=>
   rw[e]at er;simp only[pF];walk_at"go";exact rz er H1 Ν _ _ _
  |some i=>
   rw[e]at er;simp only[pF];have q1:=q H1 Ν;rw[er]at q1;walk_at"go";exact q1
theorem CQ(T:Txt K mg):Def P w K mg base true 3 "read_text_word" ["word"] (aeW (.ref (θ mg "NoValue"))):=by
 refine Υ T.CQ O3 (λf Ϲ A outer s H vs Q E hr h=>?_);obtain⟨z,rfl,hz,q⟩:=h;have g1:=T.ahR;have nd:=O3.nd;have D1:= @u6 P w K mg base T;have hsz:=ϲ;have e1:Str.ofString "'"=⟨#[39]⟩:=by decide+kernel
 have lc:=xF z (some 1) none;have rz:iI z=none->∀H1,ζ H H1->Ψ (ϥ true P w K mg base NZ "read_text_word" (ο ud) f Ϲ A outer s H E) ((ϗ ud).drop 1) {nx:=λ_ H'=>Q .non H',rt:=Q} [some (.str z)] H1:=by
  intro hn H1 sm;refine ω (eZ Λ (by rfl) T.Px (by rfl) (by decide) (by rfl) (by rfl) ?_);walk_at"go";refine lW ?_;walk_at"e";refine⟨z,rfl,by omega,_,4000,rfl,hz,by omega,?_⟩;walk_at"go";intro zz;walk_at"go";have q1:=q H1 sm;rw[hn]at q1;exact⟨by rw[hsz];simp,q1⟩
 refine ξ ?_;walk_at"go";refine Ew ?_;walk_at"go";rw[e1,M9];refine Ι (λh1=>?_) (λh1=>?_)
 .walk_at "go";refine pO (by omega) ?_;walk_at"go";refine⟨_,rfl,rfl,(show(ϐ z (some 1) none).length<=4000 by omega),λH1 Ν =>?_⟩;walk_at"go";refine iD (λh2=>?_) (λh2=>?_)
  .walk_at "go";refine pO (by omega) ?_;have q1:=q H1 Ν;have er:iI z=some (ϐ z (some 1) none):=by
    unfold iI;rw[if_pos ⟨h1,h2⟩]
   rw[er]at q1;exact q1
  .refine Δ (rz ?_ H1 Ν);unfold iI;rw[if_neg λh4=>by rw[h2]at h4;exact aah h4.2]
 .refine Δ (rz ?_ H (ζ.refl _));unfold iI;rw[if_neg λh4=>h1 h4.1]
theorem yH(T:Txt K mg):Def P w K mg base true 5 "read_value" ["kind","word"] (af9 (.ref (θ mg "NoValue"))):=by
 refine Υ T.yH UL (λ_ _ _ _ _ H vs Q E hr h=>?_);obtain⟨k,z,rfl,hz,q⟩:=h;have g1:=T.af2;have g2:=T.xV;have D1:= @zR P w K mg base T;have D2:= @CQ P w K mg base T;refine ξ ?_;walk_at"go";refine Ι (λh1=>?_) (λh1=>?_)
 .have h2:z="?":=by cases h1;rfl
  have q1:=q H (ζ.refl _);have er:cR k z=some .non:=by unfold cR;rw[if_pos h2]
  rw[er]at q1;walk_at"go";exact q1
 .have h2:¬z="?":=λe=>h1 (by rw[e])
  have er:cR k z=if k="number" then vz (fH z.cps.toList)else Ab (iI z):=by unfold cR;rw[if_neg h2]
  rw[er]at q;walk_at"go";refine Ι (λh3=>?_) (λh3=>?_)
  .have h4:k="number":=by cases h3;rfl
   rw[if_pos h4]at q;walk_at"go";exact⟨z,rfl,hz,q⟩
  .have h4:¬k="number":=λe=>h3 (by rw[e])
   rw[if_neg h4]at q;walk_at"go";exact⟨z,rfl,hz,q⟩
def XX(K:Ϩ):Sp:=λvs H Q _=>∃(kd:Str)(a:δ)(ws:List Str)(p:Nat)(z:Str)(v:V),vs=[.str kd,.ref a,.int p]/\η K H a (ws.map V.str)/\ws.length<=4000/\ws[p]?=some z/\p<60/\z.length<=4000/\cR kd z=some v/\¬v=.non/\∀H',ζ H H'->Q v H'
theorem wy(T:Txt K mg):Def P w K mg base true 6 "read_word" ["kind","words","place"] (XX K):=by
 refine Υ T.wy Jj (λ_ _ _ _ _ H vs Q E hr h=>?_);obtain⟨kd,a,ws,p,z,v,rfl,hS,hl,hz,hp,za,hv,Ϻ,q⟩:=h;have nd:=Jj.nd;have D1:= @nO P w K mg base T;have D2:= @yH P w K mg base T;have hlt:=(aal.mp hz).1;refine ξ ?_;walk_at"go";refine⟨a,ws,p,rfl,hS,hl,by omega,λhb=>absurd ⟨hlt,hp⟩ hb,λz' hz' _=>?_⟩;rw[hz]at hz';cases hz';refine ξ ?_;refine ahc (λ_ _ _ _=>False) rfl rfl (λF pn xo po=>?_) (λσ c d H' hK=>hK.elim);refine ω ?_;walk_at"go";refine⟨kd,z,rfl,za,λH' sm=>?_⟩;rw[hv];refine Δ ?_;refine ξ ?_;walk_at"go";rw[decide_eq_false Ϻ];walk_at"go";exact q H' sm
inductive b7|all|none (p:Nat)|look (l:Lk) (p:Nat) (v:V)
def vM(mg:Str->Option ε):Lk->δ
 |.is=>θ mg "IsSieve"
 |.under=>θ mg "UnderSieve"
 |.over=>θ mg "OverSieve"
 |.holds=>θ mg "HoldsSieve"
def mq(mg:Str->Option ε)(H:Hp)(a:δ):b7->Str->Prop
 |.all,z=>∃dx,H a=some (.ins (θ mg "AllSieve") dx [("text",.str z)])
 |.none p,z=>∃dx,H a=some (.ins (θ mg "NoneSieve") dx [("text",.str z),("place",.int p)])
 |.look l p v,z=>∃dx,H a=some (.ins (vM mg l) dx (F3 z p v))
theorem mq.same{mg:Str->Option ε}{H H':Hp}{a:δ}{s:b7}{z:Str}(h:mq mg H a s z)(e:ζ H H'):mq mg H' a s z:=by
 cases s<;>obtain⟨dx,h⟩:=h<;>exact⟨dx,e _ _ h⟩
def xm(mg:Str->Option ε)(H:Hp)(p:δ)(s:b7)(z:Str)(n:Nat):=∃t,H p=some (.tup [.ref t,.int n])/\mq mg H t s z
def Yg(K:Ϩ)(mg:Str->Option ε):Sp:=λvs H Q _=>∃(b:δ)(cs:List χ)(a:δ)(ws:List Str)(s i:Nat),vs=[.ref b,.ref a,.int s]/\aK H b cs/\η K H a (ws.map V.str)/\ws.length<=4000/\(∀z∈ws,z.length<=1000)/\s+2<=ws.length/\di cs ws (s+1)=some i/\
 ∀p H',ζ H H'->xm mg H' p (.none i) (bB ws s (s+2)) (s+2)->Q (.ref p) H'
theorem xJ(T:Txt K mg):Def P w K mg base true 5 "read_none" ["columns","words","start"] (Yg K mg):=by
 refine Υ T.xJ Kq (λ_ _ _ _ _ H vs Q E hr h=>?_);obtain⟨b,cs,a,ws,s0,i,rfl,hC,hS,hl,hz,hs2,hi,q⟩:=h;have nd:=Kq.nd;have hsz:=ϲ;have D1:= @uE P w K mg base T;have D2:= @jJ P w K mg base T;have M:fQ P w K mg base true 2 "NoneSieve" (θ mg "NoneSieve") ["self","text","place"] (Q6 K):=(adW T).make T.aaW T.Xf;refine ξ ?_;walk_at"go";refine⟨b,cs,a,ws,s0+1,by simp,hC,hS,hl,by omega,λe=>(by rw[hi]at e;cases e),λi' H2 Ζ e=>?_⟩;rw[hi]at e;cases e;walk_at"go";refine gb M hr (by decide) (λ_=>rfl) Λ (by rfl) (by decide) (by rfl) (by rfl) ?_;walk_at"go";refine⟨a,ws,s0,s0+2,by simp,Ζ.seq hS,hl,hz,by omega,hs2,λH3 sm3=>?_⟩;walk_at"go";intro y dx hy hdx Ϻ;refine⟨y,_,dx,[],bB ws s0 (s0+2),_,rfl,υ,T.CG,T.Ws,T.Hk,by simp,rfl,?_⟩;walk_at"go";refine⟨by show 2<=Ϫ;omega,λp hp=>?_⟩;generalize hG:upd (upd (upd (upd H3 dx (.own y)) y (.ins (θ mg "NoneSieve") dx [])) y _) y _=G at hp⊢;have bL:ζ H3 G:=λc o e=>by
  rw[<-hG,ι (Η e hy),ι (Η e hy),ι (Η e hy),ι (Η e hdx)];exact e
 have ey:G y=some (.ins (θ mg "NoneSieve") dx [("text",.str (bB ws s0 (s0+2))),("place",.int i)]):=by
  rw[<-hG];exact υ
 have ak:ζ G (upd G p (.tup [.ref y,.int (s0+2)])):=ζ.upd hp;exact q p _ (((Ζ.trans sm3).trans bL).trans ak) ⟨y,υ,dx,ak _ _ ey⟩
def kJ:Lk->Str
 |.is=>"is"
 |.under=>"under"
 |.over=>"over"
 |.holds=>"holds"
def RC(K:Ϩ)(mg:Str->Option ε):Sp:=λvs H Q _=>∃(l:Lk)(b:δ)(cs:List χ)(a:δ)(ws:List Str)(s i:Nat)(c:χ)(z:Str)(v:V),vs=[.ref b,.ref a,.int s]/\aK H b cs/\η K H a (ws.map V.str)/\ws.length<=4000/\(∀z∈ws,z.length<=1000)/\s+3<=ws.length/\s+2<60/\
 ws[s]?=some (kJ l)/\di cs ws (s+1)=some i/\cs[i]?=some c/\(l=.holds->c.2="text")/\ws[s+2]?=some z/\cR c.2 z=some v/\¬v=.non/\
 ∀p H',ζ H H'->xm mg H' p (.look l i v) (bB ws s (s+3)) (s+3)->Q (.ref p) H'
theorem yL(T:Txt K mg):Def P w K mg base true 7 "read_of_value" ["columns","words","start"] (RC K mg):=by
 refine Υ T.yL Jm (λ_ _ _ _ _ H vs Q E hr h=>?_);obtain⟨l,b,cs,a,ws,s0,i,c,z,v,rfl,hC,hS,hl,hz,hs3,fB,hw,hi,hc,hh,jF,hv,Ϻ,q⟩:=h;have nd:=Jm.nd;have hsz:=ϲ;have g1:=T.yr;have g2:=T.GJ;have g3:=T.Cw;have g4:=T.zU;have g5:=T.xf;have D1:= @uE P w K mg base T;have D2:= @jJ P w K mg base T;have D3:= @wy P w K mg base T;refine ξ ?_;walk_at"go";refine ϣ hS (aW (by rw[aca,hw];rfl)) ?_;walk_at"go";refine⟨b,cs,a,ws,s0+1,by simp,hC,hS,hl,by omega,λe=>(by rw[hi]at e;cases e),λi' H2 Ζ e=>?_⟩;rw[hi]at e;cases e;obtain⟨vs,hb,hvs⟩:=hC.same Ζ;obtain⟨cv,gc,t,rfl,ht⟩:=hvs.get' hc;refine ξ ?_;walk_at"go";refine ϣ (η.of hb) (aW gc) ?_;walk_at"go";refine aU (Β.of ht) (show ϔ [V.str c.1,V.str c.2] 1=some (V.str c.2)from rfl) ?_;cases l with
 |is=>
  have M:fQ P w K mg base true 2 "IsSieve" (θ mg "IsSieve") ["self","text","place","value"] (rF K):=(uh T).make T.ZS T.afp;refine ξ ?_;walk_at"go";refine dF ?_;refine Δ ?_;refine ξ ?_;walk_at"go";refine⟨c.2,a,ws,s0+2,z,v,by simp,Ζ.seq hS,hl,jF,fB,by have:=hz z (aaZ jF);omega,hv,Ϻ,λH3 sm3=>?_⟩;walk_at"go";refine⟨a,ws,s0,s0+3,by simp,(Ζ.trans sm3).seq hS,hl,hz,by omega,hs3,λH4 Τ =>?_⟩;refine ξ ?_;walk_at"go";refine jm ?_;walk_at"go";refine gb M hr (by decide) (λ_=>rfl) Λ (by rfl) (by decide) (by rfl) (by rfl) ?_;walk_at"go";intro y dx hy hdx hne';refine⟨y,_,dx,[],bB ws s0 (s0+3),_,v,rfl,υ,T.uK,T.W2,T.KR,T.HJ,by simp,λG eG hG=>⟨rfl,?_⟩⟩;walk_at"go";refine⟨by show 2<=Ϫ;omega,λp hp=>?_⟩;have bL:ζ H4 G:=λc o e=>hG c o (Η e hy) (by rw[ι (Η e hy),ι (Η e hdx)];exact e)
  have ak:ζ G (upd G p (.tup [.ref y,.int (s0+3)])):=ζ.upd hp;exact q p _ ((((Ζ.trans sm3).trans Τ).trans bL).trans ak) ⟨y,υ,dx,ak _ _ eG⟩
 |under=>
  have M:fQ P w K mg base true 2 "UnderSieve" (θ mg "UnderSieve") ["self","text","place","value"] (rF K):=(uh T).make T.ZC T.Yr;refine ξ ?_;walk_at"go";refine dF ?_;refine Δ ?_;refine ξ ?_;walk_at"go";refine⟨c.2,a,ws,s0+2,z,v,by simp,Ζ.seq hS,hl,jF,fB,by have:=hz z (aaZ jF);omega,hv,Ϻ,λH3 sm3=>?_⟩;walk_at"go";refine⟨a,ws,s0,s0+3,by simp,(Ζ.trans sm3).seq hS,hl,hz,by omega,hs3,λH4 Τ =>?_⟩;refine ξ ?_;walk_at"go";refine dF ?_;refine Δ ?_;refine ξ ?_;walk_at"go";refine jm ?_;walk_at"go";refine gb M hr (by decide) (λ_=>rfl) Λ (by rfl) (by decide) (by rfl) (by rfl) ?_;walk_at"go";intro y dx hy hdx hne';refine⟨y,_,dx,[],bB ws s0 (s0+3),_,v,rfl,υ,T.vy,T.aby,T.Ga,T.Jx,by simp,λG eG hG=>⟨rfl,?_⟩⟩;walk_at"go";refine⟨by show 2<=Ϫ;omega,λp hp=>?_⟩;have bL:ζ H4 G:=λc o e=>hG c o (Η e hy) (by rw[ι (Η e hy),ι (Η e hdx)];exact e)
  have ak:ζ G (upd G p (.tup [.ref y,.int (s0+3)])):=ζ.upd hp;exact q p _ ((((Ζ.trans sm3).trans Τ).trans bL).trans ak) ⟨y,υ,dx,ak _ _ eG⟩
 |over=>
  have M:fQ P w K mg base true 2 "OverSieve" (θ mg "OverSieve") ["self","text","place","value"] (rF K):=(uh T).make T.ail T.adv;refine ξ ?_;walk_at"go";refine dF ?_;refine Δ ?_;refine ξ ?_;walk_at"go";refine⟨c.2,a,ws,s0+2,z,v,by simp,Ζ.seq hS,hl,jF,fB,by have:=hz z (aaZ jF);omega,hv,Ϻ,λH3 sm3=>?_⟩;walk_at"go";refine⟨a,ws,s0,s0+3,by simp,(Ζ.trans sm3).seq hS,hl,hz,by omega,hs3,λH4 Τ =>?_⟩;refine ξ ?_;walk_at"go";refine dF ?_;refine Δ ?_;refine ξ ?_;walk_at"go";refine dF ?_;refine Δ ?_;refine ξ ?_;walk_at"go";refine jm ?_;walk_at"go";refine gb M hr (by decide) (λ_=>rfl) Λ (by rfl) (by decide) (by rfl) (by rfl) ?_;walk_at"go";intro y dx hy hdx hne';refine⟨y,_,dx,[],bB ws s0 (s0+3),_,v,rfl,υ,T.t8,T.adw,T.Hw,T.G4,by simp,λG eG hG=>⟨rfl,?_⟩⟩;walk_at"go";refine⟨by show 2<=Ϫ;omega,λp hp=>?_⟩;have bL:ζ H4 G:=λc o e=>hG c o (Η e hy) (by rw[ι (Η e hy),ι (Η e hdx)];exact e)
  have ak:ζ G (upd G p (.tup [.ref y,.int (s0+3)])):=ζ.upd hp;exact q p _ ((((Ζ.trans sm3).trans Τ).trans bL).trans ak) ⟨y,υ,dx,ak _ _ eG⟩
 |holds=>
  have M:fQ P w K mg base true 2 "HoldsSieve" (θ mg "HoldsSieve") ["self","text","place","value"] (rF K):=(uh T).make T.aeC T.Rc;refine ξ ?_;walk_at"go";refine jm ?_;rw[hh rfl];walk_at"go";rw[decide_eq_true rfl];walk_at"t";refine Δ ?_;refine ξ ?_;walk_at"go";refine⟨"text",a,ws,s0+2,z,v,by simp,Ζ.seq hS,hl,jF,fB,by have:=hz z (aaZ jF);omega,by rw[<-hh rfl];exact hv,Ϻ,λH3 sm3=>?_⟩;walk_at"go";refine⟨a,ws,s0,s0+3,by simp,(Ζ.trans sm3).seq hS,hl,hz,by omega,hs3,λH4 Τ =>?_⟩;refine ξ ?_;walk_at"go";refine dF ?_;refine Δ ?_;refine ξ ?_;walk_at"go";refine dF ?_;refine Δ ?_;refine ξ ?_;walk_at"go";refine dF ?_;walk_at"go";refine gb M hr (by decide) (λ_=>rfl) Λ (by rfl) (by decide) (by rfl) (by rfl) ?_;walk_at"go";intro y dx hy hdx hne';refine⟨y,_,dx,[],bB ws s0 (s0+3),_,v,rfl,υ,T.uf,T.agi,T.K1,T.N7,by simp,λG eG hG=>⟨rfl,?_⟩⟩;walk_at"go";refine⟨by show 2<=Ϫ;omega,λp hp=>?_⟩;have bL:ζ H4 G:=λc o e=>hG c o (Η e hy) (by rw[ι (Η e hy),ι (Η e hdx)];exact e)
  have ak:ζ G (upd G p (.tup [.ref y,.int (s0+3)])):=ζ.upd hp;exact q p _ ((((Ζ.trans sm3).trans Τ).trans bL).trans ak) ⟨y,υ,dx,ak _ _ eG⟩
def oh(cs:List χ)(ws:List Str)(s:Nat):b7->Nat->Prop
 |.all,n=>ws[s]?=some "all"/\n=s+1
 |.none i,n=>ws[s]?=some "none"/\s+2<=ws.length/\di cs ws (s+1)=some i/\n=s+2
 |.look l i v,n=>s+3<=ws.length/\s+2<60/\ws[s]?=some (kJ l)/\di cs ws (s+1)=some i/\(∃c z,cs[i]?=some c/\(l=.holds->c.2="text")/\ws[s+2]?=some z/\cR c.2 z=some v)/\(¬v=.non)/\n=s+3
theorem ahS{ws:List Str}{s:Nat}{z:Str}(h:ws[s]?=some z):bB ws s (s+1)=z:=by
 unfold bB;have e:(ws.drop s).take (s+1-s)=[z]:=by
  rw[show s+1-s=1 by omega,p8 h];rfl
 rw[e];exact join_one _ z
def abQ(K:Ϩ)(mg:Str->Option ε):Sp:=λvs H Q _=>∃(b:δ)(cs:List χ)(a:δ)(ws:List Str)(s n:Nat)(k:Int)(sv:b7),vs=[.ref b,.ref a,.int s,.int k]/\aK H b cs/\η K H a (ws.map V.str)/\ws.length<=4000/\(∀z∈ws,z.length<=1000)/\s<60/\oh cs ws s sv n/\
 ∀p H',ζ H H'->xm mg H' p sv (bB ws s n) n->Q (.ref p) H'
theorem R8(T:Txt K mg):Def P w K mg base true 8 "read_part" ["columns","words","start","within"] (abQ K mg):=by
 refine Υ T.Gh uc (λ_ _ _ _ _ H vs Q E hr h=>?_);obtain⟨b,cs,a,ws,s0,n,k,sv,rfl,hC,hS,hl,hz,fB,hrd,q⟩:=h;have nd:=uc.nd;have hsz:=ϲ;have g1:=T.yr;have g2:=T.Pn;have g3:=T.Cw;have g4:=T.zU;have g5:=T.xf;have g6:=T.NP;have D1:= @nO P w K mg base T;have D2:= @xJ P w K mg base T;have D3:= @yL P w K mg base T;have M:fQ P w K mg base true 1 "AllSieve" (θ mg "AllSieve") ["self","text"] (nQ K):=oX.make T.Wn T.Xq;have hw:∃z,ws[s0]?=some z:=by
  cases sv with
  |all=>exact⟨_,hrd.1⟩
  |none i=>exact⟨_,hrd.1⟩
  |look l i v=>exact⟨_,hrd.2.2.1⟩
 obtain⟨z0,hw⟩:=hw;have hlt:=(aal.mp hw).1;refine ξ ?_;walk_at"go";refine⟨a,ws,s0,rfl,hS,hl,by omega,λhb=>absurd ⟨hlt,fB⟩ hb,λz' hz' _=>?_⟩;rw[hw]at hz';cases hz';refine ξ ?_;walk_at"go";cases sv with
 |all=>
  obtain⟨h1,rfl⟩:=hrd;rw[hw]at h1;cases h1;refine jm ?_;walk_at"go";refine gb M hr (by decide) (λ_=>rfl) Λ (by rfl) (by decide) (by rfl) (by rfl) ?_;walk_at"go";intro y dx hy hdx Ϻ;refine⟨y,_,dx,[],_,rfl,υ,T.Mf,T.Yy,by simp,rfl,?_⟩;walk_at"go";refine⟨by show 2<=Ϫ;omega,λp hp=>?_⟩;generalize hG:upd (upd (upd H dx (.own y)) y (.ins (θ mg "AllSieve") dx [])) y _=G at hp⊢;have bL:ζ H G:=λc o e=>by
   rw[<-hG,ι (Η e hy),ι (Η e hy),ι (Η e hdx)];exact e
  have ey:G y=some (.ins (θ mg "AllSieve") dx [("text",.str "all")]):=by
   rw[<-hG];exact υ
  have ak:ζ G (upd G p (.tup [.ref y,.int (s0+1)])):=ζ.upd hp;refine q p _ (bL.trans ak) ⟨y,υ,dx,?_⟩;rw[ahS hw];exact ak _ _ ey
 |none i=>
  obtain⟨h1,h2,h3,rfl⟩:=hrd;rw[hw]at h1;cases h1;refine dF ?_;refine Δ ?_;refine ξ ?_;walk_at"go";refine jm ?_;walk_at"go";exact⟨b,cs,a,ws,s0,i,rfl,hC,hS,hl,hz,h2,h3,λp H' sm hp=>q p H' sm hp⟩
 |look l i v=>
  obtain⟨h1,h2,h3,h4,⟨c,z,h5,h6,h7,h8⟩,h9,rfl⟩:=hrd;rw[hw]at h3;cases h3;have e1:¬V.str (kJ l)=V.str ("all":Str):=by cases l<;>decide+kernel
  have e2:¬V.str (kJ l)=V.str ("none":Str):=by cases l<;>decide+kernel
  have e3:fY (V.str (kJ l)) [V.str ("is":Str),V.str ("under":Str),V.str ("over":Str),V.str ("holds":Str)]=true:=by cases l<;>decide+kernel
  refine Ι (λh=>absurd h e1) (λ_=>?_);refine Δ ?_;refine ξ ?_;walk_at"go";refine Ι (λh=>absurd h e2) (λ_=>?_);refine Δ ?_;refine ξ ?_;walk_at"go";refine⟨by show 4<=Ϫ;omega,λtp htp=>?_⟩;refine Ae (Β.of υ) (by rfl) (by rfl) ?_;rw[e3];have au:ζ H (upd H tp (.tup [.str "is",.str "under",.str "over",.str "holds"])):=ζ.upd htp;generalize upd H tp (.tup [.str "is",.str "under",.str "over",.str "holds"])=H2 at au⊢;walk_at"go";exact⟨l,b,cs,a,ws,s0,i,c,z,v,rfl,hC.same au,au.seq hS,hl,hz,h1,h2,hw,h4,h5,h6,h7,h8,h9,λp H' sm hp=>q p H' (au.trans sm) hp⟩
def abb:Sp:=λvs H Q _=>∃x y,vs=[x,y]/\Q (.bl true) H
theorem Y0{cc:Bool}:FD P w K mg base cc 1 "lets" "Sieve.lets" Ci ["self","values"] abb:=by
 refine aG aeg (λ_ _ _ _ _ H vs Q E hr h=>?_);obtain⟨x,y,rfl,q⟩:=h;refine ω ?_;walk_at"go";exact q
def Rr(K:Ϩ):Sp:=λvs H Q _=>∃(a C dx:δ)(fs:List (Str×V))(p:Nat)(b:δ)(xs:List V)(x:V),vs=[.ref a,.ref b]/\H a=some (.ins C dx fs)/\ϒ K C/\ Θ K C "place"/\fs.lookup ("place":Str)=some (V.int p)/\η K H b xs/\xs[p]?=some x/\Q (.bl (decide (x=.non))) H
theorem adL{cc:Bool}:FD P w K mg base cc 1 "lets" "NoneSieve.lets" CK ["self","values"] (Rr K):=by
 refine aG afh (λ_ _ _ _ _ H vs Q E hr h=>?_);obtain⟨a,C,dx,fs,p,b,xs,x,rfl,ha,hc,hn,hl,hb,hx,q⟩:=h;refine ω (Κ ?_);walk_at"go";refine aA (by rfl) ?_;walk_at"e";refine⟨a,C,dx,fs,_,rfl,ha,hc,hn,hl,?_⟩;refine ϣ hb (aW hx) ?_;walk_at"go";exact q
def JC(K:Ϩ):Sp:=λvs H Q _=>∃(a C dx:δ)(fs:List (Str×V))(z:Str)(p:V),vs=[.ref a,.str z,p]/\H a=some (.ins C dx fs)/\ϒ K C/\ Θ K C "text"/\ Θ K C "one"/\fs.length<800/\
 Q .non (upd (upd H a (.ins C dx (ϕ "text" (.str z) fs))) a (.ins C dx (ϕ "one" p (ϕ "text" (.str z) fs))))
theorem ZV(T:Txt K mg){cc:Bool}:FD P w K mg base cc 2 "__init__" "NotSieve.__init__" yG ["self","text","one"] (JC K):=by
 refine aG Wl (λ_ _ _ _ _ H vs Q E hr h=>?_);obtain⟨a,C,dx,fs,z,p,rfl,ha,hc,hn,hn2,hl,q⟩:=h;have B:mV P w K mg base cc 1 "Sieve" "__init__" ["self","text"] (nQ K):=oX.asked T.uZ T.rW;have hz:=jx "text" (V.str z) fs;refine ξ (aQ (by rfl) ?_);refine uG (pl:=_) B hr (by decide) id Λ (by rfl) (by decide) (by rfl) (by rfl) (by rfl) ?_;walk_at"go";refine⟨a,C,dx,fs,z,rfl,ha,hc,hn,by omega,?_⟩;refine ω (dB (by rfl) ?_);walk_at"e";walk_at"e";exact⟨a,C,dx,_,rfl,υ,hc,hn2,by omega,q⟩
def Be(K:Ϩ):Sp:=λvs H Q _=>∃(a C dx:δ)(fs:List (Str×V))(z:Str)(p v:V),vs=[.ref a,.str z,p,v]/\H a=some (.ins C dx fs)/\ϒ K C/\ Θ K C "text"/\ Θ K C "one"/\ Θ K C "other"/\fs.length<800/\
 ∀H',H' a=some (.ins C dx (ϕ "other" v (ϕ "one" p (ϕ "text" (.str z) fs))))->(∀b o,b≠a->H b=some o->H' b=some o)->Q .non H'
theorem Fq(T:Txt K mg){cc:Bool}:FD P w K mg base cc 2 "__init__" "PairSieve.__init__" vo ["self","text","one","other"] (Be K):=by
 refine aG aaI (λ_ _ _ _ _ H vs Q E hr h=>?_);obtain⟨a,C,dx,fs,z,p,v,rfl,ha,hc,hn,hn2,wY,hl,q⟩:=h;have B:mV P w K mg base cc 1 "Sieve" "__init__" ["self","text"] (nQ K):=oX.asked T.uZ T.rW;have hz:=jx "text" (V.str z) fs;have hz2:=jx "one" p (ϕ "text" (V.str z) fs);refine ξ (aQ (by rfl) ?_);refine uG (pl:=_) B hr (by decide) id Λ (by rfl) (by decide) (by rfl) (by rfl) (by rfl) ?_;walk_at"go";refine⟨a,C,dx,fs,z,rfl,ha,hc,hn,by omega,?_⟩;refine ξ (dB (by rfl) ?_);walk_at"e";walk_at"e";refine⟨a,C,dx,_,rfl,υ,hc,hn2,by omega,?_⟩;refine ω (dB (by rfl) ?_);walk_at"e";walk_at"e";refine⟨a,C,dx,_,rfl,υ,hc,wY,by omega,q _ υ λb o hb e=>?_⟩;rw[ι hb,ι hb,ι hb];exact e
inductive Tr
 |one (s:b7)
 |nt (t:Tr)
 |bo (t u:Tr)
 |ei (t u:Tr)
def Tr.dep:Tr->Nat
 |.one _=>0
 |.nt t=>t.dep+1
 |.bo t u=>max t.dep u.dep+1
 |.ei t u=>max t.dep u.dep+1
def Reads(cs:List χ)(ws:List Str):Tr->Nat->Nat->Prop
 |.one sv,s,e=>s<60/\oh cs ws s sv e
 |.nt t,s,e=>s<60/\ws[s]?=some "not"/\Reads cs ws t (s+1) e
 |.bo t u,s,e=>s<60/\ws[s]?=some "both"/\∃m,Reads cs ws t (s+1) m/\Reads cs ws u m e
 |.ei t u,s,e=>s<60/\ws[s]?=some "either"/\∃m,Reads cs ws t (s+1) m/\Reads cs ws u m e
theorem oh.le{cs:List χ}{ws:List Str}{s e:Nat}:∀{sv:b7},oh cs ws s sv e->s<e/\e<=ws.length
 |.all,h=>by
   obtain⟨h1,rfl⟩:=h;have:=(aal.mp h1).1;omega
 |.none i,h=>by
   obtain⟨_,h2,_,rfl⟩:=h;omega
 |.look l i v,h=>by
   obtain⟨h1,_,_,_,_,_,rfl⟩:=h;omega
theorem Reads.le{cs:List χ}{ws:List Str}:∀{t:Tr}{s e:Nat},Reads cs ws t s e->s<e/\e<=ws.length
 |.one sv,s,e,h=>oh.le h.2
 |.nt t,s,e,h=>by have:=Reads.le (t:=t) h.2.2;omega
 |.bo t u,s,e,h=>by
   obtain⟨_,_,m,h1,h2⟩:=h;have:=Reads.le (t:=t) h1;have:=Reads.le (t:=u) h2;omega
 |.ei t u,s,e,h=>by
   obtain⟨_,_,m,h1,h2⟩:=h;have:=Reads.le (t:=t) h1;have:=Reads.le (t:=u) h2;omega
def bx(mg:Str->Option ε)(H:Hp):Tr->δ->Str->Prop
 |.one s,a,z=>mq mg H a s z
 |.nt t,a,z=>∃dx b y,H a=some (.ins (θ mg "NotSieve") dx [("text",.str z),("one",.ref b)])/\bx mg H t b y
 |.bo t u,a,z=>∃dx b c y x,H a=some (.ins (θ mg "BothSieve") dx [("text",.str z),("one",.ref b),("other",.ref c)])/\bx mg H t b y/\bx mg H u c x
 |.ei t u,a,z=>∃dx b c y x,H a=some (.ins (θ mg "EitherSieve") dx [("text",.str z),("one",.ref b),("other",.ref c)])/\bx mg H t b y/\bx mg H u c x
theorem bx.same{mg:Str->Option ε}{H H':Hp}(e:ζ H H'):∀{t:Tr}{a:δ}{z:Str},bx mg H t a z->bx mg H' t a z
 |.one s,a,z,h=>mq.same h e
 |.nt t,a,z,h=>by
   obtain⟨dx,b,y,h1,h2⟩:=h;exact⟨dx,b,y,e _ _ h1,bx.same e h2⟩
 |.bo t u,a,z,h=>by
   obtain⟨dx,b,c,y,x,h1,h2,h3⟩:=h;exact⟨dx,b,c,y,x,e _ _ h1,bx.same e h2,bx.same e h3⟩
 |.ei t u,a,z,h=>by
   obtain⟨dx,b,c,y,x,h1,h2,h3⟩:=h;exact⟨dx,b,c,y,x,e _ _ h1,bx.same e h2,bx.same e h3⟩
theorem Zj{k:Nat}{x:Str}{ps:List Str}{sp sp':Sp}(F:Def P w K mg base true k x ps sp)(h:∀vs H Q E,sp' vs H Q E->sp vs H Q E):Def P w K mg base true k x ps sp':=by
 obtain⟨f,fd,h1,h2,h3,h4⟩:=F.ex;exact⟨f,fd,h1,h2,h3,⟨λvs H Q E z=>h4.len vs H Q E (h vs H Q E z),λA outer s H args us vs Q E hr e0 bt r z=>h4.run A outer s H args us vs Q E hr e0 bt r (h vs H Q E z)⟩⟩
theorem xU{k k':Nat}{C:δ}{x:Str}{ps:List Str}{sp sp':Sp}(F:Ϣ P w K mg base true k C x ps sp)(hk:k<=k')(h:∀vs H Q E,sp' vs H Q E->sp vs H Q E):Ϣ P w K mg base true k' C x ps sp':=by
 obtain⟨f,fd,h1,h2,h4⟩:=F.ex;have h4:=h4.mono hk;exact⟨F.cls,f,fd,h1,h2,⟨λvs H Q E z=>h4.len vs H Q E (h vs H Q E z),λA outer s H args us vs Q E hr e0 bt r z=>h4.run A outer s H args us vs Q E hr e0 bt r (h vs H Q E z)⟩⟩
def je(K:Ϩ)(mg:Str->Option ε)(t:Tr):Sp:=λvs H Q _=>∃(b:δ)(cs:List χ)(a:δ)(ws:List Str)(s e:Nat)(k:Int),vs=[.ref b,.ref a,.int s,.int k]/\aK H b cs/\η K H a (ws.map V.str)/\ws.length<=4000/\(∀z∈ws,z.length<=1000)/\0<=k/\k+t.dep<=20/\Reads cs ws t s e/\
 ∀p v H',ζ H H'->H' p=some (.tup [.ref v,.int e])->bx mg H' t v (bB ws s e)->Q (.ref p) H'
def tX(K:Ϩ)(mg:Str->Option ε)(t:Tr):Sp:=λvs H Q _=>∃(b:δ)(cs:List χ)(a:δ)(ws:List Str)(s e:Nat)(k:Int),vs=[.ref b,.ref a,.int s,.int k]/\aK H b cs/\η K H a (ws.map V.str)/\ws.length<=4000/\(∀z∈ws,z.length<=1000)/\1<=k/\k+t.dep<=21/\k<=20/\Reads cs ws t s e/\
 ∀p v H',ζ H H'->H' p=some (.tup [.ref v,.int e])->bx mg H' t v (bB ws s e)->Q (.ref p) H'
theorem ahi(T:Txt K mg)(sv:b7):Def P w K mg base true 8 "read_part" ["columns","words","start","within"] (je K mg (.one sv)):=Zj (R8 T) λvs H Q E h=>by
 obtain⟨b,cs,a,ws,s,e,k,rfl,hC,hS,hl,hz,hk0,hk,hr,q⟩:=h;refine⟨b,cs,a,ws,s,e,k,sv,rfl,hC,hS,hl,hz,hr.1,hr.2,λp H' sm hp=>?_⟩;obtain⟨v,h1,h2⟩:=hp;exact q p v H' sm h1 h2
def yO:Tr->Option Str
 |.one _=>none
 |.nt _=>some "not"
 |.bo _ _=>some "both"
 |.ei _ _=>some "either"
theorem Uk{cs:List χ}{ws:List Str}{t:Tr}{s e:Nat}{z:Str}(h:Reads cs ws t s e)(hw:yO t=some z):s<60/\ws[s]?=some z:=by
 cases t with
 |one _=>cases hw
 |nt t=>cases hw;exact⟨h.1,h.2.1⟩
 |bo t u=>cases hw;exact⟨h.1,h.2.1⟩
 |ei t u=>cases hw;exact⟨h.1,h.2.1⟩
theorem vD{t:Tr}{z:Str}(hw:yO t=some z):z="not"\/z="both"\/z="either":=by
 cases t with
 |one _=>cases hw
 |nt t=>cases hw;exact .inl rfl
 |bo t u=>cases hw;exact .inr (.inl rfl)
 |ei t u=>cases hw;exact .inr (.inr rfl)
theorem Al(T:Txt K mg){t:Tr}{z:Str}{lv:Nat}(hw:yO t=some z)(h3:3<=lv)(D:Def P w K mg base true lv "read_of_sieves" ["columns","words","start","within"] (tX K mg t)):Def P w K mg base true (lv+1) "read_part" ["columns","words","start","within"] (je K mg t):=by
 refine Υ T.Gh uc (λ_ _ A _ _ H vs Q E hr h=>?_);obtain⟨b,cs,a,ws,s0,e,k,rfl,hC,hS,hl,hz,hk0,hk,hrd,q⟩:=h;have nd:=uc.nd;have hsz:=ϲ;have g1:=T.yr;have g2:=T.Pn;have g3:=T.Cw;have g4:=T.zU;have g5:=T.xf;have g6:=T.NP;have g7:=T.su;have g8:=T.rT;have g9:=T.afd;have D1:= @nO P w K mg base T;obtain⟨fB,hws⟩:=Uk hrd hw;have hlt:=(aal.mp hws).1;have Hc:1<=t.dep:=by
  cases t with
  |one _=>cases hw
  |nt t=>show 1<=t.dep+1;omega
  |bo t u=>show 1<=max t.dep u.dep+1;omega
  |ei t u=>show 1<=max t.dep u.dep+1;omega
 have e1:¬V.str z=V.str ("all":Str):=by obtain rfl|rfl|rfl:=vD hw<;>decide+kernel
 have e2:¬V.str z=V.str ("none":Str):=by obtain rfl|rfl|rfl:=vD hw<;>decide+kernel
 have e3:fY (V.str z) [V.str ("is":Str),V.str ("under":Str),V.str ("over":Str),V.str ("holds":Str)]=false:=by obtain rfl|rfl|rfl:=vD hw<;>decide+kernel
 have e4:fY (V.str z) [V.str ("not":Str),V.str ("both":Str),V.str ("either":Str)]=true:=by obtain rfl|rfl|rfl:=vD hw<;>decide+kernel
 walk_at"A";refine⟨a,ws,s0,rfl,hS,hl,by omega,λhb=>absurd ⟨hlt,fB⟩ hb,λz' hz' _=>?_⟩;rw[hws]at hz';cases hz';refine ξ (ϓ ?_);walk_at"ex";refine Ι (λh=>absurd h e1) (λ_=>?_);refine Δ (ξ (ϓ ?_));walk_at"ex";refine Ι (λh=>absurd h e2) (λ_=>?_);refine Δ (ξ (ϓ ?_));walk_at"ex";refine⟨by show 4<=Ϫ;omega,λtp htp=>?_⟩;refine Ae (Β.of υ) (by rfl) (by rfl) ?_;rw[e3];have au:ζ H (upd H tp (.tup [.str "is",.str "under",.str "over",.str "holds"])):=ζ.upd htp;generalize upd H tp (.tup [.str "is",.str "under",.str "over",.str "holds"])=H2 at au⊢;walk_at"ex";refine Δ (ξ (ϓ ?_));walk_at"ex";refine⟨by show 3<=Ϫ;omega,λtq pB=>?_⟩;refine Ae (Β.of υ) (by rfl) (by rfl) ?_;rw[e4];have Mq:ζ H2 (upd H2 tq (.tup [.str "not",.str "both",.str "either"])):=ζ.upd pB;generalize upd H2 tq (.tup [.str "not",.str "both",.str "either"])=H3 at Mq⊢;walk_at"ex";have sm3:=au.trans Mq;refine ω (Κ ?_);walk_at"ex";exact⟨b,cs,a,ws,s0,e,k+1,rfl,hC.same sm3,sm3.seq hS,hl,hz,by omega,by omega,by omega,hrd,λp v H' sm hp hv=>q p v H' (sm3.trans sm) hp hv⟩
theorem acq(T:Txt K mg){t:Tr}{lv l1:Nat}(D1:Def P w K mg base true l1 "read_part" ["columns","words","start","within"] (je K mg t))(h1:l1<=lv)(h3:3<=lv):Def P w K mg base true (lv+1) "read_of_sieves" ["columns","words","start","within"] (tX K mg (.nt t)):=by
 refine Υ T.BV m9 (λ_ _ _ _ s H vs Q E hr h=>?_);obtain⟨b,cs,a,ws,s0,e,k,rfl,hC,hS,hl,hz,hk0,hk,JV,hrd,q⟩:=h;have nd:=m9.nd;have hsz:=ϲ;have g1:=T.v9;have g2:=T.su;have g3:=T.rT;have DB:= @jJ P w K mg base T;have hle:=hrd.le;have hd:k+(t.dep+1:Nat)<=21:=hk;obtain⟨fB,hws,jE⟩:=hrd;have Hs:=jE.le;have sw:η K H a (ws.map V.str):=hS;have e1:(s0:Int)+1=((s0+1:Nat):Int):=by omega
 refine ξ (ϓ ?_);walk_at"ex";refine Ι (λh=>absurd h (by omega)) (λ_=>?_);refine Δ (ξ ?_);walk_at"s";walk_at"ex";refine ϣ sw (v:=.str ("not":Str)) (aW (by rw[aca,hws];rfl)) ?_;refine ξ (nq (by rfl) (by rfl) ?_);walk_at"ex";rw[e1];refine⟨b,cs,a,ws,s0+1,_,k,rfl,hC,hS,hl,hz,by omega,by omega,jE,λp1 v1 H1 Ν hp1 hv1=>?_⟩;refine cG (by rfl) (by rfl) (by rfl) (Β.of hp1) (by rfl) (ϛ (by rfl) (Ρ nd (by rfl) (.inl rfl) (.inl rfl) (ϛ (by rfl) (Ρ nd (by rfl) (.inl rfl) (.inl rfl) (cu ?_)))));refine ξ (ϓ ?_);walk_at"ex";refine jm ?_;refine ω (Κ ?_);have M:fQ P w K mg base true 2 "NotSieve" (θ mg "NotSieve") ["self","text","one"] (JC K):=(ZV T).make T.ahK T.agp;walk_at"ex";refine gb M hr (by omega) (λ_=>rfl) Λ (by rfl) (by decide) (by rfl) (by rfl) ?_;walk_at"ex";refine⟨a,ws,s0,e,rfl,Ν.seq hS,hl,hz,by omega,by omega,λH2 Ζ =>?_⟩;walk_at"ex";intro y dx hy hdx Ϻ;refine⟨y,_,dx,[],_,_,rfl,υ,T.BJ,T.agj,T.MN,by simp,rfl,?_⟩;walk_at"ex";refine⟨by show 2<=Ϫ;omega,λp hp=>?_⟩;generalize hG:upd (upd (upd (upd H2 dx (.own y)) y (.ins (θ mg "NotSieve") dx [])) y _) y _=G at hp⊢;have bL:ζ H2 G:=λc o e=>by
  rw[<-hG,ι (Η e hy),ι (Η e hy),ι (Η e hy),ι (Η e hdx)];exact e
 have ey:G y=some (.ins (θ mg "NotSieve") dx [("text",.str (bB ws s0 e)),("one",.ref v1)]):=by
  rw[<-hG];exact υ
 have ak:ζ G (upd G p (.tup [.ref y,.int e])):=ζ.upd hp;exact q p y _ (((Ν.trans Ζ).trans bL).trans ak) υ ⟨dx,v1,_,ak _ _ ey,((hv1.same Ζ).same bL).same ak⟩
theorem aiv(T:Txt K mg){t u:Tr}{lv l1 l2:Nat}(D1:Def P w K mg base true l1 "read_part" ["columns","words","start","within"] (je K mg t))(h1:l1<=lv)(D2:True->Def P w K mg base true l2 "read_part" ["columns","words","start","within"] (je K mg u))(h2:l2<=lv)(h3:3<=lv):Def P w K mg base true (lv+1) "read_of_sieves" ["columns","words","start","within"] (tX K mg (.bo t u)):=by
 refine Υ T.BV m9 (λ_ _ A _ s H vs Q E hr h=>?_);obtain⟨b,cs,a,ws,s0,e,k,rfl,hC,hS,hl,hz,hk0,hk,JV,hrd,q⟩:=h;have nd:=m9.nd;have hsz:=ϲ;have g1:=T.v9;have g2:=T.su;have g3:=T.rT;have DB:= @jJ P w K mg base T;have hle:=hrd.le;have hd:k+(max t.dep u.dep+1:Nat)<=21:=hk;obtain⟨fB,hws,m,jE,oV⟩:=hrd;have aco:=oV.le;have Hs:=jE.le;have sw:η K H a (ws.map V.str):=hS;have e1:(s0:Int)+1=((s0+1:Nat):Int):=by omega
 refine ξ (ϓ ?_);walk_at"ex";refine Ι (λh=>absurd h (by omega)) (λ_=>?_);refine Δ (ξ ?_);walk_at"s";walk_at"ex";refine ϣ sw (v:=.str ("both":Str)) (aW (by rw[aca,hws];rfl)) ?_;refine ξ (nq (by rfl) (by rfl) ?_);walk_at"ex";rw[e1];refine⟨b,cs,a,ws,s0+1,_,k,rfl,hC,hS,hl,hz,by omega,by omega,jE,λp1 v1 H1 Ν hp1 hv1=>?_⟩;refine cG (by rfl) (by rfl) (by rfl) (Β.of hp1) (by rfl) (ϛ (by rfl) (Ρ nd (by rfl) (.inl rfl) (.inl rfl) (ϛ (by rfl) (Ρ nd (by rfl) (.inl rfl) (.inl rfl) (cu ?_)))));refine ξ (ϓ ?_);walk_at"ex";refine dF ?_;clear D1;have D2:=D2 trivial;refine Δ (ξ (nq (by rfl) (by rfl) ?_));walk_at"ex";refine⟨b,cs,a,ws,m,e,k,rfl,hC.same Ν,Ν.seq hS,hl,hz,by omega,by omega,oV,λp2 v2 H2 Ζ hp2 hv2=>?_⟩;refine cG (by rfl) (by rfl) (by rfl) (Β.of hp2) (by rfl) (ϛ (by rfl) (Ρ nd (by rfl) (.inl rfl) (.inl rfl) (ϛ (by rfl) (Ρ nd (by rfl) (.inl rfl) (.inl rfl) (cu ?_)))));have qX:=Ν.trans Ζ;walk_at"A";refine⟨a,ws,s0,e,rfl,qX.seq hS,hl,hz,by omega,by omega,λH3 sm3=>?_⟩;have M:fQ P w K mg base true 2 "BothSieve" (θ mg "BothSieve") ["self","text","one","other"] (Be K):=(Fq T).make T.aaP T.agF;refine ξ (ϓ ?_);walk_at"ex";refine jm ?_;refine ω (Κ ?_);walk_at"ex";refine gb M hr (by omega) (λ_=>rfl) Λ (by rfl) (by decide) (by rfl) (by rfl) ?_;walk_at"ex";intro y dx hy hdx Ϻ;refine⟨y,_,dx,[],_,_,_,rfl,υ,T.uI,T.RZ,T.JX,T.El,by simp,λG ey keep=>⟨rfl,?_⟩⟩;walk_at"ex";refine⟨by show 2<=Ϫ;omega,λp hp=>?_⟩;have bL:ζ H3 G:=λc o e=>keep _ _ (Η e hy) (by rw[ι (Η e hy),ι (Η e hdx)];exact e)
 have ey:G y=some (.ins (θ mg "BothSieve") dx [("text",.str (bB ws s0 e)),("one",.ref v1),("other",.ref v2)]):=ey;have ak:ζ G (upd G p (.tup [.ref y,.int e])):=ζ.upd hp;have jR:=(sm3.trans bL).trans ak;exact q p y _ (qX.trans jR) υ ⟨dx,v1,v2,_,_,ak _ _ ey,(hv1.same Ζ).same jR,hv2.same jR⟩
theorem agH(T:Txt K mg){t u:Tr}{lv l1 l2:Nat}(D1:Def P w K mg base true l1 "read_part" ["columns","words","start","within"] (je K mg t))(h1:l1<=lv)(D2:True->Def P w K mg base true l2 "read_part" ["columns","words","start","within"] (je K mg u))(h2:l2<=lv)(h3:3<=lv):Def P w K mg base true (lv+1) "read_of_sieves" ["columns","words","start","within"] (tX K mg (.ei t u)):=by
 refine Υ T.BV m9 (λ_ _ A _ s H vs Q E hr h=>?_);obtain⟨b,cs,a,ws,s0,e,k,rfl,hC,hS,hl,hz,hk0,hk,JV,hrd,q⟩:=h;have nd:=m9.nd;have hsz:=ϲ;have g1:=T.v9;have g2:=T.su;have g3:=T.rT;have DB:= @jJ P w K mg base T;have hle:=hrd.le;have hd:k+(max t.dep u.dep+1:Nat)<=21:=hk;obtain⟨fB,hws,m,jE,oV⟩:=hrd;have aco:=oV.le;have Hs:=jE.le;have sw:η K H a (ws.map V.str):=hS;have e1:(s0:Int)+1=((s0+1:Nat):Int):=by omega
 refine ξ (ϓ ?_);walk_at"ex";refine Ι (λh=>absurd h (by omega)) (λ_=>?_);refine Δ (ξ ?_);walk_at"s";walk_at"ex";refine ϣ sw (v:=.str ("either":Str)) (aW (by rw[aca,hws];rfl)) ?_;refine ξ (nq (by rfl) (by rfl) ?_);walk_at"ex";rw[e1];refine⟨b,cs,a,ws,s0+1,_,k,rfl,hC,hS,hl,hz,by omega,by omega,jE,λp1 v1 H1 Ν hp1 hv1=>?_⟩;refine cG (by rfl) (by rfl) (by rfl) (Β.of hp1) (by rfl) (ϛ (by rfl) (Ρ nd (by rfl) (.inl rfl) (.inl rfl) (ϛ (by rfl) (Ρ nd (by rfl) (.inl rfl) (.inl rfl) (cu ?_)))));refine ξ (ϓ ?_);walk_at"ex";refine dF ?_;clear D1;have D2:=D2 trivial;refine Δ (ξ (nq (by rfl) (by rfl) ?_));walk_at"ex";refine⟨b,cs,a,ws,m,e,k,rfl,hC.same Ν,Ν.seq hS,hl,hz,by omega,by omega,oV,λp2 v2 H2 Ζ hp2 hv2=>?_⟩;refine cG (by rfl) (by rfl) (by rfl) (Β.of hp2) (by rfl) (ϛ (by rfl) (Ρ nd (by rfl) (.inl rfl) (.inl rfl) (ϛ (by rfl) (Ρ nd (by rfl) (.inl rfl) (.inl rfl) (cu ?_)))));have qX:=Ν.trans Ζ;walk_at"A";refine⟨a,ws,s0,e,rfl,qX.seq hS,hl,hz,by omega,by omega,λH3 sm3=>?_⟩;have M:fQ P w K mg base true 2 "EitherSieve" (θ mg "EitherSieve") ["self","text","one","other"] (Be K):=(Fq T).make T.ago T.ahW;refine ξ (ϓ ?_);walk_at"ex";refine dF ?_;refine Δ (ω (Κ ?_));walk_at"ex";refine gb M hr (by omega) (λ_=>rfl) Λ (by rfl) (by decide) (by rfl) (by rfl) ?_;walk_at"ex";intro y dx hy hdx Ϻ;refine⟨y,_,dx,[],_,_,_,rfl,υ,T.uF,T.acQ,T.O5,T.Fe,by simp,λG ey keep=>⟨rfl,?_⟩⟩;walk_at"ex";refine⟨by show 2<=Ϫ;omega,λp hp=>?_⟩;have bL:ζ H3 G:=λc o e=>keep _ _ (Η e hy) (by rw[ι (Η e hy),ι (Η e hdx)];exact e)
 have ey:G y=some (.ins (θ mg "EitherSieve") dx [("text",.str (bB ws s0 e)),("one",.ref v1),("other",.ref v2)]):=ey;have ak:ζ G (upd G p (.tup [.ref y,.int e])):=ζ.upd hp;have jR:=(sm3.trans bL).trans ak;exact q p y _ (qX.trans jR) υ ⟨dx,v1,v2,_,_,ak _ _ ey,(hv1.same Ζ).same jR,hv2.same jR⟩
theorem oA(T:Txt K mg):∀t:Tr,Def P w K mg base true (8+2*t.dep) "read_part" ["columns","words","start","within"] (je K mg t)
 |.one sv=>ahi T sv
 |.nt t=>by
   have h:=Al T (z:="not") (lv:=8+2*t.dep+1) rfl (by omega) (acq T (lv:=8+2*t.dep) (oA T t) (Ϯ _) (by omega));have e:8+2*(Tr.nt t).dep=8+2*t.dep+1+1:=by show 8+2*(t.dep+1)=_;omega
   rw[e];exact h
 |.bo t u=>by
   have h:=Al T (z:="both") (lv:=8+2*max t.dep u.dep+1) rfl (by omega) (aiv T (lv:=8+2*max t.dep u.dep) (oA T t) (by omega) (λ_=>oA T u) (by omega) (by omega));have e:8+2*(Tr.bo t u).dep=8+2*max t.dep u.dep+1+1:=by show 8+2*(max t.dep u.dep+1)=_;omega
   rw[e];exact h
 |.ei t u=>by
   have h:=Al T (z:="either") (lv:=8+2*max t.dep u.dep+1) rfl (by omega) (agH T (lv:=8+2*max t.dep u.dep) (oA T t) (by omega) (λ_=>oA T u) (by omega) (by omega));have e:8+2*(Tr.ei t u).dep=8+2*max t.dep u.dep+1+1:=by show 8+2*(max t.dep u.dep+1)=_;omega
   rw[e];exact h
def Ww(mg:Str->Option ε)(t:Tr):Sp:=λvs H Q _=>∃(b:δ)(cs:List χ)(z:Str),vs=[.ref b,.str z]/\aK H b cs/\z.length<=3000/\(∀y∈Ϝ 32 z,y.length<=1000)/\t.dep<=20/\Reads cs (Ϝ 32 z) t 0 (Ϝ 32 z).length/\∀v H',ζ H H'->bx mg H' t v (bB (Ϝ 32 z) 0 (Ϝ 32 z).length)->Q (.ref v) H'
theorem Tj(T:Txt K mg)(t:Tr):Def P w K mg base true (9+2*t.dep) "read_sieve" ["columns","text"] (Ww mg t):=by
 have e9:9+2*t.dep=(8+2*t.dep)+1:=by omega
 rw[e9];refine Υ T.RB Eg (λ_ _ _ _ s H vs Q E hr h=>?_);obtain⟨b,cs,z,rfl,hC,hz,hzs,hdp,hrd,q⟩:=h;have nd:=Eg.nd;have n1:=T.cJ;have hsz:=ϲ;have D1:= @oA P w K mg base T t;have hcl:=Mt 32 z;refine ξ ?_;walk_at"s";refine d8 F.plainAttrs_str F.slot_str_split F.type_str_split (h:=?_);walk_at"go";refine m_split (c:=32) (by omega) λp hp=>?_
 obtain⟨Ν,ep⟩:=aO hp (.lst ((Ϝ 32 z).map V.str));generalize upd H p (.lst ((Ϝ 32 z).map V.str))=H1 at Ν ep⊢;refine ξ (nq (by rfl) (by rfl) ?_);walk_at"ex";refine⟨b,cs,p,Ϝ 32 z,0,_,0,rfl,hC.same Ν,η.of ep,by omega,hzs,by decide,by omega,hrd,λpr v H2 Ζ hpt hsv=>?_⟩;refine cG (by rfl) (by rfl) (by rfl) (Β.of hpt) (by rfl) (ϛ (by rfl) (Ρ nd (by rfl) (.inl rfl) (.inl rfl) (ϛ (by rfl) (Ρ nd (by rfl) (.inl rfl) (.inl rfl) (cu ?_)))));have SP2:η K H2 p ((Ϝ 32 z).map V.str):=η.of (Ζ _ _ ep);have bQ:((Ϝ 32 z).map V.str).length=(Ϝ 32 z).length:=ϳ ..;refine ξ ?_;walk_at"go";rw[bQ];refine Ι (λh=>absurd h (by omega)) (λ_=>?_);walk_at"go";exact q v H2 (Ν.trans Ζ) hsv
def agt(xs:List V):b7->Bool
 |.all=>true
 |.none p=>decide ((xs[p]?).getD .non=.non)
 |.look l p v=> !decide ((xs[p]?).getD .non=.non)&&vU l ((xs[p]?).getD .non) v
def O4(xs:List V):b7->Prop
 |.all=>True
 |.none p=>p<xs.length
 |.look l p v=>∃x,xs[p]?=some x/\(x=.non\/zf l x v)
def Ξ(xs:List V):Tr->Bool
 |.one s=>agt xs s
 |.nt t=> !Ξ xs t
 |.bo t u=>Ξ xs t&& Ξ xs u
 |.ei t u=>Ξ xs t|| Ξ xs u
def jc(xs:List V):Tr->Prop
 |.one s=>O4 xs s
 |.nt t=>jc xs t
 |.bo t u=>jc xs t/\jc xs u
 |.ei t u=>jc xs t/\jc xs u
def du(mg:Str->Option ε):Tr->δ
 |.one .all=>θ mg "AllSieve"
 |.one (.none _)=>θ mg "NoneSieve"
 |.one (.look l _ _)=>vM mg l
 |.nt _=>θ mg "NotSieve"
 |.bo _ _=>θ mg "BothSieve"
 |.ei _ _=>θ mg "EitherSieve"
def cP(K:Ϩ)(mg:Str->Option ε)(t:Tr):Sp:=λvs H Q _=>∃(a b:δ)(z:Str)(xs:List V),vs=[.ref a,.ref b]/\bx mg H t a z/\η K H b xs/\jc xs t/\Q (.bl (Ξ xs t)) H
theorem bx.ins{mg:Str->Option ε}{H:Hp}:∀{t:Tr}{a:δ}{z:Str},bx mg H t a z->∃dx fs,H a=some (.ins (du mg t) dx fs)/\fs.lookup ("lets":Str)=none
 |.one .all,a,z,h=>by obtain⟨dx,h⟩:=h;exact⟨dx,_,h,rfl⟩
 |.one (.none p),a,z,h=>by obtain⟨dx,h⟩:=h;exact⟨dx,_,h,rfl⟩
 |.one (.look l p v),a,z,h=>by obtain⟨dx,h⟩:=h;exact⟨dx,_,h,rfl⟩
 |.nt t,a,z,h=>by obtain⟨dx,b,y,h,_⟩:=h;exact⟨dx,_,h,rfl⟩
 |.bo t u,a,z,h=>by obtain⟨dx,b,c,y,x,h,_⟩:=h;exact⟨dx,_,h,rfl⟩
 |.ei t u,a,z,h=>by obtain⟨dx,b,c,y,x,h,_⟩:=h;exact⟨dx,_,h,rfl⟩
theorem VL(T:Txt K mg)(l:Lk)(p:Nat)(v:V):Ϣ P w K mg base true 3 (vM mg l) "lets" ["self","values"] (Jr K l (vM mg l)):=by
 cases l with
 |is=>exact(sE ((RJ T.uK T.HJ).meth T.uK T.aix) T.KR).meth T.uK T.Tu
 |under=>exact(sE ((Uj T T.vy T.Jx).meth T.vy T.afx) T.Ga).meth T.vy T.adh
 |over=>exact(sE ((afH T T.t8 T.G4).meth T.t8 T.agV) T.Hw).meth T.t8 T.abL
 |holds=>exact(sE ((aaa T.uf T.N7).meth T.uf T.Wg) T.K1).meth T.uf T.aez
theorem Xd(T:Txt K mg){t:Tr}{lv:Nat}(M:Ϣ P w K mg base true lv (du mg t) "lets" ["self","values"] (cP K mg t)):FD P w K mg base true (lv+1) "lets" "NotSieve.lets" Ck ["self","values"] (cP K mg (.nt t)):=by
 refine aG YH (λ_ _ _ _ _ H vs Q E hr h=>?_);obtain⟨a,b,z,xs,rfl,⟨dx,c,y,ha,hc⟩,hS,hf,q⟩:=h;obtain⟨dc,fc,ec,lc⟩:=hc.ins;refine ω (Κ ?_);walk_at"ex";refine bO (pl:=_) hr Λ (h:=?_);refine aA (by rfl) ?_;walk_at"e";refine⟨a,_,_,_,_,rfl,ha,T.BJ,T.MN,rfl,?_⟩;refine⟨c,du mg t,dc,_,true,lv,_,cP K mg t,rfl,ec,lc,M,Ϯ _,id,?_⟩;walk_at"ex";refine⟨c,b,y,xs,rfl,hc,hS,hf,?_⟩;walk_at"ex";exact q
theorem XD(T:Txt K mg){t u:Tr}{lv l1 l2:Nat}(M1:Ϣ P w K mg base true l1 (du mg t) "lets" ["self","values"] (cP K mg t))(h1:l1<=lv)(M2:Ϣ P w K mg base true l2 (du mg u) "lets" ["self","values"] (cP K mg u))(h2:l2<=lv):FD P w K mg base true (lv+1) "lets" "BothSieve.lets" Am ["self","values"] (cP K mg (.bo t u)):=by
 refine aG aiF (λ_ _ _ _ _ H vs Q E hr h=>?_);obtain⟨a,b,z,xs,rfl,⟨dx,c,d,y,x,ha,hc,hd⟩,hS,hf,q⟩:=h;obtain⟨dc,fc,ec,lc⟩:=hc.ins;obtain⟨dd,fd,ed,ld⟩:=hd.ins;refine ω (Κ ?_);walk_at"ex";refine bO (pl:=_) hr Λ (h:=?_);refine aA (by rfl) ?_;walk_at"e";refine⟨a,_,_,_,_,rfl,ha,T.uI,T.JX,rfl,?_⟩;refine⟨c,du mg t,dc,_,true,l1,_,cP K mg t,rfl,ec,lc,M1,h1,id,?_⟩;walk_at"ex";refine⟨c,b,y,xs,rfl,hc,hS,hf.1,?_⟩;have q:Q (.bl (Ξ xs t&& Ξ xs u)) H:=q;generalize Ξ xs t=bt at q⊢;cases bt with
 |true=>
  walk_at"ex";refine bO (pl:=_) hr Λ (h:=?_);refine aA (by rfl) ?_;walk_at"e";refine⟨a,_,_,_,_,rfl,ha,T.uI,T.El,rfl,?_⟩;refine⟨d,du mg u,dd,_,true,l2,_,cP K mg u,rfl,ed,ld,M2,h2,id,?_⟩;walk_at"ex";refine⟨d,b,x,xs,rfl,hd,hS,hf.2,?_⟩;exact q
 |false=>
  walk_at"ex";exact q
theorem adK(T:Txt K mg){t u:Tr}{lv l1 l2:Nat}(M1:Ϣ P w K mg base true l1 (du mg t) "lets" ["self","values"] (cP K mg t))(h1:l1<=lv)(M2:Ϣ P w K mg base true l2 (du mg u) "lets" ["self","values"] (cP K mg u))(h2:l2<=lv):FD P w K mg base true (lv+1) "lets" "EitherSieve.lets" Dc ["self","values"] (cP K mg (.ei t u)):=by
 refine aG afm (λ_ _ _ _ _ H vs Q E hr h=>?_);obtain⟨a,b,z,xs,rfl,⟨dx,c,d,y,x,ha,hc,hd⟩,hS,hf,q⟩:=h;obtain⟨dc,fc,ec,lc⟩:=hc.ins;obtain⟨dd,fd,ed,ld⟩:=hd.ins;refine ω (Κ ?_);walk_at"ex";refine bO (pl:=_) hr Λ (h:=?_);refine aA (by rfl) ?_;walk_at"e";refine⟨a,_,_,_,_,rfl,ha,T.uF,T.O5,rfl,?_⟩;refine⟨c,du mg t,dc,_,true,l1,_,cP K mg t,rfl,ec,lc,M1,h1,id,?_⟩;walk_at"ex";refine⟨c,b,y,xs,rfl,hc,hS,hf.1,?_⟩;have q:Q (.bl (Ξ xs t|| Ξ xs u)) H:=q;generalize Ξ xs t=bt at q⊢;cases bt with
 |false=>
  walk_at"ex";refine bO (pl:=_) hr Λ (h:=?_);refine aA (by rfl) ?_;walk_at"e";refine⟨a,_,_,_,_,rfl,ha,T.uF,T.Fe,rfl,?_⟩;refine⟨d,du mg u,dd,_,true,l2,_,cP K mg u,rfl,ed,ld,M2,h2,id,?_⟩;walk_at"ex";refine⟨d,b,x,xs,rfl,hd,hS,hf.2,?_⟩;exact q
 |true=>
  walk_at"ex";exact q
theorem mJ(T:Txt K mg):∀t:Tr,Ϣ P w K mg base true (3+t.dep) (du mg t) "lets" ["self","values"] (cP K mg t)
 |.one .all=>xU (Y0.meth T.Mf T.acx) (by decide) λvs H Q E h=>by
   obtain⟨a,b,z,xs,rfl,_,_,_,q⟩:=h;exact⟨_,_,rfl,q⟩
 |.one (.none p)=>xU (adL.meth T.CG T.Wu) (by show 1<=3+0;decide) λvs H Q E h=>by
   obtain⟨a,b,z,xs,rfl,⟨dx,ha⟩,hS,hf,q⟩:=h;have hp:p<xs.length:=hf;have e:xs[p]?=some xs[p]:=aaf hp;refine⟨a,_,dx,_,p,b,xs,xs[p],rfl,ha,T.CG,T.Hk,rfl,hS,e,?_⟩;have q:Q (.bl (decide ((xs[p]?).getD .non=.non))) H:=q;rw[e]at q;exact q
 |.one (.look l p v)=>xU (VL T l p v) (by show 3<=3+0;decide) λvs H Q E h=>by
   obtain⟨a,b,z,xs,rfl,⟨dx,ha⟩,hS,⟨x,hx,hf⟩,q⟩:=h;refine⟨a,dx,z,p,v,b,xs,x,rfl,ha,hS,hx,hf,?_⟩;have q:Q (.bl (!decide ((xs[p]?).getD .non=.non)&&vU l ((xs[p]?).getD .non) v)) H:=q;rw[hx]at q;exact q
 |.nt t=>(Xd T (mJ T t)).meth T.BJ T.aa7
 |.bo t u=>(XD T (lv:=3+max t.dep u.dep) (mJ T t) (by omega) (mJ T u) (by omega)).meth T.uI T.ad6
 |.ei t u=>(adK T (lv:=3+max t.dep u.dep) (mJ T t) (by omega) (mJ T u) (by omega)).meth T.uF T.afM
theorem Dd(T:Txt K mg):Def P w K mg base true 2 "read_order_word" ["columns","word"] (acv (.ref (θ mg "NoOrder"))):=by
 refine Υ T.Dd M6 (λ_ _ _ _ _ H vs Q E hr h=>?_);obtain⟨a,cs,z,rfl,hC,hz,qe,q⟩:=h;have g1:=T.adN;have g2:=T.Uw;have nd:=M6.nd;have D1:= @ph P w K mg base T;have hsz:=ϲ;have hcl:=xF z (some 1) none;have e1:("+":Str).cps.toList=[43]:=by decide+kernel
 have e2:("-":Str).cps.toList=[45]:=by decide+kernel
 have es:(ϐ z none (some 1)).cps.toList=z.cps.toList.take 1:=acf z 1;have key:∀c:Nat,z.cps.toList.take 1=[c]↔z.cps.toList[0]?=some c:=λc=>by
  cases z.cps.toList with
  |nil=>simp
  |cons x r=>simp
 have k1:V.str (ϐ z none (some 1))=V.str "+"↔z.cps.toList[0]?=some 43:=by
  rw[<-key];constructor
  .intro h;have h2:ϐ z none (some 1)=Str.ofString "+":=by injection h
   rw[<-es,h2,e1]
  .intro h;have h2:ϐ z none (some 1)=Str.ofString "+":=iw (by rw[es,h,e1]);rw[h2]
 have k2:V.str (ϐ z none (some 1))=V.str "-"↔z.cps.toList[0]?=some 45:=by
  rw[<-key];constructor
  .intro h;have h2:ϐ z none (some 1)=Str.ofString "-":=by injection h
   rw[<-es,h2,e2]
  .intro h;have h2:ϐ z none (some 1)=Str.ofString "-":=iw (by rw[es,h,e2]);rw[h2]
 refine ξ ?_;walk_at"go";refine pO (by omega) ?_;walk_at"go";refine pO (by omega) ?_;walk_at"go";refine⟨by show 2<=Ϫ;omega,λp hp=>?_⟩;obtain⟨bJ,ep⟩:=aO hp (.tup [.str "+",.str "-"]);generalize upd H p (.tup [.str "+",.str "-"])=H0 at bJ ep⊢;refine Kg (Β.of ep) (by rfl) (by rfl) ?_;have ei:fY (V.str (ϐ z none (some 1))) [.str "+",.str "-"]=decide (z.cps.toList[0]?=some 43\/z.cps.toList[0]?=some 45):=by
  have e3:∀y:Str,dG (V.str y) (V.str (ϐ z none (some 1)))=decide (V.str (ϐ z none (some 1))=V.str y):=λy=>by
   rw[ahj,decide_eq_true_eq];constructor
   .intro h;have:V.str y=V.str (ϐ z none (some 1)):=by simpa [dG]using h
    exact this.symm
   .intro h;rw[h];simp[dG]
  rw[ahj,decide_eq_true_eq, <-k1, <-k2];show((dG _ _||(dG _ _||false))=true)↔_;rw[e3,e3,amR,al8,decide_eq_true_eq,decide_eq_true_eq]
 rw[ei];walk_at"go";refine jo (λh=>?_) (λh=>?_)
 .refine ω (eZ Λ (by rfl) T.ux (by rfl) (by decide) (by rfl) (by rfl) ?_);walk_at"go";refine lW ?_;walk_at"e";refine⟨z,rfl,by omega,_,4000,rfl,hz,by omega,?_⟩;walk_at"go";intro zz;walk_at"go";exact⟨by rw[hsz];simp,qe H0 bJ (if_neg λx=>h x.1)⟩
 .refine Δ ?_;walk_at"go";refine⟨a,cs,_,rfl,hC.same bJ,λH1 Ν =>?_⟩;have Ζ :=bJ.trans Ν;walk_at"go";refine Ι (λh2=>?_) (λh2=>?_)
  .refine ω (eZ Λ (by rfl) T.ux (by rfl) (by decide) (by rfl) (by rfl) ?_);walk_at"go";refine lW ?_;walk_at"e";refine⟨_,rfl,by omega,_,4000,rfl,by omega,by omega,?_⟩;walk_at"go";intro zz;walk_at"go";exact⟨by rw[hsz];simp,qe H1 Ζ (if_neg λx=>x.2 h2)⟩
  .refine Δ ?_;walk_at"go";refine⟨by show 2<=Ϫ;omega,λt ht=>?_⟩;refine q t _ _ (Ζ.trans (ζ.upd ht)) (if_pos ⟨h,h2⟩) ?_;rw[υ];have e4:decide (V.str (ϐ z none (some 1))=V.str ("+":Str))=decide (z.cps.toList[0]?=some 43):=decide_eq_decide.mpr k1;rw[e4]
theorem BL(T:Txt K mg):Def P w K mg base true 3 "read_order" ["columns","text"] (agU (.ref (θ mg "NoOrder"))):=by
 refine Υ T.BL Mw (λf Ϲ A outer s H vs Q E hr h=>?_);obtain⟨a,cs,z,rfl,hC,hz,qe,q⟩:=h;have g1:=T.agx;have n1:=T.cJ;have n2:=T.Fp;have nd:=Mw.nd;have iy:(["word","columns"]:List Str).Nodup:=by decide+kernel
 have cj:(["name","up"]:List Str).Nodup:=by decide+kernel
 have D1:= @Dd P w K mg base T;have hsz:=ϲ;unfold lg at qe q;refine ξ ?_;walk_at"go";refine Ι (λh=>?_) (λh=>?_)
 .have h':z="":=by injection h
  walk_at"go";refine⟨by show 0<=Ϫ;omega,λp hp=>?_⟩;exact q p [] _ (ζ.upd hp) (if_pos h') hp ⟨[],υ,.nil⟩
 .have h':¬z="":=λe=>h (by rw[e])
  rw[if_neg h']at qe q;refine Δ ?_;refine ξ ?_;walk_at"s";refine d8 PySem.F.plainAttrs_str PySem.F.slot_str_split PySem.F.type_str_split (h:=?_);walk_at"go";refine m_split (c:=32) (by omega) λp1 hp1=>?_
  have hwl:=Mt 32 z;have hws:=λy=> @Wh 32 z y
  generalize Ϝ 32 z=ws at qe q hwl hws⊢;obtain⟨Ν,m7⟩:=aO hp1 (.lst (ws.map V.str));generalize upd H p1 (.lst (ws.map V.str))=H1 at Ν m7⊢;have bQ:(ws.map V.str).length=ws.length:=ϳ ..;have S1:η K H1 p1 (ws.map V.str):=η.of m7;walk_at"go";rw[bQ];refine Ι (λh2=>?_) (λh2=>?_)
  .refine ω (eZ Λ (by rfl) T.ux (by rfl) (by decide) (by rfl) (by rfl) ?_);walk_at"go";exact⟨by rw[hsz];simp,qe H1 Ν (if_pos (by omega))⟩
  .rw[if_neg (by omega)]at qe q;refine Δ ?_;refine ξ ?_;refine aeD ["word","columns"] (σ':=[none,some (.ref a)]) (by rfl) Λ rfl rfl (by rfl) (by rfl) (b8 (ο mQ) (by rfl) (by rfl) (by decide+kernel)) (by intro _;rfl) nd (by rfl) (by rfl) ?_;walk_at"go";refine⟨p1,_,rfl,S1,by rw[bQ];omega,λτ=>∃o,τ=[o,some (.ref a)],λE' i v H'=>∃y,ws[i]?=some y/\∃o,iC cs y=some o/\∃t,v=.ref t/\t≠E'/\H' t=some (.tup [.str o.1,.bl o.2]),⟨none,rfl⟩,λE' i v H2 H3 ys _ hk hp=>?_,λfp E' C s3 H0 F i τ x H2 H3 xo hE hi hτ Ζ hys hG=>?_,λE' H2 xs hE hl hx e2 Ζ =>?_⟩
   .obtain⟨y,a1,o,a2,t,a3,a4,a5⟩:=hp;exact⟨y,a1,o,a2,t,a3,a4,hk t _ a4 a5⟩
   .obtain⟨o,rfl⟩:=hτ;obtain⟨hx,rfl⟩:=hG;rw[aca]at hx;obtain⟨y,ey,rfl⟩:=aik.mp hx;have hyl:=hws y (aaZ ey);refine Ρ iy (by rfl) (.inl rfl) (.inr rfl) ?_;walk_at"go";have sm3:=Ν.trans Ζ;refine⟨a,cs,y,rfl,hC.same sm3,by omega,λH' Τ e=>?_,λt o H' Τ e et=>?_⟩
    .exact qe H' (sm3.trans Τ) (by rw[Oj (aaZ ey) e])
    .obtain⟨ys,hy1,_⟩:=hys;refine⟨⟨_,rfl⟩,⟨y,ey,o,e,t,rfl,λz=>?_,et⟩,Τ⟩;rw[z,Τ _ _ hy1]at et;cases et
   .obtain⟨os,eo,ha⟩:=Qn (f:=iC cs) (R:=qu H2) (ws:=ws) (xs:=xs) (by rw[hl,bQ]) λi v e=>by
     obtain⟨y,a1,o,a2,t,a3,a4,a5⟩:=hx i v e;exact⟨y,a1,o,a2,t,a3,a5⟩
    rw[eo]at qe q;have hol:=ha.len;have sm3:=Ν.trans Ζ;have Rq:H E'=none:=by
     cases e:H E' with
     |none=>rfl
     |some u=>rw[Ν _ _ e]at hE;cases hE
    refine ξ ?_;refine mY ["name","up"] (σ':=[none,none]) (by rfl) (by rfl) (by rfl) (b8 (ο mQ) (by rfl) (by rfl) (by decide+kernel)) (by intro _;rfl) nd (by rfl) (by rfl) ?_;walk_at"go";refine⟨E',xs,rfl,η.of e2,by rw[hl,bQ];omega,λτ=>∃o1 o2,τ=[o1,o2],λE2 i u H'=>∃c,os[i]?=some c/\u=.str c.1,⟨none,none,rfl⟩,λE2 i u H2 H3 ys _ _ p=>p,λfp E2 C s3 H0 i τ x H4 H3 cI hi hτ Τ hys hG=>?_,λE2 H4 ys cI hl2 hx2 e4 Τ =>?_⟩
    .obtain⟨o1,o2,rfl⟩:=hτ;obtain⟨aY,rfl⟩:=hG;obtain⟨c,hc,t,rfl,ht⟩:=ha.get aY;refine cG (by rfl) (by rfl) (by rfl) (Β.of (Τ _ _ ht)) (by rfl) (ϛ (by rfl) (Ρ cj (by rfl) (.inl rfl) (.inr rfl) (ϛ (by rfl) (Ρ cj (by rfl) (.inl rfl) (.inr rfl) (cu ?_)))));walk_at"go";exact⟨⟨_,_,rfl⟩,⟨c,hc,rfl⟩,ζ.refl _⟩
    .have ey:=jb (ys:=os) (λc=>V.str c.1) (by rw[hl2,hol]) hx2;have iW:ys=(os.map Prod.fst).map V.str:=by rw[ey,ahl];rfl
     subst iW;have hnl:(os.map Prod.fst).length<=4000:=by simp;omega
     refine ξ ?_;walk_at"go";refine Fy (by rfl) (η.of e4) hnl λS hS=>?_
     walk_at"go";refine HQ υ hnl ?_;walk_at"go";refine CJ (.inl (η.of ((ζ.upd hS) _ _ e4))) ?_;walk_at"go";have j7:ζ H2 (upd H4 S (jk (ϥ true P w K mg base z9 "read_order" (ο mQ) f Ϲ A outer s H E) S (os.map Prod.fst))):=Τ.trans (ζ.upd hS);have Jy:=Ai _ (os.map Prod.fst) rfl;generalize upd H4 S (jk (ϥ true P w K mg base z9 "read_order" (ο mQ) f Ϲ A outer s H E) S (os.map Prod.fst))=H5 at j7⊢;rw[ϳ (f:=V.str)];refine jo (λh3=>?_) (λh3=>?_)
     .have h4:¬(os.map Prod.fst).Nodup:=λz=>h3 (by rw[Jy.mpr z])
      refine ω (eZ Λ (by rfl) T.ux (by rfl) (by decide) (by rfl) (by rfl) ?_);walk_at"go";exact⟨by rw[hsz];simp,qe H5 (sm3.trans j7) (if_neg h4)⟩
     .have h4:(os.map Prod.fst).Nodup:=Jy.mp (by injection h3 with h5;omega);refine Δ ?_;walk_at"go";exact q E' os H5 (sm3.trans j7) (if_pos h4) Rq ⟨xs,j7 _ _ e2,ha.imp λu c r=>r.same j7⟩
theorem S8{cs:List χ}(h:Ϡ cs=true):1<=cs.length/\cs.length<=6:=by
 unfold Ϡ at h;simp only[aa3,decide_eq_true_eq]at h;exact h.1.1
abbrev Row:=Int×List V
def cz(H:Hp)(v:V)(r:Row):=∃t l,v=.ref t/\H t=some (.tup [.int r.1,.ref l])/\H l=some (.lst r.2)
theorem cz.same{H H':Hp}{v:V}{r:Row}(h:cz H v r)(s:ζ H H'):cz H' v r:=by
 obtain⟨t,l,e,q1,q2⟩:=h;exact⟨t,l,e,s _ _ q1,s _ _ q2⟩
def nR(H:Hp)(a:δ)(rs:List Row):=∃vs:List V,H a=some (.lst vs)/\ψ (cz H) vs rs
def Μ(cs:List χ)(r:Row):Prop:=ψ (λc x=>ϑ c.2 x) cs r.2
theorem ϑ.aq{kd:Str}{x y:V}(h:ϑ kd x)(g:ϑ kd y):aq x y:=by
 obtain rfl|⟨e,i,rfl,_⟩|⟨e,z,rfl,_⟩:=h
 .exact .inl rfl
 .obtain rfl|⟨_,j,rfl,_⟩|⟨e2,z,rfl,_⟩:=g
  .exact .inr (.inl rfl)
  .exact .inr (.inr (.inl ⟨_,_,rfl,rfl⟩))
  .exact absurd e e2
 .obtain rfl|⟨e2,j,rfl,_⟩|⟨_,z,rfl,_⟩:=g
  .exact .inr (.inl rfl)
  .exact absurd e2 e
  .exact .inr (.inr (.inr ⟨_,_,rfl,rfl⟩))
theorem tL(x:V):before x x=false:=by
 cases x with
 |non=>rfl
 |int i=>exact decide_eq_false (by omega)
 |str z=>exact decide_eq_false (anm _)
 |_=>rfl
theorem Nh{kd:Str}{x y z:V}(hx:ϑ kd x)(hy:ϑ kd y)(hz:ϑ kd z)(h1:before x y=true)(h2:before y z=true):before x z=true:=by
 obtain rfl|⟨e,k,rfl,_⟩|⟨e,z,rfl,_⟩:=hz
 .cases y<;>cases h2
 .obtain rfl|⟨_,i,rfl,_⟩|⟨e2,z,rfl,_⟩:=hx
  .rfl
  .obtain rfl|⟨_,j,rfl,_⟩|⟨e2,z,rfl,_⟩:=hy
   .cases h1
   .have a:=of_decide_eq_true h1;have b:=of_decide_eq_true h2;exact decide_eq_true (by omega)
   .exact absurd e e2
  .exact absurd e e2
 .obtain rfl|⟨e2,i,rfl,_⟩|⟨_,u,rfl,_⟩:=hx
  .rfl
  .exact absurd e2 e
  .obtain rfl|⟨e2,j,rfl,_⟩|⟨_,v,rfl,_⟩:=hy
   .cases h1
   .exact absurd e2 e
   .exact decide_eq_true (anu (of_decide_eq_true h1) (of_decide_eq_true h2))
theorem rm{x y:V}(h:aq x y)(sx:scalar x=true)(sy:scalar y=true)(Ϻ:¬x=y):before y x= !before x y:=by
 cases x with
 |non=>
  cases y with
  |non=>exact absurd rfl Ϻ
  |int j=>rfl
  |str z=>rfl
  |_=>exact absurd sy aah
 |int i=>
  cases y with
  |non=>rfl
  |int j=>
   have hij:¬i=j:=λe=>Ϻ (by rw[e])
   show decide (j<i)= !decide (i<j);by_cases h1:i<j
   .rw[decide_eq_true h1,decide_eq_false (by omega)];rfl
   .rw[decide_eq_false h1,decide_eq_true (by omega)];rfl
  |str z=>obtain z|z|⟨_,_,_,z⟩|⟨_,_,z,_⟩:=h<;>cases z
  |_=>exact absurd sy aah
 |str z=>
  cases y with
  |non=>rfl
  |int j=>obtain z|z|⟨_,_,z,_⟩|⟨_,_,_,z⟩:=h<;>cases z
  |str y=>
   have Td:¬z.cps.toList=y.cps.toList:=λe=>Ϻ (by rw[iw e])
   show decide (y.cps.toList<z.cps.toList)= !decide (z.cps.toList<y.cps.toList);by_cases h1:z.cps.toList<y.cps.toList
   .rw[decide_eq_true h1,decide_eq_false (List.lt_asymm h1)];rfl
   .have h2:y.cps.toList<z.cps.toList:=by
     by_cases h3:y.cps.toList<z.cps.toList
     .exact h3
     .exact absurd (List.le_antisymm (anh.mp h3) (anh.mp h1)) Td
    rw[decide_eq_false h1,decide_eq_true h2];rfl
  |_=>exact absurd sy aah
 |_=>exact absurd sx aah
def lL(cs:List χ)(z:Str):Str:=match cs[Χ cs z]? with
 |some c=>c.2
 |none=>Str.ofString ""
def dD(cs:List χ)(os:List Ord)(xs:List V):Prop:=ψ (λ(o:Ord) x=>ϑ (lL cs o.1) x) os xs
theorem vP:∀{os:List Ord}{xs:List V}{n k:Int},xs.length=os.length->ϝ os xs xs n k=decide (n<k)
 |[],[],n,k,_=>rfl
 |o::os,x::xs,n,k,h=>by
  show(if x=x then ϝ os xs xs n k else _)=_;rw[if_pos rfl];exact vP (by simpa using h)
 |[],_::_,_,_,h=>by simp at h
 |_::_,[],_,_,h=>by simp at h
theorem Mi{cs:List χ}{n k:Int}:∀{os:List Ord}{xs ys:List V},dD cs os xs->dD cs os ys->¬xs=ys->ϝ os ys xs k n= !ϝ os xs ys n k
 |[],[],[],_,_,h=>absurd rfl h
 |o::os,x::xs,y::ys,.cons hx tx,.cons hy ty,h=>by
  show(if y=x then ϝ os ys xs k n else decide (before y x=o.2))= !(if x=y then ϝ os xs ys n k else decide (before x y=o.2));by_cases e:x=y
  .rw[if_pos e,if_pos e.symm];exact Mi tx ty λe2=>h (by rw[e,e2])
  .rw[if_neg e,if_neg (Ne.symm e),rm (hx.aq hy) hx.sc hy.sc e];cases before x y<;>cases o.2<;>rfl
theorem qM{cs:List χ}{n k m:Int}:∀{os:List Ord}{xs ys zs:List V},dD cs os xs->dD cs os ys->dD cs os zs->ϝ os xs ys n k=true->ϝ os ys zs k m=true->ϝ os xs zs n m=true
 |[],[],[],[],_,_,_,h1,h2=>by
  have a:=of_decide_eq_true h1;have b:=of_decide_eq_true h2;exact decide_eq_true (by omega)
 |o::os,x::xs,y::ys,z::zs,.cons hx tx,.cons hy ty,.cons hz tz,h1,h2=>by
  have h1':(if x=y then ϝ os xs ys n k else decide (before x y=o.2))=true:=h1;have h2':(if y=z then ϝ os ys zs k m else decide (before y z=o.2))=true:=h2;show(if x=z then ϝ os xs zs n m else decide (before x z=o.2))=true;by_cases e1:x=y
  .rw[if_pos e1]at h1';subst e1;by_cases e2:x=z
   .rw[if_pos e2]at h2'⊢;exact qM tx ty tz h1' h2'
   .rw[if_neg e2]at h2'⊢;exact h2'
  .rw[if_neg e1]at h1';by_cases e2:y=z
   .subst e2;rw[if_neg e1];exact h1'
   .rw[if_neg e2]at h2';have a:=of_decide_eq_true h1';have b:=of_decide_eq_true h2';cases ho:o.2 with
    |true=>
     rw[ho]at a b;have c:=Nh hx hy hz a b;have e3:¬x=z:=λe=>by rw[e,tL]at c;cases c
     rw[if_neg e3];exact decide_eq_true c
    |false=>
     rw[ho]at a b;have a':before y x=true:=by rw[rm (hx.aq hy) hx.sc hy.sc e1,a];rfl
     have b':before z y=true:=by rw[rm (hy.aq hz) hy.sc hz.sc e2,b];rfl
     have c:=Nh hz hy hx b' a';have e3:¬x=z:=λe=>by rw[e,tL]at c;cases c
     rw[if_neg e3];have d:=rm (hx.aq hz) hx.sc hz.sc e3;rw[c]at d;refine decide_eq_true ?_;cases hb:before x z with
     |true=>rw[hb]at d;cases d
     |false=>rfl
theorem bV{cs:List χ}{r:Row}(h:Μ cs r):∀{os:List Ord},bh cs os->dD cs os (Ω cs os r.2)
 |[],_=>.nil
 |o::os,ϻ=>by
  refine .cons ?_ (bV h λx hx=>ϻ x (by simp[hx]));obtain⟨c,hc,_⟩:=Ax (ϻ o (by simp));obtain⟨v,hv,hk⟩:=h.get hc;show ϑ (lL cs o.1) (Ϟ cs r.2 o.1);unfold lL Ϟ;rw[hc,hv];exact hk
theorem dD.aq{cs:List χ}{os:List Ord}{xs ys:List V}(h:dD cs os xs)(g:dD cs os ys):xs.length=os.length/\ys.length=os.length/\∀(i:Nat) x y,xs[i]?=some x->ys[i]?=some y->scalar x=true/\scalar y=true/\aq x y:=by
 refine⟨h.len.symm,g.len.symm,λi x y e1 e2=>?_⟩;obtain⟨o,ho,hx⟩:=h.get' e1;obtain⟨o',ho',hy⟩:=g.get' e2;rw[ho]at ho';cases ho';exact⟨hx.sc,hy.sc,hx.aq hy⟩
def cH(cs:List χ)(os:List Ord)(r q:Row):Bool:=ϝ os (Ω cs os r.2) (Ω cs os q.2) r.1 q.1
def Line(cs:List χ)(os:List Ord)(rs:List Row):Prop:=rs.Pairwise λr q=>cH cs os r q=true
theorem yC{α:Type}{p:α->Bool}:∀{l:List α},l.Pairwise (λa b=>p b=true->p a=true)->(∀x∈l.take (l.countP p),p x=true)/\∀x∈l.drop (l.countP p),p x=false
 |[],_=>by simp
 |a::l,h=>by
  obtain⟨h1,h2⟩:=aiL.mp h;obtain⟨i1,i2⟩:=yC h2;cases ha:p a with
  |true=>
   rw[List.countP_cons_of_pos ha];exact⟨λx hx=>by
    rcases ϴ.mp (by simpa using hx)with e|e
    .rw[e];exact ha
    .exact i1 x e,λx hx=>i2 x (by simpa using hx)⟩
  |false=>
   have hn:∀x∈l,p x=false:=λx hx=>by
    cases hp:p x with
    |false=>rfl
    |true=>have:=h1 x hx hp;rw[ha]at this;cases this
   have h0:l.countP p=0:=List.countP_eq_zero.mpr λx hx=>by rw[hn x hx];exact aah
   rw[List.countP_cons_of_neg (by rw[ha];exact aah),h0];refine⟨by simp,λx hx=>?_⟩;rcases ϴ.mp (by simpa using hx)with e|e
   .rw[e];exact ha
   .exact hn x e
inductive Ct
 |start
 |fin
 |at_ (ahead:Bool) (xs:List V) (n:Int)
def laF(os:List Ord):Ct->List V->Int->Bool
 |.at_ true ys k,xs,n=>ϝ os xs ys n k
 |.at_ false ys k,xs,n=> !ϝ os ys xs k n
 |_,_,_=>false
def kW(cs:List χ)(os:List Ord)(c:Ct)(r:Row):Bool:=laF os c (Ω cs os r.2) r.1
def Av(cs:List χ)(os:List Ord):Ct->Prop
 |.at_ _ xs _=>dD cs os xs
 |_=>True
theorem aia{cs:List χ}{os:List Ord}(ϻ:bh cs os){c:Ct}(hc:Av cs os c){r q:Row}(hr:Μ cs r)(hq:Μ cs q)(h:cH cs os r q=true)(hl:kW cs os c q=true):kW cs os c r=true:=by
 have kr:=bV hr ϻ;have kq:=bV hq ϻ;cases c with
 |start=>cases hl
 |fin=>cases hl
 |at_ sd xs n=>
  cases sd with
  |true=>exact qM kr kq hc h hl
  |false=>
   have hl':(!ϝ os xs (Ω cs os q.2) n q.1)=true:=hl;show(!ϝ os xs (Ω cs os r.2) n r.1)=true;cases hx:ϝ os xs (Ω cs os r.2) n r.1 with
   |false=>rfl
   |true=>
    rw[qM hc kr kq hx h]at hl';cases hl'
theorem zQ{cs:List χ}{os:List Ord}(ϻ:bh cs os){c:Ct}(hc:Av cs os c):∀{rs:List Row},(∀r∈rs,Μ cs r)->Line cs os rs->rs.Pairwise (λa b=>kW cs os c b=true->kW cs os c a=true)
 |[],_,_=>.nil
 |r::rs,hf,h=>by
  obtain⟨h1,h2⟩:=aiL.mp h;exact .cons (λq hq hl=>aia ϻ hc (hf r (by simp)) (hf q (by simp[hq])) (h1 q hq) hl) (zQ ϻ hc (λq hq=>hf q (by simp[hq])) h2)
theorem acL{cs:List χ}{os:List Ord}(ϻ:bh cs os){rs:List Row}{r:Row}(hf:∀q∈rs,Μ cs q)(hr:Μ cs r)(h:Line cs os rs)(hn:∀q∈rs,¬q.1=r.1):Line cs os (fW rs (rs.countP λq=>cH cs os q r) r):=by
 have kr:=bV hr ϻ;have hc:Av cs os (.at_ true (Ω cs os r.2) r.1):=kr;have hp:=zQ ϻ hc hf h;obtain⟨p1,p2⟩:=yC hp;have ee:(λq=>cH cs os q r)=kW cs os (.at_ true (Ω cs os r.2) r.1):=rfl;rw[ee];unfold fW;have hsp:Line cs os (rs.take (rs.countP (kW cs os (.at_ true (Ω cs os r.2) r.1)))++rs.drop (rs.countP (kW cs os (.at_ true (Ω cs os r.2) r.1)))):=by
  rw[aiK];exact h
 obtain⟨a1,a2,a3⟩:=al6.mp hsp;refine al6.mpr ⟨a1,aiL.mpr ⟨λq hq=>?_,a2⟩,λx hx q hq=>?_⟩
 .have hf':=hf q (aiS hq);have e:=p2 q hq;have kq:=bV hf' ϻ;have Ϻ:=hn q (aiS hq);have e':ϝ os (Ω cs os q.2) (Ω cs os r.2) q.1 r.1=false:=e;show ϝ os (Ω cs os r.2) (Ω cs os q.2) r.1 q.1=true;by_cases hk:Ω cs os q.2=Ω cs os r.2
  .rw[hk,vP (dD.aq kr kr).1]at e'⊢;have:=of_decide_eq_false e';exact decide_eq_true (by omega)
  .rw[Mi kq kr hk,e'];rfl
 .obtain e|e:=ϴ.mp hq
  .rw[e];exact p1 x hx
  .exact a3 x hx q e
def iT:V->List V
 |.non=>[]
 |x=>[x]
def gH(rs:List Row)(q:List Nat):List Row:=q.map λi=>rs.getD i (0,[])
theorem xP{R:V->Row->Prop}{ws:List V}{rs:List Row}(h:ψ R ws rs):∀{q:List Nat},(∀i∈q,i<ws.length)->ψ R (bY ws q) (gH rs q)
 |[],_=>.nil
 |i::q,hq=>by
  have hi:=hq i (by simp);have e:ws[i]?=some (ws[i]'hi):=aaf hi;obtain⟨r,er,hr⟩:=h.get e;show ψ R (ws.getD i .non::bY ws q) (rs.getD i (0,[])::gH rs q);rw[abf,abf,e,er];exact .cons hr (xP h λj hj=>hq j (by simp[hj]))
theorem map_getD{α:Type}(d:α):∀(l:List α),(afz l.length).map (λi=>l.getD i d)=l
 |[]=>rfl
 |a::l=>by
  rw[List.length_cons,amy,List.map_cons,ahl];show a::_=_
  congr 1
  exact map_getD d l
theorem JL{rs:List Row}{lt:Nat->Nat->Bool}{q:List Nat}(h:cZ rs.length lt q):(gH rs q).Perm rs:=by
 have:=h.1.map λi=>rs.getD i (0,[])
 rw[map_getD]at this;exact this
theorem j8{rs:List Row}{i:Nat}(h:i<rs.length):rs.getD i (0,[])=rs[i]:=by
 rw[abf,aaf h];rfl
theorem OD{kd:Str}{x y:V}(hx:ϑ kd x)(hy:ϑ kd y):aa (iT x) (iT y)=before x y:=by
 obtain rfl|⟨e,i,rfl,_⟩|⟨e,z,rfl,_⟩:=hx
 .obtain rfl|⟨_,j,rfl,_⟩|⟨_,z,rfl,_⟩:=hy<;>rfl
 .obtain rfl|⟨_,j,rfl,_⟩|⟨e2,z,rfl,_⟩:=hy
  .rfl
  .rfl
  .exact absurd e e2
 .obtain rfl|⟨e2,j,rfl,_⟩|⟨_,z,rfl,_⟩:=hy
  .rfl
  .exact absurd e2 e
  .rfl
theorem aa2{cs:List χ}{rs:List Row}{q:List Nat}(hn:(rs.map Prod.fst).Nodup)(hq:cZ rs.length (gP false λi j=>decide ((rs.getD i (0,[])).1<(rs.getD j (0,[])).1)) q):Line cs [] (gH rs q):=by
 unfold Line gH;rw[alB];have hqn:q.Nodup:=(hq.1.nodup_iff).mpr am9;refine(hq.2.and hqn).imp_of_mem λ{i j} hi hj h=>?_;obtain⟨h,Ϻ⟩:=h;have hi':=j5 hq hi;have hj':=j5 hq hj;show decide ((rs.getD i (0,[])).1<(rs.getD j (0,[])).1)=true;have hd:¬(rs.getD i (0,[])).1=(rs.getD j (0,[])).1:=λe=>by
  rw[j8 hi',j8 hj']at e;have e2:(rs.map Prod.fst)[i]'(by simpa using hi')=(rs.map Prod.fst)[j]'(by simpa using hj'):=by simpa using e
  exact Ϻ ((am0 hn).mp e2)
 obtain h|⟨h,_⟩:=h
 .exact h
 .have h':decide ((rs.getD j (0,[])).1<(rs.getD i (0,[])).1)=false:=h;have:=of_decide_eq_false h';exact decide_eq_true (by omega)
def aJ(rs:List Row)(p:Nat)(i:Nat):List V:=iT (((rs.getD i (0,[])).2[p]?).getD .non)
theorem aeH{cs:List χ}{os:List Ord}{o:Ord}{rs:List Row}{q:List Nat}(ϻ:bh cs (o::os))(hf:∀r∈rs,Μ cs r)(h:Line cs os rs)(hq:cZ rs.length (gP (!o.2) λi j=>aa (aJ rs (Χ cs o.1) i) (aJ rs (Χ cs o.1) j)) q):Line cs (o::os) (gH rs q):=by
 unfold Line gH;rw[alB];have hqn:q.Nodup:=(hq.1.nodup_iff).mpr am9;refine(hq.2.and hqn).imp_of_mem λ{i j} hi hj h0=>?_;obtain⟨h0,Ϻ⟩:=h0;have hi':=j5 hq hi;have hj':=j5 hq hj;have mi:rs.getD i (0,[])∈rs:=by rw[j8 hi'];exact aid hi'
 have mj:rs.getD j (0,[])∈rs:=by rw[j8 hj'];exact aid hj'
 have kx:ϑ (lL cs o.1) (Ϟ cs (rs.getD i (0,[])).2 o.1):=by
  cases bV (hf _ mi) ϻ with|cons h _=>exact h
 have ky:ϑ (lL cs o.1) (Ϟ cs (rs.getD j (0,[])).2 o.1):=by
  cases bV (hf _ mj) ϻ with|cons h _=>exact h
 have qx:aa (aJ rs (Χ cs o.1) i) (aJ rs (Χ cs o.1) j)=before (Ϟ cs (rs.getD i (0,[])).2 o.1) (Ϟ cs (rs.getD j (0,[])).2 o.1):=OD kx ky;have rG:aa (aJ rs (Χ cs o.1) j) (aJ rs (Χ cs o.1) i)=before (Ϟ cs (rs.getD j (0,[])).2 o.1) (Ϟ cs (rs.getD i (0,[])).2 o.1):=OD ky kx;have an:=rm (kx.aq ky) kx.sc ky.sc;have old:i<j->cH cs os (rs.getD i (0,[])) (rs.getD j (0,[]))=true:=λhlt=>by
  rw[j8 hi',j8 hj'];exact amf.mp h i j hi' hj' hlt
 show(if Ϟ cs (rs.getD i (0,[])).2 o.1=Ϟ cs (rs.getD j (0,[])).2 o.1 then cH cs os (rs.getD i (0,[])) (rs.getD j (0,[]))else decide (before (Ϟ cs (rs.getD i (0,[])).2 o.1) (Ϟ cs (rs.getD j (0,[])).2 o.1)=o.2))=true;generalize Ϟ cs (rs.getD i (0,[])).2 o.1=x at kx qx rG an⊢;generalize Ϟ cs (rs.getD j (0,[])).2 o.1=y at ky qx rG an⊢;by_cases e:x=y
 .rw[if_pos e];refine old ?_;subst e;obtain h1|⟨_,h1⟩:=h0
  .unfold gP at h1;split at h1
   .have h1:aa (aJ rs (Χ cs o.1) j) (aJ rs (Χ cs o.1) i)=true:=h1;rw[rG,tL]at h1;cases h1
   .have h1:aa (aJ rs (Χ cs o.1) i) (aJ rs (Χ cs o.1) j)=true:=h1;rw[qx,tL]at h1;cases h1
  .exact h1
 .rw[if_neg e];have Gi:=an e;refine decide_eq_true ?_;cases hu:o.2 with
  |true=>
   rw[hu]at h0;obtain h1|⟨h1,_⟩:=h0
   .have h1:aa (aJ rs (Χ cs o.1) i) (aJ rs (Χ cs o.1) j)=true:=h1;rw[qx]at h1;exact h1
   .have h1:aa (aJ rs (Χ cs o.1) j) (aJ rs (Χ cs o.1) i)=false:=h1;rw[rG,Gi]at h1;simpa using h1
  |false=>
   rw[hu]at h0;obtain h1|⟨h1,_⟩:=h0
   .have h1:aa (aJ rs (Χ cs o.1) j) (aJ rs (Χ cs o.1) i)=true:=h1;rw[rG,Gi]at h1;simpa using h1
   .have h1:aa (aJ rs (Χ cs o.1) i) (aJ rs (Χ cs o.1) j)=false:=h1;rw[qx]at h1;exact h1
theorem ahk{cs:List χ}{o:Ord}{rs:List Row}(ϻ:∃c∈cs,c.1=o.1)(hf:∀r∈rs,Μ cs r):nG (aJ rs (Χ cs o.1)):=by
 have kx:∀i,ϑ (lL cs o.1) (((rs.getD i (0,[])).2[Χ cs o.1]?).getD .non):=λi=>by
  by_cases hi:i<rs.length
  .have mi:rs.getD i (0,[])∈rs:=by rw[j8 hi];exact aid hi
   cases bV (os:=[o]) (hf _ mi) (λp hp=>by cases ac0.mp hp;exact ϻ)with|cons h _=>exact h
  .have e:rs.getD i (0,[])=(0,[]):=by rw[abf,List.getElem?_eq_none (by omega)];rfl
   rw[e];exact .inl rfl
 refine⟨λi=>?_,?_⟩
 .show jO (iT _);obtain e|⟨_,n,e,_⟩|⟨_,z,e,_⟩:=kx i<;>rw[e]
  .exact .inl rfl
  .exact .inr ⟨_,rfl⟩
  .exact .inr ⟨_,rfl⟩
 .by_cases hk:lL cs o.1="number"
  .refine .inl λi x h=>?_
   have h:iT (((rs.getD i (0,[])).2[Χ cs o.1]?).getD .non)=[x]:=h;obtain e|⟨_,n,e,_⟩|⟨e2,z,e,_⟩:=kx i
   .rw[e]at h;cases h
   .rw[e]at h;cases h;exact⟨n,rfl⟩
   .exact absurd hk e2
  .refine .inr λi x h=>?_
   have h:iT (((rs.getD i (0,[])).2[Χ cs o.1]?).getD .non)=[x]:=h;obtain e|⟨e2,n,e,_⟩|⟨_,z,e,_⟩:=kx i
   .rw[e]at h;cases h
   .exact absurd e2 hk
   .rw[e]at h;cases h;exact⟨z,rfl⟩
def ae3(K:Ϩ):Sp:=λvs H Q _=>∃(t:δ)(n:Int)(x:V),vs=[.ref t]/\H t=some (.tup [.int n,x])/\Q (.int n) H
theorem zb(T:Txt K mg):Def P w K mg base true 1 "number_of" ["told"] (ae3 K):=by
 refine Υ T.zb ac4 (λ_ _ _ _ _ H vs Q E hr h=>?_);obtain⟨t,n,x,rfl,ht,q⟩:=h;refine ω (Κ ?_);walk_at"ex";refine aU (Β.of ht) (show ϔ [V.int n,x] 0=some (V.int n)from rfl) ?_;exact q
def RQ(K:Ϩ):Sp:=λvs H Q _=>∃x:V,vs=[x]/\∀p H',ζ H H'->H p=none->H' p=some (.tup (iT x))->Q (.ref p) H'
theorem xQ(T:Txt K mg):Def P w K mg base true 1 "rank_of" ["value"] (RQ K):=by
 refine Υ T.xQ aaT (λ_ _ _ _ _ H vs Q E hr h=>?_);obtain⟨x,rfl,q⟩:=h;have hsz:=ϲ;refine ω (Κ ?_);walk_at"ex";refine Ι (λe=>?_) (λe=>?_)
 .walk_at "ex";refine⟨by show 0<=Ϫ;omega,λp hp=>?_⟩;subst e;exact q p _ (ζ.upd hp) hp υ
 .walk_at "ex";refine⟨by show 1<=Ϫ;omega,λp hp=>?_⟩;have ex:iT x=[x]:=by
   cases x with
   |non=>exact absurd rfl e
   |_=>rfl
  exact q p _ (ζ.upd hp) hp (by rw[ex];exact υ)
def Ef(K:Ϩ):Sp:=λvs H Q _=>∃(p:δ)(i:Nat)(up:Bool)(ws:List V)(rs:List Row),vs=[.ref p,.int i,.bl up]/\H p=some (.lst ws)/\ψ (cz H) ws rs/\rs.length<64/\(∀r∈rs,i<r.2.length)/\nG (aJ rs i)/\H (aX K "sorted_by")=some (.tbl iM)/\
 ∀q pl H',ζ H H'->H pl=none->cZ rs.length (gP (!up) λa b=>aa (aJ rs i a) (aJ rs i b)) q->H' pl=some (.lst (bY ws q))->Q (.ref pl) H'
theorem BP(T:Txt K mg)(hN:fZ K mg base "sorted_by"):Def P w K mg base true 6 "sorted_by" ["rows","place","up"] (Ef K):=by
 refine Zv T.BP hN LK (λ_ _ _ _ _ _ us hl=>by obtain⟨_,_,_,rfl⟩:=Fg hl;rfl) (λvs H Q E h=>by obtain⟨p,i,up,ws,rs,rfl,_⟩:=h;rfl) (λf A outer s H vs Q E hr h=>?_);obtain⟨p,i,up,ws,rs,rfl,hp,hws,h64,hlen,hR,hP,q⟩:=h;have nd:=LK.nd;have n1:=T.qI;have hwl:=hws.len;have hsz:=ϲ;refine ξ ?_;refine Vr (c:=fL K "sorted_by") (P:=aX K "sorted_by") (ps:=iM) (j:=3) (qual:="sorted_by.<locals>.rank") (clos:=[("place",s.heap.objs.size+1)]) nd (by rfl) (by rfl) (by rfl) hN.code hN.bm (by rfl) hP (SQ _ _) (by change (Str.ofString "sorted_by"++Str.ofString ".<locals>.")++Str.ofString "rank"=_;decide+kernel) (by rfl) (by rfl) (by rfl) ?_;intro fr c' oc doc pm ctv vs t' H1 s1 hfr hf1 hc1 hoc hq;obtain⟨u1,hc1⟩:=hc1;have hK:∀(X:Cx)(σ:L2.St),X=ϥ true P w K mg base Gp "sorted_by" (ο tK) f (.ref (fL K "sorted_by")) A outer s H E->σ=[some (.ref p),some (.int i),some (.bl up),some (.ref fr)]->qZ X σ (.ref fr) ws H1 (HX (aJ rs i)):=by
  intro X σ eX eσ;subst eX;subst eσ;refine⟨λk v H2 H3 sm h=>?_,λk x u ϵ s2 H2 hx ru sm I=>?_⟩
  .obtain⟨a,e,h⟩:=h;exact⟨a,e,sm _ _ h⟩
  .obtain⟨r,hr2,t,l,rfl,ht,hl⟩:=hws.get hx;have hkl:=(aal.mp hr2).1;have hil:=hlen r (aaZ hr2);have bu:=s1.trans sm;refine aij (j:=1) (v:=.ref t) (z:=.int i) (x:="told") (y:="place") I (sm _ _ hf1) (sm _ _ hc1) hoc hq hr.in1.in1.depth (λ_ _ _ _ _=>rfl) (by rfl) (by rfl) (by rfl) (by rfl) (by rfl) (by decide+kernel) (λa ha=>?_) (by rfl) (by rfl) (by rfl) (by rfl) ru ?_
   .have h:=PySem.mem_of_lookup ha;change (a,NameKind.free)∈[(Str.ofString "told",NameKind.local),(Str.ofString "place",NameKind.free),(Str.ofString "rank_of",NameKind.globalImplicit)]at h;obtain e|h:=ϴ.mp h
    .cases e
    .obtain e|h:=ϴ.mp h
     .exact congrArg Prod.fst e
     .cases ac0.mp h
   .have D1:= @xQ P w K mg base T;have hr':=((hr.in1).in1).deeper (W.envX "sorted_by.<locals>.rank" (ο (oG (ϗ tK) 0)) s2.heap.objs.size fr (.ref c') [("place",s.heap.objs.size+1)]);refine ω (Κ ?_);walk_at"ex";refine aU (Β.of (bu _ _ ht)) (show ϔ [V.int r.1,V.ref l] 1=some (V.ref l)from rfl) ?_;walk_at"ex";refine ϣ (η.of (bu _ _ hl)) (aW (aaf hil)) ?_;walk_at"ex";refine⟨_,rfl,λa H3 s3 ha h3=>?_⟩;refine⟨s3,a,rfl,?_⟩;rw[h3];unfold aJ;rw[abf,hr2];show _=some (HO.tup (iT ((r.2[i]?).getD .non)));rw[aaf hil];rfl
 have hu:=hr.in1.in1.units0;change Ψ _ _ _ [some (.ref p),some (.int i),some (.bl up),some (.ref fr)] H1;refine ξ (ϓ ?_);walk_at"ex";cases up with
 |true=>
  walk_at"t";refine ω (Κ ?_);refine JW (by rfl) n1 (by rfl) ?_;walk_at"ex";refine⟨p,fr,ws,_,_,rfl,rfl,η.of (s1 _ _ hp),by omega,NQ hR,hK _ _ rfl rfl,Kz hu hR,λpl H2 qq s2 hpl hS=>?_⟩;rw[hwl]at hS;exact q qq pl _ ((s1.trans s2).trans (ζ.upd hpl)) ((s1.trans s2).free hpl) hS υ
 |false=>
  walk_at"t";refine Δ (ω (Κ ?_));refine ahv (b:=true) (by rfl) n1 (by rfl) ?_;walk_at"ex";refine⟨rfl,p,fr,ws,_,_,rfl,rfl,η.of (s1 _ _ hp),by omega,NQ hR,hK _ _ rfl rfl,Kz hu hR,λpl H2 qq s2 hpl hS=>?_⟩;rw[hwl]at hS;exact q qq pl _ ((s1.trans s2).trans (ζ.upd hpl)) ((s1.trans s2).free hpl) hS υ
def cT(q:δ)(H H':Hp)(v:V)(r:Row):=∃t l,v=.ref t/\H t=none/\H l=none/\l≠q/\H' t=some (.tup [.int r.1,.ref l])/\H' l=some (.lst r.2)
theorem cT.row{q:δ}{H H':Hp}{v:V}{r:Row}(h:cT q H H' v r):cz H' v r:=by
 obtain⟨t,l,e,_,_,_,h1,h2⟩:=h;exact⟨t,l,e,h1,h2⟩
theorem cT.same{q:δ}{H H' H2:Hp}{v:V}{r:Row}(h:cT q H H' v r)(s:ζ H' H2):cT q H H2 v r:=by
 obtain⟨t,l,e,a,b,c,h1,h2⟩:=h;exact⟨t,l,e,a,b,c,s _ _ h1,s _ _ h2⟩
theorem cT.turn{q q2:δ}{H H':Hp}{v:V}{r:Row}(h:cT q H H' v r)(hq:H' q2=none):cT q2 H H' v r:=by
 obtain⟨t,l,e,a,b,c,h1,h2⟩:=h;exact⟨t,l,e,a,b,(λz=>by rw[z,hq]at h2;cases h2),h1,h2⟩
def Qh(K:Ϩ):Sp:=λvs H Q _=>∃(c b p:δ)(cs:List χ)(os:List Ord)(rs:List Row),vs=[.ref c,.ref b,.ref p]/\aK H c cs/\cV H b os/\nR H p rs/\cs.length<=6/\os.length<=6/\bh cs os/\rs.length<64/\(∀r∈rs,Μ cs r)/\(rs.map Prod.fst).Nodup/\H (aX K "sorted_by")=some (.tbl iM)/\
 ∀q ws ls H',ζ H H'->H q=none->H' q=some (.lst ws)->ψ (cT q H H') ws ls->Line cs os ls->ls.Perm rs->Q (.ref q) H'
theorem xX(T:Txt K mg)(hN:fZ K mg base "sorted_by"):Def P w K mg base true 8 "line_of" ["columns","order","rows"] (Qh K):=by
 refine Υ T.xX QX (λf Ϲ A outer s H vs Q E hr h=>?_);obtain⟨c,b,p,cs,os,rs,rfl,hC,⟨ov,hb,hov⟩,⟨ws,hp,hws⟩,hc6,cL,ϻ,h64,hfit,hnd,hP,q⟩:=h;have nd:=QX.nd;have n1:=T.qI;have n2:=T.Ru;have n3:=T.nZ;have hwl:=hws.len;have hol:=hov.len;have hsz:=ϲ;have cj:(["row","values"]:List Str).Nodup:=by decide+kernel
 have D1:= @zb P w K mg base T;have D2:= @ph P w K mg base T;have D3:Def P w K mg base true 6 "sorted_by" ["rows","place","up"] (Ef K):=BP T hN;refine ξ ?_;walk_at"s";refine JW (by rfl) n1 (by rfl) ?_;refine qH ["row","values"] (σ':=[none,none]) (by rfl) (by rfl) (b8 (ο tR) (by rfl) (by rfl) (by decide+kernel)) (by intro _;rfl) ?_;walk_at"ex";refine⟨p,ws,rfl,η.of hp,by omega,λτ=>∃o1 o2,τ=[o1,o2],λE2 k u H'=>∃r,rs[k]?=some r/\cT E2 H H' u r,⟨none,none,rfl⟩,λE2 k u H2 H3 ys hE hk p=>?_,λfp E2 C s3 H0 k τ x H4 H5 cI hi hτ Τ hys hG=>?_,λq0 H2 us hq0 hl2 hx2 e2 s2=>?_⟩
 .obtain⟨r,hr,t,l,e,h1,h2,h3,h4,h5⟩:=p;exact⟨r,hr,t,l,e,h1,h2,h3,hk _ _ (λz=>by rw[z,hE]at h4;cases h4) h4,hk _ _ h3 h5⟩
 .obtain⟨o1,o2,rfl⟩:=hτ;obtain⟨aY,rfl⟩:=hG;obtain⟨r,hr,t,l,rfl,ht,hl⟩:=hws.get aY;obtain⟨ys,hys⟩:=hys;refine cG (by rfl) (by rfl) (by rfl) (Β.of (Τ _ _ ht)) (by rfl) (ϛ (by rfl) (Ρ cj (by rfl) (.inl rfl) (.inr rfl) (ϛ (by rfl) (Ρ cj (by rfl) (.inl rfl) (.inr rfl) (cu ?_)))));walk_at"ex";refine jW (.inl (η.of (Τ _ _ hl))) λl2 hl2=>?_
  obtain⟨s5,e5⟩:=aO hl2 (.lst r.2);have nl:l2≠E2:=λe=>by rw[e,hys]at hl2;cases hl2
  generalize upd H4 l2 (.lst r.2)=H5 at s5 e5⊢;walk_at"ex";refine⟨by show 2<=Ϫ;omega,λt2 aL=>?_⟩;have s6:ζ H5 (upd H5 t2 (.tup [.int r.1,.ref l2])):=ζ.upd aL;exact⟨⟨_,_,rfl⟩,⟨r,hr,t2,l2,rfl,(Τ.trans s5).free aL,Τ.free hl2,nl,υ,s6 _ _ e5⟩,s5.trans s6⟩
 have hus:ψ (cT q0 H H2) us rs:=rD (by omega) λk r hr=>by
  have hk:k<us.length:=by have:=(aal.mp hr).1;omega
  obtain⟨r',hr',hn⟩:=hx2 k _ (aaf hk);rw[hr]at hr';cases hr';exact⟨_,aaf hk,hn⟩
 have wF:=hus.len;obtain⟨fa,hfa,tY⟩:=aai (σ:=[some (.ref c),some (.ref b),some (.ref p),none,none,none]) (X:=ϥ true P w K mg base Ii "line_of" (ο tR) f Ϲ A outer s H E) (H:=H2) (xs:=us) (KV:=Fi λi=>(rs.getD i (0,[])).1) D1 (hr.mono (show 1+2<=7 by decide)) (λi v H H' _ h=>h) (λi x H' hx sm=>by
  obtain⟨r,hr,t,l,rfl,_,_,_,ht,hl⟩:=hus.get hx;refine⟨t,r.1,.ref l,rfl,sm _ _ ht,ζ.refl _,?_⟩;show V.int r.1=V.int (rs.getD i (0,[])).1;rw[abf,hr];rfl)
 refine WW hfa (by rfl) (by decide) ?_;refine⟨q0,fa,us,_,_,rfl,rfl,η.of e2,by omega,aiC,tY,V7,λp1 H3 qq s3 hp1 hS=>?_⟩;rw[wF]at hS;have hout:ψ (cT p1 H (upd H3 p1 (.lst (bY us qq)))) (bY us qq) (gH rs qq):=(xP hus λi hi=>by rw[wF];exact j5 hS hi).imp λu r z=>((z.same s3).turn hp1).same (ζ.upd hp1)
 have hline:=aa2 (cs:=cs) hnd hS;have hperm:=JL hS;have cO:ζ H (upd H3 p1 (.lst (bY us qq))):=(s2.trans s3).trans (ζ.upd hp1);have Yj:H p1=none:=(s2.trans s3).free hp1;have m7:(upd H3 p1 (.lst (bY us qq))) p1=some (.lst (bY us qq)):=υ;generalize upd H3 p1 (.lst (bY us qq))=H4 at hout cO m7⊢;generalize bY us qq=w1 at hout m7;generalize gH rs qq=l1 at hout hline hperm;refine ξ (Q9 (by walk_at"po") (by rfl) (by rfl) n2 (by rfl) ?_);walk_at"ex";refine⟨b,ov,rfl,η.of (cO _ _ hb),λi σ H'=>(∃o4 o5 q1 w2 l2,σ=[some (.ref c),some (.ref b),some (.ref p),some (.ref q1),o4,o5]/\ζ H H'/\H q1=none/\H' q1=some (.lst w2)/\ψ (cT q1 H H') w2 l2/\Line cs (os.drop (os.length-i)) l2/\l2.Perm rs),?_,λi σ' H' _ hP'=>?_,λi x σ' H' hi hx hP'=>?_,λσ' H' hP'=>?_⟩
 .refine⟨none,none,p1,w1,l1,rfl,cO,Yj,m7,hout,?_,hperm⟩;rw[amY,am3];exact hline
 .obtain⟨_,_,_,_,_,_,sm,_⟩:=hP';exact η.of (sm _ _ hb)
 .obtain⟨o4,o5,q1,w2,l2,rfl,sm,hq1,Dw,hA,hL,az⟩:=hP';obtain⟨o,ho,t,rfl,ht⟩:=hov.get hx;have hio:=ϻ o (aaZ ho);have hlt:=vG hio;have hl2:l2.length=rs.length:=az.length_eq;have WX:=hA.len;have BX:∀r∈l2,Μ cs r:=λr hr=>hfit r (az.mem_iff.mp hr)
  refine cG (by rfl) (by rfl) (by rfl) (Β.of (sm _ _ ht)) (by rfl) (ϛ (by rfl) (Ρ nd (by rfl) (.inl rfl) (.inl rfl) (ϛ (by rfl) (Ρ nd (by rfl) (.inl rfl) (.inl rfl) (cu ?_)))));refine ω ?_;walk_at"s";walk_at"ex";refine⟨c,cs,o.1,rfl,hC.same sm,λH5 s5=>?_⟩;rw[yg 0 hio,alQ];walk_at"ex";refine⟨q1,Χ cs o.1,o.2,w2,l2,rfl,s5 _ _ Dw,hA.imp λu r z=>(z.same s5).row,by omega,λr hr=>by have:=(BX r hr).len;omega,ahk hio BX,s5 _ _ (sm _ _ hP),λqq pl H6 s6 hpl hS X8=>?_⟩;have uR:=(sm.trans s5).trans s6;have aev:H pl=none:=(sm.trans s5).free hpl;refine⟨_,_,pl,bY w2 qq,gH l2 qq,rfl,uR,aev,X8,(xP hA λi hi=>by rw[WX];exact j5 hS hi).imp λu r z=>?_,?_,(JL hS).trans az⟩
  .exact((z.same s5).turn hpl).same s6
  .have hdrop:os.drop (os.length-(i+1))=o::os.drop (os.length-i):=by
    have hk:os.length-(i+1)<os.length:=by omega
    rw[show ov.length-1-i=os.length-(i+1)by omega]at ho;rw[List.drop_eq_getElem_cons hk];have e1:=aaf hk;rw[ho]at e1;cases e1;rw[show os.length-(i+1)+1=os.length-i by omega]
   rw[hdrop];exact aeH (λo' ho'=>by
    obtain rfl|h:=ϴ.mp ho'
    .exact hio
    .exact ϻ _ (aiS h)) BX hL hS
 .obtain⟨o4,o5,q1,w2,l2,rfl,sm,hq1,Dw,hA,hL,az⟩:=hP';refine ω (Κ ?_);walk_at"ex";rw[hol,Nat.sub_self,ame]at hL;exact q q1 w2 l2 H' sm hq1 Dw hA hL az
def cU(B:Bk)(row:Int)(o:Option (List V)):Bk:=
 {B with rows:=(match o with|none=>bZ B.rows row|some xs=>bA B.rows row xs),touched:=(match o with|none=>bZ B.touched row|some _=>bA B.touched row (B.now+1)),
         done:=B.done++[⟨B.now+1,row,ύ B.rows row,o⟩],now:=B.now+1}
def o7(B:Bk):Prop:=B.rows.length<1000000/\B.touched.length<1000000/\B.done.length<1000000
def pC(B:Bk):=∀i,ύ B.rows i=none↔ύ B.touched i=none
abbrev cB(mg:Str->Option ε):δ:=θ mg "Book"
def kh(mg:Str->Option ε):Sp:=λvs H Q _=>∃(A:BA)(B:Bk)(row:Int)(v:V)(o:Option (List V)),vs=[.ref A.b,.int row,v]/\ Ο (cB mg) H A B/\jQ H v o/\(o=none->ύ B.rows row≠none/\ύ B.touched row≠none)/\o7 B/\
 ∀H',Out A.fp H H'->Ο (cB mg) H' A (cU B row o)->Q (.int (B.now+1)) H'
theorem Cr(T:Txt K mg):FD P w K mg base true 1 "do" "Book.do" qg ["self","row","values"] (kh mg):=by
 refine aG LQ (λf Ϲ A' outer s H vs Q E hr h=>?_);obtain⟨A,B,row,v,o,rfl,kB,hv,hno,⟨z1,z2,z3⟩,q⟩:=h;have nd:=LQ.nd;have hsz:=ϲ;have hc:=T.aH;have a1:=T.rA;have a2:=T.Gm;have a3:=T.Np;have a4:=T.Bb;have hu:_+1<cLine:=ah4 (ajc (by decide:1<=64) _) hr.units;have kR:=kB.rows;obtain⟨Ϸ,er,hR⟩:=id kR;obtain⟨tvs,et,hT⟩:=kB.touched;obtain⟨ds,ed,hD⟩:=kB.done;have kI:=kB.ins;refine ξ ?_;walk_at"s";refine acP hu (by constructor<;>rfl) ?_;refine aA (by rfl) ?_;walk_at"e";refine⟨A.b,_,_,_,_,rfl,kI,hc,a1,rfl,A.r,rfl,.inl ⟨_,.inl er⟩,?_⟩;walk_at"e";refine⟨_,ao.k (k:=Sum.inl row) er,?_⟩;have hw:jQ H ((ϟ Ϸ (Sum.inl row)).getD .non) (ύ B.rows row):=by
  obtain⟨e1,e2⟩|⟨u,x,e1,e2,r⟩:=iQ hR row
  .rw[e1,e2];rfl
  .rw[e1,e2];exact r
 generalize(ϟ Ϸ (Sum.inl row)).getD .non=wv at hw⊢;refine ξ (ad1 ?_);walk_at"e";refine⟨A.b,_,_,_,_,rfl,kI,hc,a4,rfl,?_⟩;walk_at"e";refine⟨_,_,rfl,rfl,_,_,kI,by show 6<1000;decide,?_⟩;have k1:=kB.acG B.known (B.now+1);have o1:Out A.fp H _:=Out.upd (H:=H) (a:=A.b) (o:=.ins (cB mg) A.dx [("heads",.ref A.h),("rows",.ref A.r),("touched",.ref A.t),("done",.ref A.d),("known",.int B.known),("now",.int (B.now+1))]) (by simp[BA.fp]);change Ψ _ _ _ _ (upd H A.b (.ins (cB mg) A.dx [("heads",.ref A.h),("rows",.ref A.r),("touched",.ref A.t),("done",.ref A.d),("known",.int B.known),("now",.int (B.now+1))]));generalize upd H A.b _=H1 at k1 o1⊢;have jw:=k1.ins;have fin:∀(H2:Hp)(B2:Bk),Out A.fp H H2->Ο (cB mg) H2 A B2->B2={cU B row o with done:=B.done}->Ψ (ϥ true P w K mg base Qe "Book.do" (ο qg) f Ϲ A' outer s H E) ((ϗ qg).drop 3) {nx:=λ_ H'=>Q .non H',rt:=Q} [some (.ref A.b),some (.int row),some v,some wv] H2:=by
  intro H2 B2 o2 k2 e2;have hB2:B2.now=B.now+1/\B2.done=B.done:=by rw[e2];exact⟨rfl,rfl⟩
  have jD:=k2.ins;obtain⟨Gn,Ha,hD2⟩:=k2.done;have st:=kB.tup o2;have hwv:=hw.stay st;have yz:=hv.stay st;have hl2:=hD2.len;rw[hB2.2]at hl2 hD2;rw[hB2.1]at jD;refine ξ (aQ (by rfl) (d8 F.plainAttrs_list F.slot_list_append F.type_list_append (h:=?_)));refine aA (by rfl) ?_;walk_at"e";refine⟨A.b,_,_,_,_,rfl,jD,hc,a3,rfl,.inl ⟨rfl,_,η.of Ha⟩,?_⟩;walk_at"go";refine aA (by rfl) ?_;walk_at"e";refine⟨A.b,_,_,_,_,rfl,jD,hc,a4,rfl,?_⟩;walk_at"go";refine⟨by show 4<=Ϫ;omega,λt ht=>?_⟩;obtain⟨au,jU⟩:=aO ht (.tup [.int (B.now+1),.int row,wv,v]);generalize upd H2 t (.tup [.int (B.now+1),.int row,wv,v])=H3 at au jU⊢;have k3:=k2.same au;walk_at"go";refine jA vf ⟨A.d,_,_,rfl,rfl,au _ _ Ha,by omega,?_⟩;have rM:ψ (mX H3) (Gn++[V.ref t]) (B.done++[⟨B.now+1,row,ύ B.rows row,o⟩]):=ψ.app (ψ.imp (λv d h=>h.stay λb ys e=>au _ _ e) hD2) (.cons ⟨t,wv,v,rfl,jU,hwv.stay λb ys e=>au _ _ e,yz.stay λb ys e=>au _ _ e⟩ .nil);have k4:=k3.VM rM;have o4:Out A.fp H _:=(o2.trans (Out.of au)).trans (Out.upd (H:=H3) (a:=A.d) (o:=.lst (Gn++[V.ref t])) (by simp[BA.fp]));generalize upd H3 A.d _=H4 at k4 o4⊢;have k4I:=k4.ins;refine ω (Κ ?_);refine aA (by rfl) ?_;walk_at"e";refine⟨A.b,_,_,_,_,rfl,k4I,hc,a4,rfl,?_⟩;have e4:{B2 with done:=B.done++[⟨B.now+1,row,ύ B.rows row,o⟩]}=cU B row o:=by rw[e2];rfl
  rw[e4]at k4;have:=q H4 o4 k4;show Q (.int B2.now) H4;rw[hB2.1];exact this
 obtain⟨uw,zm,vh⟩:=k1.rows;obtain⟨aj8,et1,hT1⟩:=k1.touched;have hrl:=vh.len;have htl:=hT1.len;have z1':uw.length<1000000:=by rw[hrl];exact z1
 cases o with
 |none=>
  have hv':v=.non:=hv;subst hv';obtain⟨g1,g2⟩:=hno rfl;refine ξ ?_;walk_at"go";refine BK (by constructor<;>rfl) ?_;refine aA (by rfl) ?_;walk_at"e";obtain⟨_,e2⟩|⟨u,x,e1,_,_⟩:=iQ vh row
  .exact absurd e2 g1
  refine⟨A.b,_,_,_,_,rfl,jw,hc,a1,rfl,A.r,rfl,.inl ⟨_,.inl zm⟩,?_⟩;walk_at"e";refine⟨uw,Sum.inl row,u,zm,rfl,e1,?_⟩;have k2:=k1.oZ (BR vh row);have o2:Out A.fp H _:=o1.trans (Out.upd (H:=H1) (a:=A.r) (o:=.dK (dN uw (Sum.inl row))) (by simp[BA.fp]));generalize upd H1 A.r _=H2 at k2 o2⊢;have jD:=k2.ins;obtain⟨pX,jU,hT2⟩:=k2.touched;refine ω (aQ (by rfl) (BK (by constructor<;>rfl) ?_));refine aA (by rfl) ?_;walk_at"e";obtain⟨_,e2⟩|⟨u2,x2,e3,_,_⟩:=iQ hT2 row
  .exact absurd e2 g2
  refine⟨A.b,_,_,_,_,rfl,jD,hc,a2,rfl,A.t,rfl,.inl ⟨_,.inl jU⟩,?_⟩;walk_at"e";refine⟨pX,Sum.inl row,u2,jU,rfl,e3,?_⟩;have k3:=k2.PB (BR hT2 row);have o3:Out A.fp H _:=o2.trans (Out.upd (H:=H2) (a:=A.t) (o:=.dK (dN pX (Sum.inl row))) (by simp[BA.fp]));generalize upd H2 A.t _=H3 at k3 o3⊢;exact fin H3 _ o3 k3 rfl
 |some xs=>
  obtain⟨t,rfl,ht⟩:=id hv;refine ξ ?_;walk_at"go";refine yQ hu (by rfl) ?_;walk_at"e";refine aA (by rfl) ?_;walk_at"e";refine⟨A.b,_,_,_,_,rfl,jw,hc,a1,rfl,?_⟩;walk_at"e";refine⟨A.r,_,rfl,iK.k (k:=Sum.inl row) zm (by omega),?_⟩;have k2:=k1.oZ (xZ vh row (v:=.ref t) (x:=xs) ⟨t,rfl,kB.tup o1 _ _ ht⟩);have o2:Out A.fp H _:=o1.trans (Out.upd (H:=H1) (a:=A.r) (o:=.dK (putK uw (Sum.inl row) (.ref t))) (by simp[BA.fp]));generalize upd H1 A.r _=H2 at k2 o2⊢;have jD:=k2.ins;obtain⟨pX,jU,hT2⟩:=k2.touched;have z2':pX.length<1000000:=by rw[hT2.len];exact z2
  refine ω (yQ hu (by rfl) ?_);refine aA (by rfl) ?_;walk_at"e";refine⟨A.b,_,_,_,_,rfl,jD,hc,a4,rfl,?_⟩;refine aA (by rfl) ?_;walk_at"e";refine⟨A.b,_,_,_,_,rfl,jD,hc,a2,rfl,?_⟩;walk_at"e";refine⟨A.t,_,rfl,iK.k (k:=Sum.inl row) jU (by omega),?_⟩;have k3:=k2.PB (xZ hT2 row (v:=.int (B.now+1)) (x:=B.now+1) rfl);have o3:Out A.fp H _:=o2.trans (Out.upd (H:=H2) (a:=A.t) (o:=.dK (putK pX (Sum.inl row) (.int (B.now+1)))) (by simp[BA.fp]));generalize upd H2 A.t _=H3 at k3 o3⊢;exact fin H3 _ o3 k3 rfl
theorem pY(T:Txt K mg):Def P w K mg base true 1 "is_whole" ["value"] ahf:=by
 refine Υ T.pY SN (λ_ _ _ _ _ H vs Q E hr h=>?_);obtain⟨v,rfl,hs,q⟩:=h;have n1:=T.Oi;have n2:=T.M4;have n3:=T.aes;refine ω (Κ ?_);cases v with
 |non=>
  walk_at"go";exact q
 |int i=>
  walk_at"go";exact q
 |str z=>
  walk_at"go";exact q
 |_=>cases hs
theorem zP(T:Txt K mg):Def P w K mg base true 2 "is_number_value" ["value"] adO:=by
 refine Υ T.zP aao (λ_ _ _ _ _ H vs Q E hr h=>?_);obtain⟨v,rfl,hs,q⟩:=h;have g1:=T.Qm;have D1:= @pY P w K mg base T;refine ω (Κ ?_);walk_at"go";refine⟨v,rfl,hs,?_⟩;walk_at"go";cases v with
 |int i=>
  refine iD (λ_=>?_) (λh=>by cases h);walk_at"go";refine Ι (λh=>?_) (λh=>?_)
  .walk_at "go";have e:isNum (.int i)=decide (i<=1000000000000000000):=by unfold isNum;simp[h]
   rw[e]at q;exact q
  .have e:isNum (.int i)=false:=by unfold isNum;simp[h]
   rw[e]at q;exact q
 |non=>exact iD (λh=>by cases h) (λ_=>q)
 |str z=>exact iD (λh=>by cases h) (λ_=>q)
 |_=>cases hs
theorem wj(T:Txt K mg):Def P w K mg base true 3 "is_value" ["kind","value"] ace:=by
 refine Υ T.wj aaw (λ_ _ _ _ _ H vs Q E hr h=>?_);obtain⟨k,v,rfl,hs,hz,q⟩:=h;have g1:=T.xV;have D1:= @zP P w K mg base T;have D2:= @u6 P w K mg base T;refine ξ ?_;walk_at"go";refine Ι (λh=>?_) (λh=>?_)
 .subst h;walk_at"go";exact q H (ζ.refl _)
 .walk_at "go";have ev:isVal k v=if k="number" then isNum v else fV v:=by cases v<;>first|rfl|exact absurd rfl h
  refine Ι (λh2=>?_) (λh2=>?_)
  .have h3:k="number":=by cases h2;rfl
   rw[if_pos h3]at ev;rw[ev]at q;walk_at"go";exact⟨v,rfl,hs,q H (ζ.refl _)⟩
  .have h3:¬k="number":=λe=>h2 (by rw[e])
   rw[if_neg h3]at ev;rw[ev]at q;walk_at"go";exact⟨v,rfl,hs,hz,q⟩
theorem yU(T:Txt K mg):Def P w K mg base true 2 "is_name" ["name"] Y9:=by
 refine Υ T.yU X7 (λ_ _ _ _ _ H vs Q E hr h=>?_);obtain⟨z,rfl,hz,q⟩:=h;have n1:=T.cJ;have g1:=T.ahq;have g2:=T.Vf;have hsz:=ϲ;have D1:= @qK P w K mg base T;refine ω (Κ ?_);walk_at"go";unfold isName at q;refine Ι (λh=>?_) (λh=>?_)
 .walk_at "go";refine Ι (λh2=>?_) (λh2=>?_)
  .walk_at "go";rw[decide_eq_true (show 1<=z.length/\z.length<=8 by omega)]at q;exact⟨z,_,rfl,hz,q⟩
  .rw[decide_eq_false (show ¬(1<=z.length/\z.length<=8)by omega)]at q;exact q H (ζ.refl _)
 .rw[decide_eq_false (show ¬(1<=z.length/\z.length<=8)by omega)]at q;walk_at"go";exact q H (ζ.refl _)
theorem adT(k a b:Str):fY (.str k) [.str a,.str b]=decide (k=a\/k=b):=by
 have e:∀a:Str,(a==k)=decide (k=a):=λa=>by rw[ahj,beq_iff_eq,decide_eq_true_iff];exact eq_comm
 show((a==k)||((b==k)||false))=_;rw[e,e,amR,Bool.decide_or]
theorem Ar(T:Txt K mg):Def P w K mg base true 3 "ask_columns" ["columns"] (aeS (.ref (θ mg "NoColumns"))):=by
 refine Υ T.Ar Ff (λf Ϲ A outer s H vs Q E hr h=>?_);obtain⟨a,cs,rfl,⟨vs,ha,hvs⟩,hcl,hsc,q⟩:=h;have n1:=T.cJ;have n2:=T.Fp;have g1:=T.Rm;have g2:=T.xV;have g3:=T.GJ;have nd:=Ff.nd;have hsz:=ϲ;have sa:η K H a vs:=.inl (.inl ha);have jy:=hvs.len;have D1:= @yU P w K mg base T;have cj:(["name","kind"]:List Str).Nodup:=by decide+kernel
 have bad:Ϡ cs=false->∀H',ζ H H'->E (.ref (θ mg "NoColumns")) (none,true) H':=λe H' sm=>by
  have:=q H' sm;rw[e]at this;exact this
 refine ξ ?_;walk_at"go";have Km:¬(1<=cs.length/\cs.length<=6)->Ϡ cs=false:=λh=>by
  unfold Ϡ;rw[decide_eq_false h];rfl
 refine Ι (λh1=>?_) (λh1=>?_)
 .walk_at "go";refine jo (λh2=>?_) (λh2=>?_)
  .refine ω (eZ Λ (by rfl) T.qj (by rfl) (by decide) (by rfl) (by rfl) ?_);walk_at"go";exact⟨by rw[hsz];simp,bad (Km (by omega)) H (ζ.refl _)⟩
  .refine Δ (ξ ?_);refine oU (by walk_at"po") (by rfl) (by intro _;rfl) ?_;walk_at"go";refine⟨a,vs,rfl,sa,λi σ H'=>(∃o1 o2 o3,σ=[some (.ref a),o1,o2,o3])/\ζ H H'/\∀k c,k<i->cs[k]?=some c->isName c.1=true/\ie c.2=true,⟨⟨none,none,none,rfl⟩,ζ.refl _,λk c hk=>by omega⟩,λi σ H' hi hP=>.inl (.inl (hP.2.1 _ _ ha)),λi x σ H' hx hP=>?_,λσ H' hP=>?_⟩
   .obtain⟨⟨o1,o2,o3,rfl⟩,sm,hn⟩:=hP;obtain⟨c,hc,t,rfl,ht⟩:=hvs.get hx;have hcm:=aaZ hc;have CV:=hsc c hcm;have Fd:¬(isName c.1&&ie c.2)=true->Ϡ cs=false:=λh=>by
     unfold Ϡ;have:(cs.all λc=>isName c.1&&ie c.2)=false:=by
      rw[aiU];intro e;exact h (aeE.mp e c hcm)
     rw[this,amK,akW]
    refine cG (by rfl) (by rfl) (by rfl) (Β.of (sm _ _ ht)) (by rfl) (ϛ (by rfl) (Ρ nd (by rfl) (.inl rfl) (.inl rfl) (ϛ (by rfl) (Ρ nd (by rfl) (.inl rfl) (.inl rfl) (cu ?_)))));refine ξ ?_;walk_at"go";refine⟨c.1,rfl,CV.1,λH2 Ζ =>?_⟩;walk_at"go";have sm3:=sm.trans Ζ;refine Dy (λh3=>?_) (λh3=>?_)
    .refine ω (eZ Λ (by rfl) T.qj (by rfl) (by decide) (by rfl) (by rfl) ?_);walk_at"go";refine lW ?_;walk_at"e";refine⟨c.1,rfl,by omega,_,4000,rfl,CV.1,by omega,?_⟩;walk_at"go";intro zz;walk_at"go";exact⟨by rw[hsz];simp,bad (Fd (by rw[h3];simp)) H2 sm3⟩
    .refine Δ (ω ?_);walk_at"go";refine⟨by show 2<=Ϫ;omega,λp hp=>?_⟩;have Τ :=sm3.trans (ζ.upd (o:=.tup [.str "number",.str "text"]) hp);refine Kg (Β.of υ) (by rfl) (by rfl) ?_;walk_at"go";have ek:fY (.str c.2) [.str "number",.str "text"]=ie c.2:=adT _ _ _;rw[ek];refine Dy (λh4=>?_) (λh4=>?_)
     .refine ω (eZ Λ (by rfl) T.qj (by rfl) (by decide) (by rfl) (by rfl) ?_);walk_at"go";refine lW ?_;walk_at"e";refine⟨c.2,rfl,by omega,_,4000,rfl,CV.2,by omega,?_⟩;walk_at"go";intro zz;walk_at"go";exact⟨by rw[hsz];simp,bad (Fd (by rw[h4];simp)) _ Τ⟩
     .refine Δ ⟨⟨_,_,_,rfl⟩,Τ,λk d hk hd=>?_⟩;by_cases e:k=i
      .subst e;rw[hc]at hd;cases hd;exact⟨h3,h4⟩
      .exact hn k d (by omega) hd
   .obtain⟨⟨o1,o2,o3,rfl⟩,sm,hn⟩:=hP;have hall:(cs.all λc=>isName c.1&&ie c.2)=true:=aeE.mpr λc hc=>by
     obtain⟨k,hk,e⟩:=alK hc;have:=hn k c (by rw[jy];exact hk) (by rw[<-e];exact aaf hk);rw[this.1,this.2];rfl
    have Eo:Ϡ cs=decide ((cs.map Prod.fst).Nodup):=by
     unfold Ϡ;rw[hall,decide_eq_true (show 1<=cs.length/\cs.length<=6 by omega)];rfl
    refine ξ ?_;refine mY ["name","kind"] (σ':=[none,none]) (by rfl) (by rfl) (by rfl) (b8 (ο vX) (by rfl) (by rfl) (by decide+kernel)) (by intro _;rfl) nd (by rfl) (by rfl) ?_;walk_at"go";refine⟨a,vs,rfl,.inl (.inl (sm _ _ ha)),by omega,λτ=>∃o1 o2,τ=[o1,o2],λE' i u H'=>∃c,cs[i]?=some c/\u=.str c.1,⟨none,none,rfl⟩,λE' i u H2 H3 ys _ _ p=>p,λfp E' C s3 H0 i τ x H2 H3 hE hi hτ Ζ hys hG=>?_,λE' H2 ys hE hl hx e2 Ζ =>?_⟩
    .obtain⟨o1,o2,rfl⟩:=hτ;obtain⟨hx,rfl⟩:=hG;obtain⟨c,hc,t,rfl,ht⟩:=hvs.get hx;refine cG (by rfl) (by rfl) (by rfl) (Β.of (Ζ _ _ (sm _ _ ht))) (by rfl) (ϛ (by rfl) (Ρ cj (by rfl) (.inl rfl) (.inr rfl) (ϛ (by rfl) (Ρ cj (by rfl) (.inl rfl) (.inr rfl) (cu ?_)))));walk_at"go";exact⟨⟨_,_,rfl⟩,⟨c,hc,rfl⟩,ζ.refl _⟩
    .have ey:=jb (ys:=cs) (λc=>V.str c.1) (by rw[hl,jy]) hx;have iW:ys=(cs.map Prod.fst).map V.str:=by rw[ey,ahl];rfl
     subst iW;have hnl:(cs.map Prod.fst).length<=4000:=by simp;omega
     have sm3:=sm.trans Ζ;refine ω ?_;walk_at"go";refine Fy (by rfl) (η.of e2) hnl λS hS=>?_
     walk_at"go";refine HQ υ hnl ?_;walk_at"go";refine CJ (.inl (η.of ((ζ.upd hS) _ _ e2))) ?_;walk_at"go";have Τ :=sm3.trans (ζ.upd (o:=jk (ϥ true P w K mg base Q7 "ask_columns" (ο vX) f Ϲ A outer s H E) S (cs.map Prod.fst)) hS);have HY:=Ai _ (cs.map Prod.fst) rfl;refine jo (λh5=>?_) (λh5=>?_)
     .refine ω (eZ Λ (by rfl) T.qj (by rfl) (by decide) (by rfl) (by rfl) ?_);walk_at"go";refine⟨by rw[hsz];simp,bad ?_ _ Τ⟩;rw[Eo];refine decide_eq_false λhd=>h5 ?_
      rw[HY.mpr hd];simp
     .refine Δ ?_;have:=q _ Τ;rw[Eo,if_pos]at this
      .exact this
      .refine decide_eq_true (HY.mp ?_);have h6:((bR (cs.map Prod.fst)).length:Int)=((cs.map Prod.fst).map V.str).length:=by injection h5
       rw[ϳ]at h6;omega
 .walk_at "go";refine(eZ Λ (by rfl) T.qj (by rfl) (by decide) (by rfl) (by rfl) ?_);walk_at"go";exact⟨by rw[hsz];simp,bad (Km (by omega)) H (ζ.refl _)⟩
theorem xr(T:Txt K mg):Def P w K mg base true 2 "is_row_number" ["row"] Uy:=by
 refine Υ T.xr Yl (λ_ _ _ _ _ H vs Q E hr h=>?_);obtain⟨v,rfl,hv,q⟩:=h;have g1:=T.ahD;have D1:= @pY P w K mg base T;refine ω (Κ ?_);walk_at"go";refine⟨v,rfl,hv,?_⟩;cases v with
 |int i=>
  change Q (.bl (decide (0<=i/\i<=1000000000))) H at q;rw[show jG (V.int i)=true from rfl];walk_at"go";refine Ι (λh=>?_) (λh=>?_)
  .walk_at "go";rw[show decide (0<=i/\i<=1000000000)=decide (i<=1000000000)from by rw[decide_eq_decide];omega]at q;exact q
  .walk_at "go";rw[decide_eq_false (show ¬(0<=i/\i<=1000000000)by omega)]at q;exact q
 |non=>
  rw[show jG V.non=false from rfl];walk_at"go";exact q
 |str z=>
  rw[show jG (V.str z)=false from rfl];walk_at"go";exact q
 |_=>cases hv
theorem Qo:∀{cs:List χ}{xs:List V}{bs:List Bool},xs.length=cs.length->bs.length=cs.length->(∀(i:Nat)(b:Bool),bs[i]?=some b->∃c x,cs[i]?=some c/\xs[i]?=some x/\b=isVal c.2 x)->bs.all id=lJ cs xs
 |[],[],[],_,_,_=>rfl
 |c::cs,x::xs,b::bs,h1,h2,h=>by
  obtain⟨c',x',e1,e2,e3⟩:=h 0 b rfl;cases e1;cases e2;rw[List.all_cons];unfold lJ;rw[Qo (by simpa using h1) (by simpa using h2) λi b e=>by simpa using h (i+1) b (by simpa using e)];rw[e3];rfl
 |[],_::_,_,h1,_,_=>by simp at h1
 |_::_,[],_,h1,_,_=>by simp at h1
 |[],[],_::_,_,h2,_=>by simp at h2
 |_::_,_::_,[],_,h2,_=>by simp at h2
theorem J8:∀{xs:List V},(∀(i:Nat) v,xs[i]?=some v->∃b,v=.bl b)->∃bs:List Bool,xs=bs.map V.bl
 |[],_=>⟨[],rfl⟩
 |x::xs,h=>by
  obtain⟨b,rfl⟩:=h 0 x rfl;obtain⟨bs,rfl⟩:=J8 (xs:=xs) λi v e=>h (i+1) v (by simpa using e)
  exact⟨b::bs,rfl⟩
theorem Dh(T:Txt K mg):Def P w K mg base true 4 "is_row" ["columns","row","values"] agl:=by
 refine Υ T.Dh Ib (λ_ _ _ _ _ H vs Q E hr h=>?_);obtain⟨a,cs,v,b,xs,rfl,⟨vs,ha,hvs⟩,hcl,hv,hb,hxs,q⟩:=h;have n1:=T.cJ;have n2:=T.JP;have n3:=T.adP;have hsz:=ϲ;have nd:=Ib.nd;have sa:η K H a vs:=.inl (.inl ha);have sb:η K H b xs:=.inl (.inl hb);have jy:=hvs.len;have D1:= @xr P w K mg base T;have D2:= @wj P w K mg base T;have cj:(["column","value"]:List Str).Nodup:=by decide+kernel
 unfold vL at q;refine ξ ?_;walk_at"go";refine⟨v,rfl,hv,?_⟩;walk_at"go";refine Dy (λh1=>?_) (λh1=>?_)
 .rw[h1,akW,akW]at q;walk_at"go";exact q H (ζ.refl _)
 .rw[h1,alA]at q;walk_at"go";refine jo (λh2=>?_) (λh2=>?_)
  .have h3:¬xs.length=cs.length:=λe=>h2 (by rw[jy,e])
   rw[decide_eq_false h3,akW]at q;walk_at"go";exact q H (ζ.refl _)
  .have h3:xs.length=cs.length:=by
    have:(xs.length:Int)=vs.length:=by injection h2
    omega
   rw[decide_eq_true h3,alA]at q;refine Δ (ω (Κ ?_));walk_at"e";walk_at"e";refine aet ["column","value"] (σ':=[none,none]) (by rfl) (by rfl) (b8 (ο Dq) (by rfl) (by rfl) (by decide+kernel)) (by rfl) n3 (by rfl) (by rfl) ?_;walk_at"go";refine⟨a,b,vs,xs,rfl,rfl,ha,hb,by omega,λτ=>∃o1 o2,τ=[o1,o2],λE' i u H'=>∃c x,cs[i]?=some c/\xs[i]?=some x/\u=.bl (isVal c.2 x),⟨none,none,rfl⟩,λE' i u H2 H3 ys _ _ p=>p,λfp E' C s3 H0 i τ x H2 H3 hE hi hτ sm hys hG=>?_,λE' H2 ys hE hl hx e2 sm=>?_⟩
   .obtain⟨o1,o2,rfl⟩:=hτ;obtain⟨T',y,u,rfl,hT,rfl,hy,hu⟩:=hG;obtain⟨c,hc,t,rfl,ht⟩:=hvs.get hy;have Ζ :ζ H2 (upd H2 T' (.tup [.ref t,u])):=ζ.upd hT;have eT:(upd H2 T' (.tup [.ref t,u])) T'=some (.tup [.ref t,u]):=υ;generalize upd H2 T' (.tup [.ref t,u])=H4 at Ζ eT⊢;refine cG (by rfl) (by rfl) (by rfl) (Β.of eT) (by rfl) (ϛ (by rfl) (Ρ cj (by rfl) (.inl rfl) (.inr rfl) (ϛ (by rfl) (Ρ cj (by rfl) (.inl rfl) (.inr rfl) (cu ?_)))));walk_at"go";refine aU (Β.of (Ζ _ _ (sm _ _ ht))) (show ϔ [V.str c.1,V.str c.2] 1=some (V.str c.2)from rfl) ?_;walk_at"go";have hu':=hxs u (aaZ hu);exact⟨c.2,u,rfl,hu'.1,hu'.2,λH5 j7=>⟨⟨_,_,rfl⟩,⟨c,u,hc,hu,rfl⟩,Ζ.trans j7⟩⟩
   .obtain⟨bs,rfl⟩:=J8 λi v e=>by
     obtain⟨c,x,_,_,e⟩:=hx i v e;exact⟨_,e⟩
    have RN:bs.length=cs.length:=by rw[ϳ]at hl;omega
    have eb:bs.all id=lJ cs xs:=Qo h3 RN λi b e=>by
     obtain⟨c,x,e1,e2,e3⟩:=hx i (.bl b) (by rw[aca,e];rfl);exact⟨c,x,e1,e2,by injection e3⟩
    walk_at"go";refine GF (by rfl) (η.of e2) ?_;rw[eb];exact q _ sm
def pM(cs:List χ)(row:Int)(xs:List V):Prop:=0<=row/\row<=1000000000/\ψ (λc x=>ϑ c.2 x) cs xs
theorem wW:∀c∈SG,c∈pq.cps.toList:=by decide+kernel
theorem ϑ.is{kd:Str}{v:V}(h:ϑ kd v):isVal kd v=true/\scalar v=true/\short v:=by
 obtain rfl|⟨h1,i,rfl,h2,h3⟩|⟨h1,z,rfl,h2,h3⟩:=h
 .exact⟨rfl,rfl,trivial⟩
 .refine⟨?_,rfl,trivial⟩;show(if kd="number" then isNum (.int i)else fV (.int i))=true;rw[if_pos h1];exact decide_eq_true ⟨h2,h3⟩
 .refine⟨?_,rfl,by show z.length<=4000;omega⟩;show(if kd="number" then isNum (.str z)else fV (.str z))=true;rw[if_neg h1];show(decide (z.length<=20)&&dC z _)=true;rw[decide_eq_true h2,alA];exact aeE.mpr λc hc=>decide_eq_true (wW c (h3 c hc))
theorem Qx{cs:List χ}{xs:List V}(h:ψ (λ(c:χ) x=>ϑ c.2 x) cs xs):lJ cs xs=true/\∀x∈xs,scalar x=true/\short x:=by
 induction h with
 |nil=>exact⟨rfl,λx hx=>by simp at hx⟩
 |cons h _ ih=>
  refine⟨?_,λx hx=>?_⟩
  .show(isVal _ _&&lJ _ _)=true;rw[h.is.1,ih.1];rfl
  .obtain e|e:=ϴ.mp hx
   .rw[e];exact h.is.2
   .exact ih.2 x e
theorem pM.ok{cs:List χ}{row:Int}{xs:List V}(h:pM cs row xs):vL cs (.int row) xs=true:=by
 unfold vL;rw[(Qx h.2.2).1,decide_eq_true h.2.2.len.symm];show(decide (0<=row/\row<=1000000000)&&true&&true)=true;rw[decide_eq_true ⟨h.1,h.2.1⟩];rfl
def oW(mg:Str->Option ε):Sp:=λvs H Q _=>∃(A:BA)(B:Bk)(row:Int)(b:δ)(xs:List V),vs=[.ref A.b,.int row,.ref b]/\ Ο (cB mg) H A B/\H b=some (.lst xs)/\B.heads.length<=6/\pM B.heads row xs/\∀H',ζ H H'->Q .non H'
theorem Jf(T:Txt K mg):FD P w K mg base true 5 "ask_row" "Book.ask_row" yx ["self","row","values"] (oW mg):=by
 refine aG Zc (λf Ϲ A' outer s H vs Q E hr h=>?_);obtain⟨A,B,row,b,xs,rfl,kB,hb,h6,hg,q⟩:=h;have D1:= @Dh P w K mg base T;have hc:=T.aH;have a1:=T.BZ;have kI:=kB.ins;refine ω ?_;walk_at"go";refine aA (by rfl) ?_;walk_at"e";refine⟨A.b,_,_,_,_,rfl,kI,hc,a1,rfl,?_⟩;walk_at"go";refine⟨A.h,B.heads,.int row,b,xs,rfl,kB.heads,by omega,rfl,hb,(Qx hg.2.2).2,λH' sm=>?_⟩;rw[hg.ok];walk_at"go";exact q H' sm
def qw(mg:Str->Option ε):Sp:=λvs H Q E=>∃(A:BA)(B:Bk)(row:Int),vs=[.ref A.b,.int row]/\ Ο (cB mg) H A B/\0<=row/\row<=1000000000/\
 (ύ B.rows row=none->∀e H',ζ H H'->H' e=some (.xd [("row",.int row)])->E (.ref (θ mg "Absent")) (some e,true) H')/\(ύ B.rows row≠none->Q .non H)
theorem O7(T:Txt K mg):FD P w K mg base true 3 "ask_there" "Book.ask_there" DG ["self","row"] (qw mg):=by
 refine aG aan (λf Ϲ A' outer s H vs Q E hr h=>?_);obtain⟨A,B,row,rfl,kB,r0,r1,bad,q⟩:=h;have hc:=T.aH;have a1:=T.rA;have kI:=kB.ins;have hu:_+1<cLine:=ah4 (ajc (by decide:1<=64) _) hr.units;obtain⟨Ϸ,er,hR⟩:=kB.rows;refine ω ?_;walk_at"go";refine aA (by rfl) ?_;walk_at"e";refine⟨A.b,_,_,_,_,rfl,kI,hc,a1,rfl,?_⟩;refine PL hu (ao.k (k:=Sum.inl row) er) ?_;obtain⟨e1,e2⟩|⟨u,x,e1,e2,_⟩:=iQ hR row
 .rw[show(ϟ Ϸ (Sum.inl row)).isSome=false by rw[e1];rfl,Bool.not_false];walk_at"go";refine(uJ (Y5 T (cc:=true)) hr (by decide) (λ_=>rfl) Λ (by rfl) (by rfl) (by decide) (by rfl) (by rfl) ?_);walk_at"go";exact⟨row,rfl,by omega,λe H' sm he=>bad e2 e H' sm he⟩
 .rw[show(ϟ Ϸ (Sum.inl row)).isSome=true by rw[e1];rfl,Bool.not_true];walk_at"go";exact q (by rw[e2];simp)
def zA(mg:Str->Option ε):Sp:=λvs H Q E=>∃(A:BA)(B:Bk)(row:Int)(b:δ)(xs:List V),vs=[.ref A.b,.int row,.ref b]/\ Ο (cB mg) H A B/\H b=some (.lst xs)/\B.heads.length<=6/\pM B.heads row xs/\o7 B/\
 (ύ B.rows row≠none->∀e H',ζ H H'->H' e=some (.xd [("row",.int row)])->E (.ref (θ mg "Twice")) (some e,true) H')/\
 (ύ B.rows row=none->∀H',Out A.fp H H'->Ο (cB mg) H' A (cU B row (some xs))->Q (.int (B.now+1)) H')
theorem Lf{X:Cx}{H:Hp}{Q:VK}{p:δ}{ys:List V}(h:η X.K H p ys)(g:∀l,H l=none->Q (.ref l) (upd H l (.tup ys))):CL X (.type "tuple") [.ref p] H Q:=cX aiy ⟨p,ys,rfl,.inl ⟨h,g⟩⟩
theorem afl(T:Txt K mg):FD P w K mg base true 6 "put" "Book.put" Bx ["self","row","values"] (zA mg):=by
 refine aG ahe (λf Ϲ A' outer s H vs Q E hr h=>?_);obtain⟨A,B,row,b,xs,rfl,kB,hb,h6,hg,hsm,bad,q⟩:=h;have M1:Ϣ P w K mg base true 5 (cB mg) "ask_row" ["self","row","values"] (oW mg):=(Jf T).meth T.aH T.Hu;have M2:Ϣ P w K mg base true 1 (cB mg) "do" ["self","row","values"] (kh mg):=(Cr T).meth T.aH T.xG;have hc:=T.aH;have n1:=T.La;have a1:=T.rA;have hu:_+1<cLine:=ah4 (ajc (by decide:1<=64) _) hr.units;refine ξ (aQ (by rfl) ?_);refine bO (pl:=_) hr Λ (h:=?_);walk_at"e";refine⟨A.b,cB mg,A.dx,_,true,5,_,oW mg,rfl,kB.ins,by rfl,M1,by decide,id,?_⟩;walk_at"go";refine⟨A,B,row,b,xs,rfl,kB,hb,h6,hg,λH1 sm=>?_⟩;have k1:=kB.same sm;have jw:=k1.ins;have hb1:=sm _ _ hb;obtain⟨Ϸ,er,hR⟩:=k1.rows;refine ξ ?_;walk_at"go";refine aA (by rfl) ?_;walk_at"e";refine⟨A.b,_,_,_,_,rfl,jw,hc,a1,rfl,?_⟩;refine aeY hu (ao.k (k:=Sum.inl row) er) ?_;obtain⟨e1,e2⟩|⟨u,x,e1,e2,_⟩:=iQ hR row
 .rw[show(ϟ Ϸ (Sum.inl row)).isSome=false by rw[e1];rfl];walk_at"go";refine bO (pl:=_) hr Λ (h:=?_);walk_at"e";refine⟨A.b,cB mg,A.dx,_,true,1,_,kh mg,rfl,jw,by rfl,M2,by decide,id,?_⟩;walk_at"go";refine Lf (η.of hb1) λt ht=>?_
  obtain⟨au,et⟩:=aO ht (.tup xs);generalize upd H1 t (.tup xs)=H2 at au et⊢;walk_at"go";refine⟨A,B,row,.ref t,some xs,rfl,k1.same au,⟨t,rfl,et⟩,(λe=>by cases e),hsm,λH3 o3 k3=>?_⟩;exact q e2 H3 ((Out.of (sm.trans au)).trans o3) k3
 .rw[show(ϟ Ϸ (Sum.inl row)).isSome=true by rw[e1];rfl];walk_at"go";refine(uJ (Vk T (cc:=true)) hr (by decide) (λ_=>rfl) Λ (by rfl) (by rfl) (by decide) (by rfl) (by rfl) ?_);walk_at"go";exact⟨row,rfl,by have:=hg.1;have:=hg.2.1;omega,λe H' Ζ he=>bad (by rw[e2];simp) e H' (sm.trans Ζ) he⟩
def Cm(mg:Str->Option ε):Sp:=λvs H Q E=>∃(A:BA)(B:Bk)(row:Int)(b:δ)(xs:List V),vs=[.ref A.b,.int row,.ref b]/\ Ο (cB mg) H A B/\H b=some (.lst xs)/\B.heads.length<=6/\pM B.heads row xs/\o7 B/\
 (ύ B.rows row=none->∀e H',ζ H H'->H' e=some (.xd [("row",.int row)])->E (.ref (θ mg "Absent")) (some e,true) H')/\
 (ύ B.rows row≠none->∀H',Out A.fp H H'->Ο (cB mg) H' A (cU B row (some xs))->Q (.int (B.now+1)) H')
theorem T9(T:Txt K mg):FD P w K mg base true 6 "change" "Book.change" xH ["self","row","values"] (Cm mg):=by
 refine aG adt (λf Ϲ A' outer s H vs Q E hr h=>?_);obtain⟨A,B,row,b,xs,rfl,kB,hb,h6,hg,hsm,bad,q⟩:=h;have M1:Ϣ P w K mg base true 5 (cB mg) "ask_row" ["self","row","values"] (oW mg):=(Jf T).meth T.aH T.Hu;have M2:Ϣ P w K mg base true 1 (cB mg) "do" ["self","row","values"] (kh mg):=(Cr T).meth T.aH T.xG;have M3:Ϣ P w K mg base true 3 (cB mg) "ask_there" ["self","row"] (qw mg):=(O7 T).meth T.aH T.Lr;have hc:=T.aH;have n1:=T.La;refine ξ (aQ (by rfl) ?_);refine bO (pl:=_) hr Λ (h:=?_);walk_at"e";refine⟨A.b,cB mg,A.dx,_,true,5,_,oW mg,rfl,kB.ins,by rfl,M1,by decide,id,?_⟩;walk_at"go";refine⟨A,B,row,b,xs,rfl,kB,hb,h6,hg,λH1 sm=>?_⟩;have k1:=kB.same sm;have jw:=k1.ins;have hb1:=sm _ _ hb;refine ξ (aQ (by rfl) ?_);refine bO (pl:=_) hr Λ (h:=?_);walk_at"e";refine⟨A.b,cB mg,A.dx,_,true,3,_,qw mg,rfl,jw,by rfl,M3,by decide,id,?_⟩;walk_at"go";refine⟨A,B,row,rfl,k1,hg.1,hg.2.1,λe2 e H' Ζ he=>bad e2 e H' (sm.trans Ζ) he,λe2=>?_⟩;refine ω (Κ ?_);refine bO (pl:=_) hr Λ (h:=?_);walk_at"e";refine⟨A.b,cB mg,A.dx,_,true,1,_,kh mg,rfl,jw,by rfl,M2,by decide,id,?_⟩;walk_at"go";refine Lf (η.of hb1) λt ht=>?_
 obtain⟨au,et⟩:=aO ht (.tup xs);generalize upd H1 t (.tup xs)=H2 at au et⊢;walk_at"go";refine⟨A,B,row,.ref t,some xs,rfl,k1.same au,⟨t,rfl,et⟩,(λe=>by cases e),hsm,λH3 o3 k3=>?_⟩;exact q e2 H3 ((Out.of (sm.trans au)).trans o3) k3
def zE(mg:Str->Option ε):Sp:=λvs H Q E=>∃(A:BA)(B:Bk)(row:Int),vs=[.ref A.b,.int row]/\ Ο (cB mg) H A B/\0<=row/\row<=1000000000/\o7 B/\pC B/\
 (ύ B.rows row=none->∀e H',ζ H H'->H' e=some (.xd [("row",.int row)])->E (.ref (θ mg "Absent")) (some e,true) H')/\
 (ύ B.rows row≠none->∀H',Out A.fp H H'->Ο (cB mg) H' A (cU B row none)->Q (.int (B.now+1)) H')
theorem agN(T:Txt K mg):FD P w K mg base true 4 "take" "Book.take" CZ ["self","row"] (zE mg):=by
 refine aG afF (λf Ϲ A' outer s H vs Q E hr h=>?_);obtain⟨A,B,row,rfl,kB,r0,r1,hsm,hwf,bad,q⟩:=h;have M2:Ϣ P w K mg base true 1 (cB mg) "do" ["self","row","values"] (kh mg):=(Cr T).meth T.aH T.xG;have M3:Ϣ P w K mg base true 3 (cB mg) "ask_there" ["self","row"] (qw mg):=(O7 T).meth T.aH T.Lr;refine ξ (aQ (by rfl) ?_);refine bO (pl:=_) hr Λ (h:=?_);walk_at"e";refine⟨A.b,cB mg,A.dx,_,true,3,_,qw mg,rfl,kB.ins,by rfl,M3,by decide,id,?_⟩;walk_at"go";refine⟨A,B,row,rfl,kB,r0,r1,bad,λe2=>?_⟩;refine ω (Κ ?_);refine bO (pl:=_) hr Λ (h:=?_);walk_at"e";refine⟨A.b,cB mg,A.dx,_,true,1,_,kh mg,rfl,kB.ins,by rfl,M2,by decide,id,?_⟩;walk_at"go";exact⟨A,B,row,.non,none,rfl,kB,rfl,λ_=>⟨e2,λz=>e2 ((hwf row).mpr z)⟩,hsm,q e2⟩
def lM(mg:Str->Option ε)(g:Bk->Int):Sp:=λvs H Q _=>∃(A:BA)(B:Bk),vs=[.ref A.b]/\ Ο (cB mg) H A B/\Q (.int (g B)) H
theorem Ah(T:Txt K mg):FD P w K mg base true 1 "moment" "Book.moment" Cu ["self"] (lM mg Bk.now):=by
 refine aG acr (λf Ϲ A' outer s H vs Q E hr h=>?_);obtain⟨A,B,rfl,kB,q⟩:=h;have hc:=T.aH;refine ω (Κ (aA (by rfl) ?_));walk_at"e";exact⟨A.b,_,_,_,_,rfl,kB.ins,hc,T.Bb,rfl,q⟩
def yE(mg:Str->Option ε):Sp:=λvs H Q _=>∃(A:BA)(B:Bk),vs=[.ref A.b]/\ Ο (cB mg) H A B/\∀p H',ζ H H'->H p=none->aK H' p B.heads->Q (.ref p) H'
theorem afs(T:Txt K mg):FD P w K mg base true 1 "columns" "Book.columns" ye ["self"] (yE mg):=by
 refine aG ac1 (λf Ϲ A' outer s H vs Q E hr h=>?_);obtain⟨A,B,rfl,kB,q⟩:=h;have hc:=T.aH;have n1:=T.nZ;obtain⟨vs,eh,hv⟩:=kB.heads;refine ω (Κ ?_);walk_at"go";refine aA (by rfl) ?_;walk_at"e";refine⟨A.b,_,_,_,_,rfl,kB.ins,hc,T.BZ,rfl,?_⟩;walk_at"go";refine jW (.inl (η.of eh)) λp hp=>?_
 have sm:=ζ.upd (H:=H) (o:=.lst vs) hp;exact q p _ sm hp ⟨vs,υ,ψ.imp (λv c ⟨t,e,h⟩=>⟨t,e,sm _ _ h⟩) hv⟩
theorem ag3{cs:List χ}(h:Ϡ cs=true):1<=cs.length/\cs.length<=6:=by
 unfold Ϡ at h;rw[aa3,aa3,decide_eq_true_eq]at h;exact h.1.1
theorem ad3{cs:List χ}(h:Ϡ cs=true):Nb cs:=by
 unfold Ϡ ie at h;rw[aa3,aa3,aeE]at h;intro c hc;have h1:=h.1.2 c hc;rw[aa3,decide_eq_true_eq]at h1;obtain⟨h2,h3⟩:=h1;unfold isName at h2;rw[aa3,decide_eq_true_eq]at h2;refine⟨by omega,?_⟩;obtain e|e:=h3<;>rw[e]
 .exact(by decide+kernel:("number":Str).length<=4000)
 .exact(by decide+kernel:("text":Str).length<=4000)
def aeZ(mg:Str->Option ε):Sp:=λvs H Q _=>∃(y dx a:δ)(cs:List χ),vs=[.ref y,.ref a]/\H y=some (.ins (cB mg) dx [])/\H dx=some (.own y)/\aK H a cs/\Ϡ cs=true/\
 ∀(H':Hp)(A:BA),A.b=y->A.dx=dx->H A.h=none->H A.r=none->H A.t=none->H A.d=none->Out [y] H H'->Ο (cB mg) H' A ⟨cs,[],[],[],0,0⟩->Q .non H'
theorem aeK(T:Txt K mg):FD P w K mg base true 4 "__init__" "Book.__init__" Ad ["self","columns"] (aeZ mg):=by
 refine aG acD (λf Ϲ A' outer s H vs Q E hr h=>?_);obtain⟨y,dx,a,cs,rfl,hy,hdx,hC,hok,q⟩:=h;have D1:= @Ar P w K mg base T;have hc:=T.aH;have n1:=T.nZ;have hsz:=ϲ;refine ξ ?_;walk_at"go";refine⟨a,cs,rfl,hC,by have:=ag3 hok;omega,ad3 hok,λH1 Ν =>?_⟩;rw[if_pos hok];obtain⟨vs,ha,hvs⟩:=hC;have hy1:=Ν _ _ hy;have Ht:dx≠y:=λe=>by rw[e,hy]at hdx;cases hdx
 refine ξ (dB (by rfl) ?_);walk_at"go";refine jW (.inl (η.of (Ν _ _ ha))) λh hh=>?_
 have wg:ζ H (upd H1 h (.lst vs)):=Ν.trans (ζ.upd hh);have eh:(upd H1 h (.lst vs)) h=some (.lst vs):=υ;have hn:H h=none:=Ν.free hh;generalize upd H1 h (.lst vs)=H2 at wg eh⊢;walk_at"e";refine⟨y,_,dx,_,rfl,wg _ _ hy,hc,T.BZ,by show 0<1000;decide,?_⟩;have yh:h≠y:=λe=>by rw[e,hy]at hn;cases hn
 have o3:Out [y] H (upd H2 y (.ins (cB mg) dx [("heads",.ref h)])):=(Out.of wg).trans (Out.upd (by simp));have Hn:(upd H2 y (.ins (cB mg) dx [("heads",.ref h)])) h=some (.lst vs):=by rw[ι yh];exact eh
 have zV:(upd H2 y (.ins (cB mg) dx [("heads",.ref h)])) y=some (.ins (cB mg) dx [("heads",.ref h)]):=υ;change Ψ _ _ _ _ (upd H2 y (.ins (cB mg) dx [("heads",.ref h)]));generalize upd H2 y (.ins (cB mg) dx [("heads",.ref h)])=H3 at o3 Hn zV⊢;have step:∀(H':Hp)(p:δ)(o o1:HO),H' y=some o1->Out [y] H H'->H' p=none->(H p=none/\p≠y/\∀fs,Out [y] H (upd (upd H' p o) y fs)/\(upd (upd H' p o) y fs) y=some fs/\(upd (upd H' p o) y fs) p=some o/\∀b u,b≠y->H' b=some u->b≠p/\(upd (upd H' p o) y fs) b=some u):=by
  intro H' p o o1 ey ho hp;have hpy:p≠y:=λe=>by rw[e,ey]at hp;cases hp
  have keep:∀fs b u,b≠y->H' b=some u->b≠p/\(upd (upd H' p o) y fs) b=some u:=λfs b u hb e=>by
   have J6:b≠p:=λz=>by rw[z,hp]at e;cases e
   refine⟨J6,?_⟩;rw[ι hb,ι J6];exact e
  refine⟨?_,hpy,λfs=>⟨λb u hb e=>?_,υ,by rw[ι hpy];exact υ,keep fs⟩⟩
  .cases e1:H p with
   |none=>rfl
   |some u=>
    have:=ho p u (by simpa using hpy) e1;rw[hp]at this;cases this
  .exact(keep fs b u (by simpa using hb) (ho b u hb e)).2
 refine ξ (dB (by rfl) ?_);refine Ds λr hr'=>?_
 walk_at"e";obtain⟨rn,ry,sr⟩:=step H3 r (.dK []) _ zV o3 hr';have ade:(upd H3 r (.dK [])) y=some (.ins (cB mg) dx [("heads",.ref h)]):=by rw[ι (Ne.symm ry)];exact zV
 refine⟨y,_,dx,_,rfl,ade,hc,T.rA,by show 1<1000;decide,?_⟩;obtain⟨o4,Du,Ho,k4⟩:=sr (.ins (cB mg) dx [("heads",.ref h),("rows",.ref r)]);change Ψ _ _ _ _ (upd (upd H3 r (.dK [])) y (.ins (cB mg) dx [("heads",.ref h),("rows",.ref r)]));have Ir:=(k4 _ _ yh Hn).2;generalize upd (upd H3 r (.dK [])) y (.ins (cB mg) dx [("heads",.ref h),("rows",.ref r)])=H4 at o4 Du Ho Ir⊢;refine ξ (dB (by rfl) ?_);refine Ds λt ht'=>?_
 walk_at"e";obtain⟨tn,ty,sr⟩:=step H4 t (.dK []) _ Du o4 ht';have abX:(upd H4 t (.dK [])) y=some (.ins (cB mg) dx [("heads",.ref h),("rows",.ref r)]):=by rw[ι (Ne.symm ty)];exact Du
 refine⟨y,_,dx,_,rfl,abX,hc,T.Gm,by show 2<1000;decide,?_⟩;obtain⟨o5,CT,Ju,k5⟩:=sr (.ins (cB mg) dx [("heads",.ref h),("rows",.ref r),("touched",.ref t)]);change Ψ _ _ _ _ (upd (upd H4 t (.dK [])) y (.ins (cB mg) dx [("heads",.ref h),("rows",.ref r),("touched",.ref t)]));have Lb:=(k5 _ _ yh Ir).2;obtain⟨rt,G9⟩:=k5 _ _ ry Ho;generalize upd (upd H4 t (.dK [])) y (.ins (cB mg) dx [("heads",.ref h),("rows",.ref r),("touched",.ref t)])=H5 at o5 CT Ju G9 Lb⊢;refine ξ (dB (by rfl) ?_);walk_at"go";refine⟨by show 0<=Ϫ;omega,λd hd'=>?_⟩;walk_at"e";obtain⟨dn,dy,sr⟩:=step H5 d (.lst []) _ CT o5 hd';have ab9:(upd H5 d (.lst [])) y=some (.ins (cB mg) dx [("heads",.ref h),("rows",.ref r),("touched",.ref t)]):=by rw[ι (Ne.symm dy)];exact CT
 refine⟨y,_,dx,_,rfl,ab9,hc,T.Np,by show 3<1000;decide,?_⟩;obtain⟨o6,G7,EY,k6⟩:=sr (.ins (cB mg) dx [("heads",.ref h),("rows",.ref r),("touched",.ref t),("done",.ref d)]);change Ψ _ _ _ _ (upd (upd H5 d (.lst [])) y (.ins (cB mg) dx [("heads",.ref h),("rows",.ref r),("touched",.ref t),("done",.ref d)]));obtain⟨hd2,Fo⟩:=k6 _ _ yh Lb;obtain⟨_,O9⟩:=k6 _ _ ry G9;obtain⟨_,HF⟩:=k6 _ _ ty Ju;generalize upd (upd H5 d (.lst [])) y (.ins (cB mg) dx [("heads",.ref h),("rows",.ref r),("touched",.ref t),("done",.ref d)])=H6 at o6 G7 EY HF O9 Fo⊢;refine ξ (dB (by rfl) ?_);walk_at"e";walk_at"e";refine⟨y,_,dx,_,rfl,G7,hc,T.Rw,by show 4<1000;decide,?_⟩;refine ω (dB (by rfl) ?_);walk_at"e";walk_at"e";refine⟨y,_,dx,_,rfl,υ,hc,T.Bb,by show 5<1000;decide,?_⟩;have fin:∀b u,b≠y->H6 b=some u->(upd (upd H6 y (.ins (cB mg) dx [("heads",.ref h),("rows",.ref r),("touched",.ref t),("done",.ref d),("known",.int 0)])) y (.ins (cB mg) dx [("heads",.ref h),("rows",.ref r),("touched",.ref t),("done",.ref d),("known",.int 0),("now",.int 0)])) b=some u:=λb u hb e=>by
  rw[ι hb,ι hb];exact e
 have Ec:∀t' ys,H t'=some (.tup ys)->t'≠y:=λt' ys e z=>by rw[z,hy]at e;cases e
 refine q (upd (upd H6 y (.ins (cB mg) dx [("heads",.ref h),("rows",.ref r),("touched",.ref t),("done",.ref d),("known",.int 0)])) y (.ins (cB mg) dx [("heads",.ref h),("rows",.ref r),("touched",.ref t),("done",.ref d),("known",.int 0),("now",.int 0)])) ⟨y,dx,h,r,t,d⟩ rfl rfl hn rn tn dn (λb u hb e=>fin b u (by simpa using hb) (o6 b u hb e)) ?_;refine⟨υ,fin _ _ Ht (o6 _ _ (by simpa using Ht) hdx),⟨vs,fin _ _ yh Fo,ψ.imp (λv c ⟨u,e,hu⟩=>⟨u,e,fin _ _ (Ec _ _ hu) (o6 _ _ (by simpa using Ec _ _ hu) hu)⟩) hvs⟩,⟨[],fin _ _ ry O9,.nil⟩,⟨[],fin _ _ ty HF,.nil⟩,⟨[],fin _ _ dy EY,.nil⟩,rt,hd2⟩
def Cz(H0 H:Hp)(v:V)(p:Int×List V):=∃t l,v=.ref t/\H t=some (.tup [.int p.1,.ref l])/\H l=some (.lst p.2)/\H0 l=none/\H0 t=none
def bw(rows:List (Int×List V))(ks:List Int):List (Int×List V):=ks.map λk=>(k,(ύ rows k).getD [])
def YB(C:Unit):Sp:=λvs H Q _=>∃(a:δ)(rows:List (Int×List V)),vs=[.ref a]/\DictAt (TupAt H) H a rows/\rows.length<64/\∀p ys ks H',ζ H H'->H p=none->ks.Perm (rows.map (·.1))->ks.Pairwise (· <= ·)->H' p=some (.lst ys)->ψ (Cz H H') ys (bw rows ks)->Q (.ref p) H'
theorem Ca(T:Txt K mg):Def P w K mg base true 1 "told_rows" ["rows"] (YB ()):=by
 refine Υ T.Ca aa9 (λ_ _ _ _ _ H vs Q E hr h=>?_);obtain⟨a,rows,rfl,⟨Ϸ,ea,hR⟩,hl,q⟩:=h;have n1:=T.qI;have n2:=T.nZ;have hsz:=ϲ;have hu:_+1<cLine:=ah4 (ajc (by decide:1<=64) _) hr.units;have Uv:(["row","rows"]:List Str).Nodup:=by decide+kernel
 refine ω (Κ ?_);refine qH ["row","rows"] (σ':=[none,some (.ref a)]) (by rfl) (by rfl) (b8 (ο Aj) (by rfl) (by rfl) (by decide+kernel)) (by intro _;rfl) ?_;refine Az (by rfl) n1 (by rfl) (by rfl) ?_;walk_at"go";refine Bl (ks:=rows.map (·.1)) (by rfl) ea (yq hR) (by rw[ϳ];exact hl) λL ks hL hp hs=>?_
 obtain⟨bJ,eL⟩:=aO hL (.lst (ks.map V.int));generalize upd H L (.lst (ks.map V.int))=H1 at bJ eL⊢;have hkl:ks.length=rows.length:=by rw[hp.length_eq,ϳ]
 have hkm:(ks.map V.int).length=ks.length:=ϳ ..;refine⟨L,_,rfl,η.of eL,by omega,λτ=>∃o1,τ=[o1,some (.ref a)],λE2 i u H'=>∃k t l,ks[i]?=some k/\u=.ref t/\t≠E2/\l≠E2/\H' t=some (.tup [.int k,.ref l])/\H' l=some (.lst ((ύ rows k).getD []))/\H l=none/\H t=none,⟨none,rfl⟩,λE2 i u H2 H3 ys y1 y2 y3=>?_,λfp E2 C s3 H0 i τ x H4 H3 cI hi hτ Τ hys hG=>?_,λL2 H2 ys hL2 hl2 hx2 e2 Ζ =>?_⟩
 .obtain⟨k,t,l,z1,z2,z3,z4,z5,z6,z7,z8⟩:=y3;exact⟨k,t,l,z1,z2,z3,z4,y2 _ _ z3 z5,y2 _ _ z4 z6,z7,z8⟩
 .obtain⟨o1,rfl⟩:=hτ;obtain⟨hx,rfl⟩:=hG;have Od:i<ks.length:=by rw[hkm]at hi;exact hi
  have hk:ks[i]?=some ks[i]:=aaf Od;rw[aca,hk]at hx;have hx':x=.int ks[i]:=by simpa using hx.symm
  subst hx';have hmem:ks[i]∈rows.map (·.1):=hp.mem_iff.mp (aid Od);have sY:=bJ.trans Τ;have ea4:=sY _ _ ea;refine Ρ Uv (by rfl) (.inl rfl) (.inr rfl) ?_;walk_at"go";rcases iQ hR ks[i]with⟨_,e3⟩|⟨u,xs,e1,e3,t0,rfl,ht0⟩
  .exact absurd hmem (J7.mp e3)
  have g4:=ao.k (k:=Sum.inl ks[i]) ea4;rw[e1]at g4;refine xg hu g4 ?_;walk_at"go";refine jW (.inr (Β.of (sY _ _ ht0))) λl sX=>?_
  obtain⟨uO,el⟩:=aO sX (.lst xs);generalize upd H4 l (.lst xs)=H5 at uO el⊢;walk_at"go";refine⟨by show 2<=Ϫ;omega,λt ht=>?_⟩;have au:ζ H5 (upd H5 t (.tup [.int ks[i],.ref l])):=ζ.upd ht;obtain⟨ys0,hE⟩:=hys;refine⟨⟨_,rfl⟩,⟨ks[i],t,l,hk,rfl,λe=>?_,λe=>?_,υ,?_,sY.free sX,(sY.trans uO).free ht⟩,uO.trans au⟩
  .rw[e,uO _ _ hE]at ht;cases ht
  .rw[e,hE]at sX;cases sX
  .rw[e3];exact au _ _ el
 .refine q L2 ys ks H2 (bJ.trans Ζ) (bJ.free hL2) hp hs e2 (rD (R:=λv p=>Cz H H2 v p) (l:=ys) (m:=bw rows ks) (by unfold bw;rw[ϳ,hl2,hkm]) λi p hp'=>?_);unfold bw at hp';rw[aca]at hp';have hi:i<ys.length:=by
   rw[hl2,hkm];cases e:ks[i]? with
   |none=>rw[e]at hp';cases hp'
   |some k=>exact(aal.mp e).1
  have hy:ys[i]?=some ys[i]:=aaf hi;obtain⟨k,t,l,z1,z2,z3,z4,z5,z6,z7,z8⟩:=hx2 i _ hy;rw[z1]at hp';have hp2:p=(k,(ύ rows k).getD []):=by simpa using hp'.symm
  rw[hp2];exact⟨_,hy,t,l,z2,z5,z6,z7,z8⟩
def zu(mg:Str->Option ε):Sp:=λvs H Q _=>∃(A:BA)(B:Bk),vs=[.ref A.b]/\ Ο (cB mg) H A B/\B.rows.length<64/\∀p ys ks H',ζ H H'->H p=none->ks.Perm (B.rows.map (·.1))->ks.Pairwise (· <= ·)->H' p=some (.lst ys)->ψ (Cz H H') ys (bw B.rows ks)->Q (.ref p) H'
theorem Uh(T:Txt K mg):FD P w K mg base true 2 "now_rows" "Book.now_rows" xx ["self"] (zu mg):=by
 refine aG ae8 (λf Ϲ A' outer s H vs Q E hr h=>?_);obtain⟨A,B,rfl,kB,hl,q⟩:=h;have D1:= @Ca P w K mg base T;refine ω (Κ ?_);walk_at"go";refine aA (by rfl) ?_;walk_at"e";refine⟨A.b,_,_,_,_,rfl,kB.ins,T.aH,T.rA,rfl,?_⟩;walk_at"go";exact⟨A.r,B.rows,rfl,kB.rows,hl,q⟩
theorem ϑ.word{kd:Str}{v:V}(h:ϑ kd v)(hk:kd="number"\/kd="text"):cR kd (wordOf v)=some v/\(wordOf v).length<=21/\32∉(wordOf v).cps.toList/\¬wordOf v=Str.ofString "*"/\(∀c∈(wordOf v).cps.toList,c<1114112):=by
 obtain rfl|⟨hn,i,rfl,h1,h2⟩|⟨hn,z,rfl,hl,hz⟩:=h
 .refine⟨?_,by decide+kernel,by decide+kernel,by decide+kernel,by decide+kernel⟩;unfold cR;rw[if_pos (show wordOf .non=Str.ofString "?" from rfl)]
 .subst hn;have hf:=yJ i;refine⟨agd h1 h2,?_,λh=>?_,λh=>?_,λc hc=>?_⟩
  .have :=af3 (i:=i) (k:=19) (by decide) (by omega);show(Str.ofString (toString i)).length<=21;omega
  .have :=hf 32 h;omega
  .have h':Str.ofString (toString i)=Str.ofString "*":=h;have e:("*":Str).cps.toList=[42]:=by decide+kernel
   have:=hf 42 (by rw[h',e];simp);omega
  .have :=hf c hc;omega
 .have hk':kd="text":=hk.resolve_left hn;subst hk';have e1:("'":Str).length=1:=by decide+kernel
  have e3:=len_app ("'":Str) z;have hsg:∀c∈SG,¬c=32/\c<1114112:=by decide+kernel
  have hmem:∀c∈(Str.ofString "'"++z).cps.toList,c=39\/c∈SG:=λc hc=>by
   rw[c7,sS]at hc;obtain h|h:=afw.mp hc
   .exact .inl (by simpa using h)
   .exact .inr (hz c h)
  refine⟨Zd hl hz,by show(Str.ofString "'"++z).length<=21;omega,λh=>?_,λh=>?_,λc hc=>?_⟩
  .obtain e|e:=hmem 32 h
   .omega
   .exact(hsg 32 e).1 rfl
  .have h':Str.ofString "'"++z=Str.ofString "*":=h;have e:("*":Str).cps.toList=[42]:=by decide+kernel
   have h0:(Str.ofString "'"++z).cps.toList[0]?=some 39:=by rw[c7,sS];rfl
   rw[h',e]at h0;simp at h0
  .obtain e|e:=hmem c hc
   .omega
   .exact(hsg c e).2
def plainS(z:Str):=∀c∈z.cps.toList,32<=c/\c<=122/\c≠46/\c≠47
theorem plainS.app{a b:Str}(h:plainS a)(g:plainS b):plainS (a++b):=λc hc=>by
 rw[c7]at hc;obtain hc|hc:=afw.mp hc
 .exact h c hc
 .exact g c hc
theorem XQ:∀c∈SG,32<=c/\c<=122/\c≠46/\c≠47:=by decide+kernel
theorem aax(i:Int):plainS (Str.ofString (toString i)):=λc hc=>by
 have:=yJ i c hc;omega
theorem ϑ.plain{kd:Str}{v:V}(h:ϑ kd v):plainS (wordOf v):=by
 obtain rfl|⟨hn,i,rfl,h1,h2⟩|⟨hn,z,rfl,hl,hz⟩:=h
 .unfold plainS;decide+kernel
 .exact aax i
 .refine plainS.app (a:=Str.ofString "'") ?_ λc hc=>XQ c (hz c hc)
  unfold plainS;decide+kernel
theorem Es{z:Str}(h:isName z=true):plainS z:=by
 unfold isName at h;rw[aa3]at h;intro c hc;have h2:=h.2;unfold dC at h2;rw[aeE]at h2;have h3:=of_decide_eq_true (h2 c hc);have key:∀c∈Mj.cps.toList,32<=c/\c<=122/\c≠46/\c≠47:=by decide+kernel
 exact key c h3
theorem xT:∀ps:List Str,(Str.join " " ps).length<=(ps.map (·.length)).sum+ps.length
 |[]=>by show(0:Nat)<=_;omega
 |[p]=>by
  show p.length<=_;simp
 |p::q::r=>by
  have ih:=xT (q::r);have lb:(" ":Str).length=1:=by decide+kernel
  show(p++Str.ofString " "++Str.join " " (q::r)).length<=_;rw[len_app,len_app,lb];simp only[List.map_cons,List.sum_cons,List.length_cons]at ih⊢;omega
theorem Hg(ps:List Str)(n:Nat)(h:∀p∈ps,p.length<=n):(ps.map (·.length)).sum<=ps.length*n:=by
 induction ps with
 |nil=>simp
 |cons p ps ih=>
  have h1:=ih λx hx=>h x (by simp[hx])
  have h2:=h p (by simp);simp only[List.map_cons,List.sum_cons,List.length_cons,Nat.succ_mul];omega
theorem Bv{z:Str}(h:isName z=true):z.length<=8:=by
 unfold isName at h;rw[aa3]at h;exact(of_decide_eq_true h.1).2
theorem tW{cs:List χ}(hc:Ϡ cs=true){z:Str}(hz:z∈cs.map Prod.fst):isName z=true:=by
 obtain⟨c,hcm,e⟩:=acR.mp hz;unfold Ϡ at hc;simp only[aa3,aeE]at hc;rw[<-e];exact(hc.1.2 c hcm).1
def eO(nm:Nat->Str):b7->List Str
 |.all=>["all"]
 |.none p=>["none",nm p]
 |.look l p v=>[kJ l,nm p,wordOf v]
def wT(nm:Nat->Str):Tr->List Str
 |.one s=>eO nm s
 |.nt t=>"not"::wT nm t
 |.bo t u=>"both"::(wT nm t++wT nm u)
 |.ei t u=>"either"::(wT nm t++wT nm u)
def Γ(cs:List χ)(p:Nat):Str:=match cs[p]? with
 |some c=>c.1
 |none=>Str.ofString ""
def uN(cs:List χ):b7->Prop
 |.all=>True
 |.none p=>p<cs.length
 |.look l p v=>∃c,cs[p]?=some c/\ϑ c.2 v/\v≠.non/\(l=.holds->c.2="text")
def dZ(cs:List χ):Tr->Prop
 |.one s=>uN cs s
 |.nt t=>dZ cs t
 |.bo t u=>dZ cs t/\dZ cs u
 |.ei t u=>dZ cs t/\dZ cs u
def ZZ(nm:Nat->Str)(ws:List Str)(t:Tr)(s:Nat):=∃post,ws.drop s=wT nm t++post
theorem drop_cons{α:Type}{ws r:List α}{s:Nat}{x:α}(h:ws.drop s=x::r):ws[s]?=some x/\ws.drop (s+1)=r:=by
 have hs:s<ws.length:=by
  have h2:(ws.drop s).length=(x::r).length:=by rw[h]
  rw[agL,List.length_cons]at h2;omega
 rw[List.drop_eq_getElem_cons hs]at h;injection h with h1 h2
 exact⟨by rw[aaf hs,h1],h2⟩
theorem Og{α:Type}{ws a r:List α}{s:Nat}(h:ws.drop s=a++r):ws.drop (s+a.length)=r:=by
 rw[<-anl,h];simp
theorem J9{α:Type}{ws a r:List α}{s:Nat}(h:ws.drop s=a++r)(ha:a≠[]):s+a.length<=ws.length:=by
 have h2:(ws.drop s).length=(a++r).length:=by rw[h]
 rw[agL,abo]at h2;have:0<a.length:=amM.mpr ha;omega
theorem tH(nm:Nat->Str)(s:b7):eO nm s≠[]:=by cases s<;>simp[eO]
theorem aii(nm:Nat->Str)(t:Tr):wT nm t≠[]:=by
 cases t with
 |one s=>exact tH nm s
 |nt t=>simp[wT]
 |bo t u=>simp[wT]
 |ei t u=>simp[wT]
theorem Nq:∀{cs:List χ}{p:Nat}{c:χ},(cs.map Prod.fst).Nodup->cs[p]?=some c->Χ cs c.1=p
 |d::r,0,c,hn,e=>by
  have:d=c:=by simpa using e
  subst this;show(if d.1=d.1 then 0 else Χ r d.1+1)=0;rw[if_pos rfl]
 |d::r,p+1,c,hn,e=>by
  have e':r[p]?=some c:=by simpa using e
  have hn':=aj2.mp hn;have Ϻ:¬d.1=c.1:=λz=>hn'.1 (by rw[z];exact acR.mpr ⟨c,aaZ e',rfl⟩)
  show(if d.1=c.1 then 0 else Χ r c.1+1)=p+1;rw[if_neg Ϻ,Nq hn'.2 e']
theorem tO{cs:List χ}{p:Nat}{c:χ}(e:cs[p]?=some c):Γ cs p=c.1:=by
 unfold Γ;rw[e]
theorem MJ{cs:List χ}(hn:(cs.map Prod.fst).Nodup){ws:List Str}{p s:Nat}{c:χ}(hp:cs[p]?=some c)(hs:s<60)(e:ws[s]?=some c.1):di cs ws s=some p:=by
 unfold di;rw[if_pos hs,e];show(if cs.any (λd=>decide (d.1=c.1))=true then some (Χ cs c.1)else none)=some p;rw[if_pos (by rw[alG];exact⟨c,aaZ hp,decide_eq_true rfl⟩),Nq hn hp]
theorem afB{cs:List χ}(hok:Ϡ cs=true){ws post:List Str}{s:Nat}:∀{sv:b7},ws.drop s=eO (Γ cs) sv++post->s+(eO (Γ cs) sv).length<=60->uN cs sv->oh cs ws s sv (s+(eO (Γ cs) sv).length)
 |.all,e,hl,_=>⟨(drop_cons (r:=post) e).1,rfl⟩
 |.none p,e,hl,hg=>by
   have hn:(cs.map Prod.fst).Nodup:=by
    unfold Ϡ at hok;simp only[aa3,decide_eq_true_eq]at hok;exact hok.2
   obtain⟨e1,e2⟩:=drop_cons (r:=[Γ cs p]++post) e;obtain⟨e3,_⟩:=drop_cons (r:=post) e2;have gJ:=J9 e (tH (Γ cs) (.none p));have hl':s+2<=60:=hl;have hp:cs[p]?=some cs[p]:=aaf hg;rw[tO hp]at e3;exact⟨e1,gJ,MJ hn hp (by omega) e3,rfl⟩
 |.look l p v,e,hl,hg=>by
   have hn:(cs.map Prod.fst).Nodup:=by
    unfold Ϡ at hok;simp only[aa3,decide_eq_true_eq]at hok;exact hok.2
   obtain⟨c,hc,hv,Ϻ,hh⟩:=hg;obtain⟨e1,e2⟩:=drop_cons (r:=[Γ cs p,wordOf v]++post) e;obtain⟨e3,e4⟩:=drop_cons (r:=[wordOf v]++post) e2;obtain⟨e5,_⟩:=drop_cons (r:=post) e4;have gJ:=J9 e (tH (Γ cs) (.look l p v));have hl':s+3<=60:=hl;rw[tO hc]at e3;have hk:c.2="number"\/c.2="text":=by
    unfold Ϡ at hok;simp only[aa3,aeE]at hok;have:=(hok.1.2 c (aaZ hc)).2;unfold ie at this;exact of_decide_eq_true this
   exact⟨gJ,by omega,e1,MJ hn hc (by omega) e3,⟨c,_,hc,hh,e5,(hv.word hk).1⟩,Ϻ,rfl⟩
theorem lO{cs:List χ}(hok:Ϡ cs=true){ws:List Str}:∀{t:Tr}{s:Nat},ZZ (Γ cs) ws t s->s+(wT (Γ cs) t).length<=60->dZ cs t->Reads cs ws t s (s+(wT (Γ cs) t).length)
 |.one sv,s,e,hl,hg=>by
   obtain⟨post,e⟩:=e;have hp:0<(eO (Γ cs) sv).length:=amM.mpr (tH (Γ cs) sv);have hl':s+(eO (Γ cs) sv).length<=60:=hl;exact⟨by omega,afB hok e hl hg⟩
 |.nt t,s,e,hl,hg=>by
   obtain⟨post,e⟩:=e;obtain⟨e1,e2⟩:=drop_cons (r:=wT (Γ cs) t++post) e;have hl':s+((wT (Γ cs) t).length+1)<=60:=hl;refine⟨by omega,e1,?_⟩;have:=lO hok (t:=t) ⟨post,e2⟩ (by omega) hg;have e3:s+(wT (Γ cs) (.nt t)).length=s+1+(wT (Γ cs) t).length:=by show s+((wT (Γ cs) t).length+1)=_;omega
   rw[e3];exact this
 |.bo t u,s,e,hl,hg=>by
   obtain⟨post,e⟩:=e;obtain⟨e1,e2⟩:=drop_cons (r:=(wT (Γ cs) t++wT (Γ cs) u)++post) e;rw[amm]at e2;have e4:=Og e2;have hl2:(wT (Γ cs) (.bo t u)).length=(wT (Γ cs) t).length+(wT (Γ cs) u).length+1:=by show((wT (Γ cs) t++wT (Γ cs) u).length+1)=_;rw[abo]
   rw[hl2]at hl⊢;refine⟨by omega,e1,s+1+(wT (Γ cs) t).length,lO hok (t:=t) ⟨_,e2⟩ (by omega) hg.1,?_⟩;have:=lO hok (t:=u) ⟨_,e4⟩ (by omega) hg.2;rw[show s+((wT (Γ cs) t).length+(wT (Γ cs) u).length+1)=s+1+(wT (Γ cs) t).length+(wT (Γ cs) u).length by omega];exact this
 |.ei t u,s,e,hl,hg=>by
   obtain⟨post,e⟩:=e;obtain⟨e1,e2⟩:=drop_cons (r:=(wT (Γ cs) t++wT (Γ cs) u)++post) e;rw[amm]at e2;have e4:=Og e2;have hl2:(wT (Γ cs) (.ei t u)).length=(wT (Γ cs) t).length+(wT (Γ cs) u).length+1:=by show((wT (Γ cs) t++wT (Γ cs) u).length+1)=_;rw[abo]
   rw[hl2]at hl⊢;refine⟨by omega,e1,s+1+(wT (Γ cs) t).length,lO hok (t:=t) ⟨_,e2⟩ (by omega) hg.1,?_⟩;have:=lO hok (t:=u) ⟨_,e4⟩ (by omega) hg.2;rw[show s+((wT (Γ cs) t).length+(wT (Γ cs) u).length+1)=s+1+(wT (Γ cs) t).length+(wT (Γ cs) u).length by omega];exact this
theorem QQ{z:Str}(h:isName z=true):32∉z.cps.toList:=λhm=>by
 unfold isName dC at h;rw[aa3,aeE]at h;exact absurd (of_decide_eq_true (h.2 32 hm)) (by decide+kernel)
theorem Yp{cs:List χ}(hok:Ϡ cs=true):∀{sv:b7},uN cs sv->∀z∈eO (Γ cs) sv,z.length<=21/\32∉z.cps.toList/\plainS z
 |.all,_,z,hz=>by
   have:z=Str.ofString "all":=by simpa [eO]using hz
   subst this;exact⟨by decide+kernel,by decide+kernel,by unfold plainS;decide+kernel⟩
 |.none p,hg,z,hz=>by
   have hz':z=Str.ofString "none"\/z=Γ cs p:=by simpa [eO]using hz
   obtain rfl|rfl:=hz'
   .exact⟨by decide+kernel,by decide+kernel,by unfold plainS;decide+kernel⟩
   .have hp:cs[p]?=some cs[p]:=aaf hg;rw[tO hp];have hn:=tW hok (acR.mpr ⟨cs[p],aid hg,rfl⟩);exact⟨by have:=Bv hn;omega,λh=>by have:=(QQ hn);exact this h,Es hn⟩
 |.look l p v,hg,z,hz=>by
   obtain⟨c,hc,hv,Ϻ,hh⟩:=hg;have hz':z=kJ l\/z=Γ cs p\/z=wordOf v:=by simpa [eO]using hz
   have hn:=tW hok (acR.mpr ⟨c,aaZ hc,rfl⟩);have hk:c.2="number"\/c.2="text":=by
    unfold Ϡ at hok;simp only[aa3,aeE]at hok;have:=(hok.1.2 c (aaZ hc)).2;unfold ie at this;exact of_decide_eq_true this
   obtain rfl|rfl|rfl:=hz'
   .cases l<;>exact⟨by decide+kernel,by decide+kernel,by unfold plainS;decide+kernel⟩
   .rw[tO hc];exact⟨by have:=Bv hn;omega,QQ hn,Es hn⟩
   .have hw:=hv.word hk;exact⟨hw.2.1,hw.2.2.1,hv.plain⟩
theorem lU{cs:List χ}(hok:Ϡ cs=true):∀{t:Tr},dZ cs t->∀z∈wT (Γ cs) t,z.length<=21/\32∉z.cps.toList/\plainS z
 |.one s,hg,z,hz=>Yp hok hg z hz
 |.nt t,hg,z,hz=>by
   obtain rfl|hz:=ϴ.mp hz
   .exact⟨by decide+kernel,by decide+kernel,by unfold plainS;decide+kernel⟩
   .exact lU hok (t:=t) hg z hz
 |.bo t u,hg,z,hz=>by
   obtain rfl|hz:=ϴ.mp hz
   .exact⟨by decide+kernel,by decide+kernel,by unfold plainS;decide+kernel⟩
   .obtain hz|hz:=afw.mp hz
    .exact lU hok hg.1 z hz
    .exact lU hok hg.2 z hz
 |.ei t u,hg,z,hz=>by
   obtain rfl|hz:=ϴ.mp hz
   .exact⟨by decide+kernel,by decide+kernel,by unfold plainS;decide+kernel⟩
   .obtain hz|hz:=afw.mp hz
    .exact lU hok hg.1 z hz
    .exact lU hok hg.2 z hz
def rJ(H H':Hp)(v:V)(r:Row):=∃t l,v=.ref t/\H' t=some (.tup [.int r.1,.ref l])/\H l=some (.lst r.2)
theorem rJ.row{H H':Hp}{v:V}{r:Row}(h:rJ H H' v r)(s:ζ H H'):cz H' v r:=by
 obtain⟨t,l,e,e1,e2⟩:=h;exact⟨t,l,e,e1,s _ _ e2⟩
theorem Μ.len{cs:List χ}{r:Row}(h:Μ cs r):r.2.length=cs.length:=(ψ.len h).symm
theorem aeP{α β:Type}{R:α->β->Prop}{l:List α}{m:List β}{a:α}{b:β}{k:Nat}(h:ψ R l m)(r:R a b):ψ R (fW l k a) (fW m k b):=(h.take k).app (.cons r (h.drop k))
def afQ(K:Ϩ)(mg:Str->Option ε)(t:Tr):Sp:=λvs H Q _=>∃(a p:δ)(z:Str)(rs:List Row),vs=[.ref a,.ref p]/\bx mg H t a z/\nR H p rs/\rs.length<=1000/\(∀r∈rs,jc r.2 t)/\
 ∀q ws H',ζ H H'->H q=none->H' q=some (.lst ws)->ψ (rJ H H') ws (rs.filter λr=>Ξ r.2 t)->Q (.ref q) H'
theorem MP(rs:List Row)(f:Row->Bool):(ig (λi=>f (rs.getD i (0,[]))) rs.length).map (λi=>rs.getD i (0,[]))=rs.filter f:=by
 unfold ig;have h:=map_getD (0,[]) rs
 conv=>rhs;rw[<-h]
 rw[List.filter_map];rfl
theorem Ei{α β γ:Type}{R:α->γ->Prop}(g:β->γ):∀{l:List α}{m:List β},ψ (λa b=>R a (g b)) l m->ψ R l (m.map g)
 |_,_,.nil=>.nil
 |_,_,.cons h t=>.cons h (Ei g t)
theorem zZ(T:Txt K mg)(t:Tr):Def P w K mg base true (4+t.dep) "let_through" ["sieve","rows"] (afQ K mg t):=by
 rw[show 4+t.dep=(3+t.dep)+1 by omega];refine Υ T.zZ ac9 (λ_ _ _ _ _ H vs Q E hr h=>?_);obtain⟨a,p,z,rs,rfl,hv,⟨ws,hp,hws⟩,hl,hf,q⟩:=h;have hsz:=ϲ;have hwl:=hws.len;have vB:(["row","values","sieve"]:List Str).Nodup:=by decide+kernel
 refine ω (Κ ?_);refine acs ["row","values","sieve"] (σ':=[none,none,some (.ref a)]) (by rfl) (by rfl) (b8 (ο yF) (by rfl) (by rfl) (by decide+kernel)) (by intro _;rfl) ?_;walk_at"ex";refine⟨p,ws,rfl,η.of hp,by omega,λτ=>∃o1 o2,τ=[o1,o2,some (.ref a)],λi=>Ξ (rs.getD i (0,[])).2 t,λE2 i u H'=>u≠.ref E2/\rJ H H' u (rs.getD i (0,[])),⟨none,none,rfl⟩,λE2 i v H2 H3 ys hE hk h=>?_,λfp E2 C s3 H0 i τ x H2 cI hx hτ sm hys=>?_,λE2 H2 us cI e2 hA sm=>?_⟩
 .obtain⟨h0,t2,l,e,h1,h2⟩:=h;exact⟨h0,t2,l,e,hk _ _ (λz=>by rw[z,hE]at h1;cases h1) h1,h2⟩
 .obtain⟨o1,o2,rfl⟩:=hτ;obtain⟨r,hr2,tr,lr,rfl,htr,hlr⟩:=hws.get hx;obtain⟨ys,hys⟩:=hys;have er:rs.getD i (0,[])=r:=by rw[abf,hr2];rfl
  obtain⟨da,fa,ea,la⟩:=(hv.same sm).ins;refine cG (by rfl) (by rfl) (by rfl) (Β.of (sm _ _ htr)) (by rfl) (ϛ (by rfl) (Ρ vB (by rfl) (.inl rfl) (.inr rfl) (ϛ (by rfl) (Ρ vB (by rfl) (.inl rfl) (.inr rfl) (cu ?_)))));refine ql (λ_=>by rfl) ?_;refine bO (pl:=_) hr (by walk_at"xo") (by rfl) (by rfl) (by rfl) ?_;walk_at"e";refine⟨a,du mg t,da,_,true,3+t.dep,_,cP K mg t,rfl,ea,la,mJ T t,Ϯ _,id,?_⟩;walk_at"ex";refine⟨a,lr,z,r.2,rfl,hv.same sm,η.of (sm _ _ hlr),hf r (aaZ hr2),?_⟩;refine⟨_,rfl,(by show Ξ r.2 t=Ξ (rs.getD i (0,[])).2 t;rw[er]),⟨_,_,rfl⟩,ζ.refl _,λ_=>?_⟩;walk_at"ex";refine⟨by show 2<=Ϫ;omega,λt2 aL=>?_⟩;refine⟨⟨λz=>?_,t2,lr,rfl,by rw[er];exact υ,by rw[er];exact hlr⟩,ζ.upd aL⟩;injection z with z
  rw[z,hys]at aL;cases aL
 .rw[hwl]at hA;have hA2:ψ (rJ H H2) us (rs.filter λr=>Ξ r.2 t):=by
   rw[<-MP rs λr=>Ξ r.2 t];exact Ei _ (hA.imp λu i z=>by
    exact z.2)
  exact q E2 us H2 sm cI e2 hA2
theorem zg{cs:List χ}{os:List Ord}(ϻ:bh cs os):∀{l m:List Row},(∀r∈l,Μ cs r)->l.Perm m->Line cs os l->Line cs os m->l=m
 |[],m,_,h,_,_=>List.Perm.nil_eq h
 |a::l,[],_,h,_,_=>absurd h.length_eq (by simp)
 |a::l,b::m,hf,h,h1,h2=>by
  have h1':=aiL.mp h1;have h2':=aiL.mp h2;have e:a=b:=by
   have ha:a∈b::m:=h.mem_iff.mp (by simp);have hb:b∈a::l:=h.mem_iff.mpr (by simp);obtain e|ha:=ϴ.mp ha
   .exact e
   .obtain e|hb:=ϴ.mp hb
    .exact e.symm
    .have x1:cH cs os a b=true:=h1'.1 b hb;have x2:cH cs os b a=true:=h2'.1 a ha;have ka:=bV (hf a (by simp)) ϻ;have kb:=bV (hf b (by simp[hb])) ϻ;have x3:ϝ os (Ω cs os a.2) (Ω cs os a.2) a.1 a.1=true:=qM ka kb ka x1 x2;rw[vP (agJ cs os a.2)]at x3;exact absurd (of_decide_eq_true x3) (by omega)
  subst e;rw[zg ϻ (λr hr=>hf r (by simp[hr])) (List.Perm.cons_inv h) h1'.2 h2'.2]
def Zo:Sp:=λvs H Q _=>∃n:Int,vs=[.int n]/\1<=n/\n<=100/\Q .non H
theorem yp(T:Txt K mg):Def P w K mg base true 2 "ask_size" ["size"] Zo:=by
 refine Υ T.yp Tv (λ_ _ _ _ _ H vs Q E hr h=>?_);obtain⟨n,rfl,h1,h2,q⟩:=h;have g1:=T.afE;have D1:= @pY P w K mg base T;refine ω (ϓ ?_);walk_at"ex";refine⟨_,rfl,rfl,?_⟩;rw[show jG (V.int n)=true from rfl];walk_at"ex";refine Ι (λ_=>?_) (λh=>absurd h1 h);walk_at"ex";refine jo (λh=>absurd h2 h) (λ_=>?_);exact Δ q
theorem vp:∀{m:List (Int×List V)}{p:Int×List V},(m.map (·.1)).Nodup->p∈m->ύ m p.1=some p.2
 |q::m,p,hn,hp=>by
  have hn':=aj2.mp hn;obtain rfl|hp:=ϴ.mp hp
  .unfold ύ;rw[List.find?_cons,decide_eq_true rfl];rfl
  .have Ϻ:¬q.1=p.1:=λe=>hn'.1 (acR.mpr ⟨p,hp,e.symm⟩)
   have ih:=vp hn'.2 hp;unfold ύ at ih⊢;rw[List.find?_cons,decide_eq_false Ϻ];exact ih
theorem Gu{rows:List (Int×List V)}{ks:List Int}(hn:(rows.map (·.1)).Nodup)(h:ks.Perm (rows.map (·.1))):(bw rows ks).Perm rows:=by
 have h1:(bw rows ks).Perm (bw rows (rows.map (·.1))):=h.map _;have h2:bw rows (rows.map (·.1))=rows:=by
  unfold bw;rw[ahl];have:rows.map ((λk=>(k,(ύ rows k).getD []))∘λx=>x.1)=rows.map id:=alM λp hp=>by
   show(p.1,(ύ rows p.1).getD [])=p;rw[vp hn hp];rfl
  rw[this,anf]
 rw[h2]at h1;exact h1
theorem R0{cs:List χ}{xs:List V}(h:ψ (λ(c:χ) x=>ϑ c.2 x) cs xs):∀{sv:b7},uN cs sv->O4 xs sv
 |.all,_=>trivial
 |.none p,hg=>by
   have:=h.len;show p<xs.length;have hg':p<cs.length:=hg;omega
 |.look l p v,hg=>by
   obtain⟨c,hc,hv,Ϻ,hh⟩:=hg;obtain⟨x,hx,hvx⟩:=h.get hc;refine⟨x,hx,?_⟩;obtain e|⟨ek,i,rfl,_⟩|⟨ek,y,rfl,_⟩:=hvx
   .exact .inl e
   .right;obtain e|⟨_,j,rfl,_⟩|⟨e2,_⟩:=hv
    .exact absurd e Ϻ
    .cases l with
     |holds=>rw[hh rfl]at ek;exact absurd ek (by decide+kernel)
     |is=>exact⟨rfl,rfl,.inr (.inr (.inl ⟨i,j,rfl,rfl⟩))⟩
     |under=>exact⟨rfl,rfl,.inr (.inr (.inl ⟨i,j,rfl,rfl⟩))⟩
     |over=>exact⟨rfl,rfl,.inr (.inr (.inl ⟨i,j,rfl,rfl⟩))⟩
    .exact absurd ek e2
   .right;obtain e|⟨e2,_⟩|⟨_,z,rfl,_⟩:=hv
    .exact absurd e Ϻ
    .exact absurd e2 ek
    .cases l with
     |holds=>exact⟨y,z,rfl,rfl⟩
     |is=>exact⟨rfl,rfl,.inr (.inr (.inr ⟨y,z,rfl,rfl⟩))⟩
     |under=>exact⟨rfl,rfl,.inr (.inr (.inr ⟨y,z,rfl,rfl⟩))⟩
     |over=>exact⟨rfl,rfl,.inr (.inr (.inr ⟨y,z,rfl,rfl⟩))⟩
theorem lY{cs:List χ}{xs:List V}(h:ψ (λ(c:χ) x=>ϑ c.2 x) cs xs):∀{t:Tr},dZ cs t->jc xs t
 |.one s,hg=>R0 h hg
 |.nt t,hg=>lY h (t:=t) hg
 |.bo t u,hg=>⟨lY h hg.1,lY h hg.2⟩
 |.ei t u,hg=>⟨lY h hg.1,lY h hg.2⟩
def p7(b:Bool)(q:δ)(H H':Hp)(v:V)(r:Row):=∃t l,v=.ref t/\H t=none/\H l=none/\l≠q/\H' t=some (.tup [.int r.1,.ref l,.bl b])/\H' l=some (.lst r.2)
theorem p7.same{b:Bool}{q:δ}{H H' H2:Hp}{v:V}{r:Row}(h:p7 b q H H' v r)(s:ζ H' H2):p7 b q H H2 v r:=by
 obtain⟨t,l,e,h1,h2,h0,h3,h4⟩:=h;exact⟨t,l,e,h1,h2,h0,s _ _ h3,s _ _ h4⟩
def bf(ls:List Row)(i n:Nat):List Row:=(ls.drop i).take n
def cF(ls:List Row)(k n:Int):Nat:=min (k*n).toNat ls.length
theorem GX(xs:List V)(i n:Nat)(hi:i<=xs.length):gW xs (some (i:Int)) (some ((i:Int)+(n:Int)))=(xs.drop i).take n:=by
 unfold gW;rw[show(i:Int)+(n:Int)=((i+n:Nat):Int)by omega,HT.vY,HT.vY,ai2 hi];by_cases h:i+n<=xs.length
 .rw[ai2 h,show i+n-i=n by omega]
 .rw[akQ (by omega),agI (by rw[agL];omega),agI (by rw[agL];omega)]
def xO(K:Ϩ)(mg:Str->Option ε)(t:Tr):Sp:=λvs H Q _=>∃(A:BA)(B:Bk)(zo:Str)(n k:Int)(os:List Ord),vs=[.ref A.b,.str zo,.str (Str.join " " (wT (Γ B.heads) t)),.int n,.int k]/\ Ο (cB mg) H A B/\Ϡ B.heads=true/\B.rows.length<64/\(B.rows.map (·.1)).Nodup/\(∀r∈B.rows,Μ B.heads r)/\zo.length<=4000/\lg B.heads zo=some os/\os.length<=4/\bh B.heads os/\dZ B.heads t/\t.dep<=20/\(wT (Γ B.heads) t).length<=60/\1<=n/\n<=100/\0<=k/\H (aX K "sorted_by")=some (.tbl iM)/\
 ∀p q ls ws H',ζ H H'->Line B.heads os ls->ls.Perm (B.rows.filter λr=>Ξ r.2 t)->H p=none->H q=none->H' p=some (.tup [.ref q,.non,.non,.int (ls.length:Nat),.int (cF ls k n:Nat),.int B.now])->H' q=some (.lst ws)->ψ (p7 true q H H') ws (bf ls (cF ls k n) n.toNat)->Q (.ref p) H'
theorem oN{rows:List Row}{f:Row->Bool}(h:(rows.map Prod.fst).Nodup):((rows.filter f).map Prod.fst).Nodup:=List.Nodup.sublist (List.Sublist.map _ (aja ..)) h
theorem vR(T:Txt K mg)(hN:fZ K mg base "sorted_by")(t:Tr):Def P w K mg base true (10+2*t.dep) "leaf_by_place" ["book","order","sieve","size","number"] (xO K mg t):=by
 rw[show 10+2*t.dep=(9+2*t.dep)+1 by omega];refine Υ T.vR O8 (λf Ϲ A' outer s H vs Q E hr h=>?_);obtain⟨A,B,zo,n,k,os,rfl,kB,hok,hrl,hrn,hfit,Z4,Ld,cL,ϻ,hgt,hdp,vd,hn1,hn2,hk0,hP,q⟩:=h;have nd:=O8.nd;have n1:=T.cJ;have n2:=T.PX;have hsz:=ϲ;obtain⟨c1,c6⟩:=S8 hok;have cj:(["row","values"]:List Str).Nodup:=by decide+kernel
 have D1:= @BL P w K mg base T;have D2:= @Tj P w K mg base T t;have D3:= @yp P w K mg base T;have D4:= @zZ P w K mg base T t;have D5:Def P w K mg base true 8 "line_of" ["columns","order","rows"] (Qh K):=xX T hN;have M1:Ϣ P w K mg base true 2 (cB mg) "now_rows" ["self"] (zu mg):=(Uh T).meth T.aH T.adR;have M2:Ϣ P w K mg base true 1 (cB mg) "moment" ["self"] (lM mg Bk.now):=(Ah T).meth T.aH T.yd;have M3:Ϣ P w K mg base true 1 (cB mg) "columns" ["self"] (yE mg):=(afs T).meth T.aH T.afe;have hw:=lU hok hgt;have Nr:Ϝ 32 (Str.join " " (wT (Γ B.heads) t))=wT (Γ B.heads) t:=Q3 (aii (Γ B.heads) t) λz hz=>(hw z hz).2.1
 have za:(Str.join " " (wT (Γ B.heads) t)).length<=3000:=by
  have h1:=Hg (wT (Γ B.heads) t) 21 λp hp=>(hw p hp).1
  have h2:=xT (wT (Γ B.heads) t);omega
 have hrd:Reads B.heads (wT (Γ B.heads) t) t 0 (wT (Γ B.heads) t).length:=by
  have:=lO hok (ws:=wT (Γ B.heads) t) (t:=t) (s:=0) ⟨[],by simp⟩ (by omega) hgt;rw[alQ]at this;exact this
 refine ξ ?_;walk_at"s";refine qT (pl:=_) hr Λ (by rfl) ?_;walk_at"e";refine⟨A.b,cB mg,A.dx,_,true,1,_,yE mg,rfl,kB.ins,by rfl,M3,by omega,id,A,B,rfl,kB,λc H1 s1 hc0 hC=>?_⟩;walk_at"A";refine⟨c,B.heads,zo,rfl,hC,Z4,(λH' _ e=>by rw[Ld]at e;cases e),λb os' H2 s2 e hb0 hO=>?_⟩;rw[Ld]at e;cases e;have bu:=s1.trans s2;walk_at"A";refine⟨c,B.heads,_,rfl,hC.same s2,za,by rw[Nr];exact λy hy=>by have:=(hw y hy).1;omega,hdp,by rw[Nr];exact hrd,λv H3 s3 hv=>?_⟩;generalize bB (Ϝ 32 (Str.join " " (wT (Γ B.heads) t))) 0 (Ϝ 32 (Str.join " " (wT (Γ B.heads) t))).length=zz at hv;have cO:=bu.trans s3;refine ξ (aQ (by rfl) ?_);walk_at"ex";refine⟨n,rfl,hn1,hn2,?_⟩;walk_at"A";refine qT (pl:=_) hr Λ (by rfl) ?_;walk_at"e";refine⟨A.b,cB mg,A.dx,_,true,2,_,zu mg,rfl,(kB.same cO).ins,by rfl,M1,by omega,id,A,B,rfl,kB.same cO,hrl,λp1 ys ks H4 s4 hp1 hks hso aeB hys=>?_⟩;have hpm:=Gu hrn hks;have JF:nR H4 p1 (bw B.rows ks):=⟨ys,aeB,hys.imp λu r z=>by
  obtain⟨t,l,e,h1,h2,_⟩:=z;exact⟨t,l,e,h1,h2⟩⟩
 generalize bw B.rows ks=rs at hpm JF;have hrs:rs.length=B.rows.length:=hpm.length_eq;have hfr:∀r∈rs,Μ B.heads r:=λr hr=>hfit r (hpm.mem_iff.mp hr)
 walk_at"ex";refine⟨v,p1,zz,rs,rfl,hv.same s4,JF,by omega,λr hr=>lY (hfr r hr) hgt,λp2 ws2 H5 s5 hp2 hp2' hA5=>?_⟩;have Aw:=s4.trans s5;have fU:=cO.trans Aw;have Jq:nR H5 p2 (rs.filter λr=>Ξ r.2 t):=⟨ws2,hp2',hA5.imp λu r z=>z.row s5⟩;have hpf:(rs.filter λr=>Ξ r.2 t).Perm (B.rows.filter λr=>Ξ r.2 t):=hpm.filter _;have hfl:(rs.filter λr=>Ξ r.2 t).length<=rs.length:=ahM ..;have Z2:(rs.map Prod.fst).Nodup:=(hpm.map Prod.fst).nodup_iff.mpr hrn;have hff:((rs.filter λr=>Ξ r.2 t).map Prod.fst).Nodup:=oN Z2;have Py:∀r∈rs.filter λr=>Ξ r.2 t,Μ B.heads r:=λr hr=>hfr r (ac8.mp hr).1
 generalize rs.filter (λr=>Ξ r.2 t)=fs at Jq hpf hfl hff Py;walk_at"ex";refine⟨c,b,p2,B.heads,os,fs,rfl,hC.same ((s2.trans s3).trans Aw),hO.same (s3.trans Aw),Jq,c6,by omega,ϻ,by omega,Py,hff,fU _ _ hP,λln lw ls H6 s6 gJ YK jP hL az=>?_⟩;have uv:=fU.trans s6;have adz:=az.trans hpf;have qF:=jP.len;have hll:ls.length=fs.length:=az.length_eq;refine ξ ?_;walk_at"s";have JR:η K H6 ln lw:=η.of YK;walk_at"ex";refine Gx (by rfl) ?_;have hkn:0<=k*n:=ano hk0 (by omega);have e6:(if(lw.length:Int)<k*n then(lw.length:Int)else k*n)=((cF ls k n:Nat):Int):=by
  unfold cF;rw[qF];split
  .rw[akQ (by omega)]
  .rw[ai2 (by omega)];omega
 rw[e6];have hpl:cF ls k n<=ls.length:=amt ..;generalize uX:cF ls k n=i at hpl;refine ξ ?_;refine mY ["row","values"] (σ':=[none,none]) (by rfl) (by rfl) (by rfl) (b8 (ο zO) (by rfl) (by rfl) (by decide+kernel)) (by intro _;rfl) nd (by rfl) (by rfl) ?_;walk_at"ex";obtain⟨m,rfl⟩:=aeN (show 0<=n by omega);refine Bd JR λp3 hp3=>?_
 rw[GX lw i m (by omega)];obtain⟨s7,e7⟩:=aO hp3 (.lst ((lw.drop i).take m));generalize upd H6 p3 (.lst ((lw.drop i).take m))=H7 at s7 e7⊢;have hsl:ψ (cT ln H5 H6) ((lw.drop i).take m) (bf ls i m):=(jP.drop i).take m;have VJ:=hsl.len;have agv:(bf ls i m).length<=ls.length:=by unfold bf;rw[agW,agL];omega
 have Bg:=uv.trans s7;refine⟨p3,_,rfl,η.of e7,by omega,λτ=>∃o1 o2,τ=[o1,o2],λE2 j u H'=>u≠.ref E2/\∃r,(bf ls i m)[j]?=some r/\(∃t l,u=.ref t/\H t=none/\H l=none/\H' t=some (.tup [.int r.1,.ref l,.bl true])/\H6 l=some (.lst r.2)),⟨none,none,rfl⟩,λE2 j u H2 H3 ys hE hk p=>?_,λfp E2 C s3 H0 j τ x H4 H5 cI hi hτ Τ hys hG=>?_,λq0 H8 us hq0 Sy Bs e8 s8=>?_⟩
 .obtain⟨h0,r,hr,t,l,e,h1,h2,h3,h4⟩:=p;exact⟨h0,r,hr,t,l,e,h1,h2,hk _ _ (λz=>by rw[z,hE]at h3;cases h3) h3,h4⟩
 .obtain⟨o1,o2,rfl⟩:=hτ;obtain⟨aY,rfl⟩:=hG;obtain⟨r,hr,tr,lr,rfl,ajS,af4,_,htr,hlr⟩:=hsl.get aY;obtain⟨ys,hys⟩:=hys;refine cG (by rfl) (by rfl) (by rfl) (Β.of ((s7.trans Τ) _ _ htr)) (by rfl) (ϛ (by rfl) (Ρ cj (by rfl) (.inl rfl) (.inr rfl) (ϛ (by rfl) (Ρ cj (by rfl) (.inl rfl) (.inr rfl) (cu ?_)))));walk_at"ex";refine⟨by show 3<=Ϫ;omega,λt2 aL=>?_⟩;refine⟨⟨_,_,rfl⟩,⟨λz=>?_,r,hr,t2,lr,rfl,(Bg.trans Τ).free aL,fU.free af4,υ,hlr⟩,ζ.upd aL⟩;injection z with z
  rw[z,hys]at aL;cases aL
 have vK:=Bg.trans s8;have nu:=s7.trans s8;have hus:ψ (p7 true q0 H H8) us (bf ls i m):=rD (by omega) λj r hr=>by
  have hj:j<us.length:=by have:=(aal.mp hr).1;omega
  obtain⟨_,r',hr',t,l,e,h1,h2,h3,h4⟩:=Bs j _ (aaf hj);rw[hr]at hr';cases hr';exact⟨_,aaf hj,t,l,e,h1,h2,(λz=>by rw[z]at h4;have:=s7 _ _ h4;rw[hq0]at this;cases this),h3,nu _ _ h4⟩
 refine ω (Κ ?_);have sq8:η K H8 ln lw:=nu.seq JR;walk_at"ex";refine qT (pl:=_) hr Λ (by rfl) ?_;walk_at"e";refine⟨A.b,cB mg,A.dx,_,true,1,_,lM mg Bk.now,rfl,(kB.same vK).ins,by rfl,M2,by omega,id,A,B,rfl,kB.same vK,?_⟩;walk_at"ex";refine⟨by show 6<=Ϫ;omega,λp9 hp9=>?_⟩;have s9:ζ H8 (upd H8 p9 (.tup [.ref q0,.non,.non,.int (lw.length:Nat),.int (i:Nat),.int B.now])):=ζ.upd hp9;have e9:(upd H8 p9 (.tup [.ref q0,.non,.non,.int (lw.length:Nat),.int (i:Nat),.int B.now])) p9=some (.tup [.ref q0,.non,.non,.int (ls.length:Nat),.int (cF ls k m:Nat),.int B.now]):=by rw[uX, <-qF];exact υ
 refine q p9 q0 ls us _ (vK.trans s9) hL adz (vK.free hp9) (Bg.free hq0) e9 (s9 _ _ e8) ?_;rw[uX];exact hus.imp λu r z=>z.same s9
theorem _root_.Vl.Out.seq{S:List δ}{H H':Hp}{a:δ}{xs:List V}(o:Out S H H')(ha:a∉S)(h:η K H a xs):η K H' a xs:=by
 rcases h with(h|⟨u,h⟩)|h
 .exact .inl (.inl (o _ _ ha h))
 .exact .inl (.inr ⟨u,o _ _ ha h⟩)
 .exact .inr h
theorem ac5{H:Hp}{a:δ}{xs:List V}(h:η K H a xs):H a≠none\/∀H',η K H' a xs:=by
 rcases h with(h|⟨u,h⟩)|h
 .exact .inl (by rw[h];nofun)
 .exact .inl (by rw[h];nofun)
 .exact .inr λ_=>.inr h
def NT(H:Hp)(S:List δ):=∀x∈S,∀ys,H x≠some (.tup ys)
theorem NT.tup{H H':Hp}{S:List δ}(h:NT H S)(o:Out S H H'):∀b ys,H b=some (.tup ys)->H' b=some (.tup ys):=λb ys e=>o b _ (λz=>h b z ys e) e
def _root_.Vl.BA.six(A:BA):List δ:=[A.h,A.r,A.t,A.d,A.b,A.dx]
theorem _root_.Vl.Ο.OJ{C:δ}{H:Hp}{A:BA}{B:Bk}(k:Ο C H A B):∀x∈A.six,H x≠none:=by
 intro x hx;have hx':x=A.h\/x=A.r\/x=A.t\/x=A.d\/x=A.b\/x=A.dx:=by simpa [BA.six]using hx
 obtain⟨_,h3,_⟩:=k.heads;obtain⟨_,h4,_⟩:=k.rows;obtain⟨_,h5,_⟩:=k.touched;obtain⟨_,h6,_⟩:=k.done;obtain rfl|rfl|rfl|rfl|rfl|rfl:=hx'
 .rw[h3];nofun
 .rw[h4];nofun
 .rw[h5];nofun
 .rw[h6];nofun
 .rw[k.ins];nofun
 .rw[k.own];nofun
theorem aeF{A:BA}{x:δ}(hx:x∈[A.b,A.dx,A.h,A.r,A.t,A.d]):x∈A.six:=by
 have hx':x=A.b\/x=A.dx\/x=A.h\/x=A.r\/x=A.t\/x=A.d:=by simpa using hx
 obtain rfl|rfl|rfl|rfl|rfl|rfl:=hx'<;>simp[BA.six]
theorem _root_.Vl.Ο.out{C:δ}{H H':Hp}{A:BA}{B:Bk}{S:List δ}(k:Ο C H A B)(o:Out S H H')(nt:NT H S)(h6:∀x∈A.six,x∉S):Ο C H' A B:=
 k.stay (nt.tup o) λx u hx e=>o x u (h6 x (aeF hx)) e
theorem made{C:δ}{H H':Hp}{y dx:δ}{A:BA}(hy:H y=none)(hdx:H dx=none)(eb:A.b=y)(zq:A.dx=dx)(f1:(upd (upd H dx (.own y)) y (.ins C dx [])) A.h=none)(f2:(upd (upd H dx (.own y)) y (.ins C dx [])) A.r=none)(f3:(upd (upd H dx (.own y)) y (.ins C dx [])) A.t=none)(f4:(upd (upd H dx (.own y)) y (.ins C dx [])) A.d=none)(o:Out [y] (upd (upd H dx (.own y)) y (.ins C dx [])) H'):ζ H H'/\∀x∈A.six,H x=none:=by
 have sm:ζ H (upd (upd H dx (.own y)) y (.ins C dx [])):=λb u e=>by
  rw[ι (λz=>by rw[z,hy]at e;cases e),ι (λz=>by rw[z,hdx]at e;cases e)];exact e
 refine⟨λb u e=>o b u (λz=>by rw[ac0.mp z,hy]at e;cases e) (sm b u e),λx hx=>?_⟩;have hx':x=A.h\/x=A.r\/x=A.t\/x=A.d\/x=A.b\/x=A.dx:=by simpa [BA.six]using hx
 obtain rfl|rfl|rfl|rfl|rfl|rfl:=hx'
 .exact sm.free f1
 .exact sm.free f2
 .exact sm.free f3
 .exact sm.free f4
 .rw[eb];exact hy
 .rw[zq];exact hdx
def LR(F:List δ)(H:Hp)(v:V)(xs:List V):=∃l,v=.ref l/\H l=some (.lst xs)/\l∉F
def uq(F:List δ)(H:Hp)(a:δ)(m:List (Int×List V)):Prop:=DictAt (LR F H) H a m
theorem LR.stay{F:List δ}{H H':Hp}{v:V}{xs:List V}(h:LR F H v xs)(s:∀b ys,b∉F->H b=some (.lst ys)->H' b=some (.lst ys)):LR F H' v xs:=by
 obtain⟨l,e,h1,h2⟩:=h;exact⟨l,e,s _ _ h2 h1,h2⟩
def bU(r:Row):alV:=.tuple [.int r.1,.list (r.2.map dV)]
theorem Μ.lay{cs:List χ}{r:Row}(h:Μ cs r):∀x∈r.2,gK x=true/\∀z,x=.str z->fK 4000 z:=by
 obtain⟨n,xs⟩:=r;have h':ψ (λ(c:χ) x=>ϑ c.2 x) cs xs:=h;show ∀x∈xs,_;clear h;induction h' with
 |nil=>intro x hx;cases hx
 |cons r t ih=>
  intro x hx;obtain e|hx:=ϴ.mp hx
  .subst e;exact r.gK
  .exact ih x hx
theorem Wf{cs:List χ}{H:Hp}{vs:List V}{rs:List Row}(h:ψ (cz H) vs rs)(g:∀r∈rs,Μ cs r):dH K H vs (rs.map bU):=by
 induction h with
 |nil=>exact .nil
 |cons r t ih=>
  obtain⟨p,l,rfl,h1,h2⟩:=r;refine .cons (.tup (Β.of h1) (.cons (.int _) (.cons (.lst (η.of h2) (qm ?_)) .nil))) (ih λr hr=>g r (by simp[hr]));exact aeE.mpr λx hx=>((g _ (by simp)).lay x hx).1
theorem JS{cs:List χ}{H:Hp}{p:δ}{rs:List Row}(h:nR H p rs)(g:∀r∈rs,Μ cs r):RD K H (.ref p) (.list (rs.map bU)):=by
 obtain⟨vs,e,a⟩:=h;exact .lst (η.of e) (Wf a g)
theorem Ti{cs:List χ}{r:Row}(h:Μ cs r):(bU r).canLay0=true:=by
 show(true&&((PyData.list (r.2.map dV)).canLay0&&true))=true;rw[pI λx hx=>h.lay x hx];rfl
theorem Jg{cs:List χ}:∀{rs:List Row},(∀r∈rs,Μ cs r)->(PyData.list (rs.map bU)).canLay0=true
 |[],_=>rfl
 |r::rs,h=>by
  have ih:=Jg (rs:=rs) λd hd=>h d (by simp[hd])
  show((bU r).canLay0&&PyData.canLayAll0 (rs.map bU))=true;rw[Ti (h r (by simp))];exact ih
theorem aaU(r:Row):(bU r).depth<=4:=by
 have:=uQ r.2;simp only[bU,PyData.depth,PyData.depthAll];omega
theorem QB:∀rs:List Row,PyData.depthAll (rs.map bU)<=4
 |[]=>by show(0:Nat)<=4;omega
 |r::rs=>by
  have ih:=QB rs;have h1:=aaU r;show max (bU r).depth (PyData.depthAll (rs.map bU))<=4;omega
theorem Xe(rs:List Row):(PyData.list (rs.map bU)).depth<=60:=by
 have:=QB rs;simp only[PyData.depth];omega
structure Lv where
 rows:List Row
 len:Nat
 first:Nat
 now:Int
def xj(G:δ->Prop)(H:Hp)(v:V)(r:Row):=∃t l,v=.ref t/\H t=some (.tup [.int r.1,.ref l,.bl true])/\G l/\H l=some (.lst r.2)
def iu(Gq Gl:δ->Prop)(H:Hp)(v:V)(L:Lv):=∃p q ws,v=.ref p/\H p=some (.tup [.ref q,.non,.non,.int (L.len:Nat),.int (L.first:Nat),.int L.now])/\Gq q/\H q=some (.lst ws)/\ψ (xj Gl H) ws L.rows
theorem iu.stay{Gq Gl:δ->Prop}{H H':Hp}{v:V}{L:Lv}(h:iu Gq Gl H v L)(t:∀b ys,H b=some (.tup ys)->H' b=some (.tup ys))(s:∀b ys,Gq b\/Gl b->H b=some (.lst ys)->H' b=some (.lst ys)):iu Gq Gl H' v L:=by
 obtain⟨p,q,ws,e,h1,h2,h3,h4⟩:=h;exact⟨p,q,ws,e,t _ _ h1,h2,s _ _ (.inl h2) h3,h4.imp λu r z=>by
  obtain⟨x,l,e,g1,g2,g3⟩:=z;exact⟨x,l,e,t _ _ g1,g2,s _ _ (.inr g2) g3⟩⟩
def dM(r:Row):alV:=.tuple [.int r.1,.list (r.2.map dV),.bool true]
def lQ(L:Lv):alV:=.tuple [.list (L.rows.map dM),.none,.none,.int (L.len:Nat),.int (L.first:Nat),.int L.now]
theorem acU{cs:List χ}{G:δ->Prop}{H:Hp}{vs:List V}{rs:List Row}(h:ψ (xj G H) vs rs)(g:∀r∈rs,Μ cs r):dH K H vs (rs.map dM):=by
 induction h with
 |nil=>exact .nil
 |cons r t ih=>
  obtain⟨p,l,rfl,h1,_,h2⟩:=r;refine .cons (.tup (Β.of h1) (.cons (.int _) (.cons (.lst (η.of h2) (qm ?_)) (.cons (.bl true) .nil)))) (ih λr hr=>g r (by simp[hr]));exact aeE.mpr λx hx=>((g _ (by simp)).lay x hx).1
theorem Lq{cs:List χ}{Gq Gl:δ->Prop}{H:Hp}{v:V}{L:Lv}(h:iu Gq Gl H v L)(g:∀r∈L.rows,Μ cs r):RD K H v (lQ L):=by
 obtain⟨p,q,ws,rfl,h1,_,h3,h4⟩:=h;exact .tup (Β.of h1) (.cons (.lst (η.of h3) (acU h4 g)) (.cons .non (.cons .non (.cons (.int _) (.cons (.int _) (.cons (.int _) .nil))))))
theorem Ny{cs:List χ}:∀{rs:List Row},(∀r∈rs,Μ cs r)->(PyData.list (rs.map dM)).canLay0=true
 |[],_=>rfl
 |r::rs,h=>by
  have ih:=Ny (rs:=rs) λd hd=>h d (by simp[hd])
  have h1:(dM r).canLay0=true:=by
   show(true&&((PyData.list (r.2.map dV)).canLay0&&(true&&true)))=true;rw[pI λx hx=>(h r (by simp)).lay x hx];rfl
  show((dM r).canLay0&&PyData.canLayAll0 (rs.map dM))=true;rw[h1];exact ih
theorem aaS{cs:List χ}{L:Lv}(h:∀r∈L.rows,Μ cs r):(lQ L).canLay0=true:=by
 show((PyData.list (L.rows.map dM)).canLay0&&(true&&(true&&(true&&(true&&(true&&true))))))=true;rw[Ny h];rfl
theorem Jk:∀rs:List Row,PyData.depthAll (rs.map dM)<=5
 |[]=>by show(0:Nat)<=5;omega
 |r::rs=>by
  have ih:=Jk rs;have:=uQ r.2;have h1:(dM r).depth<=5:=by
   simp only[dM,PyData.depth,PyData.depthAll];omega
  show max (dM r).depth (PyData.depthAll (rs.map dM))<=5;omega
theorem Xr(L:Lv):(lQ L).depth<=60:=by
 have:=Jk L.rows;simp only[lQ,PyData.depth,PyData.depthAll];omega
theorem ahs{cs:List χ}{c:χ}:∀(i:Nat),c∈cs->d9 cs c.1 i≠.non:=by
 induction cs with
 |nil=>intro i h;simp at h
 |cons d r ih=>
  intro i h;unfold d9;by_cases e:d.1=c.1
  .rw[if_pos e];intro z;cases z
  .rw[if_neg e];obtain z|z:=ϴ.mp h
   .subst z;exact absurd rfl e
   .exact ih (i+1) z
theorem Nm:("+":Str).cps.toList=[43]/\("-":Str).cps.toList=[45]/\(" ":Str).cps.toList=[32]/\("":Str).cps.toList=[]:=by decide+kernel
theorem V0{x:Nat}{n:Str}:ϐ (⟨#[x]⟩++n) (some 1) none=n:=by
 apply iw;rw[show(ϐ (⟨#[x]⟩++n) (some 1) none).cps.toList=(⟨#[x]⟩++n:Str).cps.toList.drop 1 from yo _ 1,c7];rfl
theorem Va{cs:List χ}{o:Ord}{c:χ}(hc:c∈cs)(e:c.1=o.1):iC cs (aD o)=some o:=by
 obtain⟨n,up⟩:=o;have hp:d9 cs n 0≠.non:=by rw[<-show c.1=n from e];exact ahs 0 hc
 have key:∀x:Nat,(x=43\/x=45)->iC cs (⟨#[x]⟩++n)=some (n,decide (x=43)):=λx hx=>by
  unfold iC;rw[V0];have h0:(⟨#[x]⟩++n:Str).cps.toList[0]?=some x:=by rw[c7];rfl
  rw[h0,if_pos ⟨by obtain z|z:=hx<;>simp[z],hp⟩];simp
 unfold aD;cases up with
 |true=>exact key 43 (.inl rfl)
 |false=>exact key 45 (.inr rfl)
theorem YJ{o:Ord}(h:32∉o.1.cps.toList):32∉(aD o).cps.toList:=by
 unfold aD;rw[c7];obtain⟨e1,e2,_⟩:=Nm;split
 .rw[e1];simpa using h
 .rw[e2];simpa using h
theorem Ym:∀{ps:List Str},Str.join " " ps=""->ps=[]\/ps=[Str.ofString ""]
 |[],_=>.inl rfl
 |[p],h=>.inr (by rw[show p="" from h])
 |p::q::r,h=>by
  have e:(Str.join " " (p::q::r)).cps.toList=jB 32 ((p::q::r).map λp=>p.cps.toList):=vI 32 _;rw[h]at e;have e2:([]:List Nat)=p.cps.toList++32::jB 32 ((q::r).map λp=>p.cps.toList):=e;have:=congrArg amo e2;simp at this
theorem aaH{cs:List χ}{os:List Ord}(hl:os.length<=4)(hn:(os.map Prod.fst).Nodup)(hc:∀o∈os,∃c∈cs,c.1=o.1)(hf:∀o∈os,32∉o.1.cps.toList):lg cs (gA os)=some os:=by
 unfold lg gA;by_cases h0:os=[]
 .subst h0;exact if_pos (by decide+kernel)
 .have h1:os.map aD≠[]:=by simpa using h0
  have hw:∀p∈os.map aD,32∉p.cps.toList:=λp hp=>by
   obtain⟨o,ho,rfl⟩:=acR.mp hp;exact YJ (hf o ho)
  have Ϻ:os.map aD≠[Str.ofString ""]:=λe=>by
   have:Str.ofString ""∈os.map aD:=by rw[e];simp
   obtain⟨o,ho,e2⟩:=acR.mp this;have e3:=congrArg (λz:Str=>z.cps.toList.length) e2;have e4:(aD o).cps.toList.length=1+o.1.cps.toList.length:=by
    unfold aD;rw[c7,abo];obtain⟨l1,l2,_⟩:=Nm;split
    .rw[l1];rfl
    .rw[l2];rfl
   have e5:("":Str).cps.toList.length=0:=by decide+kernel
   have e3':(aD o).cps.toList.length=("":Str).cps.toList.length:=e3;rw[e4,e5]at e3';omega
  rw[if_neg (λz=>(Ym z).elim h1 Ϻ),Q3 h1 hw,ϳ,if_neg (by omega)];have hm:iH (iC cs) (os.map aD)=some os:=by
   refine GR (by simp) λi x y e1 e2=>?_
   rw[aca,e2]at e1;have e1':aD y=x:=Option.some.inj e1;obtain⟨c,hcm,ec⟩:=hc y (aaZ e2);rw[<-e1'];exact Va hcm ec
  rw[hm];show(if(os.map Prod.fst).Nodup then some os else none)=some os;rw[if_pos hn]
theorem Hl{cs:List χ}(hc:Ϡ cs=true){os:List Ord}(ϻ:bh cs os)(h4:os.length<=4):(gA os).length<=100:=by
 have h1:=Hg (os.map aD) 9 λp hp=>by
  obtain⟨o,ho,rfl⟩:=acR.mp hp;obtain⟨c,hcm,e⟩:=ϻ o ho;have:=Bv (tW hc (z:=o.1) (acR.mpr ⟨c,hcm,e⟩));have l1:("+":Str).length=1:=by decide+kernel
  have l2:("-":Str).length=1:=by decide+kernel
  unfold aD;rw[len_app];split <;>omega
 have h2:=xT (os.map aD);rw[ϳ]at h1 h2;unfold gA;omega
theorem Hv{cs:List χ}(hc:Ϡ cs=true){os:List Ord}(ϻ:bh cs os)(h4:os.length<=4)(hn:(os.map Prod.fst).Nodup):lg cs (gA os)=some os:=aaH h4 hn ϻ λo ho hm=>by
 obtain⟨c,hcm,e⟩:=ϻ o ho;have hn:=tW hc (z:=o.1) (acR.mpr ⟨c,hcm,e⟩);unfold isName dC at hn;rw[aa3,aeE]at hn;exact absurd (of_decide_eq_true (hn.2 32 hm)) (by decide+kernel)
def rH(ls:List Row)(k n now:Int):Lv:=⟨bf ls (cF ls k n) n.toNat,ls.length,cF ls k n,now⟩
def ς:List χ:=[(Str.ofString "size",Str.ofString "number"),(Str.ofString "word",Str.ofString "text")]
def dR(k:Int):List Ord:=if k=1 then[(Str.ofString "size",true)]else if k=2 then[(Str.ofString "word",false)]else if k=3 then[(Str.ofString "size",false),(Str.ofString "word",true)]else if k=4 then[(Str.ofString "word",true),(Str.ofString "size",true)]else[]
def ϡ:Nat->Tr
 |1=>.one (.look .over 0 (.int (-1)))
 |2=>.nt (.one (.none 1))
 |3=>.ei (.one (.look .is 0 (.int 0))) (.one (.look .holds 1 (.str ("a":Str))))
 |_=>.one .all
theorem lE:Ϡ ς=true:=by decide+kernel
theorem u9{P:List Ord->Prop}(k:Int)(h0:P [])(h1:P [(Str.ofString "size",true)])(h2:P [(Str.ofString "word",false)])(h3:P [(Str.ofString "size",false),(Str.ofString "word",true)])(h4:P [(Str.ofString "word",true),(Str.ofString "size",true)]):P (dR k):=by
 unfold dR;split
 .exact h1
 .split
  .exact h2
  .split
   .exact h3
   .split
    .exact h4
    .exact h0
theorem R9(k:Int):bh ς (dR k):=by
 have s:∃c∈ς,c.1=Str.ofString "size":=⟨_,aeM ..,rfl⟩;have t:∃c∈ς,c.1=Str.ofString "word":=⟨_,abK _ (aeM ..),rfl⟩;refine u9 (P:=bh ς) k ?_ ?_ ?_ ?_ ?_<;>intro o ho
 .cases ho
 .rw[ac0.mp ho];exact s
 .rw[ac0.mp ho];exact t
 .obtain e|ho:=ϴ.mp ho
  .rw[e];exact s
  .rw[ac0.mp ho];exact t
 .obtain e|ho:=ϴ.mp ho
  .rw[e];exact t
  .rw[ac0.mp ho];exact s
theorem agz(k:Int):(dR k).length<=4:=u9 (P:=λl=>l.length<=4) k (by decide) (by decide) (by decide) (by decide) (by decide)
theorem Vq(k:Int):((dR k).map Prod.fst).Nodup:=u9 (P:=λl=>(l.map Prod.fst).Nodup) k (by decide+kernel) (by decide+kernel) (by decide+kernel) (by decide+kernel) (by decide+kernel)
theorem ahT(k:Int):∀o∈dR k,o.1.length<=1000:=u9 (P:=λl=>∀o∈l,o.1.length<=1000) k (by decide+kernel) (by decide+kernel) (by decide+kernel) (by decide+kernel) (by decide+kernel)
theorem wZ{P:Nat->Tr->Prop}(k:Nat)(hk:k<4)(h0:P 0 (.one .all))(h1:P 1 (.one (.look .over 0 (.int (-1)))))(h2:P 2 (.nt (.one (.none 1))))(h3:P 3 (.ei (.one (.look .is 0 (.int 0))) (.one (.look .holds 1 (.str ("a":Str)))))):P k (ϡ k):=by
 obtain _|_|_|_|k:=k
 .exact h0
 .exact h1
 .exact h2
 .exact h3
 .omega
theorem Iz{k:Nat}(hk:k<4):dZ ς (ϡ k):=by
 refine wZ (P:=λ_ t=>dZ ς t) k hk trivial ⟨_,rfl,.inr (.inl ⟨rfl, -1,rfl,by decide,by decide⟩),(λe=>by cases e),(λe=>by cases e)⟩ (show 1<2 by decide) ⟨⟨_,rfl,.inr (.inl ⟨rfl,0,rfl,by decide,by decide⟩),(λe=>by cases e),(λe=>by cases e)⟩,⟨_,rfl,.inr (.inr ⟨by decide+kernel,_,rfl,by decide+kernel,by decide+kernel⟩),(λe=>by cases e),λ_=>rfl⟩⟩
theorem Gv{k:Nat}(hk:k<4):(ϡ k).dep<=1/\(wT (Γ ς) (ϡ k)).length<=60:=by
 refine wZ (P:=λ_ t=>t.dep<=1/\(wT (Γ ς) t).length<=60) k hk ⟨by show 0<=1;decide,by show 1<=60;decide⟩ ⟨by show 0<=1;decide,by show 3<=60;decide⟩ ⟨by show 1<=1;decide,by show 3<=60;decide⟩ ⟨by show 1<=1;decide,by show 7<=60;decide⟩
def yZ:List Str:=[Str.ofString "all",Str.ofString "over size -1",Str.ofString "not none word",Str.ofString "either is size 0 holds word 'a"]
theorem Zm{k:Nat}(hk:k<4):yZ[k]?=some (Str.join " " (wT (Γ ς) (ϡ k))):=by
 refine wZ (P:=λk t=>yZ[k]?=some (Str.join " " (wT (Γ ς) t))) k hk ?_ ?_ ?_ ?_<;>decide+kernel
theorem ae4{r:Row}(h:Μ ς r):∃x y,r.2=[x,y]/\ϑ ("number":Str) x/\ϑ ("text":Str) y:=by
 obtain⟨n,xs⟩:=r;have h':ψ (λ(c:χ) x=>ϑ c.2 x) ς xs:=h;cases h' with
 |cons a t=>
  cases t with
  |cons b t=>
   cases t;exact⟨_,_,rfl,a,b⟩
def ZF:Sp:=λvs H Q _=>∃k:Int,vs=[.int k]/\∀p H',ζ H H'->H p=none->cV H' p (dR k)->Q (.ref p) H'
theorem Dj(T:Txt K mg):Def P w K mg base true 1 "_law_order" ["_law_k"] ZF:=by
 refine Υ T.Dj ab1 (λ_ _ _ _ _ H vs Q E hr h=>?_);obtain⟨k,rfl,q⟩:=h;have hsz:=ϲ;have one:∀(o:Ord)(t p:δ),H t=none->(upd H t (.tup [.str o.1,.bl o.2])) p=none->dR k=[o]->Q (.ref p) (upd (upd H t (.tup [.str o.1,.bl o.2])) p (.lst [.ref t])):=λo t p ht hp e=>by
  have s1:ζ H (upd H t (.tup [.str o.1,.bl o.2])):=ζ.upd ht;have s2:=ζ.upd (o:=.lst [.ref t]) hp;exact q p _ (s1.trans s2) (s1.free hp) (by rw[e];exact⟨_,υ,.cons ⟨t,rfl,s2 _ _ υ⟩ .nil⟩)
 have two:∀(o o2:Ord)(t u p:δ),H t=none->(upd H t (.tup [.str o.1,.bl o.2])) u=none->(upd (upd H t (.tup [.str o.1,.bl o.2])) u (.tup [.str o2.1,.bl o2.2])) p=none->dR k=[o,o2]->Q (.ref p) (upd (upd (upd H t (.tup [.str o.1,.bl o.2])) u (.tup [.str o2.1,.bl o2.2])) p (.lst [.ref t,.ref u])):=λo o2 t u p ht hu hp e=>by
  have s1:ζ H (upd H t (.tup [.str o.1,.bl o.2])):=ζ.upd ht;have s2:=ζ.upd (o:=.tup [.str o2.1,.bl o2.2]) hu;have s3:=ζ.upd (o:=.lst [.ref t,.ref u]) hp;exact q p _ ((s1.trans s2).trans s3) ((s1.trans s2).free hp) (by rw[e];exact⟨_,υ,.cons ⟨t,rfl,(s2.trans s3) _ _ υ⟩ (.cons ⟨u,rfl,s3 _ _ υ⟩ .nil)⟩)
 refine ξ (ϓ ?_);walk_at"ex";refine Ι (λh1=>?_) (λh1=>?_)
 .have e:k=1:=by injection h1
  refine ω (Κ ?_);walk_at"ex";refine⟨by show 2<=Ϫ;omega,λt ht=>?_⟩;walk_at"ex";refine⟨by show 1<=Ϫ;omega,λp hp=>?_⟩;exact one (Str.ofString "size",true) t p ht hp (by rw[e];rfl)
 have n1:¬k=1:=λe=>h1 (by rw[e])
 refine Δ (ξ (ϓ ?_));walk_at"ex";refine Ι (λh2=>?_) (λh2=>?_)
 .have e:k=2:=by injection h2
  refine ω (Κ ?_);walk_at"ex";refine⟨by show 2<=Ϫ;omega,λt ht=>?_⟩;walk_at"ex";refine⟨by show 1<=Ϫ;omega,λp hp=>?_⟩;exact one (Str.ofString "word",false) t p ht hp (by rw[e];rfl)
 have n2:¬k=2:=λe=>h2 (by rw[e])
 refine Δ (ξ (ϓ ?_));walk_at"ex";refine Ι (λh3=>?_) (λh3=>?_)
 .have e:k=3:=by injection h3
  refine ω (Κ ?_);walk_at"ex";refine⟨by show 2<=Ϫ;omega,λt ht=>?_⟩;walk_at"ex";refine⟨by show 2<=Ϫ;omega,λu hu=>?_⟩;walk_at"ex";refine⟨by show 2<=Ϫ;omega,λp hp=>?_⟩;exact two (Str.ofString "size",false) (Str.ofString "word",true) t u p ht hu hp (by rw[e];rfl)
 have n3:¬k=3:=λe=>h3 (by rw[e])
 refine Δ (ξ (ϓ ?_));walk_at"ex";refine Ι (λh4=>?_) (λh4=>?_)
 .have e:k=4:=by injection h4
  refine ω (Κ ?_);walk_at"ex";refine⟨by show 2<=Ϫ;omega,λt ht=>?_⟩;walk_at"ex";refine⟨by show 2<=Ϫ;omega,λu hu=>?_⟩;walk_at"ex";refine⟨by show 2<=Ϫ;omega,λp hp=>?_⟩;exact two (Str.ofString "word",true) (Str.ofString "size",true) t u p ht hu hp (by rw[e];rfl)
 have n4:¬k=4:=λe=>h4 (by rw[e])
 refine Δ (ω (Κ ?_));walk_at"ex";refine⟨by show 0<=Ϫ;omega,λp hp=>?_⟩;refine q p _ (ζ.upd hp) hp ?_;rw[show dR k=[]by unfold dR;rw[if_neg n1,if_neg n2,if_neg n3,if_neg n4]];exact⟨_,υ,.nil⟩
theorem BW(T:Txt K mg):Def P w K mg base true 1 "_law_order_words" ["_law_order_here"] Ze:=by
 refine Υ T.BW agh (λ_ _ _ _ _ H vs Q E hr h=>?_);obtain⟨a,os,rfl,⟨vs,ha,hvs⟩,hl,hn,q⟩:=h;have iy:(["_law_one"]:List Str).Nodup:=by decide+kernel
 have hsz:=ϲ;have jy:=hvs.len;have lp:("+":Str).length=1:=by decide+kernel
 have lm:("-":Str).length=1:=by decide+kernel
 have lb:(" ":Str).length=1:=by decide+kernel
 refine ω (Κ ?_);refine d8 F.plainAttrs_str F.slot_str_join F.type_str_join (h:=?_);walk_at"e";refine⟨by rfl,gZ (by rfl) ?_⟩;refine qH ["_law_one"] (σ':=[none]) (by rfl) (by rfl) (b8 (ο yI) (by rfl) (by rfl) (by decide+kernel)) (by intro _;rfl) ?_;walk_at"e";refine⟨a,vs,rfl,η.of ha,by omega,λτ=>∃o1,τ=[o1],λE2 i u H'=>∃c,os[i]?=some c/\u=.str (aD c),⟨none,rfl⟩,λE2 i u H2 H3 ys _ _ p=>p,λfp E2 C s3 H0 i τ x H4 H3 cI hi hτ Τ hys hG=>?_,λE2 H4 ys cI hl2 hx2 e4 Τ =>?_⟩
 .obtain⟨o1,rfl⟩:=hτ;obtain⟨aY,rfl⟩:=hG;obtain⟨c,hc,t,rfl,ht⟩:=hvs.get aY;have hcn:=hn c (aaZ hc);refine Ρ iy (by rfl) (.inl rfl) (.inr rfl) ?_;walk_at"ex";refine aU (Β.of (Τ _ _ ht)) (show ϔ [V.str c.1,V.bl c.2] 1=some (V.bl c.2)from rfl) ?_;walk_at"ex";refine iD (λh=>?_) (λh=>?_)
  .walk_at "ex";refine aU (Β.of (Τ _ _ ht)) (show ϔ [V.str c.1,V.bl c.2] 0=some (V.str c.1)from rfl) ?_;refine DP (by rw[lp];omega) ?_;exact⟨⟨_,rfl⟩,⟨c,hc,by unfold aD;rw[if_pos h]⟩,ζ.refl _⟩
  .walk_at "ex";refine aU (Β.of (Τ _ _ ht)) (show ϔ [V.str c.1,V.bl c.2] 0=some (V.str c.1)from rfl) ?_;refine DP (by rw[lm];omega) ?_;exact⟨⟨_,rfl⟩,⟨c,hc,by unfold aD;rw[if_neg (by rw[h];exact aah)]⟩,ζ.refl _⟩
 .have ey:=jb (ys:=os) (λc=>V.str (aD c)) (by rw[hl2,jy]) hx2;have iW:ys=(os.map aD).map V.str:=by rw[ey,ahl];rfl
  subst iW;walk_at"go";refine Gf (η.of e4) ?_ (q H4 Τ);rw[lb,ϳ];have hsum:∀l:List Ord,(∀o∈l,o.1.length<=1000)->((l.map aD).map (·.length)).sum<=l.length*1001:=by
   intro l;induction l with
   |nil=>intro _;simp
   |cons o l ih=>
    intro h;have h1:=ih λx hx=>h x (by simp[hx])
    have h2:=h o (by simp);have h3:(aD o).length<=1001:=by
     unfold aD;rw[len_app];split
     .rw[lp];omega
     .rw[lm];omega
    simp only[List.map_cons,List.sum_cons,List.length_cons];omega
  have:=hsum os hn;omega
def aaG:Sp:=λvs H Q _=>∃k:Nat,vs=[.int (k:Nat)]/\k<4/\∀H',ζ H H'->Q (.str (Str.join " " (wT (Γ ς) (ϡ k)))) H'
theorem ym(T:Txt K mg):Def P w K mg base true 1 "_law_sieve_words" ["_law_sieve"] aaG:=by
 refine Υ T.ym V3 (λ_ _ _ _ _ H vs Q E hr h=>?_);obtain⟨k,rfl,hk,q⟩:=h;have hsz:=ϲ;refine ω (Κ ?_);walk_at"ex";refine⟨by show 4<=Ϫ;omega,λp hp=>?_⟩;walk_at"ex";refine ϣ (η.of (xs:=yZ.map V.str) υ) (v:=.str (Str.join " " (wT (Γ ς) (ϡ k)))) (aW (by rw[aca,Zm hk];rfl)) ?_;exact q _ (ζ.upd hp)
def aay:Sp:=λvs H Q _=>∃(k:Nat)(l:δ)(r:Row),vs=[.int (k:Nat),.ref l]/\k<4/\H l=some (.lst r.2)/\ Μ ς r/\Q (.bl (Ξ r.2 (ϡ k))) H
theorem Af(T:Txt K mg):Def P w K mg base true 1 "_law_lets" ["_law_sieve","_law_values_here"] aay:=by
 refine Υ T.Af ahN (λ_ _ _ _ _ H vs Q E hr h=>?_);obtain⟨k,l,r,rfl,hk,hl,hf,q⟩:=h;obtain⟨x,y,er,hx,hy⟩:=ae4 hf;rw[er]at hl q;have g0:ϔ [x,y] 0=some x:=rfl;have g1:ϔ [x,y] 1=some y:=rfl;have fin:∀b:Bool,b=Ξ [x,y] (ϡ k)->Q (.bl b) H:=λb e=>by rw[e];exact q
 refine ξ (ϓ ?_);walk_at"ex";refine Ι (λh1=>?_) (λh1=>?_)
 .have e:k=1:=by injection h1 with h1;omega
  subst e;refine ω (Κ ?_);walk_at"ex";refine ϣ (η.of hl) g0 ?_;obtain rfl|⟨_,i,rfl,_⟩|⟨ek,_⟩:=hx
  .walk_at "ex";exact fin _ rfl
  .walk_at "ex";refine ϣ (η.of hl) g0 ?_;walk_at"ex";exact fin _ rfl
  .exact absurd rfl ek
 refine Δ (ξ (ϓ ?_));walk_at"ex";refine Ι (λh2=>?_) (λh2=>?_)
 .have e:k=2:=by injection h2 with h2;omega
  subst e;refine ω (Κ ?_);walk_at"ex";refine ϣ (η.of hl) g1 ?_;obtain rfl|⟨ek,_⟩|⟨_,z,rfl,_⟩:=hy
  .walk_at "ex";exact fin _ rfl
  .exact absurd ek (by decide+kernel)
  .walk_at "ex";exact fin _ rfl
 refine Δ (ξ (ϓ ?_));walk_at"ex";refine Ι (λh3=>?_) (λh3=>?_)
 .have e:k=3:=by injection h3 with h3;omega
  subst e;have hor:∀b:Bool,b=Ξ [x,y] (.one (.look .is 0 (.int 0)))->(b=true->Q (.bl true) H):=λb e1 hb=>fin _ (by show true=(Ξ [x,y] (.one (.look .is 0 (.int 0)))||_);rw[<-e1,hb];rfl)
  have hno:∀b:Bool,b=Ξ [x,y] (.one (.look .is 0 (.int 0)))->b=false->∀c:Bool,c=Ξ [x,y] (.one (.look .holds 1 (.str ("a":Str))))->Q (.bl c) H:=λb e1 hb c e2=>fin _ (by show c=(Ξ [x,y] (.one (.look .is 0 (.int 0)))|| Ξ [x,y] (.one (.look .holds 1 (.str ("a":Str)))));rw[<-e1,hb,e2];rfl)
  have ex:∀b:Bool,b=decide (x=.int 0)->b=Ξ [x,y] (.one (.look .is 0 (.int 0))):=λb e=>by
   rw[e];obtain rfl|⟨_,i,rfl,_⟩|⟨ek,_⟩:=hx
   .rfl
   .rfl
   .exact absurd rfl ek
  have sx:=hx.sc;refine ω (Κ ?_);walk_at"e";walk_at"e";walk_at"e";walk_at"e";walk_at"e";refine ϣ (η.of hl) g0 ?_;walk_at"e";refine zB (wB sx rfl) ?_;walk_at"t";refine Ι (λh=>?_) (λh=>?_)
  .exact hor _ (ex _ rfl) (decide_eq_true h)
  .walk_at "ex";refine ϣ (η.of hl) g1 ?_;have hn:=hno _ (ex _ rfl) (decide_eq_false h);obtain rfl|⟨ek,_⟩|⟨_,z,rfl,_⟩:=hy
   .walk_at "ex";exact hn _ rfl
   .exact absurd ek (by decide+kernel)
   .walk_at "ex";refine ϣ (η.of hl) g1 ?_;walk_at"ex";exact hn _ rfl
 refine Δ (ω (Κ ?_));walk_at"ex";have e:k=0:=by
  have:¬k=1:=λe=>h1 (by rw[e];rfl)
  have:¬k=2:=λe=>h2 (by rw[e];rfl)
  have:¬k=3:=λe=>h3 (by rw[e];rfl)
  omega
 subst e;exact fin _ rfl
def adB:Sp:=λvs H Q _=>∃(b:δ)(u v:V)(os:List Ord)(r q:Row),vs=[.ref b,u,v]/\cV H b os/\bh ς os/\cz H u r/\cz H v q/\ Μ ς r/\ Μ ς q/\∀H',ζ H H'->Q (.bl (cH ς os r q)) H'
theorem yt(T:Txt K mg):Def P w K mg base true 1 "_law_ahead" ["_law_order_here","_law_one","_law_other"] adB:=by
 refine Υ T.yt Js (λ_ _ A _ s H vs Q E hr h=>?_);obtain⟨b,u,v,os,r,q,rfl,⟨ws,hb,hws⟩,ϻ,⟨t1,l1,rfl,ht1,hl1⟩,⟨t2,l2,rfl,aL,hl2⟩,hfr,Nz,post⟩:=h;have nd:=Js.nd;have hsz:=ϲ;have hwl:=hws.len;have kr:=bV hfr ϻ;have kq:=bV Nz ϻ;obtain⟨x1,x2,x3⟩:=kr.aq kq;have hlr:=hfr.len;have zx:=Nz.len;refine ξ (oU (by walk_at"po") (by rfl) (by intro _;rfl) ?_);walk_at"ex";refine⟨b,ws,rfl,η.of hb,λi σ H'=>(∃o1 o2 o3 o4 o5 o6,σ=[some (.ref b),some (.ref t1),some (.ref t2),o1,o2,o3,o4,o5,o6])/\ζ H H'/\∀j x y,j<i->(Ω ς os r.2)[j]?=some x->(Ω ς os q.2)[j]?=some y->x=y,⟨⟨none,none,none,none,none,none,rfl⟩,ζ.refl _,λj x y h=>by omega⟩,λi σ H' _ hP=>η.of (hP.2.1 _ _ hb),λi wv σ H' hx hP=>?_,λσ H' hP=>?_⟩
 .obtain⟨⟨o1,o2,o3,o4,o5,o6,rfl⟩,sm,heq⟩:=hP;obtain⟨o,ho,tt,rfl,htt⟩:=hws.get hx;have hio:=ϻ o (aaZ ho);have hpl:=vG hio;have ex:r.2[Χ ς o.1]?=some (Ϟ ς r.2 o.1):=by
   unfold Ϟ;rw[aaf (by omega)];rfl
  have ey:q.2[Χ ς o.1]?=some (Ϟ ς q.2 o.1):=by
   unfold Ϟ;rw[aaf (by omega)];rfl
  have kx:(Ω ς os r.2)[i]?=some (Ϟ ς r.2 o.1):=by
   unfold Ω;rw[aca,ho];rfl
  have ky:(Ω ς os q.2)[i]?=some (Ϟ ς q.2 o.1):=by
   unfold Ω;rw[aca,ho];rfl
  obtain⟨sx,sy,hlk⟩:=x3 i _ _ kx ky;have De:=λϺ=>Xv (n:=r.1) (k:=q.1) x1 x2 ho kx ky heq Ϻ
  generalize Ϟ ς r.2 o.1=x at ex kx sx hlk De;generalize Ϟ ς q.2 o.1=y at ey ky sy hlk De;refine cG (by rfl) (by rfl) (by rfl) (Β.of (sm _ _ htt)) (by rfl) (ϛ (by rfl) (Ρ nd (by rfl) (.inl rfl) (.inl rfl) (ϛ (by rfl) (Ρ nd (by rfl) (.inl rfl) (.inl rfl) (cu ?_)))));refine ξ ?_;walk_at"s";refine d8 F.plainAttrs_list F.slot_list_index F.type_list_index (h:=?_);walk_at"ex";refine⟨by show 2<=Ϫ;omega,λp hp=>?_⟩;have s1:ζ H' (upd H' p (.lst ((ς.map Prod.fst).map V.str))):=ζ.upd hp;have e1:(upd H' p (.lst ((ς.map Prod.fst).map V.str))) p=some (.lst ((ς.map Prod.fst).map V.str)):=υ;refine⟨.inl ⟨rfl,_,η.of υ⟩,?_⟩;change EA _ _ _ (upd H' p (.lst ((ς.map Prod.fst).map V.str))) _;generalize upd H' p (.lst ((ς.map Prod.fst).map V.str))=H1 at s1 e1⊢;have Ν :=sm.trans s1;walk_at"ex";refine Ni (η.of e1) (Iu hio) (λm y h e=>DW h e) ?_;walk_at"A";refine aU (Β.of (Ν _ _ ht1)) (show ϔ [V.int r.1,V.ref l1] 1=some (V.ref l1)from rfl) ?_;walk_at"ex";refine ϣ (η.of (Ν _ _ hl1)) (aW ex) ?_;walk_at"A";refine aU (Β.of (Ν _ _ aL)) (show ϔ [V.int q.1,V.ref l2] 1=some (V.ref l2)from rfl) ?_;walk_at"ex";refine ϣ (η.of (Ν _ _ hl2)) (aW ey) ?_;refine ω (ϓ ?_);walk_at"ex";refine QF (wB sx sy) ?_;walk_at"ex";refine iD (λh=>?_) (λh=>?_)
  .have Ϻ:¬x=y:=by simpa using h
   have fin:∀(c:Bool),c=before x y->Q (.bl (decide (V.bl c=V.bl o.2))) H1:=λc ec=>by
    rw[show decide (V.bl c=V.bl o.2)=cH ς os r q by
     show _=ϝ os (Ω ς os r.2) (Ω ς os q.2) r.1 q.1;rw[De Ϻ,ec]
     congr 1
     exact propext ⟨λz=>by injection z,λz=>by rw[z]⟩]
    exact post H1 Ν
   cases x with
   |non=>
    cases y with
    |non=>exact absurd rfl Ϻ
    |int j=>
     walk_at"go";exact fin _ rfl
    |str z=>
     walk_at"go";exact fin _ rfl
    |_=>exact absurd sy aah
   |int i1=>
    cases y with
    |non=>
     walk_at"go";exact fin _ rfl
    |int j=>
     walk_at"go";exact fin _ rfl
    |str z=>obtain z|z|⟨_,_,_,z⟩|⟨_,_,z,_⟩:=hlk<;>cases z
    |_=>exact absurd sy aah
   |str z1=>
    cases y with
    |non=>
     walk_at"go";exact fin _ rfl
    |int j=>obtain z|z|⟨_,_,z,_⟩|⟨_,_,_,z⟩:=hlk<;>cases z
    |str z=>
     walk_at"go";exact fin _ rfl
    |_=>exact absurd sy aah
   |_=>exact absurd sx aah
  .have he:x=y:=by simpa using h
   refine Δ ⟨⟨_,_,_,_,_,_,rfl⟩,Ν,λj x' y' hj e1 e2=>?_⟩;by_cases e:j=i
   .subst e;rw[kx]at e1;rw[ky]at e2;cases e1;cases e2;exact he
   .exact heq j x' y' (by omega) e1 e2
 .obtain⟨⟨o1,o2,o3,o4,o5,o6,rfl⟩,sm,heq⟩:=hP;refine ω (Κ ?_);walk_at"ex";refine aU (Β.of (sm _ _ ht1)) (show ϔ [V.int r.1,V.ref l1] 0=some (V.int r.1)from rfl) ?_;walk_at"ex";refine aU (Β.of (sm _ _ aL)) (show ϔ [V.int q.1,V.ref l2] 0=some (V.int q.1)from rfl) ?_;walk_at"ex";rw[<-abJ (n:=r.1) (k:=q.1) x1 x2 λj x y hj e1 e2=>heq j x y (by omega) e1 e2];exact post _ sm
def jg:List V:=[.non,.str ("":Str),.str ("a":Str),.str ("ab":Str),.str ("b":Str),.str ("ba":Str)]
theorem agq:∀v∈jg,ϑ ("text":Str) v:=by
 have tx:∀z:Str,z.length<=20/\(∀c∈z.cps.toList,c∈SG)->ϑ ("text":Str) (.str z):=λz h=>.inr (.inr ⟨by decide+kernel,z,rfl,h.1,h.2⟩)
 intro v hv;simp only[jg,List.mem_cons,List.not_mem_nil,or_false]at hv;obtain rfl|rfl|rfl|rfl|rfl|rfl:=hv
 .exact .inl rfl
 all_goals exact tx _ (by decide+kernel)
def ZL(K:Ϩ):Sp:=λvs H Q _=>∃(a:δ)(ns:List Int)(k:Int),vs=[.ref a,.int k]/\η K H a (ns.map V.int)/\ns.length<=63/\0<=k/\k<=40000/\∀p xs H',ζ H H'->H p=none->H' p=some (.lst xs)->ψ (λ(c:χ) x=>ϑ c.2 x) ς xs->Q (.ref p) H'
theorem yK(T:Txt K mg):Def P w K mg base true 2 "_law_values" ["_law_script","_law_base"] (ZL K):=by
 refine Υ T.yK M8 (λf Ϲ A outer s H vs Q E hr h=>?_);obtain⟨a,ns,k,rfl,hS,hl,hk0,hk1,q⟩:=h;have nd:=M8.nd;have hsz:=ϲ;have D1:= @jX P w K mg base T;have tail:∀x:V,ϑ ("number":Str) x->Ψ (ϥ true P w K mg base Ft "_law_values" (ο vA) f Ϲ A outer s H E) ((ϗ vA).drop 2) {nx:=λ_ H'=>Q .non H',rt:=Q} [some (.ref a),some (.int k),some x] H:=by
  intro x hx;refine ω (Κ ?_);walk_at"ex";refine⟨by show 6<=Ϫ;omega,λp1 hp1=>?_⟩;obtain⟨s1,e1⟩:=aO hp1 (.lst jg);change EV _ _ _ (upd H p1 (.lst jg)) _;generalize upd H p1 (.lst jg)=H1 at s1 e1⊢;walk_at"ex";refine⟨a,ns,k+1,6,rfl,s1.seq hS,hl,by omega,by omega,by decide,?_⟩;have c0:=il ns (k+1) (m:=6) (by decide);have c1:=jh ns (k+1) (m:=6) (by decide);generalize bW ns (k+1) 6=d at c0 c1⊢;obtain⟨j,rfl⟩:=aeN c0;have hj:j<jg.length:=by show j<6;omega
  refine ϣ (η.of e1) (v:=jg[j]) (aW (aaf hj)) ?_;have hy:=agq _ (aid hj);generalize jg[j]=y at hy⊢;walk_at"ex";refine⟨by show 2<=Ϫ;omega,λp hp=>?_⟩;exact q p _ _ (s1.trans (ζ.upd hp)) (s1.free hp) υ (.cons hx (.cons hy .nil))
 walk_at"A";refine⟨a,ns,k,6,rfl,hS,hl,by omega,by omega,by decide,?_⟩;have c0:=il ns k (m:=6) (by decide);have c1:=jh ns k (m:=6) (by decide);generalize bW ns k 6=d at c0 c1⊢;walk_at"ex";refine ξ (ϓ ?_);walk_at"ex";refine Ι (λh=>?_) (λh=>?_)
 .refine ω ?_;walk_at"s";walk_at"ex";exact tail .non (.inl rfl)
 .exact Δ (tail _ (.inr (.inl ⟨rfl,_,rfl,by omega,by omega⟩)))
structure Tb(mg:Str->Option ε)(F:List δ)(A:BA)(d:δ)(H:Hp)(B:Bk):Prop where
 bk:Ο (cB mg) H A B
 ro:uq F H d B.rows
structure pH(A:BA)(d:δ)(F:List δ):Prop where
 nd:d∉A.six
 inF:∀x∈d::A.fp,x∈F
theorem By{A:BA}:∀x∈A.fp,x∈A.six:=λx hx=>by
 have hx':x=A.b\/x=A.r\/x=A.t\/x=A.d:=by simpa [BA.fp]using hx
 obtain rfl|rfl|rfl|rfl:=hx'<;>simp[BA.six]
section
variable{F:List δ}{A:BA}{d:δ}{H H':Hp}{B B':Bk}
theorem Tb.same(h:Tb mg F A d H B)(sm:ζ H H'):Tb mg F A d H' B:=by
 obtain⟨k1,e1,h1⟩:=h.ro;exact⟨h.bk.same sm,⟨k1,sm _ _ e1,gh h1 λv x z=>z.stay λb ys _ e=>sm _ _ e⟩⟩
theorem Tb.oZ(ap:pH A d F)(hb:Ο (cB mg) H A B){k0 Ϸ:List (Key×V)}(e:H d=some (.dK k0))(hk:ψ (PR (LR F H)) Ϸ B.rows):Tb mg F A d (upd H d (.dK Ϸ)) B:=by
 refine⟨hb.out (S:=[d]) (Out.upd (by simp)) (λy hy ys z=>by rw[ac0.mp hy,e]at z;cases z) λy hy hz=>?_,⟨Ϸ,υ,gh hk λv x z=>z.stay λb ys hb e=>?_⟩⟩
 .rw[ac0.mp hz]at hy;exact ap.nd hy
 .rw[ι (λz=>hb (by rw[z];exact ap.inF _ (by simp)))];exact e
theorem Tb.book(ap:pH A d F)(h:Tb mg F A d H B)(o:Out A.fp H H'):uq F H' d B.rows:=by
 obtain⟨k1,e1,h1⟩:=h.ro;exact⟨k1,o _ _ (λz=>ap.nd (By _ z)) e1,gh h1 λv x z=>z.stay λb ys hb e=>o _ _ (λz=>hb (ap.inF _ (by simp[z]))) e⟩
end
structure gR(B:Bk)(i:Nat):Prop where
 heads:B.heads=ς
 nd:(B.rows.map (·.1)).Nodup
 wf:pC B
 ok:∀p∈B.rows,Μ ς p
 keys:∀p∈B.rows,0<=p.1/\p.1<90
 rl:B.rows.length<=i
 tl:B.touched.length<=i
 dl:B.done.length<=i
theorem Cj{α:Type}{m:List (Int×α)}{i:Int}{x:α}{p:Int×α}(h:p∈bA m i x):p∈m/\¬p.1=i\/p=(i,x):=by
 unfold bA at h;split at h
 .obtain⟨q,hq,e⟩:=acR.mp h;split at e
  .next e2=>exact .inr (by rw[<-e,e2])
  .next e2=>exact .inl (by rw[<-e];exact⟨hq,e2⟩)
 .next hn=>
  obtain h|h:=afw.mp h
  .exact .inl ⟨h,λe=>hn (alG.mpr ⟨p,h,decide_eq_true e⟩)⟩
  .exact .inr (ac0.mp h)
theorem Oq{α:Type}(m:List (Int×α))(i:Int)(x:α):(bA m i x).length<=m.length+1:=by
 unfold bA;split
 .rw[ϳ];omega
 .rw[abo,ae7];omega
theorem Qa{α:Type}(m:List (Int×α))(i:Int):(bZ m i).length<=m.length:=ahM ..
theorem pC.deed{B:Bk}(h:pC B)(row:Int)(o:Option (List V)):pC (cU B row o):=λi=>by
 cases o with
 |none=>
  show ύ (bZ B.rows row) i=none↔ύ (bZ B.touched row) i=none;rw[Fz,Fz];by_cases e:i=row
  .rw[if_pos e,if_pos e];exact⟨λ_=>rfl,λ_=>rfl⟩
  .rw[if_neg e,if_neg e];exact h i
 |some xs=>
  show ύ (bA B.rows row xs) i=none↔ύ (bA B.touched row (B.now+1)) i=none;rw[Ol,Ol];by_cases e:i=row
  .rw[if_pos e,if_pos e];exact⟨(λz=>by cases z),(λz=>by cases z)⟩
  .rw[if_neg e,if_neg e];exact h i
theorem gR.deed{B:Bk}{i:Nat}(h:gR B i){row:Int}{o:Option (List V)}(h0:0<=row)(h1:row<90)(ho:∀xs,o=some xs->Μ ς (row,xs)):gR (cU B row o) (i+1):=by
 have g1:=h.tl;have g2:=h.dl;have g3:=h.rl;have hd:(cU B row o).done.length<=i+1:=by
  show(B.done++[_]).length<=i+1;rw[abo,ae7];omega
 cases o with
 |none=>
  refine⟨h.heads,ahU h.nd,h.wf.deed row none,λp hp=>h.ok p (ac8.mp hp).1,λp hp=>h.keys p (ac8.mp hp).1,?_,?_,hd⟩
  .show(bZ B.rows row).length<=i+1;have:=Qa B.rows row;omega
  .show(bZ B.touched row).length<=i+1;have:=Qa B.touched row;omega
 |some xs=>
  refine⟨h.heads,ad0 h.nd,h.wf.deed row (some xs),λp hp=>?_,λp hp=>?_,?_,?_,hd⟩
  .obtain hp|hp:=Cj hp
   .exact h.ok p hp.1
   .rw[hp];exact ho xs rfl
  .obtain hp|hp:=Cj hp
   .exact h.keys p hp.1
   .rw[hp];exact⟨h0,h1⟩
  .show(bA B.rows row xs).length<=i+1;have:=Oq B.rows row xs;omega
  .show(bA B.touched row (B.now+1)).length<=i+1;have:=Oq B.touched row (B.now+1);omega
theorem gR.small{B:Bk}{i:Nat}(h:gR B i)(hi:i<1000000):o7 B:=by
 have h1:=h.tl;have h2:=h.dl;have h3:=h.rl;exact⟨by omega,by omega,by omega⟩
def X4(K:Ϩ)(mg:Str->Option ε):Sp:=λvs H Q _=>∃(F:List δ)(A:BA)(B:Bk)(i:Nat)(sc d:δ)(ns:List Int)(k way:Int),vs=[.ref sc,.int k,.int way,.ref A.b,.ref d]/\η K H sc (ns.map V.int)/\ns.length<=63/\0<=k/\k<=10000/\Tb mg F A d H B/\pH A d F/\(∀x∈F,H x≠none)/\gR B i/\i<64/\
 ∀row o H',0<=row->row<90->(∀xs,o=some xs->Μ ς (row,xs))->Out (d::A.fp) H H'->Tb mg F A d H' (cU B row o)->Q .non H'
theorem rN(T:Txt K mg):Def P w K mg base true 7 "_law_deed" ["_law_script","_law_k","_law_way","_law_book","_law_table"] (X4 K mg):=by
 refine Υ T.rN Qd (λf Ϲ A' outer s0 H vs Q E hr h=>?_);obtain⟨F,A,B,i,sc,d,ns,k,way,rfl,hS,hl,k0,k1,hT,ap,jy,hO,hi,q⟩:=h;have nd:=Qd.nd;have n2:=T.nZ;have n3:=T.cJ;have n4:=T.qI;have hsz:=ϲ;have hu1:_+1<cLine:=ah4 (ajc (by decide:1<=64) _) hr.units;have hsm:=hO.small (by omega);have hrl:=hO.rl;have h6:B.heads.length<=6:=by rw[hO.heads];decide
 have D0:= @jX P w K mg base T;have D2:= @yK P w K mg base T;have M1:Ϣ P w K mg base true 6 (cB mg) "put" ["self","row","values"] (zA mg):=(afl T).meth T.aH T.agk;have M2:Ϣ P w K mg base true 6 (cB mg) "change" ["self","row","values"] (Cm mg):=(T9 T).meth T.aH T.V4;have M3:Ϣ P w K mg base true 4 (cB mg) "take" ["self","row"] (zE mg):=(agN T).meth T.aH T.agY;have Dk:∀{H2 H3:Hp},Out A.fp H2 H3->Out (d::A.fp) H2 H3:=λo=>o.mono λx hx=>by simp[hx]
 obtain⟨Ϸ,er,hR⟩:=id hT.ro;have hkl:=hR.len
 have tail:∀(row:Int)(v:δ)(xs:List V)(H3:Hp),0<=row->row<90->Μ ς (row,xs)->Out (d::A.fp) H H3->Ο (cB mg) H3 A (cU B row (some xs))->uq F H3 d B.rows->H3 v=some (.lst xs)->v∉F->
   Ψ (ϥ true P w K mg base xW "_law_deed" (ο nY) f Ϲ A' outer s0 H E) ((ϗ nY).drop 4) {nx:=λ_ H'=>Q .non H',rt:=Q} [some (.ref sc),some (.int k),some (.int way),some (.ref A.b),some (.ref d),some (.int row),some (.ref v)] H3:=by
  intro row v xs H3 r0 r1 hok o3 hB3 hK3 hv oF;obtain⟨yj,nF,qb⟩:=hK3;have akP:=qb.len;refine ω (yQ hu1 (by rfl) ?_);walk_at"ex";refine⟨d,_,rfl,iK.k (k:=Sum.inl row) nF (by omega),?_⟩;exact q row (some xs) _ r0 r1 (λys e=>by cases e;exact hok) (o3.trans (Out.upd (by simp))) (Tb.oZ ap hB3 nF (xZ qb row ⟨v,rfl,hv,oF⟩))
 have rest:∀(row:Int)(H1:Hp),0<=row->row<90->ζ H H1->Ψ (ϥ true P w K mg base xW "_law_deed" (ο nY) f Ϲ A' outer s0 H E) ((ϗ nY).drop 2) {nx:=λ_ H'=>Q .non H',rt:=Q} [some (.ref sc),some (.int k),some (.int way),some (.ref A.b),some (.ref d),some (.int row),none] H1:=by
  intro row H1 r0 r1 s1;walk_at"A";refine⟨sc,ns,300+2*k,rfl,s1.seq hS,hl,by omega,by omega,λv xs H2 s2 hv0 hv hall=>?_⟩;have bu:=s1.trans s2;have oF:v∉F:=λz=>jy v z (s1.free hv0)
  have hT2:=hT.same bu;have lN:=hT2.bk;have g2:=ao.k (k:=Sum.inl row) (bu _ _ er);have hok:Μ ς (row,xs):=hall;refine ξ (ϓ ?_);walk_at"ex";refine PL hu1 g2 ?_;obtain⟨e1,e2⟩|⟨u,x,e1,e2,_⟩:=iQ hR row
  .rw[show(ϟ Ϸ (Sum.inl row)).isSome=false by rw[e1];rfl];walk_at"ex";refine ω (aQ (by rfl) ?_);refine bO (pl:=_) hr Λ (h:=?_);walk_at"e";refine⟨A.b,cB mg,A.dx,_,true,6,_,zA mg,rfl,lN.ins,by rfl,M1,by decide,id,?_⟩;walk_at"ex";refine jW (.inl (η.of hv)) λb hb=>?_
   obtain⟨eU,eb⟩:=aO hb (.lst xs);generalize upd H2 b (.lst xs)=H8 at eU eb⊢;walk_at"ex";refine⟨A,B,row,b,xs,rfl,lN.same eU,eb,h6,⟨r0,by omega,by rw[hO.heads];exact hall⟩,hsm,λz=>absurd e2 z,λ_ H3 o3 k3=>?_⟩;exact tail row v xs H3 r0 r1 hok ((Out.of (bu.trans eU)).trans (Dk o3)) k3 ((hT2.same eU).book ap o3) (o3 _ _ (λz=>oF (ap.inF _ (by simp[z]))) (eU _ _ hv)) oF
  .rw[show(ϟ Ϸ (Sum.inl row)).isSome=true by rw[e1];rfl];walk_at"ex";refine ω (ϓ ?_);walk_at"ex";refine Ι (λhw=>?_) (λhw=>?_)
   .refine ξ (aQ (by rfl) ?_);refine bO (pl:=_) hr Λ (h:=?_);walk_at"e";refine⟨A.b,cB mg,A.dx,_,true,4,_,zE mg,rfl,lN.ins,by rfl,M3,by decide,id,?_⟩;walk_at"ex";refine⟨A,B,row,rfl,lN,r0,by omega,hsm,hO.wf,(λz=>by rw[e2]at z;cases z),λ_ H3 o3 k3=>?_⟩;obtain⟨yj,nF,qb⟩:=hT2.book ap o3;refine ξ (aQ (by rfl) (BK (by constructor<;>rfl) ?_));walk_at"ex";refine⟨d,rfl,.inl ⟨_,.inl nF⟩,?_⟩;walk_at"ex";have Rt:∃v,ϟ yj (Sum.inl row)=some v:=by
     obtain⟨_,z⟩|⟨u,y,z,_⟩:=iQ qb row
     .rw[e2]at z;cases z
     .exact⟨u,z⟩
    obtain⟨vv,yz⟩:=Rt;refine⟨yj,Sum.inl row,vv,nF,rfl,yz,?_⟩;refine ω (Qf ?_);exact q row none _ r0 r1 (λys e=>by cases e) (((Out.of bu).trans (Dk o3)).trans (Out.upd (by simp))) (Tb.oZ ap k3 nF (BR qb row))
   .refine ω (aQ (by rfl) ?_);refine bO (pl:=_) hr Λ (h:=?_);walk_at"e";refine⟨A.b,cB mg,A.dx,_,true,6,_,Cm mg,rfl,lN.ins,by rfl,M2,by decide,id,?_⟩;walk_at"ex";refine jW (.inl (η.of hv)) λb hb=>?_
    obtain⟨eU,eb⟩:=aO hb (.lst xs);generalize upd H2 b (.lst xs)=H8 at eU eb⊢;walk_at"ex";refine⟨A,B,row,b,xs,rfl,lN.same eU,eb,h6,⟨r0,by omega,by rw[hO.heads];exact hall⟩,hsm,(λz=>by rw[e2]at z;cases z),λ_ H3 o3 k3=>?_⟩;exact tail row v xs H3 r0 r1 hok ((Out.of (bu.trans eU)).trans (Dk o3)) k3 ((hT2.same eU).book ap o3) (o3 _ _ (λz=>oF (ap.inF _ (by simp[z]))) (eU _ _ hv)) oF
 walk_at"A";refine⟨sc,ns,500+k,90,rfl,hS,hl,by omega,by omega,by decide,?_⟩;have j0:=il ns (500+k) (m:=90) (by decide);have j1:=jh ns (500+k) (m:=90) (by decide);generalize bW ns (500+k) 90=row at j0 j1⊢;refine ξ (ϓ ?_);walk_at"ex";refine Ι (λhw=>?_) (λhw=>?_)
 .walk_at "ex";refine JK er ?_;walk_at"ex";refine Ι (λhw2=>?_) (λhw2=>?_)
  .refine ω ?_;walk_at"s";walk_at"ex";refine Bl (ks:=B.rows.map (·.1)) (by rfl) er (yq hR) (by rw[ϳ];omega) λL ks hL hp hs=>?_
   obtain⟨bJ,eL⟩:=aO hL (.lst (ks.map V.int));generalize upd H L (.lst (ks.map V.int))=H1 at bJ eL⊢;have hks:ks.length=Ϸ.length:=by rw[hp.length_eq,ϳ,hkl]
   walk_at"ex";refine JK (bJ _ _ er) ?_;walk_at"ex";refine⟨sc,ns,600+k,Ϸ.length,rfl,bJ.seq hS,hl,by omega,by omega,by omega,?_⟩;have c0:=il ns (600+k) (m:=(Ϸ.length:Nat)) (by omega);have c1:=jh ns (600+k) (m:=(Ϸ.length:Nat)) (by omega);generalize bW ns (600+k) (Ϸ.length:Nat)=jj at c0 c1⊢;obtain⟨j,rfl⟩:=aeN c0;have hj:j<ks.length:=by omega
   refine ϣ (η.of eL) (v:=.int ks[j]) (aW (by rw[aca,aaf hj];rfl)) ?_;have hm:ks[j]∈B.rows.map (·.1):=hp.mem_iff.mp (aid hj);obtain⟨p,hpm,e⟩:=acR.mp hm;have hkk:=hO.keys p hpm;exact rest ks[j] H1 (by omega) (by omega) bJ
  .exact Δ (rest row H j0 j1 (ζ.refl _))
 .walk_at "ex";exact Δ (rest row H j0 j1 (ζ.refl _))
end
end K94
namespace K94
open PySem L2 PyProof.Rows My Vl Lw
section
variable{P:ϯ}{w:ϭ}{K:Ϩ}{mg:Str->Option ε}{base:ϫ}
theorem oM{α:Type}[BEq α][LawfulBEq α]:∀{l m:List α},l.Nodup->(∀x∈l,x∈m)->l.length<=m.length
 |[],m,_,_=>agf _
 |a::r,m,h,s=>by
  have h':=aj2.mp h;have ha:=s a (aeM ..);have hle:=oM (l:=r) (m:=m.erase a) h'.2 λx hx=>(List.mem_erase_of_ne (λe=>h'.1 (by subst e;exact hx))).mpr (s x (abK _ hx))
  rw[List.length_erase_of_mem ha]at hle;have:=List.length_pos_of_mem ha;rw[List.length_cons];omega
section
variable{α:Type} [DecidableEq α]
theorem wR(p:α->Bool):∀l:List α,l.length=(l.filter p).length+(l.filter λx=> !p x).length
 |[]=>rfl
 |a::l=>by
  have ih:=wR p l;rw[List.filter_cons,List.filter_cons];cases p a
  .rw[if_neg aah,if_pos (show(!false)=true from rfl),List.length_cons,List.length_cons];omega
  .rw[if_pos rfl,if_neg (show ¬(!true)=true from aah),List.length_cons,List.length_cons];omega
def cY(X Y:List α):List α:=X.filter λx=> !decide (x∈Y)
theorem mO{X Y:List α}{x:α}:x∈cY X Y↔x∈X/\x∉Y:=by
 unfold cY;rw[ac8];by_cases h:x∈Y
 .rw[decide_eq_true h];exact⟨λz=>absurd z.2 aah,λz=>absurd h z.2⟩
 .rw[decide_eq_false h];exact⟨λz=>⟨z.1,h⟩,λz=>⟨z.1,rfl⟩⟩
def Df(d:Nat)(X Y:List α):Prop:=(cY X Y).length<=d/\(cY Y X).length<=d
theorem J1{X Y Z:List α}(hx:X.Nodup):(cY X Z).length<=(cY X Y).length+(cY Y Z).length:=by
 rw[<-abo];refine oM (hx.sublist aja) λx h=>?_
 obtain⟨h1,h2⟩:=mO.mp h;by_cases hy:x∈Y
 .exact ack _ (mO.mpr ⟨hy,h2⟩)
 .exact ahp _ (mO.mpr ⟨h1,hy⟩)
theorem Df.trans{d e:Nat}{X Y Z:List α}(h:Df d X Y)(g:Df e Y Z)(hx:X.Nodup)(hz:Z.Nodup):Df (d+e) X Z:=by
 have a:=J1 (Y:=Y) (Z:=Z) hx;have b:=J1 (Y:=Y) (Z:=X) hz;have h1:=h.1;have h2:=h.2;have g1:=g.1;have g2:=g.2;exact⟨by omega,by omega⟩
theorem Df.perm{d:Nat}{X Y Z:List α}(h:Df d X Y)(p:Z.Perm Y):Df d X Z:=by
 refine⟨?_,?_⟩
 .have e:cY X Z=cY X Y:=List.filter_congr λx _=>by rw[decide_eq_decide.mpr p.mem_iff]
  rw[e];exact h.1
 .have e:(cY Z X).length=(cY Y X).length:=(p.filter _).length_eq;rw[e];exact h.2
theorem Df.refl(X:List α):Df 0 X X:=by
 have:(cY X X).length=0:=by
  rw[aky,List.eq_nil_iff_forall_not_mem];exact λx hx=>(mO.mp hx).2 (mO.mp hx).1
 exact⟨by omega,by omega⟩
theorem m5{lt:α->α->Prop}{M:List α}{B:Nat}(h:M.Pairwise lt){x y:α}(hx:x∈M)(hn:x∉M.take B)(hy:y∈M.take B):lt y x:=by
 have h':(M.take B++M.drop B).Pairwise lt:=by rw[aiK];exact h
 refine(al6.mp h').2.2 y hy x ?_;have hx':x∈M.take B++M.drop B:=by rw[aiK];exact hx
 exact(afw.mp hx').resolve_left hn
theorem uA{lt:α->α->Prop}(as:∀a b,lt a b->lt b a->False){M:List α}(h:M.Pairwise lt):M.Nodup:=h.imp λ{a b} h e=>by subst e;exact as _ _ h h
theorem ais{lt:α->α->Prop}(as:∀a b,lt a b->lt b a->False){M M' S:List α}{B d:Nat}(hM:M.Pairwise lt)(hM':M'.Pairwise lt)(hS:S.Nodup)(s1:∀x∈S,x∈M)(s2:∀x∈S,x∈M')(hB:B<M.length)(hd:Df d M M'):(S.filter λx=>decide (x∈M.take B) !=decide (x∈M'.take B)).length<=d:=by
 have n1:=uA as hM;have n2:=uA as hM';have lP:(M.take B).length=B:=by rw[agW];omega
 have lP':(M'.take B).length<=B:=by rw[agW];omega
 have nD:(S.filter λx=>decide (x∈M.take B) !=decide (x∈M'.take B)).Nodup:=hS.sublist aja;have mD:∀x∈S.filter (λx=>decide (x∈M.take B) !=decide (x∈M'.take B)),x∈M/\x∈M'/\((x∉M.take B/\x∈M'.take B)\/(x∈M.take B/\x∉M'.take B)):=λx hx=>by
  obtain⟨h1,h2⟩:=ac8.mp hx;refine⟨s1 x h1,s2 x h1,?_⟩;by_cases a:x∈M.take B
  .by_cases b:x∈M'.take B
   .rw[decide_eq_true a,decide_eq_true b]at h2;cases h2
   .exact .inr ⟨a,b⟩
  .by_cases b:x∈M'.take B
   .exact .inl ⟨a,b⟩
   .rw[decide_eq_false a,decide_eq_false b]at h2;cases h2
 generalize S.filter (λx=>decide (x∈M.take B) !=decide (x∈M'.take B))=D at nD mD;by_cases hdn:∃x∈D,x∉M.take B/\x∈M'.take B
 .obtain⟨x0,hx0,a0,b0⟩:=hdn;have m0:=mD x0 hx0;have all:∀y∈D,y∉M.take B/\y∈M'.take B:=λy hy=>by
   obtain⟨c1,c2,c3|c3⟩:=mD y hy
   .exact c3
   .exact(as _ _ (m5 hM m0.1 a0 c3.1) (m5 hM' c2 c3.2 b0)).elim
  have h1:=oM (l:=D++(M.take B).filter λx=>decide (x∈M')) (m:=M'.take B) (aki.mpr ⟨nD,(n1.sublist (akf ..)).sublist aja,λa ha b hb e=>(all a ha).1 (by rw[e];exact(ac8.mp hb).1)⟩) λy hy=>by
   obtain hy|hy:=afw.mp hy
   .exact(all y hy).2
   .obtain⟨c1,c2⟩:=ac8.mp hy;have c2:=of_decide_eq_true c2;by_cases c3:y∈M'.take B
    .exact c3
    .exact(as _ _ (m5 hM m0.1 a0 c1) (m5 hM' c2 c3 b0)).elim
  have h2:=wR (λx=>decide (x∈M')) (M.take B);have h3:=(List.Sublist.filter (λx=> !decide (x∈M')) (akf B M)).length_le;have h4:(M.filter λx=> !decide (x∈M')).length<=d:=hd.1;rw[abo]at h1;omega
 .have all:∀y∈D,y∈M.take B/\y∉M'.take B:=λy hy=>by
   obtain⟨c1,c2,c3|c3⟩:=mD y hy
   .exact(hdn ⟨y,hy,c3⟩).elim
   .exact c3
  cases D with
  |nil=>exact agf _
  |cons y0 D0=>
   have m0:=mD y0 (aeM ..);have a0:=all y0 (aeM ..);have lB:B<M'.length:=by
    refine amu λh=>a0.2 ?_
    rw[agI h];exact m0.2.1
   have lP2:(M'.take B).length=B:=by rw[agW];omega
   have h1:=oM (l:=(y0::D0)++(M'.take B).filter λx=>decide (x∈M)) (m:=M.take B) (aki.mpr ⟨nD,(n2.sublist (akf ..)).sublist aja,λa ha b hb e=>(all a ha).2 (by rw[e];exact(ac8.mp hb).1)⟩) λy hy=>by
    obtain hy|hy:=afw.mp hy
    .exact(all y hy).1
    .obtain⟨c1,c2⟩:=ac8.mp hy;have c2:=of_decide_eq_true c2;by_cases c3:y∈M.take B
     .exact c3
     .exact(as _ _ (m5 hM c2 c3 a0.1) (m5 hM' m0.2.1 a0.2 c1)).elim
   have h2:=wR (λx=>decide (x∈M)) (M'.take B);have h3:=(List.Sublist.filter (λx=> !decide (x∈M)) (akf B M')).length_le;have h4:(M'.filter λx=> !decide (x∈M)).length<=d:=hd.2;rw[abo]at h1;omega
noncomputable def on (p:Prop):Nat:= @ite Nat p (Classical.propDecidable p) 1 0
theorem gq{p:Prop}(h:p):on p=1:=if_pos h
theorem gn{p:Prop}(h:¬p):on p=0:=if_neg h
def ab(a b:Nat):Nat:=(a-b)+(b-a)
noncomputable def tc (s:Nat):Nat->List (List α)->α->Nat
 |_,[],_=>0
 |j,M::Ms,x=>on (x∈(M.drop (j*s)).take s)+tc s (j+1) Ms x
theorem Qq(s:Nat)(M:List α)(x:α):∀(Ms:List (List α))(j:Nat),tc s j (Ms++[M]) x=tc s j Ms x+on (x∈(M.drop ((j+Ms.length)*s)).take s)
 |[],j=>by
  show on _+0=0+on _;simp only[List.length_nil,amc,alQ]
 |L::Ms,j=>by
  show on _+tc s (j+1) (Ms++[M]) x=on _+tc s (j+1) Ms x+_;rw[Qq s M x Ms (j+1),List.length_cons,show j+1+Ms.length=j+(Ms.length+1)by omega];omega
inductive Ch (lt:α->α->Prop) (s:Nat):List (List α)->Nat->Prop
 |one {M:List α}:M.Pairwise lt->Ch lt s [M] 0
 |more {Ls:List (List α)} {M M':List α} {n d:Nat}:Ch lt s (Ls++[M]) n->(Ls.length+1)*s<M.length->Df d M M'->M.Pairwise lt->M'.Pairwise lt->Ch lt s (Ls++[M]++[M']) (n+d)
theorem wO{f g:α->Nat}{p:α->Bool}:∀{S:List α},(∀x∈S,f x<=g x+(if p x=true then 1 else 0))->(S.map f).sum<=(S.map g).sum+(S.filter p).length
 |[],_=>agf _
 |a::S,h=>by
  have ih:=wO (S:=S) λx hx=>h x (abK _ hx)
  have h1:=h a (aeM ..);rw[List.map_cons,List.map_cons,List.sum_cons,List.sum_cons,List.filter_cons];split
  .next e=>rw[if_pos e]at h1;rw[List.length_cons];omega
  .next e=>rw[if_neg e]at h1;omega
theorem Uc{M:List α}(h:M.Nodup)(a s:Nat)(x:α):on (x∈M.take (a+s))=on (x∈M.take a)+on (x∈(M.drop a).take s):=by
 rw[List.take_add];by_cases h1:x∈M.take a
 .have h2:x∉(M.drop a).take s:=λz=>by
   have h':(M.take a++M.drop a).Nodup:=by rw[aiK];exact h
   exact(aki.mp h').2.2 x h1 x (ajV z) rfl
  rw[gq (ahp _ h1),gq h1,gn h2]
 .by_cases h2:x∈(M.drop a).take s
  .rw[gq (ack _ h2),gn h1,gq h2]
  .rw[gn (λz=>(afw.mp z).elim h1 h2),gn h1,gn h2]
theorem aeX{lt:α->α->Prop}(as:∀a b,lt a b->lt b a->False){s:Nat}{S:List α}(hS:S.Nodup){eN:List (List α)}{n:Nat}(h:Ch lt s eN n):(∀L∈eN,∀x∈S,x∈L)->∀Ls M,eN=Ls++[M]->(S.map λx=>ab (tc s 0 eN x) (on (x∈M.take (eN.length*s)))).sum<=n:=by
 induction h with
 | @one M0 hp=>
   intro ϻ Ls M e;have e2:Ls=[]/\M=M0:=by
    cases Ls with
    |nil=>exact⟨rfl,by simpa using e.symm⟩
    |cons a b=>have:=congrArg amo e;simp at this
   obtain⟨rfl,rfl⟩:=e2;have:=wO (S:=S) (f:=λx=>ab (tc s 0 [M] x) (on (x∈M.take ([M].length*s)))) (g:=λ_=>0) (p:=λ_=>false) λx hx=>by
    show ab (on (x∈(M.drop (0*s)).take s)+0) (on (x∈M.take (1*s)))<=0+0;rw[Nat.zero_mul,ame,ani,amc];unfold ab;omega
   have z:∀T:List α,(T.map λ_=>0).sum=0:=λT=>by induction T with
    |nil=>rfl
    |cons a T ih=>rw[List.map_cons,List.sum_cons,ih]
   rw[z,List.filter_eq_nil_iff.mpr (λx _=>aah)]at this;exact this
 | @more Ls M M' n d hc hl hd hp hp' ih=>
   intro ϻ Ls2 M2 e;obtain⟨rfl,e3⟩:=List.append_inj' e rfl;have e4:M'=M2:=by simpa using e3
   subst e4;have ih:=ih (λL hL x hx=>ϻ L (ahp _ hL) x hx) Ls M rfl;have sM:∀x∈S,x∈M:=λx hx=>ϻ M (by simp) x hx
   have sM':∀x∈S,x∈M':=λx hx=>ϻ M' (by simp) x hx
   have Vt:=ais as hp hp' hS sM sM' hl hd;have h1:=wO (S:=S) (f:=λx=>ab (tc s 0 (Ls++[M]++[M']) x) (on (x∈M'.take ((Ls++[M]++[M']).length*s)))) (g:=λx=>ab (tc s 0 (Ls++[M]) x) (on (x∈M.take ((Ls++[M]).length*s)))) (p:=λx=>decide (x∈M.take ((Ls.length+1)*s)) !=decide (x∈M'.take ((Ls.length+1)*s))) λx hx=>by
    have e1:(Ls++[M]).length=Ls.length+1:=by simp
    have e2:(Ls++[M]++[M']).length*s=(Ls.length+1)*s+s:=by
     rw[abo,e1,ae7,anB,ani]
    show ab (tc s 0 (Ls++[M]++[M']) x) (on (x∈M'.take ((Ls++[M]++[M']).length*s)))<=ab (tc s 0 (Ls++[M]) x) (on (x∈M.take ((Ls++[M]).length*s)))+_;rw[Qq,e2,Uc (uA as hp'),e1,alQ];generalize(Ls.length+1)*s=B;generalize on (x∈(M'.drop B).take s)=t;generalize tc s 0 (Ls++[M]) x=c;unfold ab;by_cases a:x∈M.take B
    .by_cases b:x∈M'.take B
     .rw[gq a,gq b];omega
     .rw[gq a,gn b,if_pos (by rw[decide_eq_true a,decide_eq_false b];rfl)];omega
    .by_cases b:x∈M'.take B
     .rw[gn a,gq b,if_pos (by rw[decide_eq_false a,decide_eq_true b];rfl)];omega
     .rw[gn a,gn b];omega
   exact afK h1 (Nat.add_le_add ih Vt)
end
def Ε(os:List Ord)(r:Row):Int×List V:=(r.1,Ω ς os r.2)
def dY(os:List Ord)(a b:Int×List V):Prop:=dD ς os a.2/\dD ς os b.2/\ϝ os a.2 b.2 a.1 b.1=true
theorem O1(os:List Ord)(a b:Int×List V)(h:dY os a b)(g:dY os b a):False:=by
 have:=qM h.1 h.2.1 h.1 h.2.2 g.2.2;rw[vP h.1.len.symm]at this;exact absurd (of_decide_eq_true this) (by omega)
theorem Jp{os:List Ord}(ϻ:bh ς os):∀{ls:List Row},(∀r∈ls,Μ ς r)->Line ς os ls->(ls.map (Ε os)).Pairwise (dY os)
 |[],_,_=>.nil
 |r::ls,hf,h=>by
  obtain⟨h1,h2⟩:=aiL.mp h;refine aiL.mpr ⟨λb hb=>?_,Jp ϻ (λq hq=>hf q (by simp[hq])) h2⟩;obtain⟨q,hq,rfl⟩:=acR.mp hb;exact⟨bV (hf r (by simp)) ϻ,bV (hf q (by simp[hq])) ϻ,h1 q hq⟩
def aN(s:Nat):Nat->List (List Row)->List Int
 |_,[]=>[]
 |j,L::Ls=>((L.drop (j*s)).take s).map Prod.fst++aN s (j+1) Ls
theorem Ia(s:Nat)(L:List Row):∀(Ls:List (List Row))(j:Nat),aN s j (Ls++[L])=aN s j Ls++((L.drop ((j+Ls.length)*s)).take s).map Prod.fst
 |[],j=>by
  show _++[]=[]++_;rw[List.append_nil,amF,List.length_nil,amc]
 |M::Ls,j=>by
  show _++aN s (j+1) (Ls++[L])=_++aN s (j+1) Ls++_;rw[Ia s L Ls (j+1),List.length_cons,show j+1+Ls.length=j+(Ls.length+1)by omega,amm]
theorem O2{L:List Row}(h:(L.map Prod.fst).Nodup){r q:Row}(hr:r∈L)(hq:q∈L)(e:r.1=q.1):r=q:=by
 have a:=vp h hr;have b:=vp h hq;rw[e,b]at a;exact Prod.ext e (Option.some.inj a).symm
theorem V6{os:List Ord}{L Z:List Row}(h:(L.map Prod.fst).Nodup)(hz:Z.Sublist L){x:Int×List V}(hx:x∈L.map (Ε os)):(Z.map Prod.fst).count x.1=on (x∈Z.map (Ε os)):=by
 have hn:(Z.map Prod.fst).Nodup:=h.sublist (hz.map _);by_cases m:x∈Z.map (Ε os)
 .rw[gq m];obtain⟨r,hr,e⟩:=acR.mp m;have:x.1∈Z.map Prod.fst:=acR.mpr ⟨r,hr,by rw[<-e];rfl⟩;have h1:=List.nodup_iff_count.mp hn x.1;have h2:=List.count_pos_iff.mpr this;omega
 .rw[gn m,List.count_eq_zero];intro hm;obtain⟨r,hr,e⟩:=acR.mp hm;obtain⟨q,hq,e2⟩:=acR.mp hx;have e3:r=q:=O2 h (hz.subset hr) hq (by rw[e, <-e2];rfl);exact m (acR.mpr ⟨r,hr,by rw[e3];exact e2⟩)
theorem Qj{os:List Ord}{s:Nat}{x:Int×List V}:∀{Ls:List (List Row)}{j:Nat},(∀L∈Ls,(L.map Prod.fst).Nodup/\x∈L.map (Ε os))->(aN s j Ls).count x.1=tc s j (Ls.map λL=>L.map (Ε os)) x
 |[],_,_=>rfl
 |L::Ls,j,h=>by
  have h1:=h L (by simp);show(((L.drop (j*s)).take s).map Prod.fst++aN s (j+1) Ls).count x.1=on (x∈((L.map (Ε os)).drop (j*s)).take s)+tc s (j+1) (Ls.map λL=>L.map (Ε os)) x;rw[List.count_append,Qj (j:=j+1) λL hL=>h L (by simp[hL]),V6 h1.1 ((akf ..).trans (List.drop_sublist ..)) h1.2,anw,anv]
def dh(os:List Ord)(Ls:List (List Row))(r:Row):Bool:=Ls.all λL=>decide (Ε os r∈L.map (Ε os))
def fO(os:List Ord)(Ls:List (List Row))(told:List Int)(rs:List Row):Nat:=((rs.filter (dh os Ls)).map λr=>ab (told.count r.1) 1).sum
theorem Zf{os:List Ord}{s n:Nat}{Ls:List (List Row)}{L0 M:List Row}(hc:Ch (dY os) s (Ls.map λL=>L.map (Ε os)) n)(hn:∀L∈Ls,(L.map Prod.fst).Nodup)(h0:L0∈Ls)(hl:Ls.getLast? =some M)(he:M.length<=Ls.length*s):fO os Ls (aN s 0 Ls) L0<=n:=by
 have Bh:∀r∈L0.filter (dh os Ls),∀L∈Ls,Ε os r∈L.map (Ε os):=λr hr L hL=>of_decide_eq_true (aeE.mp (ac8.mp hr).2 L hL)
 have hS:((L0.filter (dh os Ls)).map (Ε os)).Nodup:=by
  have h1:((L0.filter (dh os Ls)).map Prod.fst).Nodup:=(hn L0 h0).sublist (List.filter_sublist.map _);have h2:(L0.filter (dh os Ls)).map Prod.fst=((L0.filter (dh os Ls)).map (Ε os)).map Prod.fst:=by rw[ahl];rfl
  rw[h2]at h1;exact(alB.mp h1).imp λh e=>h (by rw[e])
 obtain⟨mC,e1⟩:∃mC,Ls=mC++[M]:=by
  obtain⟨ys,e⟩:=amg.mp hl;exact⟨ys,e⟩
 have h:=aeX (O1 os) hS hc (λL hL x hx=>by
  obtain⟨L',hL',rfl⟩:=acR.mp hL;obtain⟨r,hr,rfl⟩:=acR.mp hx;exact Bh r hr L' hL') (mC.map λL=>L.map (Ε os)) (M.map (Ε os)) (by rw[e1];simp)
 refine afK (alO ?_) h;unfold fO;rw[ahl]
 congr 1
 refine alM λr hr=>?_
 show ab ((aN s 0 Ls).count r.1) 1=ab (tc s 0 (Ls.map λL=>L.map (Ε os)) (Ε os r)) (on (Ε os r∈(M.map (Ε os)).take ((Ls.map λL=>L.map (Ε os)).length*s)));rw[<-Qj (x:=Ε os r) λL hL=>⟨hn L hL,Bh r hr L hL⟩,agI (by rw[ϳ,ϳ];exact he)];rw[gq (Bh r hr M (by rw[e1];simp))];rfl
def fu(os:List Ord)(s:Nat)(Ls:List (List Row))(X:List Row)(n:Nat):Prop:=(Ls=[]/\n=0)\/∃eN L n' d,Ls=eN++[L]/\Ch (dY os) s (Ls.map λL=>L.map (Ε os)) n'/\Ls.length*s<L.length/\(L.map (Ε os)).Pairwise (dY os)/\Df d (L.map (Ε os)) (X.map (Ε os))/\n=n'+d
theorem fu.leaf{os:List Ord}{s n:Nat}{Ls:List (List Row)}{X M:List Row}(h:fu os s Ls X n)(hp:M.Perm X)(hm:(M.map (Ε os)).Pairwise (dY os)):Ch (dY os) s ((Ls++[M]).map λL=>L.map (Ε os)) n:=by
 obtain⟨rfl,rfl⟩|⟨eN,L,n',d,rfl,hc,hl,hw,hd,rfl⟩:=h
 .exact .one hm
 .have :=Ch.more (Ls:=eN.map λL=>L.map (Ε os)) (M:=L.map (Ε os)) (M':=M.map (Ε os)) (s:=s) (lt:=dY os) (n:=n') (d:=d) (by simpa using hc) (by rw[ϳ,ϳ];simpa using hl) (hd.perm (hp.map _)) hw hm;simpa using this
theorem fu.go{os:List Ord}{s n:Nat}{Ls:List (List Row)}{M X:List Row}(h:Ch (dY os) s ((Ls++[M]).map λL=>L.map (Ε os)) n)(hl:(Ls++[M]).length*s<M.length)(hm:(M.map (Ε os)).Pairwise (dY os))(hp:M.Perm X):fu os s (Ls++[M]) X n:=
 .inr ⟨Ls,M,n,0,rfl,h,hl,hm,(Df.refl _).perm (hp.symm.map _),rfl⟩
theorem fu.deed{os:List Ord}{s n:Nat}{Ls:List (List Row)}{X Y:List Row}(h:fu os s Ls X n)(Ϻ:Ls≠[])(hd:Df 1 (X.map (Ε os)) (Y.map (Ε os)))(hy:(Y.map (Ε os)).Nodup):fu os s Ls Y (n+1):=by
 obtain⟨rfl,rfl⟩|⟨eN,L,n',d,rfl,hc,hl,hw,hd',rfl⟩:=h
 .exact absurd rfl Ϻ
 .exact .inr ⟨eN,L,n',d+1,rfl,hc,hl,hw,hd'.trans hd (uA (O1 os) hw) hy,by omega⟩
theorem WK{os:List Ord}{X:List Row}(h:(X.map Prod.fst).Nodup):(X.map (Ε os)).Nodup:=by
 have h2:X.map Prod.fst=(X.map (Ε os)).map Prod.fst:=by rw[ahl];rfl
 rw[h2]at h;exact(alB.mp h).imp λh e=>h (by rw[e])
theorem Ng{os:List Ord}{X Y:List Row}{row:Int}(hn:(X.map Prod.fst).Nodup)(h:∀r∈X,¬r.1=row->r∈Y):(cY (X.map (Ε os)) (Y.map (Ε os))).length<=1:=by
 have h2:X.map Prod.fst=(X.map (Ε os)).map Prod.fst:=by rw[ahl];rfl
 rw[h2]at hn;have h3:((cY (X.map (Ε os)) (Y.map (Ε os))).map Prod.fst).Nodup:=hn.sublist (List.filter_sublist.map _);have h4:=oM (m:=[row]) h3 λz hz=>by
  obtain⟨x,hx,rfl⟩:=acR.mp hz;obtain⟨h5,h6⟩:=mO.mp hx;obtain⟨r,hr,rfl⟩:=acR.mp h5;by_cases e:r.1=row
  .rw[ac0];exact e
  .exact absurd (acR.mpr ⟨r,h r hr e,rfl⟩) h6
 rw[ϳ]at h4;exact h4
theorem PN{B:Bk}{row:Int}{o:Option (List V)}{r:Row}(e:¬r.1=row):r∈(cU B row o).rows↔r∈B.rows:=by
 cases o with
 |none=>
  show r∈bZ B.rows row↔_;unfold bZ;rw[ac8];exact⟨λh=>h.1,λh=>⟨h,decide_eq_true e⟩⟩
 |some xs=>
  show r∈bA B.rows row xs↔_;refine⟨λh=>?_,λh=>?_⟩
  .obtain z|z:=Cj h
   .exact z.1
   .exact absurd (by rw[z]) e
  .unfold bA;split
   .exact acR.mpr ⟨r,h,if_neg e⟩
   .exact ahp _ h
theorem afb{os:List Ord}{B:Bk}{row:Int}{o:Option (List V)}{t:Tr}(h1:(B.rows.map Prod.fst).Nodup)(h2:((cU B row o).rows.map Prod.fst).Nodup):Df 1 ((B.rows.filter λr=>Ξ r.2 t).map (Ε os)) (((cU B row o).rows.filter λr=>Ξ r.2 t).map (Ε os)):=
 ⟨Ng (row:=row) (oN h1) λr hr e=>ac8.mpr ⟨(PN e).mpr (ac8.mp hr).1,(ac8.mp hr).2⟩,Ng (row:=row) (oN h2) λr hr e=>ac8.mpr ⟨(PN e).mp (ac8.mp hr).1,(ac8.mp hr).2⟩⟩
end
end K94
namespace K94
open PySem L2 PyProof.Rows My Vl Lw
section
variable{P:ϯ}{w:ϭ}{K:Ϩ}{mg:Str->Option ε}{base:ϫ}
def K6:List ϧ->List ϧ
 |(.If _ t _ _)::_=>t
 |_=>[]
def vQ:List ϧ->List ϧ
 |(.For _ _ b _ _)::_=>b
 |_=>[]
def iG(H:Hp)(p:δ)(H':Hp)(v:V)(r:Row):=∃t l,v=.ref t/\H t=none/\H l=none/\t≠p/\l≠p/\H' t=some (.tup [.int r.1,.ref l])/\H' l=some (.lst r.2)
theorem iG.same{H H' H2:Hp}{p:δ}{v:V}{r:Row}(h:iG H p H' v r)(s:ζ H' H2):iG H p H2 v r:=by
 obtain⟨t,l,e,h1,h2,h3,h4,h5,h6⟩:=h;exact⟨t,l,e,h1,h2,h3,h4,s _ _ h5,s _ _ h6⟩
theorem iG.row{H H':Hp}{p:δ}{v:V}{r:Row}(h:iG H p H' v r):cz H' v r:=by
 obtain⟨t,l,e,h1,h2,h3,h4,h5,h6⟩:=h;exact⟨t,l,e,h5,h6⟩
def acy(K:Ϩ):Sp:=λvs H Q _=>∃(F:List δ)(d b:δ)(k:Nat)(os:List Ord)(m:List Row),vs=[.ref d,.ref b,.int (k:Nat)]/\uq F H d m/\cV H b os/\bh ς os/\k<4/\(m.map Prod.fst).Nodup/\m.length<64/\(∀r∈m,Μ ς r)/\
 ∀p ws ls H',ζ H H'->H p=none->H' p=some (.lst ws)->ψ (iG H p H') ws ls->Line ς os ls->ls.Perm (m.filter λr=>Ξ r.2 (ϡ k))->Q (.ref p) H'
theorem Ac(T:Txt K mg):Def P w K mg base true 2 "_law_line" ["_law_table","_law_order_here","_law_sieve"] (acy K):=by
 refine Υ T.Ac Qv (λf Ϲ A outer s H vs Q E hr h=>?_);obtain⟨F,d,b,k,os,m,rfl,⟨Ϸ,er,hR⟩,hO,ϻ,hk,hnd,hml,hfit,q⟩:=h;have nd:=Qv.nd;have n1:=T.qI;have n2:=T.nZ;have n3:=T.cJ;have hsz:=ϲ;have hu1:=ah4 (ajc (show 1<=64 by decide) _) hr.units;have D1:= @yt P w K mg base T;have D2:= @Af P w K mg base T;walk_at"A";refine⟨by show 0<=Ϫ;omega,λp hp=>?_⟩;obtain⟨bJ,ep⟩:=aO hp (.lst []);generalize upd H p (.lst [])=H0 at bJ ep⊢;refine ξ (oU (by walk_at"po") (by rfl) (by intro _;rfl) ?_);refine Az (by rfl) n1 (by rfl) (by rfl) ?_;walk_at"ex";refine Bl (ks:=m.map Prod.fst) (by rfl) (bJ _ _ er) (yq hR) (by rw[ϳ];exact hml) λL ks hL hpm hso=>?_
 obtain⟨s1,eL⟩:=aO hL (.lst (ks.map V.int));have hLp:L≠p:=λe=>by rw[e,ep]at hL;cases hL
 generalize upd H0 L (.lst (ks.map V.int))=H1 at s1 eL⊢;have hkl:ks.length=m.length:=by rw[hpm.length_eq,ϳ]
 have hkm:(ks.map V.int).length=ks.length:=ϳ ..;have htp:=Gu hnd hpm;have aey:=bJ.trans s1;refine⟨L,_,rfl,η.of eL,λi σ H'=>(∃o1 o2 o3,σ=[some (.ref d),some (.ref b),some (.int (k:Nat)),some (.ref p),o1,o2,o3])/\ζ H H'/\H' L=some (.lst (ks.map V.int))/\∃ws ls,H' p=some (.lst ws)/\ψ (iG H p H') ws ls/\Line ς os ls/\ls.Perm ((bw m (ks.take i)).filter λr=>Ξ r.2 (ϡ k)),⟨⟨none,none,none,rfl⟩,aey,eL,[],[],s1 _ _ ep,.nil,.nil,List.Perm.refl _⟩,λi σ' H' _ hP=>η.of hP.2.2.1,λi x σ' H' hx hP=>?_,λσ' H' hP=>?_⟩
 .obtain⟨⟨o1,o2,o3,rfl⟩,sm,zc,ws,ls,hp',hws,fj,az⟩:=hP;rw[aca]at hx;obtain⟨row,hrow,rfl⟩:=aik.mp hx;have hi:=(aal.mp hrow).1;have hmem:row∈m.map Prod.fst:=hpm.mem_iff.mp (aaZ hrow);obtain⟨_,z⟩|⟨u,xs,hval,hget,l,rfl,hl0,_⟩:=iQ hR row
  .exact absurd hmem (J7.mp z)
  have hrm:(row,xs)∈m:=abh hget;have lK:=hfit _ hrm;have htake:bw m (ks.take (i+1))=bw m (ks.take i)++[(row,xs)]:=by
   unfold bw;rw[alY,hrow,aln];show _++[(row,(ύ m row).getD [])]=_;rw[hget];rfl
  have hsub:∀r∈ls,r∈m/\r.1∈ks.take i:=λr hr=>by
   have h1:=(ac8.mp (az.mem_iff.mp hr)).1;obtain⟨k',hk',e⟩:=acR.mp h1;have h2:r∈bw m ks:=acR.mpr ⟨k',ajV hk',e⟩;exact⟨htp.mem_iff.mp h2,by rw[<-e];exact hk'⟩
  have hll:ls.length<=i:=by
   rw[az.length_eq];refine afK (ahM _ _) ?_;unfold bw;rw[ϳ,agW];omega
  have hwl:=hws.len;have dg:∀{H2:Hp},ζ H H2->ao H2 d (.int row) (some (.ref l)):=λs2=>by
   have:=ao.k (k:=Sum.inl row) (s2 _ _ er);rw[hval]at this;exact this
  refine Ρ nd (by rfl) (.inl rfl) (.inl rfl) ?_;refine ω (ϓ ?_);walk_at"ex";refine xg hu1 (dg sm) ?_;walk_at"ex";refine⟨k,l,(row,xs),rfl,hk,sm _ _ hl0,lK,?_⟩;cases hlt:Ξ xs (ϡ k)with
  |false=>
   walk_at"ex";refine Δ ⟨⟨_,_,_,rfl⟩,sm,zc,ws,ls,hp',hws,fj,?_⟩;rw[htake,alh,List.filter_cons_of_neg (by show ¬ Ξ xs (ϡ k)=true;rw[hlt];exact aah),List.filter_nil,List.append_nil];exact az
  |true=>
  walk_at"ex";walk_at"A";refine xg hu1 (dg sm) ?_;walk_at"ex";refine jW (.inl (η.of (sm _ _ hl0))) λl2 hl2=>?_
  have s2:ζ H' (upd H' l2 (.lst xs)):=ζ.upd hl2;have wk:(upd H' l2 (.lst xs)) l2=some (.lst xs):=υ;generalize upd H' l2 (.lst xs)=H2 at s2 wk⊢;walk_at"ex";refine⟨by show 2<=Ϫ;omega,λt ht=>?_⟩;obtain⟨s3,e3⟩:=aO ht (.tup [.int row,.ref l2]);generalize upd H2 t (.tup [.int row,.ref l2])=H3 at s3 e3⊢;have tV:=s2.trans s3;have sm3:=sm.trans tV;have Tz:cz H3 (.ref t) (row,xs):=⟨t,l2,rfl,e3,s3 _ _ wk⟩;walk_at"A";have hcl:=List.countP_le_length (p:=λq=>cH ς os q (row,xs)) (l:=ls);have hfl:∀r∈ls,Μ ς r:=λr hr=>hfit r (hsub r hr).1
  have kr:=bV lK ϻ;have UG:ls.Pairwise λa b=>cH ς os b (row,xs)=true->cH ς os a (row,xs)=true:=zQ ϻ (c:=.at_ true (Ω ς os xs) row) kr hfl fj
  obtain⟨DQ,PJ⟩:=yC UG;generalize adX:ls.countP (λq=>cH ς os q (row,xs))=cnt at hcl DQ PJ;have fin:∀H4,ζ H3 H4->Ψ (ϥ true P w K mg base yV "_law_line" (ο oE) f Ϲ A outer s H E) ((K6 (vQ ((ϗ oE).drop 1))).drop 3) {nx:=λσ H'=>(∃o1 o2 o3,σ=[some (.ref d),some (.ref b),some (.int (k:Nat)),some (.ref p),o1,o2,o3])/\ζ H H'/\H' L=some (.lst (ks.map V.int))/\∃ws ls,H' p=some (.lst ws)/\ψ (iG H p H') ws ls/\Line ς os ls/\ls.Perm ((bw m (ks.take (i+1))).filter λr=>Ξ r.2 (ϡ k)),rt:=Q,ct:=λσ H'=>(∃o1 o2 o3,σ=[some (.ref d),some (.ref b),some (.int (k:Nat)),some (.ref p),o1,o2,o3])/\ζ H H'/\H' L=some (.lst (ks.map V.int))/\∃ws ls,H' p=some (.lst ws)/\ψ (iG H p H') ws ls/\Line ς os ls/\ls.Perm ((bw m (ks.take (i+1))).filter λr=>Ξ r.2 (ϡ k)),bk:=λσ' H'=>Ψ (ϥ true P w K mg base yV "_law_line" (ο oE) f Ϲ A outer s H E) ((ϗ oE).drop 2) {nx:=λ_ H'=>Q .non H',rt:=Q} σ' H'} [some (.ref d),some (.ref b),some (.int (k:Nat)),some (.ref p),some (.int row),some (.ref t),some (.int (cnt:Nat))] H4:=by
   intro H4 s4;have pG:=tV.trans s4;have DY:=pG _ _ hp';refine ω (aQ (by rfl) (d8 PySem.F.plainAttrs_list PySem.F.slot_list_insert PySem.F.type_list_insert (h:=?_)));walk_at"e";refine⟨.inl ⟨rfl,_,η.of DY⟩,?_⟩;walk_at"ex";refine jA R4 ⟨p,ws,cnt,_,rfl,rfl,DY,by omega,by omega,?_⟩;have QJ:t≠p:=λe=>by rw[e,s2 _ _ hp']at ht;cases ht
   have Ek:l2≠p:=λe=>by rw[e,hp']at hl2;cases hl2
   refine⟨⟨_,_,_,rfl⟩,λe u he=>?_,?_,fW ws cnt (.ref t),fW ls cnt (row,xs),υ,aeP (hws.imp λu q x=>?_) ?_,?_,?_⟩
   .rw[ι (Η he hp)];exact(sm.trans pG) _ _ he
   .rw[ι hLp];exact pG _ _ zc
   .obtain⟨t',l',rfl,g1,g2,g3,g4,g5,g6⟩:=x;exact⟨t',l',rfl,g1,g2,g3,g4,by rw[ι g3];exact pG _ _ g5,by rw[ι g4];exact pG _ _ g6⟩
   .exact⟨t,l2,rfl,(sm.trans s2).free ht,sm.free hl2,QJ,Ek,by rw[ι QJ];exact s4 _ _ e3,by rw[ι Ek];exact(s3.trans s4) _ _ wk⟩
   .rw[<-adX];refine acL ϻ hfl lK fj λq hq e=>?_
    have hq2:=(hsub q hq).2;have e2:row∈ks.take i:=by rw[<-show q.1=row from e];exact hq2
    have abr:ks.Nodup:=hpm.nodup_iff.mpr hnd;have h':(ks.take i++ks.drop i).Nodup:=by rw[aiK];exact abr
    exact(aki.mp h').2.2 row e2 row (by rw[p8 hrow];exact aeM ..) rfl
   .rw[htake,alh,show(([(row,xs)]:List Row).filter λr=>Ξ r.2 (ϡ k))=[(row,xs)]from by rw[List.filter_cons,if_pos hlt,List.filter_nil]];unfold fW;refine List.perm_middle.trans ?_;rw[aiK];exact(List.Perm.cons _ az).trans (List.perm_append_singleton _ _).symm
  refine ξ (Ub (by walk_at"po") (λmm σ H4=>∃a:Nat,σ=[some (.ref d),some (.ref b),some (.int (k:Nat)),some (.ref p),some (.int row),some (.ref t),some (.int (a:Nat))]/\ζ H3 H4/\a<=cnt/\mm=ls.length-a) ls.length ⟨0,rfl,ζ.refl _,agf _,rfl⟩ λmm σ H4 hW=>?_);obtain⟨a,rfl,s4,ha,rfl⟩:=hW;have Pg:η K H4 p ws:=η.of ((tV.trans s4) _ _ hp');refine Le ?_;walk_at"ex";refine Ι (λhlen=>?_) (λhlen=>?_)
  .have hal:a<ls.length:=by omega
   have hla:ls[a]?=some ls[a]:=aaf hal;obtain⟨xa,hxa,hra⟩:=hws.get' hla;walk_at"ex";refine ϣ Pg (aW hxa) ?_;walk_at"ex";refine⟨b,xa,.ref t,os,ls[a],(row,xs),rfl,hO.same (sm3.trans s4),ϻ,((hra.same tV).same s4).row,Tz.same s4,hfl _ (aid hal),lK,λH5 s5=>?_⟩;cases hrl:cH ς os ls[a] (row,xs)with
   |true=>
    walk_at"ex";have hac:a<cnt:=amu λz=>by
     have hm:ls[a]∈ls.drop cnt:=List.mem_drop_iff_getElem.mpr ⟨a-cnt,by omega,by congr 1;omega⟩;rw[PJ _ hm]at hrl;cases hrl
    refine⟨λσ' H'=>∃a':Nat,σ'=[some (.ref d),some (.ref b),some (.int (k:Nat)),some (.ref p),some (.int row),some (.ref t),some (.int (a':Nat))]/\ζ H3 H'/\a'<=cnt/\a'=a+1,λσ' H' hN=>?_,?_⟩
    .obtain⟨a',e1,e2,e3,e4⟩:=hN;exact⟨ls.length-a',by omega,a',e1,e2,e3,rfl⟩
    .refine ω ?_;walk_at"s";walk_at"ex";exact⟨a+1,rfl,s4.trans s5,hac,rfl⟩
   |false=>
    walk_at"ex";have hac:a=cnt:=Nat.le_antisymm ha (am2 λz=>by
     have hm:ls[a]∈ls.take cnt:=List.mem_take_iff_getElem.mpr ⟨a,by omega,rfl⟩;rw[DQ _ hm]at hrl;cases hrl)
    subst hac;exact fin H5 (s4.trans s5)
  .walk_at "ex";have hac:a=cnt:=by omega
   subst hac;exact fin H4 s4
 .obtain⟨⟨o1,o2,o3,rfl⟩,sm,zc,ws,ls,hp',hws,fj,az⟩:=hP;rw[hkm,al4]at az;refine ω (Κ ?_);walk_at"ex";exact q p ws ls H' sm hp hp' hws fj (az.trans (htp.filter _))
def acz:Sp:=λvs H Q _=>∃(pf ln:δ)(ls:List Row)(lw:List V)(kk n now:Int),vs=[.ref pf,.ref ln,.int (kk*n),.int n,.int now]/\iu (λ_=>True) (λ_=>True) H (.ref pf) (rH ls kk n now)/\H ln=some (.lst lw)/\ψ (cz H) lw ls/\(∀r∈ls,Μ ς r)/\ls.length<=1000/\0<=kk/\1<=n/\n<=100/\∀H',ζ H H'->Q (.bl true) H'
theorem um(T:Txt K mg):Def P w K mg base true 1 "_law_leaf" ["_law_leaf_here","_law_line_here","_law_first","_law_size","_law_moment"] acz:=by
 refine Υ T.um Gk (λ_ _ A _ _ H vs Q E hr h=>?_);obtain⟨pf,ln,ls,lw,kk,n,now,rfl,m8,gJ,hA,hfit,hll,hk0,hn1,hn2,q⟩:=h;have nd:=Gk.nd;have n1:=T.cJ;have n2:=T.PX;have hsz:=ϲ;have hu:=hr.units;have iy:(["_law_one"]:List Str).Nodup:=by decide+kernel
 have qF:=hA.len;have Ma:η K H ln lw:=η.of gJ;walk_at"A";refine Gx (by rfl) ?_;have hkn:0<=kk*n:=ano hk0 (by omega);have e6:(if(lw.length:Int)<kk*n then(lw.length:Int)else kk*n)=((cF ls kk n:Nat):Int):=by
  unfold cF;rw[qF];split
  .rw[akQ (by omega)]
  .rw[ai2 (by omega)];omega
 rw[e6];have hpl:cF ls kk n<=ls.length:=amt ..;generalize uX:cF ls kk n=fi at hpl;refine ξ ?_;refine mY ["_law_one"] (σ':=[none]) (by rfl) (by rfl) (by rfl) (b8 (ο yP) (by rfl) (by rfl) (by decide+kernel)) (by intro _;rfl) nd (by rfl) (by rfl) ?_;walk_at"ex";obtain⟨m,rfl⟩:=aeN (show 0<=n by omega);refine Bd Ma λp3 hp3=>?_
 rw[GX lw fi m (by omega)];obtain⟨s4,e4⟩:=aO hp3 (.lst ((lw.drop fi).take m));generalize upd H p3 (.lst ((lw.drop fi).take m))=H4 at s4 e4⊢;have hsl:ψ (cz H) ((lw.drop fi).take m) (bf ls fi m):=(hA.drop fi).take m;have VJ:=hsl.len;have agv:(bf ls fi m).length<=ls.length:=by unfold bf;rw[agW,agL];omega
 refine⟨p3,_,rfl,η.of e4,by omega,λτ=>∃o1,τ=[o1],λE2 jj u H'=>u≠.ref E2/\∃r t l,(bf ls fi m)[jj]?=some r/\u=.ref t/\H' t=some (.tup [.int r.1,.ref l,.bl true])/\H l=some (.lst r.2),⟨none,rfl⟩,λE2 jj u H8 H9 ys hE hk p=>?_,λfp E2 C s9 H8 jj τ x H6 H7 cI hi hτ Τ hys hG=>?_,λq0 H5 us hq0 Sy Bs e8 s5=>?_⟩
 .obtain⟨h0,r,t,l,hr,e,h1,h2⟩:=p;exact⟨h0,r,t,l,hr,e,hk _ _ (λz=>h0 (by rw[e,z])) h1,h2⟩
 .obtain⟨o1,rfl⟩:=hτ;obtain⟨aY,rfl⟩:=hG;obtain⟨r,hr,tr,lr,rfl,htr,hlr⟩:=hsl.get aY;obtain⟨ys,hys⟩:=hys;have KC:Β K H6 tr [.int r.1,.ref lr]:=Β.of ((s4.trans Τ) _ _ htr);refine Ρ iy (by rfl) (.inl rfl) (.inr rfl) ?_;walk_at"ex";refine aU KC (show ϔ [V.int r.1,V.ref lr] 0=some (V.int r.1)from rfl) ?_;walk_at"ex";refine aU KC (show ϔ [V.int r.1,V.ref lr] 1=some (V.ref lr)from rfl) ?_;walk_at"ex";refine⟨by show 3<=Ϫ;omega,λt2 aL=>?_⟩;refine⟨⟨_,rfl⟩,⟨λz=>?_,r,t2,lr,hr,rfl,υ,hlr⟩,ζ.upd aL⟩;injection z with z
  rw[z,hys]at aL;cases aL
 have fU:=s4.trans s5;have hus:ψ (xj (λ_=>True) H5) us (bf ls fi m):=rD (by omega) λjj r hr=>by
  have hj:jj<us.length:=by have:=(aal.mp hr).1;omega
  obtain⟨_,r',t,l,hr',e,h1,h2⟩:=Bs jj _ (aaf hj);rw[hr]at hr';cases hr';exact⟨_,aaf hj,t,l,e,h1,trivial,fU _ _ h2⟩
 have sq5:η K H5 ln lw:=fU.seq Ma;refine ω (Κ ?_);walk_at"ex";refine⟨by show 6<=Ϫ;omega,λpu Rf=>?_⟩;have s6:ζ H5 (upd H5 pu (.tup [.ref q0,.non,.non,.int (lw.length:Nat),.int (fi:Nat),.int now])):=ζ.upd Rf;have e9:(upd H5 pu (.tup [.ref q0,.non,.non,.int (lw.length:Nat),.int (fi:Nat),.int now])) pu=some (.tup [.ref q0,.non,.non,.int (ls.length:Nat),.int (fi:Nat),.int now]):=by rw[<-qF];exact υ
 generalize upd H5 pu (.tup [.ref q0,.non,.non,.int (lw.length:Nat),.int (fi:Nat),.int now])=H6 at s6 e9⊢;have Bj:∀r∈bf ls fi m,Μ ς r:=λr hr=>hfit r (aiS (ajV hr))
 have elv:rH ls kk m now=⟨bf ls fi m,ls.length,fi,now⟩:=by unfold rH;rw[uX];rfl
 rw[elv]at m8;have hlay:=aaS (L:=⟨bf ls fi m,ls.length,fi,now⟩) (cs:=ς) Bj;have Hc:=Xr ⟨bf ls fi m,ls.length,fi,now⟩;have rd1:RD K H6 (.ref pf) (lQ ⟨bf ls fi m,ls.length,fi,now⟩):=Lq (cs:=ς) (m8.stay (λ_ _ e=>(fU.trans s6) _ _ e) (λ_ _ _ e=>(fU.trans s6) _ _ e)) Bj;have rd2:RD K H6 (.ref pu) (lQ ⟨bf ls fi m,ls.length,fi,now⟩):=Lq (cs:=ς) (Gq:=λ_=>True) (Gl:=λ_=>True) ⟨pu,q0,us,rfl,e9,trivial,s6 _ _ e8,hus.imp λu r z=>by
  obtain⟨t,l,e,h3,_,h4⟩:=z;exact⟨t,l,e,s6 _ _ h3,trivial,s6 _ _ h4⟩⟩ Bj
 refine MF hu rd1 rd2 hlay hlay Hc ?_;rw[SeqAt.eqv_refl _ hlay];exact q _ (fU.trans s6)
theorem aec{x y:V}(sx:scalar x=true)(sy:scalar y=true):PyData.eqv (dV x) (dV y)=decide (x=y):=by
 cases x with
 |non=>
  cases y with
  |non=>rfl
  |int j=>rfl
  |str z=>rfl
  |_=>exact absurd sy aah
 |int i=>
  cases y with
  |non=>rfl
  |int j=>
   show(i==j)=decide (V.int i=V.int j);rw[ahj,decide_eq_true_eq,beq_iff_eq];exact⟨λz=>by rw[z],λz=>by injection z⟩
  |str z=>rfl
  |_=>exact absurd sy aah
 |str z=>
  cases y with
  |non=>rfl
  |int j=>rfl
  |str y=>
   show(z==y)=decide (V.str z=V.str y);rw[ahj,decide_eq_true_eq,beq_iff_eq];exact⟨λz=>by rw[z],λz=>by injection z⟩
  |_=>exact absurd sy aah
 |_=>exact absurd sx aah
theorem Eu:∀{xs ys:List V},(∀x∈xs,scalar x=true)->(∀y∈ys,scalar y=true)->PyData.eqvAll (xs.map dV) (ys.map dV)=decide (xs=ys)
 |[],[],_,_=>rfl
 |x::xs,y::ys,hx,hy=>by
  show(PyData.eqv (dV x) (dV y)&&PyData.eqvAll (xs.map dV) (ys.map dV))=_;rw[aec (hx x (by simp)) (hy y (by simp)),Eu (xs:=xs) (ys:=ys) (λz hz=>hx z (by simp[hz])) λz hz=>hy z (by simp[hz])];rw[ahj,aa3,decide_eq_true_eq,decide_eq_true_eq,decide_eq_true_eq,List.cons.injEq]
 |[],_::_,_,_=>rfl
 |_::_,[],_,_=>rfl
def HR(H:Hp)(v:V)(L:List Row):=∃p,v=.ref p/\nR H p L
theorem Ez{α β γ:Type}{R:β->γ->Prop}{f:α->β}{g:α->γ}:∀{l:List α},(∀a∈l,R (f a) (g a))->ψ R (l.map f) (l.map g)
 |[],_=>.nil
 |a::l,h=>.cons (h a (by simp)) (Ez λb hb=>h b (by simp[hb]))
theorem W3{os:List Ord}{Ls:List (List Row)}{L:List Row}{r:Row}{i:Nat}(h:Ls[i]?=some L):dh os (Ls.take (i+1)) r=(dh os (Ls.take i) r&&decide (Ε os r∈L.map (Ε os))):=by
 unfold dh;rw[alY,h,List.all_append];show(_&&(_&&true))=_;rw[anx]
theorem Zg{os:List Ord}{L:List Row}{r:Row}(hn:(L.map Prod.fst).Nodup):(L.filter (λq=>decide (q.1=r.1))=[]/\¬ Ε os r∈L.map (Ε os))\/∃q fs,L.filter (λq=>decide (q.1=r.1))=q::fs/\q∈L/\(Ε os r∈L.map (Ε os)↔ Ω ς os q.2=Ω ς os r.2):=by
 cases e:L.filter (λq=>decide (q.1=r.1))with
 |nil=>
  refine .inl ⟨rfl,λh=>?_⟩;obtain⟨q,hq,e2⟩:=acR.mp h;have:q∈L.filter (λq=>decide (q.1=r.1)):=ac8.mpr ⟨hq,decide_eq_true (show(Ε os q).1=(Ε os r).1 by rw[e2])⟩;rw[e]at this;cases this
 |cons q fs=>
  have hq:q∈L.filter (λq=>decide (q.1=r.1)):=by rw[e];simp
  obtain⟨hq1,hq2⟩:=ac8.mp hq;have hq2:q.1=r.1:=of_decide_eq_true hq2;refine .inr ⟨q,fs,rfl,hq1,λh=>?_,λh=>acR.mpr ⟨q,hq1,by unfold Ε;rw[hq2,h]⟩⟩;obtain⟨q',hq',e2⟩:=acR.mp h;have e3:q'=q:=O2 hn hq' hq1 (by rw[hq2];exact show(Ε os q').1=(Ε os r).1 by rw[e2]);rw[<-e3];exact show(Ε os q').2=(Ε os r).2 by rw[e2]
theorem ZK{os:List Ord}{Ls:List (List Row)}{told:List Int}{rs:List Row}{r:Row}{i:Nat}(h:rs[i]?=some r):fO os Ls told (rs.take (i+1))=fO os Ls told (rs.take i)+(if dh os Ls r=true then ab (told.count r.1) 1 else 0):=by
 unfold fO;rw[alY,h,alh,aln,List.sum_append]
 congr 1
 show((List.filter (dh os Ls) [r]).map _).sum=_;rw[List.filter_cons];split
 .rw[List.filter_nil,List.map_cons,List.map_nil,List.sum_cons,List.sum_nil,amc]
 .rw[List.filter_nil,List.map_nil,List.sum_nil]
theorem Zh(c:Nat):(if(c:Int)-1<0 then -((c:Int)-1)else(c:Int)-1)=((ab c 1:Nat):Int):=by
 unfold ab;split <;>omega
theorem Jb{os:List Ord}{r:Row}(h:Μ ς r)(ϻ:bh ς os):∀x∈ Ω ς os r.2,gK x=true/\(∀z,x=.str z->fK 4000 z)/\scalar x=true:=λx hx=>by
 obtain⟨i,hi,e⟩:=alK hx;obtain⟨o,_,hk⟩:=(bV h ϻ).get' (show(Ω ς os r.2)[i]?=some x by rw[<-e];exact aaf hi);exact⟨hk.gK.1,hk.gK.2,hk.sc⟩
def acK:Sp:=λvs H Q _=>∃(a td b:δ)(vs0:List V)(Ls:List (List Row))(told:List Int)(os:List Ord)(L0:List Row),vs=[.ref a,.ref td,.ref b]/\H a=some (.lst vs0)/\ψ (HR H) vs0 Ls/\H td=some (.lst (told.map V.int))/\cV H b os/\bh ς os/\os.length<=4/\Ls[0]?=some L0/\(∀L∈Ls,(L.map Prod.fst).Nodup/\(∀r∈L,Μ ς r)/\L.length<=1000)/\
 ∀H',ζ H H'->Q (.int (fO os Ls told L0:Nat)) H'
theorem zM(T:Txt K mg):Def P w K mg base true 1 "_law_loss" ["_law_lines","_law_told","_law_order_here"] acK:=by
 refine Υ T.zM Ml (λf Ϲ A outer s H vs Q E hr h=>?_);obtain⟨a,td,b,vs0,Ls,told,os,L0,rfl,ha,hLs,htd,⟨ws,hb,hws⟩,ϻ,cL,h0,hok,q⟩:=h;have nd:=Ml.nd;have n1:=T.VB;have hsz:=ϲ;have hu:=hr.units;have hwl:=hws.len;have iy:(["_law_one"]:List Str).Nodup:=by decide+kernel
 have cj:(["_law_at","_law_one"]:List Str).Nodup:=by decide+kernel
 have vB:(["_law_other","_law_one"]:List Str).Nodup:=by decide+kernel
 have nd4:(["_law_at","_law_same"]:List Str).Nodup:=by decide+kernel
 have Hd:∀(r:Row),Μ ς r->∀o∈os,r.2[Χ ς o.1]?=some (Ϟ ς r.2 o.1):=λr hr o ho=>by
  have h1:=vG (ϻ o ho);have h2:=hr.len;unfold Ϟ;rw[aaf (by omega)];rfl
 refine ξ ?_;refine mY ["_law_one"] (σ':=[none]) (by rfl) (by rfl) (by rfl) (b8 (ο iZ) (by rfl) (by rfl) (by decide+kernel)) (by intro _;rfl) nd (by rfl) (by rfl) ?_;walk_at"ex";refine⟨b,ws,rfl,η.of hb,by omega,λτ=>∃o1,τ=[o1],λE2 i u H'=>∃o,os[i]?=some o/\u=.int (Χ ς o.1:Nat),⟨none,rfl⟩,λE2 i u H2 H3 ys _ _ p=>p,λfp E2 C s3 H0 i τ x H4 H3 cI hi hτ Τ hys hG=>?_,λnm H1 ys hnm hl2 hx2 e1 s1=>?_⟩
 .obtain⟨o1,rfl⟩:=hτ;obtain⟨aY,rfl⟩:=hG;obtain⟨o,ho,tt,rfl,htt⟩:=hws.get aY;have hio:=ϻ o (aaZ ho);refine Ρ iy (by rfl) (.inl rfl) (.inr rfl) ?_;refine d8 F.plainAttrs_list F.slot_list_index F.type_list_index (h:=?_);walk_at"ex";refine⟨by show 2<=Ϫ;omega,λp hp=>?_⟩;obtain⟨s5,e5⟩:=aO hp (.lst ((ς.map Prod.fst).map V.str));refine⟨.inl ⟨rfl,_,η.of υ⟩,?_⟩;change EA _ _ _ (upd H4 p (.lst ((ς.map Prod.fst).map V.str))) _;generalize upd H4 p (.lst ((ς.map Prod.fst).map V.str))=H5 at s5 e5⊢;walk_at"ex";refine aU (Β.of ((Τ.trans s5) _ _ htt)) (show ϔ [V.str o.1,V.bl o.2] 0=some (V.str o.1)from rfl) ?_;walk_at"ex";refine Ni (η.of e5) (Iu hio) (λm y h e=>DW h e) ?_;exact⟨⟨_,rfl⟩,⟨o,ho,rfl⟩,s5⟩
 have ey:=jb (ys:=os) (λo=>V.int (Χ ς o.1:Nat)) (by rw[hl2,hwl]) hx2;subst ey;walk_at"A";obtain⟨v0,hv0,p0,rfl,w0,hp0,G8⟩:=hLs.get' h0;obtain⟨nd0,acM,len0⟩:=hok L0 (aaZ h0);refine ξ (oU (by walk_at"po") (by rfl) (by intro _;rfl) ?_);walk_at"ex";refine ϣ (η.of (s1 _ _ ha)) (v:=.ref p0) (show ϔ vs0 ((0:Nat):Int)=some (.ref p0)from aW hv0) ?_;refine⟨p0,w0,rfl,η.of (s1 _ _ hp0),λi σ H'=>(∃o1 o2 o3 o4 o5,σ=[some (.ref a),some (.ref td),some (.ref b),some (.ref nm),some (.int (fO os Ls told (L0.take i):Nat)),o1,o2,o3,o4,o5])/\ζ H1 H',⟨⟨none,none,none,none,none,rfl⟩,ζ.refl _⟩,λi σ' H' _ hP=>η.of ((s1.trans hP.2) _ _ hp0),λi x σ' H' hx hP=>?_,λσ' H' hP=>?_⟩
 .obtain⟨⟨o1,o2,o3,o4,o5,rfl⟩,sm⟩:=hP;obtain⟨r,hri,tr,lr,rfl,htr,hlr⟩:=G8.get hx;have lK:=acM r (aaZ hri);have wC:=s1.trans sm;refine Ρ nd (by rfl) (by first|exact Or.inl rfl|exact Or.inr rfl) (by first|exact Or.inl rfl|exact Or.inr rfl) ?_;refine ξ ?_;refine mY ["_law_at","_law_one"] (σ':=[none,some (.ref tr)]) (by rfl) (by rfl) (by rfl) (b8 (ο iZ) (by rfl) (by rfl) (by decide+kernel)) (by intro _;rfl) nd (by rfl) (by rfl) ?_;walk_at"ex";refine⟨nm,_,rfl,η.of (sm _ _ e1),by rw[ϳ];omega,λτ=>∃o1,τ=[o1,some (.ref tr)],λE2 i u H'=>∃o,os[i]?=some o/\u=Ϟ ς r.2 o.1,⟨none,rfl⟩,λE2 i u H2 H3 ys _ _ p=>p,λfp E2 C s3 H0 i τ x H4 H3 cI hi hτ Τ hys hG=>?_,λkp H2 ys hkp hl3 aY e2 s2=>?_⟩
  .obtain⟨o1,rfl⟩:=hτ;obtain⟨aY,rfl⟩:=hG;rw[aca]at aY;obtain⟨o,ho,rfl⟩:=aik.mp aY;refine Ρ cj (by rfl) (.inl rfl) (.inr rfl) ?_;walk_at"ex";refine aU (Β.of ((wC.trans Τ) _ _ htr)) (show ϔ [V.int r.1,V.ref lr] 1=some (V.ref lr)from rfl) ?_;walk_at"ex";refine ϣ (η.of ((wC.trans Τ) _ _ hlr)) (aW (Hd r lK o (aaZ ho))) ?_;exact⟨⟨_,rfl⟩,⟨o,ho,rfl⟩,ζ.refl _⟩
  have ey:=jb (ys:=os) (λo=>Ϟ ς r.2 o.1) (by rw[hl3,ϳ]) aY;have iW:ys=Ω ς os r.2:=ey;subst iW;have bu:=wC.trans s2;walk_at"A";refine ξ (oU (by walk_at"po") (by rfl) (by intro _;rfl) ?_);walk_at"ex";refine⟨a,vs0,rfl,η.of (bu _ _ ha),λj σ H'=>(∃o4 o5,σ=[some (.ref a),some (.ref td),some (.ref b),some (.ref nm),some (.int (fO os Ls told (L0.take i):Nat)),some (.ref tr),some (.ref kp),some (.bl (dh os (Ls.take j) r)),o4,o5])/\ζ H2 H',⟨⟨_,_,rfl⟩,ζ.refl _⟩,λj σ' H' _ hP=>η.of ((bu.trans hP.2) _ _ ha),λj x σ' H3 hx hP=>?_,λσ' H3 hP=>?_⟩
  .obtain⟨⟨o4,o5,rfl⟩,s3⟩:=hP;obtain⟨L,KY,pL,rfl,wL,Xy,zF⟩:=hLs.get hx;obtain⟨Rg,Ky,ajH⟩:=hok L (aaZ KY);have aav:=zF.len;have cO:=bu.trans s3;refine Ρ nd (by rfl) (by first|exact Or.inl rfl|exact Or.inr rfl) (by first|exact Or.inl rfl|exact Or.inr rfl) ?_;refine ξ ?_;walk_at"s";refine abY ["_law_other","_law_one"] (σ':=[none,some (.ref tr)]) (by rfl) (by rfl) (b8 (ο iZ) (by rfl) (by rfl) (by decide+kernel)) (by intro _;rfl) ?_;walk_at"ex";refine⟨pL,wL,rfl,η.of (cO _ _ Xy),by omega,λτ=>∃o1,τ=[o1,some (.ref tr)],λi=>decide ((L.getD i (0,[])).1=r.1),λi=>wL.getD i .non,⟨none,rfl⟩,λfp E2 C s9 H0 i τ x H4 cI hx hτ Τ =>?_,λsp H4 hsp e4 s4=>?_⟩
   .obtain⟨o1,rfl⟩:=hτ;obtain⟨q',hq',tq,lq,rfl,pB,zx⟩:=zF.get hx;have eq':L.getD i (0,[])=q':=by rw[abf,hq'];rfl
    have ew:wL.getD i .non=.ref tq:=by rw[abf,hx];rfl
    refine Ρ vB (by rfl) (.inl rfl) (.inr rfl) ?_;walk_at"ex";refine aU (Β.of ((cO.trans Τ) _ _ pB)) (show ϔ [V.int q'.1,V.ref lq] 0=some (V.int q'.1)from rfl) ?_;walk_at"ex";refine aU (Β.of ((cO.trans Τ) _ _ htr)) (show ϔ [V.int r.1,V.ref lr] 0=some (V.int r.1)from rfl) ?_;walk_at"ex";refine⟨?_,⟨_,rfl⟩,ζ.refl _,λ_=>?_⟩
    .show _=decide ((L.getD i (0,[])).1=r.1);rw[eq'];exact decide_eq_decide.mpr ⟨λz=>by injection z,λz=>by rw[z]⟩
    .walk_at "ex";exact⟨ew.symm,ζ.refl _⟩
   have YL:=MP L λq'=>decide (q'.1=r.1)
   have hsm:ψ (cz H) (eY (λi=>decide ((L.getD i (0,[])).1=r.1)) (λi=>wL.getD i .non) wL.length) (L.filter λq'=>decide (q'.1=r.1)):=by
    rw[<-YL, <-aav];refine Ez λi hi=>?_
    have hi':i<wL.length:=alZ.mp (ac8.mp hi).1;have g1:wL[i]?=some wL[i]:=aaf hi';obtain⟨q',hq',hR⟩:=zF.get g1;rw[abf,abf,g1,hq'];exact hR
   generalize eY (λi=>decide ((L.getD i (0,[])).1=r.1)) (λi=>wL.getD i .non) wL.length=sv at e4 hsm;have jN:=cO.trans s4;have hfits:∀q'∈L.filter (λq'=>decide (q'.1=r.1)),Μ ς q':=λq' h=>Ky q' (ac8.mp h).1
   have ZX:RD K H4 (.ref sp) (.list ((L.filter λq'=>decide (q'.1=r.1)).map bU)):=JS (cs:=ς) ⟨sv,e4,hsm.imp λu q' z=>z.same jN⟩ hfits;have aiD:=Jg (cs:=ς) hfits;have Ra:=Xe (L.filter λq'=>decide (q'.1=r.1));have lZ:=W3 (os:=os) (r:=r) KY;refine ω (ϓ ?_);walk_at"ex";refine⟨by show 0<=Ϫ;omega,λpe hpe=>?_⟩;have s5:ζ H4 (upd H4 pe (.lst [])):=ζ.upd hpe;have Iw:RD K (upd H4 pe (.lst [])) (.ref pe) (.list []):=.lst (η.of υ) .nil;have Qt:RD K (upd H4 pe (.lst [])) (.ref sp) (.list ((L.filter λq'=>decide (q'.1=r.1)).map bU)):=JS (cs:=ς) ⟨sv,s5 _ _ e4,hsm.imp λu q' z=>z.same (jN.trans s5)⟩ hfits;refine MF hu Qt Iw aiD rfl Ra ?_;clear ZX Qt Iw;generalize upd H4 pe (.lst [])=H5 at s5⊢;have fU:=jN.trans s5;have no:∀(D:Ends)(H6:Hp)(kb:Bool),D.nx [some (.ref a),some (.ref td),some (.ref b),some (.ref nm),some (.int (fO os Ls told (L0.take i):Nat)),some (.ref tr),some (.ref kp),some (.bl false),some (.ref pL),some (.ref sp)] H6->Ψ (ϥ true P w K mg base Fj "_law_loss" (ο iZ) f Ϲ A outer s H E) (K6 ((vQ ((vQ ((ϗ iZ).drop 2)).drop 2)).drop 1)) D [some (.ref a),some (.ref td),some (.ref b),some (.ref nm),some (.int (fO os Ls told (L0.take i):Nat)),some (.ref tr),some (.ref kp),some (.bl kb),some (.ref pL),some (.ref sp)] H6:=λD H6 kb h=>by
    refine ω ?_;walk_at"s";walk_at"ex";exact h
   obtain⟨ef,hno⟩|⟨q',fs,ef,YX,hiff⟩:=Zg (os:=os) (r:=r) Rg
   .rw[decide_eq_false hno,amK]at lZ;rw[ef,show PyData.eqv (.list (([]:List Row).map bU)) (.list [])=true from rfl];walk_at"ex";exact no _ _ _ ⟨⟨_,_,by rw[lZ]⟩,(s3.trans s4).trans s5⟩
   .rw[ef]at hsm;rw[ef,show PyData.eqv (.list ((q'::fs).map bU)) (.list [])=false from rfl];have hqf:=Ky q' YX;cases hsm with
    | @cons u1 _ Yv _ hq1 _=>
    obtain⟨tq,lq,rfl,pB,zx⟩:=hq1;walk_at"ex";refine qH ["_law_at","_law_same"] (σ':=[none,some (.ref sp)]) (by rfl) (by rfl) (b8 (ο iZ) (by rfl) (by rfl) (by decide+kernel)) (by intro _;rfl) ?_;walk_at"ex";refine⟨nm,_,rfl,η.of ((sm.trans (s2.trans (s3.trans (s4.trans s5)))) _ _ e1),by rw[ϳ];omega,λτ=>∃o1,τ=[o1,some (.ref sp)],λE2 i u H'=>∃o,os[i]?=some o/\u=Ϟ ς q'.2 o.1,⟨none,rfl⟩,λE2 i u H2 H3 ys _ _ p=>p,λfp E2 C s9 H0 i τ x H6 H7 cI hi hτ uR hys hG=>?_,λkq H6 ys hkq Vw hx6 e6 s6=>?_⟩
    .obtain⟨o1,rfl⟩:=hτ;obtain⟨aY,rfl⟩:=hG;rw[aca]at aY;obtain⟨o,ho,rfl⟩:=aik.mp aY;have uv:=fU.trans uR;refine Ρ nd4 (by rfl) (.inl rfl) (.inr rfl) ?_;walk_at"ex";refine ϣ (η.of ((s5.trans uR) _ _ e4)) (show ϔ (V.ref tq::Yv) ((0:Nat):Int)=some (.ref tq)from aW rfl) ?_;walk_at"ex";refine aU (Β.of (uv _ _ pB)) (show ϔ [V.int q'.1,V.ref lq] 1=some (V.ref lq)from rfl) ?_;walk_at"ex";refine ϣ (η.of (uv _ _ zx)) (aW (Hd q' hqf o (aaZ ho))) ?_;exact⟨⟨_,rfl⟩,⟨o,ho,rfl⟩,ζ.refl _⟩
    have ey:=jb (ys:=os) (λo=>Ϟ ς q'.2 o.1) (by rw[Vw,ϳ]) hx6;have iW:ys=Ω ς os q'.2:=ey;subst iW;walk_at"ex";have kr:=Jb lK ϻ;have vO:=Jb hqf ϻ;have rk1:RD K H6 (.ref kq) (.list ((Ω ς os q'.2).map dV)):=.lst (η.of e6) (qm (aeE.mpr λx hx=>(vO x hx).1));have rk2:RD K H6 (.ref kp) (.list ((Ω ς os r.2).map dV)):=.lst (η.of ((s3.trans (s4.trans (s5.trans s6))) _ _ e2)) (qm (aeE.mpr λx hx=>(kr x hx).1));refine ag9 hu rk1 rk2 (pI λx hx=>⟨(vO x hx).1,(vO x hx).2.1⟩) (pI λx hx=>⟨(kr x hx).1,(kr x hx).2.1⟩) (WM _) ?_;rw[show PyData.eqv (.list ((Ω ς os q'.2).map dV)) (.list ((Ω ς os r.2).map dV))=decide (Ω ς os q'.2=Ω ς os r.2)from Eu (λx hx=>(vO x hx).2.2) λx hx=>(kr x hx).2.2];by_cases hkk:Ω ς os q'.2=Ω ς os r.2
    .rw[decide_eq_true (hiff.mpr hkk),anx]at lZ;rw[decide_eq_true hkk];walk_at"ex";exact Δ ⟨⟨_,_,by rw[lZ];rfl⟩,(s3.trans s4).trans (s5.trans s6)⟩
    .rw[decide_eq_false (λz=>hkk (hiff.mp z)),amK]at lZ;rw[decide_eq_false hkk];walk_at"ex";exact no _ _ _ ⟨⟨_,_,by rw[lZ]⟩,(s3.trans s4).trans (s5.trans s6)⟩
  .obtain⟨⟨o4,o5,rfl⟩,s3⟩:=hP;have eT:Ls.take vs0.length=Ls:=by rw[hLs.len,al4]
   rw[eT];have hls:=ZK (os:=os) (Ls:=Ls) (told:=told) hri;refine ω (ϓ ?_);walk_at"ex";refine iD (λhk=>?_) (λhk=>?_)
   .rw[if_pos hk]at hls;refine ω ?_;walk_at"s";walk_at"e";walk_at"e";walk_at"e";walk_at"e";walk_at"e";refine d8 F.plainAttrs_list F.slot_list_count F.type_list_count (h:=?_);walk_at"e";have Gz:=(bu.trans s3) _ _ htd;refine⟨.inl ⟨rfl,_,η.of Gz⟩,?_⟩;walk_at"ex";refine aU (Β.of ((bu.trans s3) _ _ htr)) (show ϔ [V.int r.1,V.ref lr] 0=some (V.int r.1)from rfl) ?_;walk_at"ex";refine Xx (η.of Gz) ?_;walk_at"ex";refine Wy ?_;rw[Zh];walk_at"ex";refine⟨⟨some (.ref tr),some (.ref kp),some (.bl (dh os Ls r)),o4,o5,?_⟩,(sm.trans s2).trans s3⟩;rw[hls];rfl
   .rw[if_neg (by rw[hk];exact aah)]at hls;exact Δ ⟨⟨_,_,_,_,_,by rw[hls];rfl⟩,(sm.trans s2).trans s3⟩
 .obtain⟨⟨o1,o2,o3,o4,o5,rfl⟩,sm⟩:=hP;rw[G8.len,al4];refine ω (Κ ?_);walk_at"ex";exact q H' (s1.trans sm)
section
variable{F:List δ}{A:BA}{d ln:δ}{H H':Hp}{B:Bk}
theorem Tb.live(h:Tb mg F A d H B):∀x∈d::A.fp,∃o,H x=some o/\∀ys,¬o=.tup ys:=λx hx=>by
 obtain rfl|hx:=ϴ.mp hx
 .obtain⟨Ϸ,e,_⟩:=h.ro;exact⟨_,e,λys z=>by cases z⟩
 .obtain⟨fs,z⟩|⟨Ϸ,z⟩|⟨xs,z⟩:=h.bk.JM hx<;>exact⟨_,z,λys z=>by cases z⟩
def acZ(F:List δ)(H:Hp)(v:V)(r:Row):=∃t l,v=.ref t/\H t=some (.tup [.int r.1,.ref l])/\H l=some (.lst r.2)/\l∉F
def iY(F:List δ)(H:Hp)(v:V)(L:List Row):=∃p ws,v=.ref p/\H p=some (.lst ws)/\p∉F/\ψ (acZ F H) ws L
theorem iY.stay{v:V}{L:List Row}(h:iY F H v L)(t:∀b ys,H b=some (.tup ys)->H' b=some (.tup ys))(s:∀b ys,b∉F->H b=some (.lst ys)->H' b=some (.lst ys)):iY F H' v L:=by
 obtain⟨p,ws,e,h1,h2,h3⟩:=h;exact⟨p,ws,e,s _ _ h2 h1,h2,h3.imp λu r z=>by
  obtain⟨x,l,e,g1,g2,g3⟩:=z;exact⟨x,l,e,t _ _ g1,s _ _ g3 g2,g3⟩⟩
theorem iY.Ja{v:V}{L:List Row}(h:iY F H v L):HR H v L:=by
 obtain⟨p,ws,e,h1,h2,h3⟩:=h;exact⟨p,e,ws,h1,h3.imp λu r z=>by
  obtain⟨x,l,e,g1,g2,g3⟩:=z;exact⟨x,l,e,g1,g2⟩⟩
end
structure B9(K:Ϩ)(H1:Hp)(A:BA)(a d b ln:δ)(ns:List Int)(os:List Ord):Prop where
 ap:pH A d (ln::d::A.fp)
 l1:ln∉A.six
 l2:¬ln=d
 sF:(∀H',η K H' a (ns.map V.int))\/a∉ln::d::A.fp
 sc:η K H1 a (ns.map V.int)
 bF:b∉ln::d::A.fp
 or:cV H1 b os
 tb:H1 (aX K "sorted_by")=some (.tbl iM)
 Kr:aX K "sorted_by"∉ln::d::A.fp
 nt:NT H1 (ln::d::A.fp)
theorem B9.keep{H1 H':Hp}{A:BA}{a d b ln:δ}{ns:List Int}{os:List Ord}(h:B9 K H1 A a d b ln ns os)(o:Out (ln::d::A.fp) H1 H'):η K H' a (ns.map V.int)/\cV H' b os/\H' (aX K "sorted_by")=some (.tbl iM):=by
 refine⟨?_,?_,o _ _ h.Kr h.tb⟩
 .obtain z|z:=h.sF
  .exact z _
  .exact o.seq z h.sc
 .obtain⟨ov,e1,e2⟩:=h.or;exact⟨ov,o _ _ h.bF e1,e2.imp λu k z=>by obtain⟨t,e,g⟩:=z;exact⟨t,e,h.nt.tup o _ _ g⟩⟩
structure S9(mg:Str->Option ε)(A:BA)(d ln:δ)(m0:Nat)(H:Hp)(B:Bk)(j:Nat)(vs0:List V)(Ls:List (List Row)):Prop where
 tb:Tb mg (ln::d::A.fp) A d H B
 ok:gR B j
 jl:j<=m0+16
 dU:H ln=some (.lst vs0)
 at_:ψ (iY (ln::d::A.fp) H) vs0 Ls
 good:∀L∈Ls,(L.map Prod.fst).Nodup/\(∀r∈L,Μ ς r)/\L.length<=m0+16
section
variable{A:BA}{d ln:δ}{m0 j:Nat}{H H':Hp}{B:Bk}{vs0:List V}{Ls:List (List Row)}
theorem S9.on(h:S9 mg A d ln m0 H B j vs0 Ls):∀x∈ln::d::A.fp,∃o,H x=some o/\∀ys,¬o=.tup ys:=λx hx=>by
 obtain rfl|hx:=ϴ.mp hx
 .exact⟨_,h.dU,λys z=>by cases z⟩
 .exact h.tb.live x hx
theorem S9.live(h:S9 mg A d ln m0 H B j vs0 Ls):∀x∈ln::d::A.fp,H x≠none:=λx hx e=>by
 obtain⟨o,z,_⟩:=h.on x hx;rw[e]at z;cases z
theorem S9.nt(h:S9 mg A d ln m0 H B j vs0 Ls):NT H (ln::d::A.fp):=λx hx ys e=>by
 obtain⟨o,z,g⟩:=h.on x hx;rw[e]at z;cases z;exact g _ rfl
theorem S9.same(h:S9 mg A d ln m0 H B j vs0 Ls)(s:ζ H H'):S9 mg A d ln m0 H' B j vs0 Ls:=
 ⟨h.tb.same s,h.ok,h.jl,s _ _ h.dU,h.at_.imp λv L z=>z.stay (λ_ _ e=>s _ _ e) λ_ _ _ e=>s _ _ e,h.good⟩
theorem S9.deed{B':Bk}{j':Nat}(l1:ln∉A.six)(l2:¬ln=d)(h:S9 mg A d ln m0 H B j vs0 Ls)(o:Out (d::A.fp) H H')(t:Tb mg (ln::d::A.fp) A d H' B')(k:gR B' j')(hj:j'<=m0+16):S9 mg A d ln m0 H' B' j' vs0 Ls:=by
 have o':Out (ln::d::A.fp) H H':=o.mono λx hx=>abK _ hx
 refine⟨t,k,hj,o _ _ (λz=>?_) h.dU,h.at_.imp λv L z=>z.stay (h.nt.tup o') λb ys hb e=>o' _ _ hb e,h.good⟩;obtain z|z:=ϴ.mp z
 .exact l2 z
 .exact l1 (By _ z)
theorem S9.line{p:δ}{ls:List Row}(l1:ln∉A.six)(l2:¬ln=d)(h:S9 mg A d ln m0 H B j vs0 Ls)(hl:iY (ln::d::A.fp) H (.ref p) ls)(hg:(ls.map Prod.fst).Nodup/\(∀r∈ls,Μ ς r)/\ls.length<=m0+16):S9 mg A d ln m0 (upd H ln (.lst (vs0++[.ref p]))) B j (vs0++[.ref p]) (Ls++[ls]):=by
 have tup:∀b ys,H b=some (.tup ys)->(upd H ln (.lst (vs0++[.ref p]))) b=some (.tup ys):=λb ys e=>by
  rw[ι (λz=>by rw[z,h.dU]at e;cases e)];exact e
 have lst:∀b ys,b∉ln::d::A.fp->H b=some (.lst ys)->(upd H ln (.lst (vs0++[.ref p]))) b=some (.lst ys):=λb ys hb e=>by
  rw[ι (λz=>hb (by rw[z];simp))];exact e
 obtain⟨Ϸ,e1,e2⟩:=h.tb.ro;refine⟨⟨h.tb.bk.out (S:=[ln]) (Out.upd (by simp)) (λy hy ys z=>by rw[ac0.mp hy,h.dU]at z;cases z) (λy hy hz=>l1 (by rw[<-ac0.mp hz];exact hy)),⟨Ϸ,by rw[ι (λz=>l2 z.symm)];exact e1,gh e2 λv x z=>z.stay lst⟩⟩,h.ok,h.jl,υ,ψ.app (h.at_.imp λv L z=>z.stay tup lst) (.cons (hl.stay tup lst) .nil),λL hL=>?_⟩;obtain hL|hL:=afw.mp hL
 .exact h.good L hL
 .rw[ac0.mp hL];exact hg
end
theorem Jz{s c:Nat}:∀{Ls:List (List Row)}{j:Nat},(∀L∈Ls,L.length<=c)->(aN s j Ls).length<=Ls.length*c
 |[],_,_=>agf _
 |L::Ls,j,h=>by
  have ih:=Jz (s:=s) (c:=c) (Ls:=Ls) (j:=j+1) λL hL=>h L (by simp[hL])
  have h1:=h L (by simp);show(((L.drop (j*s)).take s).map Prod.fst++aN s (j+1) Ls).length<=(Ls.length+1)*c;rw[abo,ϳ,agW,agL,anB,ani];omega
theorem ah2(ls:List Row)(i s:Nat):bf ls (cF ls (i:Nat) (s:Nat)) s=(ls.drop (i*s)).take s:=by
 unfold bf cF;rw[show((i:Int)*(s:Int)).toNat=i*s by rw[<-anj];rfl];by_cases h:i*s<=ls.length
 .rw[ai2 h]
 .rw[akQ (by omega),amz (Ϯ _),amz (by omega)]
abbrev σ9(A:BA)(a d b ln td:δ)(m0 n kS nD:Nat)(os:List Ord)(o4 ik fM fD cQ o17:Option V):L2.St:=[some (.ref a),some (.ref A.b),some (.ref d),some (.int (m0:Nat)),o4,some (.ref b),some (.str (gA os)),some (.int (kS:Nat)),some (.str (Str.join " " (wT (Γ ς) (ϡ kS)))),some (.int (n:Nat)),some (.ref ln),some (.ref td),some (.int (nD:Nat)),ik,fM,fD,cQ,o17]
def Nj(mg:Str->Option ε)(H1:Hp)(A:BA)(a d b ln:δ)(m0 n kS:Nat)(os:List Ord)(i:Nat)(σ:L2.St)(H:Hp):Prop:=
 ∃(td:δ)(nD:Nat)(o4 ik fM fD cQ:Option V),σ=σ9 A a d b ln td m0 n kS nD os o4 ik fM fD cQ none/\Out (ln::d::A.fp) H1 H/\∃(B:Bk)(j:Nat)(vs0:List V)(Ls:List (List Row)),S9 mg A d ln m0 H B j vs0 Ls/\j<=m0+2*min i 8/\Ls.length=i/\H td=some (.lst ((aN n 0 Ls).map V.int))/\td∉ln::d::A.fp/\fu os n Ls (B.rows.filter λr=>Ξ r.2 (ϡ kS)) nD
def Ox(mg:Str->Option ε)(H1:Hp)(A:BA)(a d b ln:δ)(m0 n kS:Nat)(os:List Ord)(σ:L2.St)(H:Hp):Prop:=
 ∃(td:δ)(nD:Nat)(o4 ik fM fD cQ:Option V),σ=σ9 A a d b ln td m0 n kS nD os o4 ik fM fD cQ none/\Out (ln::d::A.fp) H1 H/\∃(B:Bk)(j:Nat)(vs0:List V)(Ls:List (List Row))(ls:List Row),S9 mg A d ln m0 H B j vs0 Ls/\Ls.length<=70/\H td=some (.lst ((aN n 0 Ls).map V.int))/\Ch (dY os) n (Ls.map λL=>L.map (Ε os)) nD/\Ls.getLast? =some ls/\Line ς os ls/\ls.Perm (B.rows.filter λr=>Ξ r.2 (ϡ kS))/\ls.length<=Ls.length*n
end
end K94
namespace K94
open PySem L2 PyProof.Rows My Vl Lw
section
variable{P:ϯ}{w:ϭ}{K:Ϩ}{mg:Str->Option ε}{base:ϫ}
theorem X6(T:Txt K mg)(hN:fZ K mg base "sorted_by"){f:δ}{Ϲ:ε}{A':ϰ}{outer:List Env}{s0:μ}{H:Hp}{E:XK}(hr:ό true 59 (A'.deeper (envOfC "law" (ο cA) s0.heap.objs.size f Ϲ))){H1 H2:Hp}{A:BA}{a d b ln:δ}{ns:List Int}{os:List Ord}(hl:ns.length<=63)(hb:B9 K H1 A a d b ln ns os)(ϻ:bh ς os)(cL:os.length<=4)(jV:(os.map Prod.fst).Nodup){m0 n kS i:Nat}(hm0:m0<=39)(hn1:1<=n)(hn2:n<=9)(dO:kS<4)(hi:i<70){D:Ends}(hD:∀σ' H',Nj mg H1 A a d b ln m0 n kS os (i+1) σ' H'->D.nx σ' H')(hB:∀σ' H',Ox mg H1 A a d b ln m0 n kS os σ' H'->D.bk σ' H'){td:δ}{nD:Nat}{o4 fM fD cQ:Option V}(o2:Out (ln::d::A.fp) H1 H2){B:Bk}{j:Nat}{vs0:List V}{Ls:List (List Row)}(hS:S9 mg A d ln m0 H2 B j vs0 Ls)(hj:j<=m0+2*min i 8)(jT:Ls.length=i)(htd:H2 td=some (.lst ((aN n 0 Ls).map V.int)))(vV:td∉ln::d::A.fp)(qQ:fu os n Ls (B.rows.filter λr=>Ξ r.2 (ϡ kS)) nD):Ψ (ϥ true P w K mg base mK "law" (ο cA) f Ϲ A' outer s0 H E) (vQ ((ϗ cA).drop 14)) D (σ9 A a d b ln td m0 n kS nD os o4 (some (.int (i:Nat))) fM fD cQ none) H2:=by
 have nd:=sJ.nd;have hu:=hr.units;have n1:=T.cJ;have n2:=T.GQ;have hsz:=ϲ;have iy:(["_law_one"]:List Str).Nodup:=by decide+kernel
 obtain⟨hdp,vd⟩:=Gv dO;have hgt:=Iz dO;have hn1':(1:Int)<=(n:Nat):=by omega
 have hn2':((n:Nat):Int)<=100:=by omega
 have D0:= @jX P w K mg base T;have D1:= @Ac P w K mg base T;have D2:Def P w K mg base true (10+2*(ϡ kS).dep) "leaf_by_place" ["book","order","sieve","size","number"] (xO K mg (ϡ kS)):=vR T hN (ϡ kS);have D3:= @um P w K mg base T;have D4:= @rN P w K mg base T;have M2:Ϣ P w K mg base true 1 (cB mg) "moment" ["self"] (lM mg Bk.now):=(Ah T).meth T.aH T.yd;obtain⟨Q4,hOr,hTb⟩:=hb.keep o2;have hrl:=hS.ok.rl;have hjl:=hS.jl;walk_at"A";refine⟨ln::d::A.fp,d,b,kS,os,B.rows,rfl,hS.tb.ro,hOr,ϻ,dO,hS.ok.nd,by omega,hS.ok.ok,λp ws ls H3 s3 hp0 hp yS fj az=>?_⟩;have hfl:(B.rows.filter λr=>Ξ r.2 (ϡ kS)).length<=B.rows.length:=ahM ..;have hll:ls.length<=m0+16:=afK (alO az.length_eq) (afK hfl (by omega));have j6:∀r∈ls,Μ ς r:=λr hr=>hS.ok.ok r (ac8.mp (az.mem_iff.mp hr)).1
 have aeV:(ls.map Prod.fst).Nodup:=(az.map Prod.fst).nodup_iff.mpr (oN hS.ok.nd);have hwl:=yS.len;have qY:=hS.same s3;have hh:=hS.ok.heads;walk_at"A";refine⟨A,B,gA os,n,i,os,by rw[hh],qY.tb.bk,by rw[hh];exact lE,by omega,hS.ok.nd,by rw[hh];exact hS.ok.ok,by have:=Hl lE ϻ cL;omega,by rw[hh];exact Hv lE ϻ cL jV,cL,by rw[hh];exact ϻ,by rw[hh];exact hgt,by omega,by rw[hh];exact vd,by omega,by omega,by omega,s3 _ _ hTb,λpf qf aB wf H4 s4 hL2 wI hpf hqf uU sI vZ=>?_⟩;rw[hh]at hL2;have els:aB=ls:=(zg ϻ j6 (az.trans wI.symm) fj hL2).symm;subst els;have Qs:=s3.trans s4;have eF:=hS.same Qs;have Za:ψ (cz H4) ws aB:=yS.imp λu r z=>z.row.same s4
 have m8:iu (λ_=>True) (λ_=>True) H4 (.ref pf) (rH aB (i:Nat) (n:Nat) B.now):=⟨pf,qf,wf,rfl,uU,trivial,sI,vZ.imp λu r z=>by
  obtain⟨t,l,e,_,_,_,h3,h4⟩:=z;exact⟨t,l,e,h3,trivial,h4⟩⟩
 refine ξ (ϓ ?_);walk_at"ex";refine qT (pl:=_) hr Λ (by rfl) ?_;walk_at"e";refine⟨A.b,cB mg,A.dx,_,true,1,_,lM mg Bk.now,rfl,eF.tb.bk.ins,by rfl,M2,by omega,id,A,B,rfl,eF.tb.bk,?_⟩;walk_at"ex";refine⟨pf,p,aB,ws,(i:Nat),(n:Nat),B.now,rfl,m8,s4 _ _ hp,Za,j6,by omega,by omega,by omega,by omega,λH5 s5=>?_⟩;walk_at"ex";refine Δ ?_;have Nf:=Qs.trans s5;have eV:=hS.same Nf;have hvl:=hS.at_.len;refine ξ (aQ (by rfl) (d8 F.plainAttrs_list F.slot_list_append F.type_list_append (h:=?_)));walk_at"e";refine⟨.inl ⟨rfl,_,η.of eV.dU⟩,?_⟩;walk_at"ex";refine jA vf ⟨ln,vs0,_,rfl,rfl,eV.dU,by omega,?_⟩;have Q5:p∉ln::d::A.fp:=λz=>hS.live p z hp0
 have Uu:iY (ln::d::A.fp) H5 (.ref p) aB:=⟨p,ws,rfl,(s4.trans s5) _ _ hp,Q5,yS.imp λu r z=>by
  obtain⟨t,l,e,g1,g2,g3,g4,g5,g6⟩:=z;exact⟨t,l,e,(s4.trans s5) _ _ g5,(s4.trans s5) _ _ g6,λz=>hS.live l z g2⟩⟩
 have Cg:=eV.line hb.l1 hb.l2 Uu ⟨aeV,j6,hll⟩;have uM:∀x ys,H5 x=some (.tup ys)->(upd H5 ln (.lst (vs0++[.ref p]))) x=some (.tup ys):=λx ys e=>by
  rw[ι (λz=>by rw[z,eV.dU]at e;cases e)];exact e
 have CW:Out (ln::d::A.fp) H2 (upd H5 ln (.lst (vs0++[.ref p]))):=(Out.of Nf).trans (Out.upd (by simp));have abA:¬qf=ln:=λe=>by rw[e,s3 _ _ hS.dU]at hqf;cases hqf
 have KZ:(upd H5 ln (.lst (vs0++[.ref p]))) qf=some (.lst wf):=by rw[ι abA];exact s5 _ _ sI
 have Ph:(upd H5 ln (.lst (vs0++[.ref p]))) p=some (.lst ws):=by rw[ι (λz=>Q5 (by rw[z];simp))];exact(s4.trans s5) _ _ hp
 have IW:=CW _ _ vV htd;have Jd:=uM _ _ (s5 _ _ uU);have jP:ψ (λv(r:Row)=>∃t l,v=V.ref t/\(upd H5 ln (.lst (vs0++[.ref p]))) t=some (.tup [.int r.1,.ref l,.bl true])) wf (bf aB (cF aB (i:Nat) (n:Nat)) n):=vZ.imp λu r z=>by
  obtain⟨t,l,e,_,_,_,h3,h4⟩:=z;exact⟨t,l,e,uM _ _ (s5 _ _ h3)⟩
 generalize upd H5 ln (.lst (vs0++[.ref p]))=H6 at Cg uM CW KZ Ph IW Jd jP⊢;clear uM;rw[ah2]at jP;have hwf:=jP.len;have aiZ:((aB.drop (i*n)).take n).length<=aB.length:=by rw[agW,agL];omega
 have htl:=Jz (s:=n) (c:=55) (Ls:=Ls) (j:=0) λL hL=>by have:=(hS.good L hL).2.2;omega
 rw[jT]at htl;have afX:(aN n 0 Ls).length<=70*55:=afK htl (al5 _ (by omega));walk_at"A";refine qH ["_law_one"] (σ':=[none]) (by rfl) (by rfl) (b8 (ο cA) (by rfl) (by rfl) (by decide+kernel)) (by intro _;rfl) ?_;walk_at"ex";refine aU (Β.of Jd) (i:=0) rfl ?_;refine⟨qf,wf,rfl,η.of KZ,by omega,λτ=>∃o1,τ=[o1],λE2 jj u H'=>∃r,((aB.drop (i*n)).take n)[jj]?=some r/\u=.int r.1,⟨none,rfl⟩,λE2 jj u H8 H9 ys _ _ p=>p,λfp E2 C s9 H8 jj τ x H7 H9 cI hi hτ sm7 hys hG=>?_,λcp H7 us hcp hl7 hx7 e7 s7=>?_⟩
 .obtain⟨o1,rfl⟩:=hτ;obtain⟨aY,rfl⟩:=hG;obtain⟨r,hr,t,l,rfl,ht⟩:=jP.get aY;refine Ρ iy (by rfl) (.inl rfl) (.inr rfl) ?_;walk_at"ex";refine aU (Β.of (sm7 _ _ ht)) (i:=0) rfl ?_;exact⟨⟨_,rfl⟩,⟨r,hr,rfl⟩,ζ.refl _⟩
 have ey:=jb (ys:=(aB.drop (i*n)).take n) (λr=>V.int r.1) (by omega) hx7;subst ey;have hcl:(ams (λr:Row=>V.int r.1) ((aB.drop (i*n)).take n)).length<=55:=by rw[ϳ];omega
 have htm:((aN n 0 Ls).map V.int).length<=70*55:=by rw[ϳ];exact afX
 refine TF (s7 _ _ IW) e7 (by omega) λt2 aL=>?_
 have s8:=ζ.upd (o:=.lst ((aN n 0 Ls).map V.int++ams (λr:Row=>V.int r.1) ((aB.drop (i*n)).take n))) aL;have e8:(upd H7 t2 (.lst ((aN n 0 Ls).map V.int++ams (λr:Row=>V.int r.1) ((aB.drop (i*n)).take n)))) t2=some (.lst ((aN n 0 (Ls++[aB])).map V.int)):=by
  rw[υ,Ia,aln,ahl,alQ,jT];rfl
 generalize upd H7 t2 (.lst ((aN n 0 Ls).map V.int++ams (λr:Row=>V.int r.1) ((aB.drop (i*n)).take n)))=H8 at s8 e8⊢;have nu:=s7.trans s8;have pJ:=Cg.same nu;have zT:Out (ln::d::A.fp) H2 H8:=CW.trans (Out.of nu);have Kv:t2∉ln::d::A.fp:=λz=>Cg.live t2 z (s7.free aL)
 have Pg:η K H8 p ws:=η.of (nu _ _ Ph);have Ji:=Jp ϻ j6 fj;have hch:=qQ.leaf az Ji;have hL1:(Ls++[aB]).length=i+1:=by rw[abo,jT];rfl
 refine ξ (ϓ ?_);walk_at"ex";have XR:((i:Nat)+1:Int)*(n:Nat)=(((i+1)*n:Nat):Int):=by rw[anj];rfl
 rw[XR];refine Ι (λhc=>?_) (λhc=>?_)
 .refine ω (abd ?_);refine hB _ _ ⟨t2,nD,o4,some (.int (i:Nat)),some (.ref p),some (.ref pf),cQ,rfl,o2.trans zT,B,j,_,_,aB,pJ,by omega,e8,hch,by rw[List.getLast?_append];rfl,fj,az,by rw[hL1];omega⟩
 refine Δ ?_;have hgo:=fu.go hch (by rw[hL1];omega) Ji az;refine ω (Cy (by walk_at"po") (by rfl) (by rfl) n2 (by rfl) (aF (Q:=λv H'=>∃c:Nat,v=.int (c:Nat)/\c<=2/\(8<=i->c=0)/\H'=H8) ?_ λv H9 hc9=>?_))
 .obtain⟨ady,_,_⟩:=hb.keep (o2.trans zT);walk_at"ex";refine Ι (λh8=>?_) (λh8=>?_)
  .walk_at "ex";refine⟨a,ns,20+(i:Nat),3,rfl,ady,hl,by omega,by omega,by decide,?_⟩;have c0:=il ns (20+(i:Nat)) (m:=3) (by decide);have c1:=jh ns (20+(i:Nat)) (m:=3) (by decide);generalize bW ns (20+(i:Nat)) 3=cc at c0 c1⊢;obtain⟨c,rfl⟩:=aeN c0;exact⟨c,rfl,by omega,by omega,rfl⟩
  .walk_at "ex";exact⟨0,rfl,by omega,λ_=>rfl,rfl⟩
 obtain⟨c,rfl,hc2,hc0,rfl⟩:=hc9;refine⟨(c:Nat),rfl,by omega,by omega,λk σ H'=>∃cQ,σ=σ9 A a d b ln t2 m0 n kS (nD+k) os o4 (some (.int (i:Nat))) (some (.ref p)) (some (.ref pf)) cQ none/\Out (ln::d::A.fp) H2 H'/\∃(B:Bk)(jj:Nat),S9 mg A d ln m0 H' B jj (vs0++[.ref p]) (Ls++[aB])/\jj<=j+k/\H' t2=some (.lst ((aN n 0 (Ls++[aB])).map V.int))/\fu os n (Ls++[aB]) (B.rows.filter λr=>Ξ r.2 (ϡ kS)) (nD+k),⟨cQ,rfl,zT,B,j,pJ,by omega,e8,hgo⟩,λk σ' H' hk hP=>?_,λσ' H' hP=>?_⟩
 .obtain⟨JH,rfl,tu,B9,j9,fG,hj9,e9,Di⟩:=hP;obtain⟨IK,_,_⟩:=hb.keep (o2.trans tu);have hi8:i<8:=amu λz=>by have:=hc0 z;omega
  have akp:=fG.jl;refine Ρ nd (by rfl) (.inl rfl) (.inl rfl) ?_;refine ξ (aQ (by rfl) ?_);walk_at"ex";refine⟨a,ns,40+3*(i:Nat)+(k:Nat),4,rfl,IK,hl,by omega,by omega,by decide,?_⟩;generalize bW ns (40+3*(i:Nat)+(k:Nat)) 4=way;walk_at"ex";refine⟨ln::d::A.fp,A,B9,j9,a,d,ns,12+3*(i:Nat)+(k:Nat),way,rfl,IK,hl,by omega,by omega,fG.tb,hb.ap,fG.live,fG.ok,by omega,λrow o d7 r0 r1 hok KN uy=>?_⟩;have hK:=fG.ok.deed r0 r1 hok;have Nt:Out (ln::d::A.fp) H' d7:=KN.mono λx hx=>abK _ hx
  refine ω ?_;walk_at"s";walk_at"ex";exact⟨some (.int (k:Nat)),rfl,tu.trans Nt,_,j9+1,fG.deed hb.l1 hb.l2 KN uy hK (by omega),by omega,Nt _ _ Kv e9,Di.deed (by simp) (afb fG.ok.nd hK.nd) (WK (oN hK.nd))⟩
 .obtain⟨JH,rfl,tu,B9,j9,fG,hj9,e9,Di⟩:=hP;refine hD _ _ ⟨t2,_,o4,_,_,_,JH,rfl,o2.trans tu,B9,j9,_,_,fG,?_,hL1,e9,Kv,Di⟩;have:(c:Int).toNat=c:=alW c;omega
theorem afJ(T:Txt K mg)(hN:fZ K mg base "sorted_by"){f:δ}{Ϲ:ε}{A':ϰ}{outer:List Env}{s0:μ}{H:Hp}{Q:VK}{E:XK}(hr:ό true 59 (A'.deeper (envOfC "law" (ο cA) s0.heap.objs.size f Ϲ))){H1 H2:Hp}{A:BA}{a d b ln:δ}{ns:List Int}{os:List Ord}(hl:ns.length<=63)(hb:B9 K H1 A a d b ln ns os)(ϻ:bh ς os)(cL:os.length<=4)(jV:(os.map Prod.fst).Nodup){m0 n kS:Nat}(hm0:m0<=39)(hn1:1<=n)(hn2:n<=9)(dO:kS<4)(q:∀H',Q (.bl true) H'){σ:L2.St}(hF:Ox mg H1 A a d b ln m0 n kS os σ H2):Ψ (ϥ true P w K mg base mK "law" (ο cA) f Ϲ A' outer s0 H E) ((ϗ cA).drop 15) {nx:=λ_ H'=>Q .non H',rt:=Q} σ H2:=by
 obtain⟨td,nD,o4,ik,fM,fD,cQ,rfl,o2,B,j,vs0,Ls,ls,hS,rY,htd,hch,yf,fj,az,hend⟩:=hF;have nd:=sJ.nd;have hu:=hr.units;have n1:=T.cJ;have hsz:=ϲ;have bQ:(ns.map V.int).length=ns.length:=ϳ ..;obtain⟨hdp,vd⟩:=Gv dO;have hgt:=Iz dO;have hn1':(1:Int)<=(n:Nat):=by omega
 have hn2':((n:Nat):Int)<=100:=by omega
 have D0:= @jX P w K mg base T;have D1:= @zM P w K mg base T;have D2:Def P w K mg base true (10+2*(ϡ kS).dep) "leaf_by_place" ["book","order","sieve","size","number"] (xO K mg (ϡ kS)):=vR T hN (ϡ kS);have D3:= @um P w K mg base T;have M2:Ϣ P w K mg base true 1 (cB mg) "moment" ["self"] (lM mg Bk.now):=(Ah T).meth T.aH T.yd;obtain⟨Q4,hOr,hTb⟩:=hb.keep o2;have hrl:=hS.ok.rl;have hjl:=hS.jl;have hvl:=hS.at_.len;have hh:=hS.ok.heads;obtain⟨mC,eL⟩:∃mC,Ls=mC++[ls]:=by
  obtain⟨ys,e⟩:=amg.mp yf;exact⟨ys,e⟩
 have hpos:0<Ls.length:=by rw[eL,abo];exact abu Nat.zero_lt_one (Nat.le_add_left ..)
 have h0:Ls[0]?=some Ls[0]:=aaf hpos;have ahH:Ls[Ls.length-1]?=some ls:=by rw[<-List.getLast?_eq_getElem?];exact yf
 refine ξ (ϓ ?_);walk_at"ex";refine⟨ln,td,b,vs0,Ls,aN n 0 Ls,os,Ls[0],rfl,hS.dU,hS.at_.imp λv L z=>z.Ja,htd,hOr,ϻ,cL,h0,λL hL=>⟨(hS.good L hL).1,(hS.good L hL).2.1,by have:=(hS.good L hL).2.2;omega⟩,λH3 s3=>?_⟩;have R1:=Zf hch (λL hL=>(hS.good L hL).1) (aaZ h0) yf hend;generalize fO os Ls (aN n 0 Ls) Ls[0]=lo at R1⊢;walk_at"ex";refine Ι (λhc=>?_) (λ_=>?_)
 .exact absurd hc (by omega)
 refine Δ ?_;have qY:=hS.same s3;have sqL:η K H3 ln vs0:=η.of qY.dU;have Jl:=s3.seq Q4;have rest:∀far:Int,0<=far->Ψ (ϥ true P w K mg base mK "law" (ο cA) f Ϲ A' outer s0 H E) ((ϗ cA).drop 18) {nx:=λ_ H'=>Q .non H',rt:=Q} (σ9 A a d b ln td m0 n kS nD os o4 ik fM fD cQ (some (.int far))) H3:=by
  intro far K3;have j6:∀r∈ls,Μ ς r:=(hS.good ls (by rw[eL];simp)).2.1;have hll:=(hS.good ls (by rw[eL];simp)).2.2;walk_at"A";refine⟨A,B,gA os,n,far,os,by rw[hh],qY.tb.bk,by rw[hh];exact lE,by omega,hS.ok.nd,by rw[hh];exact hS.ok.ok,by have:=Hl lE ϻ cL;omega,by rw[hh];exact Hv lE ϻ cL jV,cL,by rw[hh];exact ϻ,by rw[hh];exact hgt,by omega,by rw[hh];exact vd,by omega,by omega,K3,s3 _ _ hTb,λpf qf aB wf H4 s4 hL2 wI hpf hqf uU sI vZ=>?_⟩;rw[hh]at hL2;have els:aB=ls:=(zg ϻ j6 (az.trans wI.symm) fj hL2).symm;subst els;have eF:=qY.same s4;have aaq:η K H4 ln vs0:=η.of eF.dU;obtain⟨vl,aeO,aiw⟩:=eF.at_.get' ahH;obtain⟨pl,rfl,wl,hpl,hwl⟩:=aiw.Ja;have m8:iu (λ_=>True) (λ_=>True) H4 (.ref pf) (rH aB far (n:Nat) B.now):=⟨pf,qf,wf,rfl,uU,trivial,sI,vZ.imp λu r z=>by
   obtain⟨t,l,e,_,_,_,h3,h4⟩:=z;exact⟨t,l,e,h3,trivial,h4⟩⟩
  refine ω (Κ ?_);walk_at"ex";refine ϣ aaq (v:=.ref pl) (by rw[show((vs0.length:Nat):Int)-1=((Ls.length-1:Nat):Int)by omega];exact aW aeO) ?_;walk_at"ex";refine qT (pl:=_) hr Λ (by rfl) ?_;walk_at"e";refine⟨A.b,cB mg,A.dx,_,true,1,_,lM mg Bk.now,rfl,eF.tb.bk.ins,by rfl,M2,by omega,id,A,B,rfl,eF.tb.bk,?_⟩;walk_at"ex";refine⟨pf,pl,aB,wl,far,(n:Nat),B.now,rfl,m8,hpl,hwl,j6,by omega,K3,by omega,by omega,λH5 s5=>?_⟩;exact q H5
 walk_at"A";refine⟨a,ns,5,1000,rfl,Jl,hl,by decide,by decide,by decide,?_⟩;have c0:=il ns 5 (m:=1000) (by decide);generalize bW ns 5 1000=cc at c0⊢;walk_at"ex";refine ξ (ϓ ?_);walk_at"ex";rw[bQ];refine Ι (λh3=>?_) (λh3=>?_)
 .refine ω ?_;walk_at"s";walk_at"ex";refine ϣ Jl (Qc 0 (by omega) (by omega)) ?_;walk_at"ex";refine rest _ ?_;have:=amD (ns.getD (Int.toNat 0) 0) (b:=10^Int.toNat 30) (by decide);omega
 .exact Δ (rest _ (by omega))
theorem adp(T:Txt K mg)(hN:fZ K mg base "sorted_by"){f:δ}{fd:air}(F:bM K "law" "law" cA f fd):cC P w K mg base (bH P w) true 60 f fd ["_law_script"] (K9 K "sorted_by" iM):=by
 refine tD F sJ (λvs H Q E h=>by obtain⟨a,ns,rfl,_⟩:=h;rfl) (λϹ A' outer s0 H vs Q E hr h=>?_);obtain⟨a,ns,rfl,hS,hl,QV,q⟩:=h;have nd:=sJ.nd;have n1:=T.GQ;have hsz:=ϲ;have D0:= @jX P w K mg base T;have D1:= @rN P w K mg base T;have D2:= @Dj P w K mg base T;have D3:= @BW P w K mg base T;have D4:= @ym P w K mg base T;have MB:=(aeK (P:=P) (w:=w) (base:=base) T).make T.Ur T.Ut;have hsl:=ac5 hS;refine ξ ?_;walk_at"s";refine gb MB hr (by decide) (λ_=>rfl) Λ (by rfl) (by decide) (by rfl) (by rfl) ?_;walk_at"ex";refine⟨by show 2<=Ϫ;omega,λt1 ht1=>?_⟩;walk_at"ex";refine⟨by show 2<=Ϫ;omega,λt2 aL=>?_⟩;walk_at"ex";refine⟨by show 2<=Ϫ;omega,λlc JB=>?_⟩;have sa:=ζ.upd (o:=.tup [.str ("size":Str),.str ("number":Str)]) ht1;have sb:=ζ.upd (o:=.tup [.str ("word":Str),.str ("text":Str)]) aL;have sc:=ζ.upd (o:=.lst [.ref t1,.ref t2]) JB;have bu:=(sa.trans sb).trans sc;have JN:aK (upd (upd (upd H t1 (.tup [.str ("size":Str),.str ("number":Str)])) t2 (.tup [.str ("word":Str),.str ("text":Str)])) lc (.lst [.ref t1,.ref t2])) lc ς:=⟨_,υ,.cons ⟨t1,rfl,(sb.trans sc) _ _ υ⟩ (.cons ⟨t2,rfl,sc _ _ υ⟩ .nil)⟩;change EA _ _ _ (upd (upd (upd H t1 (.tup [.str ("size":Str),.str ("number":Str)])) t2 (.tup [.str ("word":Str),.str ("text":Str)])) lc (.lst [.ref t1,.ref t2])) _;generalize upd (upd (upd H t1 (.tup [.str ("size":Str),.str ("number":Str)])) t2 (.tup [.str ("word":Str),.str ("text":Str)])) lc (.lst [.ref t1,.ref t2])=H2 at bu JN⊢;clear sa sb sc ht1 aL JB;walk_at"ex";intro y dx hy hdx Ϻ;have smy:ζ H2 (upd (upd H2 dx (.own y)) y (.ins (cB mg) dx [])):=λb u e=>by
  rw[ι (λz=>by rw[z,hy]at e;cases e),ι (λz=>by rw[z,hdx]at e;cases e)];exact e
 refine⟨y,dx,lc,ς,rfl,υ,by rw[ι Ϻ,υ],JN.same smy,lE,λH3 A eb zq f1 f2 f3 f4 o3 k3=>?_⟩;obtain⟨s3,fr3⟩:=made hy hdx eb zq f1 f2 f3 f4 o3;subst eb;refine⟨rfl,?_⟩;have cO:=bu.trans s3;refine ξ ?_;walk_at"s";refine Ds λd hd=>?_
 obtain⟨s4,ed⟩:=aO hd (.dK []);generalize upd H3 d (.dK [])=H4 at s4 ed⊢;have jN:=cO.trans s4;have k4:=k3.same s4;have Gg:d∉A.six:=λz=>k3.OJ d z hd
 have gQ:∀x∈d::A.fp,H x=none:=λx hx=>by
  obtain rfl|hx:=ϴ.mp hx
  .exact cO.free hd
  .exact bu.free (fr3 x (By x hx))
 have Kl:(∀H',η K H' a (ns.map V.int))\/a∉d::A.fp:=by
  obtain z|z:=hsl
  .exact .inr λy=>z (gQ a y)
  .exact .inl z
 have tT:aX K "sorted_by"∉d::A.fp:=λz=>by have:=gQ _ z;rw[QV]at this;cases this
 have T4:Tb mg (d::A.fp) A d H4 ⟨ς,[],[],[],0,0⟩:=⟨k4,[],ed,.nil⟩;have K4:gR ⟨ς,[],[],[],0,0⟩ 0:=⟨rfl,.nil,λi=>⟨λ_=>rfl,λ_=>rfl⟩,(λp hp=>by cases hp),(λp hp=>by cases hp),Ϯ _,Ϯ _,Ϯ _⟩;have ap4:pH A d (d::A.fp):=⟨Gg,λx hx=>hx⟩;have eF:=jN.seq hS;have rest:∀m0:Nat,m0<=39->(m0<=9\/bW ns 4 4=1)->Ψ (ϥ true P w K mg base mK "law" (ο cA) f Ϲ A' outer s0 H E) ((ϗ cA).drop 4) {nx:=λ_ H'=>Q .non H',rt:=Q} [some (.ref a),some (.ref A.b),some (.ref d),some (.int (m0:Nat)),none,none,none,none,none,none,none,none,none,none,none,none,none,none] H4:=by
  intro m0 KQ hm9;refine ξ (Cy (by walk_at"po") (by rfl) (by rfl) n1 (by rfl) ?_);walk_at"ex";refine⟨by omega,by omega,λi σ H'=>∃o4,σ=[some (.ref a),some (.ref A.b),some (.ref d),some (.int (m0:Nat)),o4,none,none,none,none,none,none,none,none,none,none,none,none,none]/\Out (d::A.fp) H4 H'/\∃B,Tb mg (d::A.fp) A d H' B/\gR B i,⟨none,rfl,Out.refl _ _,_,T4,K4⟩,λi σ' H' hi hP=>?_,λσ' H' hP=>?_⟩
  .obtain⟨o4,rfl,o5,B,hT,hK⟩:=hP;have eV:η K H' a (ns.map V.int):=by
    obtain z|z:=Kl
    .exact z _
    .exact o5.seq z eF
   refine Ρ nd (by rfl) (.inl rfl) (.inl rfl) ?_;refine ω (aQ (by rfl) ?_);walk_at"ex";refine⟨d::A.fp,A,B,i,a,d,ns,100+(i:Nat),0,rfl,eV,hl,by omega,by omega,hT,ap4,(λx hx e=>by obtain⟨o,z,_⟩:=hT.live x hx;rw[e]at z;cases z),hK,by omega,λrow o H6 r0 r1 hok o6 hT6=>?_⟩;exact⟨_,rfl,o5.trans o6,_,hT6,hK.deed r0 r1 hok⟩
  .obtain⟨o4,rfl,o5,B,hT,hK⟩:=hP;rw[show((m0:Nat):Int).toNat=m0 from alW m0]at hK;have eV:η K H' a (ns.map V.int):=by
    obtain z|z:=Kl
    .exact z _
    .exact o5.seq z eF
   have Gj:=o5 _ _ tT (jN _ _ QV);have nt5:NT H' (d::A.fp):=λx hx ys e=>by
    obtain⟨o,z,g⟩:=hT.live x hx;rw[e]at z;cases z;exact g _ rfl
   have zX:∀x∈d::A.fp,H' x≠none:=λx hx e=>by obtain⟨o,z,_⟩:=hT.live x hx;rw[e]at z;cases z
   walk_at"A";refine⟨a,ns,1,5,rfl,eV,hl,by decide,by decide,by decide,?_⟩;generalize bW ns 1 5=ko;walk_at"ex";refine⟨ko,rfl,λb H6 s6 hb0 sV=>?_⟩;have ϻ:=R9 ko;have cL:=agz ko;have jV:=Vq ko;have hsh:=ahT ko;generalize dR ko=os at sV ϻ cL jV hsh;walk_at"A";refine⟨b,os,rfl,sV,by omega,hsh,λH7 s7=>?_⟩;have Hq:=s6.trans s7;walk_at"A";refine⟨a,ns,2,4,rfl,Hq.seq eV,hl,by decide,by decide,by decide,?_⟩;have g0:=il ns 2 (m:=4) (by decide);have g1:=jh ns 2 (m:=4) (by decide);generalize bW ns 2 4=kv at g0 g1⊢;obtain⟨kS,rfl⟩:=aeN g0;have dO:kS<4:=by omega
   walk_at"A";refine⟨kS,rfl,dO,λH8 s8=>?_⟩;have mR:=Hq.trans s8;have pJ:=mR.seq eV;have tail:∀n:Nat,1<=n->n<=9->m0+16<70*n->Ψ (ϥ true P w K mg base mK "law" (ο cA) f Ϲ A' outer s0 H E) ((ϗ cA).drop 11) {nx:=λ_ H'=>Q .non H',rt:=Q} [some (.ref a),some (.ref A.b),some (.ref d),some (.int (m0:Nat)),o4,some (.ref b),some (.str (gA os)),some (.int (kS:Nat)),some (.str (Str.join " " (wT (Γ ς) (ϡ kS)))),some (.int (n:Nat)),none,none,none,none,none,none,none,none] H8:=by
    intro n hn1 hn2 hbig;walk_at"A";refine⟨by show 0<=Ϫ;omega,λln gJ=>?_⟩;obtain⟨s9,vm⟩:=aO gJ (.lst []);generalize upd H8 ln (.lst [])=H9 at s9 vm⊢;walk_at"A";refine⟨by show 0<=Ϫ;omega,λtd htd=>?_⟩;obtain⟨jz,Ow⟩:=aO htd (.lst []);generalize upd H9 td (.lst [])=d7 at jz Ow⊢;have J0:=s9.trans jz;have oY:=mR.trans J0;have zj:H' ln=none:=mR.free gJ;walk_at"A";have yD:∀x,(∃o,H8 x=some o)->x∉d::A.fp->x∉ln::d::A.fp:=λx hx hn z=>by
     obtain⟨o,e⟩:=hx;obtain rfl|z:=ϴ.mp z
     .rw[gJ]at e;cases e
     .exact hn z
    obtain⟨bv,ebv,_⟩:=id sV;have uy:=hT.same oY;have b9:B9 K d7 A a d b ln ns os:={
     ap:=⟨Gg,λx hx=>abK _ hx⟩
     l1:=λz=>hT.bk.OJ ln z zj
     l2:=λz=>zX d (by simp) (by rw[<-z];exact zj)
     sF:=by
      obtain z|z:=hsl
      .refine .inr λy=>?_
       obtain e|y:=ϴ.mp y
       .refine z ?_;cases eH:H a with
        |none=>rfl
        |some u=>
         have h4:=jN _ _ eH;have h5:=o5 _ _ (λy=>by have:=gQ a y;rw[eH]at this;cases this) h4;rw[e,zj]at h5;cases h5
       .exact z (gQ a y)
      .exact .inl z
     sc:=oY.seq eV
     bF:=yD b ⟨_,(s7.trans s8) _ _ ebv⟩ λz=>zX b z hb0
     or:=sV.same (s7.trans (s8.trans J0))
     tb:=oY _ _ Gj
     Kr:=yD _ ⟨_,mR _ _ Gj⟩ tT
     nt:=λx hx ys e=>by
      obtain rfl|hx:=ϴ.mp hx
      .rw[jz _ _ vm]at e;cases e
      .obtain⟨o,z,g⟩:=uy.live x hx;rw[e]at z;cases z;exact g _ rfl}
    have Te:td∉ln::d::A.fp:=λz=>by
     obtain e|z:=ϴ.mp z
     .rw[e,vm]at htd;cases htd
     .exact zX td z ((mR.trans s9).free htd)
    have hTF:Tb mg (ln::d::A.fp) A d d7 B:=by
     refine⟨uy.bk,?_⟩;obtain⟨kv,ek,hk⟩:=hT.ro;refine⟨kv,oY _ _ ek,gh hk λv x z=>?_⟩;obtain⟨l,e,h1,h2⟩:=z;exact⟨l,e,oY _ _ h1,yD l ⟨_,mR _ _ h1⟩ h2⟩
    have fG:S9 mg A d ln m0 d7 B m0 [] []:=⟨hTF,hK,by omega,jz _ _ vm,.nil,λL hL=>by cases hL⟩;refine ξ (Cy (by walk_at"po") (by rfl) (by rfl) n1 (by rfl) ?_);walk_at"ex";refine⟨by omega,by omega,Nj mg d7 A a d b ln m0 n kS os,⟨td,0,o4,none,none,none,none,rfl,Out.refl _ _,B,m0,[],[],fG,by omega,rfl,Ow,Te,.inl ⟨rfl,rfl⟩⟩,λi σ' H' hi hP=>?_,λσ' H' hP=>?_⟩
    .obtain⟨td,nD,o4,ik,fM,fD,cQ,rfl,o2,B,j,vs0,Ls,hS,hj,jT,htd,vV,qQ⟩:=hP;refine Ρ nd (by rfl) (.inl rfl) (.inl rfl) ?_;exact X6 T hN hr hl b9 ϻ cL jV KQ hn1 hn2 dO (show i<70 by omega) (λ_ _ z=>z) (λ_ _ z=>afJ T hN hr hl b9 ϻ cL jV KQ hn1 hn2 dO q z) o2 hS hj jT htd vV qQ
    .obtain⟨td,nD,o4,ik,fM,fD,cQ,rfl,o2,B,j,vs0,Ls,hS,hj,jT,htd,vV,qQ⟩:=hP;exfalso;have rY:Ls.length=70:=jT;obtain⟨e,_⟩|⟨eN,L,n',d',e,_,hlt,_⟩:=qQ
     .rw[e]at rY;cases rY
     .have :=(hS.good L (by rw[e];simp)).2.2;rw[rY]at hlt;omega
   walk_at"A";refine⟨a,ns,3,4,rfl,pJ,hl,by decide,by decide,by decide,?_⟩;have h0:=il ns 3 (m:=4) (by decide);have h1:=jh ns 3 (m:=4) (by decide);generalize bW ns 3 4=sv at h0 h1⊢;obtain⟨s1,rfl⟩:=aeN h0;walk_at"ex";refine ξ (ϓ ?_);walk_at"ex";refine⟨a,ns,4,4,rfl,pJ,hl,by decide,by decide,by decide,?_⟩;walk_at"ex";refine Ι (λh4=>?_) (λh4=>?_)
   .refine ω ?_;walk_at"s";walk_at"ex";exact tail 9 (by decide) (by decide) (by omega)
   .have hm:m0<=9:=hm9.resolve_right λz=>h4 (by rw[z])
    refine Δ ?_;have:=tail (1+s1) (by omega) (by omega) (by omega);rw[show(((1+s1:Nat):Nat):Int)=1+(s1:Int)by omega]at this;exact this
 walk_at"A";refine⟨a,ns,0,10,rfl,eF,hl,by decide,by decide,by decide,?_⟩;have g0:=il ns 0 (m:=10) (by decide);have g1:=jh ns 0 (m:=10) (by decide);generalize bW ns 0 10=mv at g0 g1⊢;obtain⟨many,rfl⟩:=aeN g0;refine ξ (ϓ ?_);walk_at"ex";refine⟨a,ns,4,4,rfl,eF,hl,by decide,by decide,by decide,?_⟩;walk_at"ex";refine Ι (λh4=>?_) (λh4=>?_)
 .refine ω ?_;walk_at"s";walk_at"ex";exact rest (many+30) (by omega) (.inr (by injection h4))
 .exact Δ (rest many (by omega) (.inl (by omega)))
end
end K94
namespace PySem.W.Fast
def tw1119013794326525293:Unit:=()
def tw4828628252738023136:Unit:=()
def tw7362060987292937657:Unit:=()
def tw5093481649023448242:Unit:=()
def tw15278955871366127422:Unit:=()
def tw3813329797602837784:Unit:=()
def tw11930926782775020315:Unit:=()
def tw15575446839656995215:Unit:=()
def tw17237787566404758674:Unit:=()
def tw7222884535035076910:Unit:=()
def tw11993570665536621727:Unit:=()
def tw10677738928872991081:Unit:=()
def tw638101521528258854:Unit:=()
def tw4974947437143152316:Unit:=()
def tw5960753419335465920:Unit:=()
def tw14975048511874642928:Unit:=()
def tw8707581633170108615:Unit:=()
def tw11553692758034856141:Unit:=()
def tw2070950692248190586:Unit:=()
def tw582165495386986009:Unit:=()
def tw4286643637055509198:Unit:=()
def tw3159408846004722762:Unit:=()
def tw5253465137936723367:Unit:=()
def tw11117760077474405901:Unit:=()
def tw4816017502376387:Unit:=()
def tw13432203305098856212:Unit:=()
def tw4250612284711063238:Unit:=()
def tw8583894274727956555:Unit:=()
def tw13090989533819670595:Unit:=()
def tw6257902567835511072:Unit:=()
def tw1560883122940542353:Unit:=()
def tw12979487144282714324:Unit:=()
def tw14986347863749711509:Unit:=()
def tw6415874206903495738:Unit:=()
def tw6530887593393584053:Unit:=()
def tw6226275084845583990:Unit:=()
def tw1595203675454737031:Unit:=()
def tw8915093174141914420:Unit:=()
def tw12476549181166726918:Unit:=()
def tw11357468184819198790:Unit:=()
def tw12179117484524955801:Unit:=()
def tw5282748479272135060:Unit:=()
def tw5538837781324015780:Unit:=()
def tw11540610345475464753:Unit:=()
def tw2979902850128476979:Unit:=()
def tw13068590430968550643:Unit:=()
def tw5357145606117446920:Unit:=()
def tw2045819387431882446:Unit:=()
def tw11330331440623158321:Unit:=()
def tw13811336657787689763:Unit:=()
def tw7942465628027526121:Unit:=()
def tw8871148621879452714:Unit:=()
def tw5447679861141690199:Unit:=()
def tw16088121960041355562:Unit:=()
def tw1650265938100010579:Unit:=()
def tw1502346192624337489:Unit:=()
def tw17774387258058852876:Unit:=()
def tw16312388472405962910:Unit:=()
def tw18081019988829053308:Unit:=()
def tw16567715242246123317:Unit:=()
def tw9162105914766285976:Unit:=()
def tw15407951434366203224:Unit:=()
def tw6689609786813699743:Unit:=()
def tw8787867311914257317:Unit:=()
def tw1899547598691996546:Unit:=()
def tw10134225468788249676:Unit:=()
def tw2678619242992473888:Unit:=()
def tw2078964724531318441:Unit:=()
def tw64520638070250521:Unit:=()
def tw8893655766161017818:Unit:=()
def tw17364239671154373065:Unit:=()
def tw7623889132453311008:Unit:=()
def tw5859550904929382126:Unit:=()
def tw6545736930285772130:Unit:=()
def tw12824348068705595029:Unit:=()
def tw384400266137776510:Unit:=()
def tw1997112951416883996:Unit:=()
def tw3007100085381002648:Unit:=()
def tw16968753057196169399:Unit:=()
def tw14410137784385531904:Unit:=()
def tw10798929677024214885:Unit:=()
def tw17885465338673080902:Unit:=()
def tw1353290712559213991:Unit:=()
def tw7328663210463933811:Unit:=()
def tw11633589084059040630:Unit:=()
def tw14862192724596098475:Unit:=()
def tw12822865759921859894:Unit:=()
def tw5142035780859921856:Unit:=()
def tw9262402359777898862:Unit:=()
def tw7661475440113663425:Unit:=()
def tw9910790416171644258:Unit:=()
def tw15040403970384989072:Unit:=()
def tw2258427028182832344:Unit:=()
def tw1064148902659102413:Unit:=()
def tw8967147676365601008:Unit:=()
def tw1827004002590859:Unit:=()
def tw17288404272973634780:Unit:=()
def tw7605917718636098837:Unit:=()
def tw6804893740478113343:Unit:=()
def tw9708133391062378794:Unit:=()
def tw4770399656002765659:Unit:=()
def tw6392210324283068122:Unit:=()
def tw14418069122301574139:Unit:=()
def tw11368158686424237182:Unit:=()
def tw15352648382974526251:Unit:=()
def tw753303469283752307:Unit:=()
def tw13830993565430722252:Unit:=()
def tw18065820259907649205:Unit:=()
def tw17398429356627849266:Unit:=()
def tw16770556780011183510:Unit:=()
def tw12208599547458795367:Unit:=()
def tw10865028029877759316:Unit:=()
def tw11824041974731973586:Unit:=()
def tw363794453548520744:Unit:=()
def tw1679120029061081446:Unit:=()
def tw3881948492315410056:Unit:=()
def tw6134314048919648683:Unit:=()
def tw5565045942015136211:Unit:=()
def tw14527887174041350878:Unit:=()
def tw5431281626642240128:Unit:=()
def tw14296116386427812982:Unit:=()
def tw13698317702062817937:Unit:=()
def tw5298478009125391545:Unit:=()
def tw6003018883659844885:Unit:=()
def tw7709754269463601062:Unit:=()
def tw17170151954138461439:Unit:=()
def tw5659422915697287733:Unit:=()
def tw11401674303623082989:Unit:=()
def tw17962825493261517848:Unit:=()
def tw12955342112800274569:Unit:=()
def tw10963611577353101633:Unit:=()
def tw5348280007132812329:Unit:=()
def tw9588162574452046845:Unit:=()
def tw6814928081370436130:Unit:=()
def tw1964424147927046500:Unit:=()
def tw1901343414344422032:Unit:=()
def tw6930414048541570473:Unit:=()
def tw836504599836195626:Unit:=()
def tw9079239302220480597:Unit:=()
def tw8355250418351477747:Unit:=()
def tw12899401669725633617:Unit:=()
def tw2916362464006115500:Unit:=()
def tw12862798265331597120:Unit:=()
def tw8940977888920553159:Unit:=()
def tw8023852629457254416:Unit:=()
def tw15624620952184308036:Unit:=()
def tw8752911480095011192:Unit:=()
def tw4261237816676156328:Unit:=()
def tw7820057197734637140:Unit:=()
def tw17183324217244198005:Unit:=()
def tw436253480330606982:Unit:=()
def tw4125218696059068417:Unit:=()
def tw7404556415684344563:Unit:=()
def tw10837369514547335507:Unit:=()
def tw18166474173821773231:Unit:=()
def tw11629049257472324196:Unit:=()
def tw18232114466410117157:Unit:=()
def tw8333061114928438254:Unit:=()
def tw16265001606994167822:Unit:=()
def tw4264245275953854250:Unit:=()
def tw16273616792566571208:Unit:=()
def tw8807982776145146293:Unit:=()
def tw2395575226351260760:Unit:=()
def tw5475243882542878547:Unit:=()
def tw4643418271471284639:Unit:=()
def tw11960433467496582139:Unit:=()
def tw16816862514513429845:Unit:=()
def tw11241125945666198995:Unit:=()
def tw15654924173326581586:Unit:=()
def tw2132376941126765222:Unit:=()
def tw4743459739716700525:Unit:=()
def tw16964528431490794763:Unit:=()
def tw15373146956539036946:Unit:=()
def tw6636000744561398080:Unit:=()
def tw10938624374635693951:Unit:=()
def tw8307479698585424271:Unit:=()
def tw1351006678827608007:Unit:=()
def tw9649535791286233646:Unit:=()
def tw8270024748033999807:Unit:=()
def tw9175682936449027549:Unit:=()
def tw18432256735214945243:Unit:=()
def tw15948918874224907864:Unit:=()
def tw16490358417874765579:Unit:=()
def tw14064592663368152116:Unit:=()
def tw4436697789427910752:Unit:=()
def tw902646050809159652:Unit:=()
def tw8919781689315053865:Unit:=()
def tw14099953720206774778:Unit:=()
def tw6895747913919186306:Unit:=()
def tw15340459381849756971:Unit:=()
def tw12585058636036604651:Unit:=()
def tw8317075971373500697:Unit:=()
def tw905233099734386012:Unit:=()
def tw9596289700253064537:Unit:=()
def tw6023481283979165558:Unit:=()
def tw5346588021029960182:Unit:=()
def tw14646319793106884973:Unit:=()
def tw14343877451257203451:Unit:=()
def tw2918695790946933224:Unit:=()
def tw3186246010030646949:Unit:=()
def tw940903403830729504:Unit:=()
def tw11981892676595612773:Unit:=()
def tw12548017642369646463:Unit:=()
def tw1802240935029678855:Unit:=()
def tw744991063487364925:Unit:=()
def tw10745987363654688273:Unit:=()
def tw8668748575974862453:Unit:=()
def tw12534701416544947897:Unit:=()
def tw12827919101458540915:Unit:=()
def tw6138898474860662748:Unit:=()
def tw17990760065866455568:Unit:=()
def tw4384671749843728462:Unit:=()
def tw15795459037256653456:Unit:=()
def tw9412345477740161136:Unit:=()
def tw7214467471401994547:Unit:=()
def tw32130088081586214:Unit:=()
def tw8078701571962771118:Unit:=()
def tw16365814040879831919:Unit:=()
def tw13988756757661291952:Unit:=()
def tw2484053309688262058:Unit:=()
def tw15193576296900147255:Unit:=()
def tw4491946754781752251:Unit:=()
def tw370165098199329276:Unit:=()
def tw260883536871833407:Unit:=()
def tw13978246796409359358:Unit:=()
def tw11862669208657902727:Unit:=()
def tw7460014732719300809:Unit:=()
def tw16683795182918353510:Unit:=()
def tw12906436436675916036:Unit:=()
def tw11934336055966396334:Unit:=()
def tw11534396044676735287:Unit:=()
def tw6760364060711811883:Unit:=()
def tw3339317508220623616:Unit:=()
def tw17520749088397484113:Unit:=()
def tw16021529193786325087:Unit:=()
def tw1145886063645493821:Unit:=()
def tw10136305236344755367:Unit:=()
def tw1273809270618142778:Unit:=()
def tw7989923179904484228:Unit:=()
def tw7719378503107026145:Unit:=()
def tw533177601899685428:Unit:=()
def tw16887550815551662705:Unit:=()
def tw13924271782442708366:Unit:=()
def tw399704794546806452:Unit:=()
def tw3790027638115592290:Unit:=()
def tw13815632912805722912:Unit:=()
def tw8479196989327432214:Unit:=()
def tw7182398529935997465:Unit:=()
def tw18000439031389005693:Unit:=()
def tw6080957078434608902:Unit:=()
def tw5092694126086520990:Unit:=()
def tw17870083320003575615:Unit:=()
def tw9386960011394935533:Unit:=()
def tw9219709166490188279:Unit:=()
def tw2498129822846906819:Unit:=()
def tw7141543438612345462:Unit:=()
def tw9559433575895752329:Unit:=()
def tw11949815624364546052:Unit:=()
def tw4454403430831226102:Unit:=()
def tw1522607057993559053:Unit:=()
def tw2979795208023414229:Unit:=()
def tw15355934226801414914:Unit:=()
def tw9077800033152284822:Unit:=()
def tw21762415197684009:Unit:=()
def tw17728647602220399737:Unit:=()
def tw13973334760014699296:Unit:=()
def tw6437294711892620583:Unit:=()
def tw8238890447358008218:Unit:=()
def tw6951172982051338944:Unit:=()
def tw18089220425304013126:Unit:=()
def tw18400363730203721761:Unit:=()
def tw862326563406052964:Unit:=()
def tw17064810013226371530:Unit:=()
def tw16891834115082645951:Unit:=()
def tw832194391745512329:Unit:=()
def tw750003559957744933:Unit:=()
def tw6737468298962097918:Unit:=()
def tw18006575528730275428:Unit:=()
def tw13458135240607478568:Unit:=()
def tw1266828230412914567:Unit:=()
def tw7823988464245971474:Unit:=()
def tw7396338877383171017:Unit:=()
def tw11925929141235730429:Unit:=()
def tw4750694007083707549:Unit:=()
def tw3429495759545053970:Unit:=()
def tw2775466072482035746:Unit:=()
def tw2759744175184652477:Unit:=()
def tw16410534285541769402:Unit:=()
def tw15010661452840931294:Unit:=()
def tw2524450072186219126:Unit:=()
def tw6400061267892796040:Unit:=()
def tw6163553338765259668:Unit:=()
def tw10969689620956158939:Unit:=()
def tw1590417989821734758:Unit:=()
def tw12439112622850790477:Unit:=()
def tw10019401730756006288:Unit:=()
def tw14145688270907042424:Unit:=()
def tw9296820062937123416:Unit:=()
def tw15982556321402428665:Unit:=()
def tw3763757701693779221:Unit:=()
def tw17858558309139071921:Unit:=()
def tw11568922633865089404:Unit:=()
def tw9591576143950575018:Unit:=()
def tw5928408248116294699:Unit:=()
def tw9422699888645628220:Unit:=()
def tw2003337804823794577:Unit:=()
def tw16249633695512393119:Unit:=()
def tw12855095253662259681:Unit:=()
def tw10637839670876300519:Unit:=()
def tw8713329229176905558:Unit:=()
def tw15524057145778654919:Unit:=()
def tw1889528612806287160:Unit:=()
def tw17752229567816790546:Unit:=()
def tw7203898732123139068:Unit:=()
def tw1751799278055773049:Unit:=()
def tw17632679810978581495:Unit:=()
def tw8629352526157789465:Unit:=()
def tw2304465924377674394:Unit:=()
def tw5219579934716700905:Unit:=()
def tw14145561434006536486:Unit:=()
def tw11577800286919686048:Unit:=()
def tw1847871583045725504:Unit:=()
def tw11171739687639614126:Unit:=()
def tw13021556884672023824:Unit:=()
def tw4422529100861906819:Unit:=()
def tw1267751067509039136:Unit:=()
def tw953610366392195733:Unit:=()
def tw8893420144384389744:Unit:=()
def tw8353813974734174150:Unit:=()
def tw2533798971780689075:Unit:=()
def tw5048385010369629571:Unit:=()
def tw4412025252717474778:Unit:=()
def tw13980967479105619331:Unit:=()
def tw12134143367043006621:Unit:=()
def tw5506692987247859584:Unit:=()
def tw7742855063936439905:Unit:=()
def tw7046336959093410355:Unit:=()
def tw13832379998133816457:Unit:=()
def tw5581087711318303964:Unit:=()
def tw9971760214058286672:Unit:=()
def tw18404320288383642791:Unit:=()
def tw18317961194560305555:Unit:=()
def tw9074216045638655201:Unit:=()
def tw908331511437055030:Unit:=()
def tw3461833691367258283:Unit:=()
def tw15453359511565815480:Unit:=()
def tw15101858818611714579:Unit:=()
def tw12514631384515759150:Unit:=()
def tw13059025542453018152:Unit:=()
def tw7957897331868370697:Unit:=()
def tw15236109283188143529:Unit:=()
def tw4604625555785845364:Unit:=()
def tw17221355899221515903:Unit:=()
def tw8058213179234676396:Unit:=()
def tw3282895356880018973:Unit:=()
def tw7162069018841147988:Unit:=()
def tw6150383554985421514:Unit:=()
def tw4034611159345609742:Unit:=()
def tw18096927684712190656:Unit:=()
def tw9964494830209940184:Unit:=()
def tw4968954537165019392:Unit:=()
def tw4594988190253214320:Unit:=()
def tw17419774154574748165:Unit:=()
def tw16606241942635414213:Unit:=()
def tw9982196752853560007:Unit:=()
def tw2343366587913744046:Unit:=()
def tw15842366724092821747:Unit:=()
def tw14994970535190245556:Unit:=()
def tw6353345534463034943:Unit:=()
def tw5443158678401566904:Unit:=()
def tw8420810889348609331:Unit:=()
def tw3966427681928471952:Unit:=()
def tw17471476689149484298:Unit:=()
def tw11925581021322197114:Unit:=()
def tw8376666917042887402:Unit:=()
def tw4113842855342996839:Unit:=()
def tw926010105809379975:Unit:=()
def tw2308789523078228880:Unit:=()
def tw5311950477046116052:Unit:=()
def tw18215969762412583892:Unit:=()
def tw13274518629365802478:Unit:=()
def tw3760145391721189709:Unit:=()
def tw2963562120028317646:Unit:=()
def tw7310647043803121608:Unit:=()
def tw1345960804660941244:Unit:=()
def tw15309797664862060969:Unit:=()
def tw12257391335451005929:Unit:=()
def tw8137601514358227352:Unit:=()
def tw7072022787777047433:Unit:=()
def tw5330654495832397090:Unit:=()
def tw12424299642968479946:Unit:=()
def tw12073417940422477517:Unit:=()
def tw12991932418844930408:Unit:=()
def tw3982203233256126550:Unit:=()
def tw14336294509261421266:Unit:=()
def tw13174564574406579298:Unit:=()
def tw14048582268427408297:Unit:=()
def tw5444361472288774888:Unit:=()
def tw1920112117443323496:Unit:=()
def tw8070128673596166726:Unit:=()
def tw1338933448948932628:Unit:=()
def tw11567605646220059049:Unit:=()
def tw7914805247904968301:Unit:=()
def tw2008343726804604691:Unit:=()
def tw15773162284498348739:Unit:=()
def tw3229778951787611053:Unit:=()
def tw6774070372188633767:Unit:=()
def tw11114489685249314261:Unit:=()
def tw10413725732013355661:Unit:=()
def tw6131113137128663194:Unit:=()
def tw12213654191334533968:Unit:=()
def tw6794709761363690691:Unit:=()
def tw5144526450710892311:Unit:=()
def tw9371504268630948113:Unit:=()
def tw6091497347066498681:Unit:=()
def tw9732201769145436745:Unit:=()
def tw8786879700337227267:Unit:=()
def tw5659855950055095551:Unit:=()
def tw4756541379184606011:Unit:=()
def tw12709226635121228043:Unit:=()
def tw10986524682693067404:Unit:=()
def tw8569610909218720268:Unit:=()
def tw5189956651499824888:Unit:=()
def tw2211862248555521831:Unit:=()
def tw6287169138242464390:Unit:=()
def tw15751013159075990153:Unit:=()
def tw1447535118492578689:Unit:=()
def tw11495859745572523952:Unit:=()
def tw6176274168742293499:Unit:=()
def tw9747266344971336547:Unit:=()
def tw637081965849386398:Unit:=()
def tw15497997776834122421:Unit:=()
def tw4398359034852219343:Unit:=()
def tw12659376811878958996:Unit:=()
def tw16927256479344871411:Unit:=()
def tw9389902891135267586:Unit:=()
def tw7693980127467550452:Unit:=()
def tw10812262059335082673:Unit:=()
def tw14704311102049259302:Unit:=()
def tw16655703067684030358:Unit:=()
def tw17197950607810754679:Unit:=()
def tw4515886011710182025:Unit:=()
def tw3524660197198602868:Unit:=()
def tw3831704684971465182:Unit:=()
def tw11875909506629325133:Unit:=()
def tw14043065671050111562:Unit:=()
def tw13664318726627110944:Unit:=()
def tw11917125752523346211:Unit:=()
def tw171438190502963093:Unit:=()
def tw13734981076605892448:Unit:=()
def tw1643565157559235761:Unit:=()
def tw15085869293840107883:Unit:=()
def tw9888294117497785153:Unit:=()
def tw8615569909478815367:Unit:=()
def tw15319018981599872582:Unit:=()
def tw13522821054132489550:Unit:=()
def tw10658541785817609166:Unit:=()
def tw7527634149289302288:Unit:=()
def tw10988480195394088927:Unit:=()
def tw5115230774383674187:Unit:=()
def tw15002415409104132908:Unit:=()
def tw14282405401518440333:Unit:=()
def tw12203967162821423631:Unit:=()
def tw8790676387895757044:Unit:=()
def tw8602475875606206292:Unit:=()
def tw8511635797403491513:Unit:=()
def tw7963782038631958724:Unit:=()
def tw4658021939677101638:Unit:=()
def tw15141477662242823531:Unit:=()
def tw14408364961671114295:Unit:=()
def tw13815494755599652471:Unit:=()
def tw5860741109460516327:Unit:=()
def tw15092096397059098158:Unit:=()
def tw13841212570090832552:Unit:=()
def tw9581396595234794278:Unit:=()
def tw7690865631147861665:Unit:=()
def tw5787770913531865591:Unit:=()
def tw3335667738564978486:Unit:=()
def tw1962711464924157638:Unit:=()
def tw11251377158346828455:Unit:=()
def tw9001385873985809321:Unit:=()
def tw8525456700544739641:Unit:=()
def tw14726972706480329553:Unit:=()
def tw17756540282537743234:Unit:=()
def tw7772607303566231585:Unit:=()
def tw15319781015184436020:Unit:=()
def tw8368536428782876088:Unit:=()
def tw3448709891779374229:Unit:=()
def tw4107482309227238373:Unit:=()
def tw5218207766005994252:Unit:=()
def tw330937821295879115:Unit:=()
def tw6434553706175173186:Unit:=()
def tw13037831595567830250:Unit:=()
def tw14635397354822071201:Unit:=()
def tw689813563343283817:Unit:=()
def tw2664897553612320252:Unit:=()
def tw16788915966928619960:Unit:=()
def tw6141874077247026910:Unit:=()
def tw5868532796194643552:Unit:=()
def tw6592986471182068023:Unit:=()
def tw5278015190036113264:Unit:=()
def tw464457975930145467:Unit:=()
def tw433837550114804472:Unit:=()
def tw1655698658976120844:Unit:=()
def tw11746790655577599856:Unit:=()
def tw13485359324877706537:Unit:=()
def tw6874474094427468492:Unit:=()
def tw18015022376632783565:Unit:=()
def tw3981215302672285334:Unit:=()
def tw15392604821487636848:Unit:=()
def tw3165592392510165476:Unit:=()
def tw2249647147342422847:Unit:=()
def tw13602026833073943745:Unit:=()
def tw15189124686307931543:Unit:=()
def tw12827161062113187092:Unit:=()
def tw2518219616677704639:Unit:=()
def tw18080695760563214196:Unit:=()
def tw3045879063767790253:Unit:=()
def tw15806047519607873890:Unit:=()
def tw819542145582051713:Unit:=()
def tw7446701945437907988:Unit:=()
def tw7121442084274877734:Unit:=()
def tw6553717306132970749:Unit:=()
def tw6384996897682787340:Unit:=()
def tw6207371948630575852:Unit:=()
def tw477016184789600948:Unit:=()
def tw18388322739155311798:Unit:=()
def tw17981668107090599668:Unit:=()
def tw14806662429673133227:Unit:=()
def tw1372174476807972077:Unit:=()
def tw11908599775483907926:Unit:=()
def tw11814137885639169485:Unit:=()
def tw10893069526709706581:Unit:=()
def tw7368688828856213932:Unit:=()
def tw687694648621492559:Unit:=()
def tw6528528099742976760:Unit:=()
def tw5463964887415303563:Unit:=()
def tw2761018002780186777:Unit:=()
def tw2052074807328662873:Unit:=()
def tw2048979157873025064:Unit:=()
def tw18444775552529998492:Unit:=()
def tw14611653416996402609:Unit:=()
def tw12051617651144133519:Unit:=()
def tw17839639330812378628:Unit:=()
def tw17150910896295710186:Unit:=()
def tw9005347615255283233:Unit:=()
def tw5318277266842644826:Unit:=()
def tw3383479061121203182:Unit:=()
def tw2755104169169296542:Unit:=()
def tw4903316096752652954:Unit:=()
def tw3043857716717543684:Unit:=()
def tw16818575049518938370:Unit:=()
def tw15425833691157367439:Unit:=()
def tw10441982599447278202:Unit:=()
def tw8032219656915601006:Unit:=()
def tw5709535618876752528:Unit:=()
def tw5664155770170613210:Unit:=()
def tw529962154967349631:Unit:=()
def tw13508617952690638528:Unit:=()
def tw5847817291125096167:Unit:=()
def tw3474966000146783919:Unit:=()
def tw16177458787567670837:Unit:=()
def tw1253377339674464658:Unit:=()
def tw8362740521886889653:Unit:=()
def tw7566334927685312744:Unit:=()
def tw4513401895371809774:Unit:=()
def tw3360532023935460085:Unit:=()
def tw2295735576263668886:Unit:=()
def tw1903455295635918167:Unit:=()
def tw15709777850196862715:Unit:=()
def tw14419539203630672799:Unit:=()
def tw14022801301977931870:Unit:=()
def tw14007107900065263696:Unit:=()
def tw11289722756874375582:Unit:=()
def tw11250279737047399059:Unit:=()
def tw5423701112060886140:Unit:=()
def tw2435390734539833887:Unit:=()
def tw13303780849264410094:Unit:=()
def tw12033192026042230074:Unit:=()
def tw2955381985197699988:Unit:=()
def tw11236626760202372143:Unit:=()
end PySem.W.Fast
namespace K94
open PySem L2 PyProof.Rows
end K94
open PySem PySem.W PyProof.Rows
set_option maxRecDepth 100000 in
set_option maxHeartbeats 0 in
theorem PySem.Challenge.cw_turnleaf_k94_whole_by_places_holds : PySem.Challenge.rw_turnleaf_k94_whole_by_places.Holds := by
 w_on;o_law;k_head;(case hw=>w_witness2)
 k_fill
 refine L2.Vc (l:=PySem.Challenge.rw_turnleaf_k94_whole_by_places) (n:=63) (k:=60) (x:="_law_script") (xn:="sorted_by") (ps:=K94.iM) (CX:=λw=>L2.bH PySem.Challenge.rw_turnleaf_k94_whole_by_places.prog w) (cc:=true) (sp:=λw=>L2.K9 _ "sorted_by" K94.iM) rfl (by decide) rfl ⟨λ_=>rfl,by decide,by decide⟩ (λw h Y=>PySem.W.km_in_of Y) ?R ?B ?F (λ_ _ a ns hl hS hH=>⟨a,ns,rfl,hS,hl,hH,λ_=>rfl⟩) (λ_ _ _ _ _ z=>L2.bH.never z)
 case R=>kernel_rfl
 case B=>intro w;kernel_rfl
 case F=>
  intro w mg fa h KX G hmg;have T:K94.Txt (L2.Qw KX) mg:=by
   dsimp only[L2.Qw];constructor
   all_goals first|refine' L2.UW KX G ..|refine' L2.Vu KX G ..|refine' L2.aae KX G ..|refine' L2.T6 KX G ..|refine' L2.U5 KX G ..|refine' L2.Vj KX G ..|refine' L2.aaJ KX G ..|refine' L2.WR KX G ..|refine' L2.V1 KX G ..|refine' L2.Xm KX G ..|refine' L2.ahg KX G ..|refine' L2.aar KX G ..|refine' L2.ai9 KX G ..|refine' L2.akb KX G ..|refine' L2.RL KX G ..|refine' L2.aj5 KX G ..|refine' L2.Wa KX G ..|refine' L2.Vh (mg:=mg) (L2.iV KX G ?_ (L2.iV KX G ?_ (L2.iV KX G ?_ (L2.iV KX G ?_ (L2.iV KX G ?_ (L2.iV KX G ?_ (L2.iV KX G ?_ (L2.iV KX G ?_ (L2.iV KX G ?_ L2.iJ.nil))))))))) ?_
   any_goals try delta L2.cN
   any_goals try delta L2.mZ
   any_goals first|k_is|k_exc|kernel_rfl|decide
  obtain⟨f,fd,F,hm⟩:=T.Uz;have e0:=hmg.symm.trans hm;cases e0;obtain⟨oc,od,kV,doc,pm,an,Ϲ,ct,osl,rfl,lk,hcd⟩:=id F.ex;exact⟨_,λs u=>.of_eq rfl,λbase kb nb hN=>K94.adp T hN F⟩
#print axioms PySem.Challenge.cw_turnleaf_k94_whole_by_places_holds
