import PyProof.Rows.All
import Wide.All
import KE.KDictOf
import KE.KFromBytes
import KE.KIntText
import KE.KNestM
import Wide.FinOn
import Lean
import PyProof.EqAt
import PyProof.EqKinds
import PyProof.TupleCall
import PyProof.NeData
import PyProof.ZipIter
import PyProof.WalksEnum
import PyProof.Rows.SetFrom
import PyProof.StrLawsTight
import PyProof.StrLawsChain
import PyProof.StrCalls2
import PyProof.ListStr
import PyProof.Rows.StrOrd
import KE.KRevIter
import PyProof.ExcInit
import PyProof.InstStoreFacts
import PyProof.ExcArgs
import PyProof.ExcAttrAll.ValueError
import PyProof.NsDelKeeps
import PyProof.RulesAs
import OpenK.KCls
import PyProof.Rows.TupAssign
import PyProof.StrLawsIn
import KE.KDictSum
import PyProof.DictWalks
import PyProof.Rows.CountFlat
import KE.KTryMore
import KE.KxWritten
import KE.KStrOpen
import KE.KSortTup
import KE.KNest
import PyProof.FString5
import KE.KDictList
import PySem.Challenge.RW_turnleaf_k92_whole_still_list
open PySem renaming Addr->δ,Value->ε,Shared->μ,wpAny_bind->ν,wpAny->π,model->Ϧ,Expr->ϧ,Stmt->Ϩ,Heap->ϫ,World->ϭ,wpAny_pure->Ϯ,Program->ϯ,sizeLine->ϰ,sizeLine_eq->ϱ,Around->ϳ,starEach->ϴ,wpAny_mono->adk,compareOp->adC,wpAny_holding->afm,wpAny_truthy_bool->agT,wpAny_field->ahc,Scope->ah9,FuncData->aiF,wpAny_newObj_type->ajY,codeAny_mono->akc,wpAny_Call_Name_kw->akK,wpAny_passesOwn->akZ,codeAny_builtin->ak4,wpAny_pyIter_list->alc,Builtin->alA,PassesOwn->alP,SetTable->alQ,tupleKind_room_in1->al8,wpAny_setField_rec->amc,swapsWith->amu,wpAny_standAt->amx,ExceptHandler->amy,wpAny_loadPart_at->amE,wpAny_call->anm,PyData->anq,codeAny_call_builtin->anw,wpAny_seqItems->anC,wpAny_attempt->anI,call_meets->anR,wpAny_callSpecial?_slot->anT,NameKind->an5,wpAny_nextOf_list_item->an6
open PySem.W renaming Frag->ϩ,findIn->aew,specialIn->air,mg_of->akA,emptyDict->alY,hasDictIn->amH,kia_one->amN,mroIn->anF,keepIn->anJ,instObj->aoc,typeIn->aol,plainGet->aom,takerIn->aoo,methodCall_KW->aot,kitOne->aoy,looks_findIn->aoC,takesIn->aoD,readsIn->aoJ,findCls->aoK,plainOver->aoN,codeIn->aoP,callWith_K->ao2,clsIn->ao4,InstAt->apb,any_some->apc,fnOf->apf,plainGet_of->apl,isFn->apm,looks_clsIn->apn,exmOne->apo,cellsFrom_some->apF,lookIn->apR,methodObj->apS,makesIn->apT,findObj->apU,handedIn->ap4,nsIn->ap5,findObj_own->ap7,Looks->ap8,looks_mroIn->ap9,subIn->aqh,notCls->aqj
open PySem.Str renaming ofString->Ϫ,join->ae5,empty->aop,length->aoF
open Nat renaming le_refl->Ϭ,lt_of_lt_of_le->abX,ne_of_lt->ab7,le_trans->aes,lt_of_le_of_lt->afN,zero_le->agz,add_le_add_left->ajd,lt_irrefl->ajM,le_add_right->akV,ne_of_gt->amF,le_of_eq->amJ,min_eq_left->am7,le_succ->anO,zero_add->anS,lt_succ_of_lt->an8,le_of_ble_eq_true->aob,le_of_lt->aod,sub_zero->aoe,min_le_right->aoh,min_eq_right->aoW,min_le_left->ao3,sub_self->ao8,mul_le_mul_right->ape,toDigits_ne_nil->aph,sub_add_cancel->apt,le_succ_of_le->apy,lt_trichotomy->apB,lt_succ_self->apE,toDigits->aqg
open PySem.Heap renaming get?_push_of_some->ϲ,get?_push_size->abi,lt_size->abV,get?_update_other->acg,get?_update_self->ae6,get?_none_of_le->aj1,size_push->akj,SameBut->ak6,get?_update_ne->anP,size_after_update->aoX,MadeExcOf->apg,get?_push_at->apv,get?_push_ne->apx,size_update->apO,IsList->apW
open List renaming getElem?_eq_getElem->aab,getElem?_eq_some_iff->aap,mem_of_getElem?->aaq,length_map->aaz,mem_cons->aaG,size_toArray->aaH,getElem?_map->abh,length_append->abu,mem_singleton->abx,getD_eq_getElem?_getD->abA,all_eq_true->acN,length_cons->acS,mem_cons_of_mem->acY,mem_map->ada,map_cons->adF,length_drop->adH,mem_cons_self->adV,find?_cons->adZ,mem_append_right->aek,length_singleton->ael,range->aeJ,toArray->afh,lookup_cons->afo,drop_eq_getElem_cons->afy,mem_append->afH,not_mem_nil->afT,mem_of_mem_drop->af0,map_map->agr,append_nil->ag5,mem_of_mem_take->ahq,length_take->ahH,getElem_mem->ahZ,length_filter_le->aib,lookup->aij,take_of_length_le->aiK,append_assoc->ajF,getElem?_append_left->ajS,mem_filter->ajV,mem_append_left->aj9,getElem?_append_right->akQ,ne_nil_of_length_eq_add_one->alh,foldl_cons->alN,any_cons->alZ,eq_nil_of_length_eq_zero->ame,replicate->aml,drop_zero->amm,getElem?_set_self->amA,dropLast_concat_getLast->amD,nodup_cons->amR,forIn_cons->amU,getElem?_concat_length->amX,pairwise_iff_getElem->anH,filter_cons->anK,take_length->anL,drop_length->anM,any_eq_true->anN,map_congr_left->anQ,mem_filterMap->anU,length_eq_zero_iff->anY,sum_cons->anZ,pairwise_cons->an0,drop_eq_nil_of_le->an7,forIn_nil->an9,drop_drop->aoa,getElem?_eq_none->aof,take_append_of_le_length->aoj,getElem?_set_ne->aok,filterMap_cons->aon,length_nil->aoq,getElem_of_mem->aor,filter_sublist->aou,exists_cons_of_ne_nil->aow,contains_cons->aoz,getElem?_drop->aoA,mem_range->aoB,length_range->aoH,foldl_append->aoI,pairwise_map->aoL,mapM_toArray->aoM,length->aoO,all_cons->aoR,map_id->aoT,pairwise_singleton->aoU,countP_cons_of_pos->aoV,drop_of_length_le->aoY,range_succ_eq_map->aoZ,of_mem_zip->ao0,length_replicate->ao1,nil_append->ao7,getElem?_reverse->ao9,countP_le_length->apa,forall_mem_cons->apd,countP_eq_zero->api,length_pos_iff->apj,zip_cons_cons->aps,nodup_append->apu,reverse_perm->apw,getElem?_inj->apA,all_map->apC,getElem_inj->apD,zipIdx_cons->apJ,cons_append->apK,ext_getElem->apL,all_toArray->apP,nodup_range->apQ,zipIdx_nil->apV,map_append->apY,range_succ->apZ,not_lt->ap0,take_left'->ap1,lt_irrefl->ap2,map->aqa,lt_trans->aqb,map_nil->aqe
open Bool renaming false_ne_true->aaA,and_eq_true->aaW,eq_iff_iff->ahB,eq_false_iff->aks,true_and->al4,false_and->anG,false_eq_true->anV,or_eq_true->anW,or_false->aoQ,false_or->aoS,not_eq_true->apI,decide_or->ap3,true_or->aqd
open Int renaming eq_ofNat_of_zero_le->adi,emod_lt_of_pos->ak9,emod_nonneg->ani,toNat_of_nonneg->aov,toNat_natCast->aoE,add_emod->ao5,mul_emod->ao6,emod_emod->apq,emod_eq_of_lt->apz,zero_add->aqf,le_refl->aqi
open Option renaming map_eq_some_iff->agJ,isSome_iff_exists->alC,bind_some->aoi,isSome_map->aoG,getD_none->apG,getD_some->apH
open Array renaming getElem?_setIfInBounds_ne->aiX,length_toList->akt,getElem?_eq_none->akP,getElem?_eq_some_iff->akR,getElem?_toList->aog,toList_append->aos,perm_iff_toList_perm->aox,find?_toList->apk,forIn_toList->apr,toList_inj->apM,getD->ap6,toList->aqc
set_option maxHeartbeats 4000000
set_option Elab.async false
set_option linter.all false
set_option compiler.extract_closed false
set_option maxRecDepth 100000
local macro_rules | `(tactic| walk_at "sc") => `(tactic| exact ⟨rfl, rfl, rfl, by decide +kernel, rfl, by decide +kernel, by decide +kernel⟩)
local macro_rules | `(tactic| omega) => `(tactic| lia)
open Lean Parser.Tactic in
local macro_rules(kind:=Lean.Parser.Tactic.tacticLet__)|s=>do
 let rec g:Nat->Term->MacroM (TSyntax `rcasesPat)
  |0,_=>Macro.throwUnsupported
  |n+1,s=>do match s with
   |`(#[$x,*])=>let y<-x.getElems.mapM λz=>do let z<-g n z;`(rcasesPatLo|$z:rcasesPat)
                `(rcasesPat|⟨$y,*⟩)
   |`(_)=>`(rcasesPat|_)
   |`($i:ident)=>`(rcasesPat|$i:ident)
   |_=>Macro.throwUnsupported
 match s with
 |`(tactic|let $p:term:=$e)=>do
  let q<-g 9 p
  `(tactic|obtain $q:rcasesPat:=$e)
 |_=>return(s.setKind ``tacticHave__).setArg 0 (mkAtom "have")
local macro_rules|`(#[$x,*])=>`(⟨$x,*⟩)
local macro_rules|`(#v[$x,*])=>`(List.toArray [$x,*])
local macro_rules|`(tactic|show $e)=>`(tactic|refine $e)
local macro_rules|`(tactic|lk)=>`(tactic|walk_at "ex")
local macro_rules|`(tactic|cbv)=>`(tactic|walk_at "go")
local macro_rules|`(tactic|f_are)=>`(tactic|walk_at "e")
local macro_rules|`(tactic|f_tup)=>`(tactic|walk_at "s")
local macro_rules|`(tactic|k_go)=>`(tactic|walk_at "A")
local macro_rules|`(tactic|room)=>`(tactic|walk_at "sc")
local macro_rules|`(tactic|w_up)=>`(tactic|walk_at "c")
local macro_rules|`(tactic|f_len)=>`(tactic|walk_at "n")
local macro_rules|`(())=>`(by omega)
local macro_rules|`(tactic|fin2)=>`(tactic|decide+kernel)
namespace _L
open PySem PySem.Spec PyProof.Rows
abbrev Key:=Sum Int Str
def oX:Key->ε->Bool
 |.inl k,v=>Value.isInt k v
 |.inr x,v=>Value.isStrOf x v
def abQ(w:ϭ):Key->Int
 |.inl k=>hashInt k
 |.inr x=>hashStr w x
theorem jb:∀{k:Key}{v:ε},oX k v=true->(∃i t,k=Sum.inl i/\v=Value.int i t)\/(∃x t,k=Sum.inr x/\v=Value.str x t)
 |.inl i,v,h=>by
   let#[t,e]:=Value.isInt_shape (k:=i) (v:=v) h;show .inl #[i,t,rfl,e]
 |.inr x,v,h=>by
   let#[t,e]:=Value.isStrOf_shape (x:=x) (v:=v) h;show .inr #[x,t,rfl,e]
theorem YT(i:Int)(t:Tok):oX (.inl i) (.int i t)=true:=by simp[oX,Value.isInt]
theorem abz(x:Str)(t:Tok):oX (.inr x) (.str x t)=true:=by simp[oX,Value.isStrOf]
theorem aaN(a b:Int):decide ((Sum.inl a:Key)=Sum.inl b)=(a==b):=by
 by_cases e:a=b
 .subst e;simp
 .let h:¬(Sum.inl a:Key)=Sum.inl b:=λq=>e (Sum.inl.inj q)
  rw[decide_eq_false h];show(beq_eq_false_iff_ne.mpr e).symm
theorem ahr(a b:Str):decide ((Sum.inr a:Key)=Sum.inr b)=decide (a=b):=by
 by_cases e:a=b
 .subst e;simp
 .let h:¬(Sum.inr a:Key)=Sum.inr b:=λq=>e (Sum.inr.inj q)
  rw[decide_eq_false h,decide_eq_false e]
theorem Yn(a:Int)(b:Str):decide ((Sum.inl a:Key)=Sum.inr b)=false:=decide_eq_false (λq=>nomatch q)
theorem ait(a:Str)(b:Int):decide ((Sum.inr a:Key)=Sum.inl b)=false:=decide_eq_false (λq=>nomatch q)
def cI(prog:ϯ)(w:ϭ):PySem.KeyKind prog w Key where
 is:=oX
 hash:=abQ w
 inj:=λv a b g f=>by
  obtain⟨i,t,rfl,rfl⟩|⟨x,t,rfl,rfl⟩:=jb g
  .obtain⟨j,u,rfl,e⟩|⟨y,u,rfl,e⟩:=jb f
   .injection e with e1 _;rw[e1]
   .show nomatch e
  .obtain⟨j,u,rfl,e⟩|⟨y,u,rfl,e⟩:=jb f
   .show nomatch e
   .injection e with e1 _;rw[e1]
 byValue:=λk v h=>by
  obtain⟨i,t,rfl,rfl⟩|⟨x,t,rfl,rfl⟩:=jb h<;>rfl
 pyHash:=λc h=>by
  obtain⟨i,t,rfl,rfl⟩|⟨x,t,rfl,rfl⟩:=jb c
  .show wpAny_pyHash_int h
  .show wpAny_pyHash_str h
 eqBool:=λl c h=>by
  obtain⟨i,t,rfl,rfl⟩|⟨x,t,rfl,rfl⟩:=jb l
  .obtain⟨j,u,rfl,rfl⟩|⟨y,u,rfl,rfl⟩:=jb c
   .rw[aaN]at h;show wpAny_eqBool_int h
   .rw[Yn]at h;show SeqAt.EqAt.int_str i t y u _ _ _ _ h
  .obtain⟨j,u,rfl,rfl⟩|⟨y,u,rfl,rfl⟩:=jb c
   .rw[ait]at h;show SeqAt.EqAt.str_int x t j u _ _ _ _ h
   .rw[ahr]at h;show wpAny_eqBool_str h
 «strs» :=λk x t v h=>by
  obtain⟨i,u,rfl,e⟩|⟨y,u,rfl,e⟩:=jb h
  .show nomatch e
  .injection e with e1 _
   subst e1;cases v<;>rfl
theorem abo(prog:ϯ)(w:ϭ)(i:Int)(t:Tok):(cI prog w).is (.inl i) (.int i t)=true:=YT i t
theorem abv(prog:ϯ)(w:ϭ)(x:Str)(t:Tok):(cI prog w).is (.inr x) (.str x t)=true:=abz x t
inductive V where
 |non|bl (b:Bool)|int (i:Int)|str (x:Str)|byt (b:Array UInt8)|flt (b:UInt64)|ref (a:δ)|ty (n:String)
 deriving DecidableEq
def RelV:V->ε->Prop
 |.non,u=>u=Value.none
 |.bl b,u=>u=Value.bool b
 |.int i,u=>∃t,u=Value.int i t
 |.str x,u=>∃t,u=Value.str x t
 |.byt b,u=>∃t,u=Value.bytes b t
 |.flt b,u=>∃t,u=Value.float b t
 |.ref a,u=>u=Value.ref a
 |.ty n,u=>u=Value.type n
abbrev Vals:List V->List ε->Prop:=Paired RelV
theorem Vals.length{xs:List V}{us:List ε}(r:Vals xs us):xs.length=us.length:=Paired.length r
theorem Vals.get:∀{xs:List V}{us:List ε}{i:Nat}{x:V},Vals xs us->xs[i]?=some x->∃u,us[i]?=some u/\RelV x u
 |_,_,_,_,.nil,e=>by simp at e
 |_,_,0,_,.cons r _,e=>by simp at e;subst e;show#[_,rfl,r]
 |_,_,i+1,x,.cons _ t,e=>by
  let#[u,h1,h2]:=Vals.get (i:=i) (x:=x) t (by simpa using e);show#[u,by simpa using h1,h2]
theorem Vals.append:∀{xs ys:List V}{us ws:List ε},Vals xs us->Vals ys ws->Vals (xs++ys) (us++ws)
 |_,_,_,_,.nil,s=>s
 |_,_,_,_,.cons r t,s=>.cons r (Vals.append t s)
theorem Vals.take:∀{xs:List V}{us:List ε}(n:Nat),Vals xs us->Vals (xs.take n) (us.take n)
 |_,_,0,_=>.nil
 |_,_,_+1,.nil=>.nil
 |_,_,n+1,.cons r t=>.cons r (Vals.take n t)
theorem Vals.drop:∀{xs:List V}{us:List ε}(n:Nat),Vals xs us->Vals (xs.drop n) (us.drop n)
 |_,_,0,r=>r
 |_,_,_+1,.nil=>.nil
 |_,_,n+1,.cons _ t=>Vals.drop n t
def bM:Option V->Option ε->Prop
 |some v,some u=>RelV v u
 |none,none=>True
 |_,_=>False
def KV{κ:Type}:List (κ×V)->List (κ×ε)->Prop:=Paired λ(p:κ×V)(q:κ×ε)=>p.1=q.1/\RelV p.2 q.2
def kV:Key->V
 |.inl i=>.int i
 |.inr x=>.str x
inductive HO where
 |lst (xs:List V)
 |tup (xs:List V)
 |dK (Ϸ:List (Key×V))|dT (Ϸ:List (List Key×V))
 |set (S:Int->Bool) (n:Nat)
 |ins (C dx:δ) (fs:List (Str×V))
 |own (x:δ)
 |xd (fs:List (Str×V))
 |met (f x:δ)
 |rng (lo hi:Int)
 |frz (o:Obj) (u:HO)
 |tbl (ps:Array ε)
 |ext (φ:ϫ->Prop)
theorem Δ{n:Nat}(h:n.ble 1000=true:=by rfl):n<=ϰ:=aes (aob h) (by rw[ϱ];decide)
abbrev Hp:=δ->Option HO
def upd(H:Hp)(a:δ)(o:HO):Hp:=λb=>if b=a then some o else H b
theorem υ{H:Hp}{a:δ}{o:HO}:upd H a o a=some o:=by unfold upd;rw[if_pos rfl]
theorem ο{H:Hp}{a b:δ}{o:HO}(h:b≠a):upd H a o b=H b:=by unfold upd;rw[if_neg h]
theorem ajg{H:Hp}{a b:δ}{o u:HO}(h:H a=some o)(h':H b=some u)(d:o≠u):a≠b:=by
 intro e;subst e;rw[h]at h';show d (Option.some.inj h')
theorem Ψ{H:Hp}{a b:δ}{o:HO}(h:H a=some o)(h':H b=none):a≠b:=by
 intro e;subst e;rw[h]at h';cases h'
section
variable(P:ϯ)(w:ϭ)
def ϔ(H:Hp)(h:ϫ)(a:δ):HO->Prop
 |.lst xs=>xs.length<=ϰ/\∃(e:List ε)(n:Nat),Vals xs e/\h.get? a=some {cls:=.type "list",data:=.seq e.toArray n}
 |.tup xs=>xs.length<=ϰ/\∃e:List ε,Vals xs e/\IsTup h a e.toArray
 |.dK Ϸ=>Ϸ.length<=ϰ/\(a==sysModules)=false/\∃vs,KV Ϸ vs/\h.DictOf (cI P w) a vs
 |.dT Ϸ=>Ϸ.length<=ϰ/\(a==sysModules)=false/\∃xs:List (List Key×δ×ε),
   Paired (λ(p:List Key×V)(q:List Key×δ×ε)=>p.1=q.1/\H q.2.1=some (.tup (p.1.map kV))/\RelV p.2 q.2.2) Ϸ xs/\
   ∃o es ep,h.get? a=some o/\o.ExactDict/\o.data=.dict es ep/\es.toList=xs.map (entryOfKey (tupleKind (cI P w)))/\(xs.map (·.1)).Nodup
 |.set S n=>h.SetOf (intKind P w) a S n
 |.ins C dx fs=>H dx=some (.own a)/\fs.length<=1000/\dx≠a/\h.get? a=some (aoc C dx)/\
   ∃mA,h.Ns1 dx mA/\(∀f,bM (fs.lookup f) (mA f))/\PySem.Within mA (fs.map (·.1))
 |.own _=>∃o,h.get? a=some o
 |.xd fs=>∃mA,h.Ns1 a mA/\∀f,bM (fs.lookup f) (mA f)
 |.rng lo hi=>∃t u v,h.get? a=some {cls:=.type "range",data:=.fields #v[.int lo t,.int hi u,.int 1 v]}
 |.frz o u=>h.get? a=some o/\ϔ H h a u
 |.tbl ps=>∃g:Array ε,h.get? a=some {cls:=.none,data:=.fields g}/\TriplesOk g.toList/\∀(p:Pos)(i:ε),codeAmong p g.toList=some i->∃c oc u q t vs t',i=.ref c/\codeAmong p ps.toList=some (.str q t)/\H c=some (.frz oc u)/\oc.data=.fields vs/\vs[1]?=some (.str q t')
 |.met f x=>h.get? a=some (apS (.ref f) (.ref x))
 |.ext φ=>φ h/\(∃o,h.get? a=some o)/\∀h1 h2:ϫ,φ h1->(∀o,h1.get? a=some o->h2.get? a=some o)->φ h2
def Ϡ(H:Hp)(h:ϫ):=∀a o,H a=some o->ϔ P w H h a o
end
section
variable{P:ϯ}{w:ϭ}{H H':Hp}{h h':ϫ}{a:δ}{o:HO}
theorem ϔ.there(x:ϔ P w H h a o):∃ob,h.get? a=some ob:=by
 cases o with
 |lst xs=>let#[_,_,_,_,e]:=x;show#[_,e]
 |tup xs=>let#[_,_,_,ob,e,_]:=x;show#[_,e]
 |dK Ϸ=>let#[_,_,_,_,o,_,_,e,_]:=x;show#[_,e]
 |dT Ϸ=>let#[_,_,_,_,o,_,_,e,_]:=x;show#[_,e]
 |set S n=>let#[o,_,_,_,e,_]:=x;show#[_,e]
 |ins C dx fs=>let#[_,_,_,e,_]:=x;show#[_,e]
 |own y=>let#[_,e]:=x;show#[_,e]
 |xd fs=>let#[_,#[_,_,_,e,_],_]:=x;show#[_,e]
 |rng lo hi=>let#[_,_,_,e]:=x;show#[_,e]
 |frz ob u=>let#[e,_]:=x;show#[_,e]
 |tbl ps=>let#[_,e,_]:=x;show#[_,e]
 |met f y=>show#[_,(show h.get? a=some _ from x)]
 |ext φ=>let#[_,#[_,e],_]:=x;show#[_,e]
theorem ϔ.lt(x:ϔ P w H h a o):a<h.objs.size:=by
 let#[_,e]:=x.there;show abV e
theorem Paired.mapP{α β:Type}{F G:α->β->Prop}:∀{c:List α}{e:List β},Paired F c e->(∀a b,F a b->G a b)->Paired G c e
 |_,_,.nil,_=>.nil
 |_,_,.cons r t,f=>.cons (f _ _ r) (Paired.mapP t f)
theorem ϔ.stay(x:ϔ P w H h a o)(k:∀b u,(b=a\/H b=some (.own a))->h.get? b=some u->h'.get? b=some u)(l:∀b,H b=some (.own a)->H' b=some (.own a))(m:∀b xs,H b=some (.tup xs)->H' b=some (.tup xs))(hz:∀b g u,H b=some (.frz g u)->H' b=some (.frz g u):=by show λ_ _ _ q=>q):ϔ P w H' h' a o:=by
 induction o with
 |lst xs=>let#[z,i,n,r,e]:=x;show#[z,i,n,r,k _ _ (.inl rfl) e]
 |tup xs=>let#[z,i,r,g,e,c]:=x;show#[z,i,r,g,k _ _ (.inl rfl) e,c]
 |dK Ϸ=>let#[z,y,vs,r,g,es,ep,e,c]:=x;show#[z,y,vs,r,g,es,ep,k _ _ (.inl rfl) e,c]
 |dT Ϸ=>
  let#[z,y,xs,r,g,es,ep,e,c]:=x;show#[z,y,xs,Paired.mapP r λp q z=>#[z.1,m _ _ z.2.1,z.2.2],g,es,ep,k _ _ (.inl rfl) e,c]
 |set S n=>let#[g,es,ep,t,e,c]:=x;show#[g,es,ep,t,k _ _ (.inl rfl) e,c]
 |ins C dx fs=>
  let#[d,z,ne,e,mA,#[od,es,ep,j,c],r]:=x;show#[l _ d,z,ne,k _ _ (.inl rfl) e,mA,#[od,es,ep,k _ _ (.inr d) j,c],r]
 |own y=>let#[g,e]:=x;show#[g,k _ _ (.inl rfl) e]
 |xd fs=>let#[mA,#[od,es,ep,e,c],r]:=x;show#[mA,#[od,es,ep,k _ _ (.inl rfl) e,c],r]
 |rng lo hi=>let#[t,u,v,e]:=x;show#[t,u,v,k _ _ (.inl rfl) e]
 |frz g u s=>let#[e,q]:=x;show#[k _ _ (.inl rfl) e,s q]
 |tbl ps=>
  let#[B,e,tr,z]:=x;show#[B,k _ _ (.inl rfl) e,tr,λp D E=>?_];let#[c,oc,u,q,t,vs,t',e1,j,F,G]:=z p D E;show#[c,oc,u,q,t,vs,t',e1,j,hz _ _ _ F,G]
 |met f y=>
  let e:h.get? a=some (apS (.ref f) (.ref y)):=x;show h'.get? a=some (apS (.ref f) (.ref y));show k a _ (.inl rfl) e
 |ext φ=>let#[p,#[o,e],st]:=x;show#[st _ _ p λo q=>k _ _ (.inl rfl) q,#[o,k _ _ (.inl rfl) e],st]
theorem Ϡ.lt(x:Ϡ P w H h)(e:H a=some o):a<h.objs.size:=(x a o e).lt
theorem Ϡ.fresh(x:Ϡ P w H h)(e:h.objs.size<=a):H a=none:=by
 cases q:H a with
 |none=>rfl
 |some u=>show absurd (abX (x.lt q) e) (ajM _)
theorem Ϡ.kept(x:Ϡ P w H h)(k:∀b u,h.get? b=some u->h'.get? b=some u):Ϡ P w H h':=λa o e=>
 (x a o e).stay (λb u _ q=>k b u q) (λ_ q=>q) λ_ _ q=>q
theorem Ϡ.laid(x:Ϡ P w H h)(k:∀b u,h.get? b=some u->h'.get? b=some u)(j:h.objs.size<=a)(f:ϔ P w (upd H a o) h' a o):Ϡ P w (upd H a o) h':=λb u e=>by
 let g:=x.fresh j;by_cases i:b=a
 .subst i;rw[υ]at e;cases e;show f
 .rw[ο i]at e;show(x b u e).stay (λc v _ q=>k c v q) (λc q=>by rw[ο (Ψ q g)];show q) (λc xs q=>by rw[ο (Ψ q g)];show q) λc l v q=>by rw[ο (Ψ q g)];show q
end
def Rd(H:Hp)(a:δ)(u:HO):Prop:=H a=some u\/∃o,H a=some (.frz o u)
theorem Rd.ok{P:ϯ}{w:ϭ}{H:Hp}{h:ϫ}{a:δ}{u:HO}(r:Rd H a u)(x:Ϡ P w H h):ϔ P w H h a u:=by
 obtain r|⟨o,r⟩:=r
 .show x a u r
 .let#[_,q]:=x a _ r;show q
def uA:Option HO->Prop
 |some (.lst _)=>True
 |some (.dK _)=>True
 |some (.dT _)=>True
 |some (.set _ _)=>True
 |some (.ins _ _ _)=>True
 |some (.ext _)=>True
 |_=>False
section
variable{P:ϯ}{w:ϭ}{H:Hp}{h h':ϫ}{x e:δ}{o':HO}
theorem Ϡ.write(ok:Ϡ P w H h)(g:uA (H x))(n:e=x\/H e=some (.own x))(k:∀b u,b≠e->h.get? b=some u->h'.get? b=some u)(l:∃u,h'.get? e=some u)(m:ϔ P w (upd H x o') h' x o'):Ϡ P w (upd H x o') h':=λb u q=>by
 let f:∀c y,H c=some (.own y)->c≠x:=λc y r z=>by subst z;rw[r]at g;show g
 let i:∀c xs,H c=some (.tup xs)->c≠x:=λc xs r z=>by subst z;rw[r]at g;show g
 by_cases j:b=x
 .subst j;rw[υ]at q;cases q;show m
 .rw[ο j]at q;by_cases a:b=e
  .let o:H b=some (.own x):=by
    obtain z|z:=n
    .show absurd (a.trans z) j
    .rw[a];show z
   rw[q]at o;cases o;let#[v,p]:=l;show#[v,by rw[a];show p]
  .show(ok b u q).stay (λc v hc r=>k c v ?_ r) (λc r=>by rw[ο (f c b r)];show r) (λc xs r=>by rw[ο (i c xs r)];show r) λc s v r=>by rw[ο (λz=>by subst z;rw[r]at g;show g)];show r
   obtain rfl|hc:=hc
   .show a
   .rintro rfl
    obtain z|z:=n
    .show f c b hc z
    .rw[hc]at z;cases z;show j rfl
end
structure Un(fs ex:List δ)(H H':Hp)(h h':ϫ):Prop where
 keep:∀b o,h.get? b=some o->H b=none->b∉fs->b∉ex->h'.get? b=some o
 slot:∀b o,h.get? b=some o->H b=none->b∈fs->b∉ex->∃sl,h'.get? b=some {o with slots:=sl}
 free:∀b o,h.get? b=some o->H b=none->b∉ex->H' b=none
 there:∀b o,h.get? b=some o->b∉ex->∃o',h'.get? b=some o'
 tups:∀b xs,H b=some (.tup xs)->H' b=some (.tup xs)
 frzs:∀b o u,H b=some (.frz o u)->H' b=some (.frz o u)
 tbls:∀b ps,H b=some (.tbl ps)->∃more,H' b=some (.tbl (ps++more))
section
variable{fs fs' ex ex':List δ}{H H1 H2:Hp}{h h1 h2 h':ϫ}{a x e:δ}{o:HO}
theorem Un.any(u:Un fs ex H H1 h h1){b:δ}{a:Obj}(q:h.get? b=some a)(n:H b=none)(c:b∉ex):∃sl,h1.get? b=some {a with slots:=sl}:=by
 by_cases e:b∈fs
 .show u.slot b a q n e c
 .show#[a.slots,u.keep b a q n e c]
theorem Un.kept(k:∀b u,h.get? b=some u->h'.get? b=some u):Un fs ex H H h h':=
 #[λb a q _ _ _=>k b a q,λb a q _ _ _=>#[a.slots,k b a q],λ_ _ _ n _=>n,λb a q _=>#[a,k b a q],λ_ _ q=>q,λ_ _ _ q=>q,λ_ ps q=>#[#v[],by rw[q];simp]]
theorem Un.refl:Un fs ex H H h h:=Un.kept λ_ _ q=>q
theorem Un.laid(k:∀b u,h.get? b=some u->h'.get? b=some u)(e:h.objs.size<=a)(c:H a=none):Un fs ex H (upd H a o) h h' where
 keep:=λb u q _ _ _=>k b u q
 slot:=λb u q _ _ _=>#[u.slots,k b u q]
 free:=λb u q n _=>by rw[ο (ab7 (abX (abV q) e))];show n
 there:=λb u q _=>#[u,k b u q]
 tups:=λb xs q=>by rw[ο (Ψ q c)];show q
 frzs:=λb u xs q=>by rw[ο (Ψ q c)];show q
 tbls:=λb ps q=>#[#v[],by rw[ο (Ψ q c),q];simp]
theorem Un.write(c:uA (H x))(l:e=x\/H e=some (.own x))(k:∀b u,b≠e->h.get? b=some u->h'.get? b=some u)(f:∃u,h'.get? e=some u):Un fs ex H (upd H x o) h h':=by
 let i:∀b,H b=none->b≠x:=λb n z=>by subst z;rw[n]at c;show c
 let j:∀b,H b=none->b≠e:=λb n z=>by
  subst z;obtain r|r:=l
  .show i b n r
  .rw[n]at r;cases r
 let g:∀b u,H b=some u->¬uA (some u)->b≠x:=λb u q nm z=>by subst z;rw[q]at c;show nm c
 show#[λb u q n _ _=>k b u (j b n) q,λb u q n _ _=>#[u.slots,k b u (j b n) q],λb u q n _=>by rw[ο (i b n)];show n,λb u q _=>?_,
  λb xs q=>by rw[ο (g b _ q λz=>z)];show q,λb u xs q=>by rw[ο (g b _ q λz=>z)];show q,λb ps q=>#[#v[],by rw[ο (g b _ q λz=>z),q];simp]]
 by_cases a:b=e
 .subst a;show f
 .show#[u,k b u a q]
end
def jo(h:ϫ)(H:Hp):List δ:=(aeJ h.objs.size).filter λa=>(H a).isSome
def iC(h:ϫ)(H:Hp):ϫ:=W.hideAll h (jo h H)
theorem ajA(h:ϫ)(H:Hp):(iC h H).objs.size=h.objs.size:=W.hideAll_size _ _
theorem ZF{h:ϫ}{H:Hp}{b:δ}{o:Obj}(e:h.get? b=some o)(n:H b=none):(iC h H).get? b=some o:=
 W.hideAll_get _ e λa=>by
  let q:(H b).isSome=true:=(ajV.mp a).2;rw[n]at q;simp at q
theorem abl{h:ϫ}{H:Hp}{b:δ}{o:Obj}(e:(iC h H).get? b=some o):h.get? b=some o/\H b=none:=by
 let a:h.get? b=some o:=W.of_hideAll (jo h H) e;show#[a,?_];cases q:H b with
 |none=>rfl
 |some x=>
  let c:b∈jo h H:=ajV.mpr #[aoB.mpr (abV a),by simp[q]];let z:(iC h H).get? b=none:=W.hideAll_none (jo h H) c;rw[z]at e;cases e
def agK(g h:ϫ)(L:δ):List (δ×Obj):=(aeJ h.objs.size).filterMap λa=>if a=L\/(g.get? a).isSome=true then none else(h.get? a).map λo=>(a,o)
def rest(g h:ϫ)(L d:δ):List (δ×Obj):=(agK g h L).filter λp=>decide (p.1≠d)
structure Mod(K:ϩ)(mg:Str->Option ε)(base:ϫ):Prop where
 kin:K.In base
 glob:base.Ns mainGlobals mg
 blt:∃mb,base.Ns builtinsNs mb/\∀x:Str,x≠"__name__"->mb x=bootBuiltins x
 nolimit:base.NoLimit
structure Cx where
 prog:ϯ
 w:ϭ
 K:ϩ
 mg:Str->Option ε
 base:ϫ
 A:ϳ
 N:List Str
 s₀:μ
 H₀:Hp
 env:Env
 outer:List Env
 stack:List Env
 ex:List δ
 fn:Str->Bool
 calm:Bool
 pn:List (δ×Obj)
 xe:ε->μ->Prop
def cM(l:List Env):List δ:=l.filterMap (·.frame)
abbrev Cx.fs(X:Cx):List δ:=cM X.outer
def pK(sc:ah9)(x:Str):Prop:=sc.names.lookup x=some .local\/sc.names.lookup x=some .cell\/sc.names.lookup x=some .free
def Loc(sc:ah9)(x:Str):Prop:=sc.names.lookup x=some .local\/sc.names.lookup x=some .cell
def Look(env:Env)(h:ϫ)(m:Str->Option ε)(x:Str)(u:ε):Prop:=
 (env.kindOf x=some .local/\m x=some u)\/((env.kindOf x=some .cell\/env.kindOf x=some .free)/\∃c,env.cells.lookup x=some c/\h.IsCell c (some u))
structure Cx.Ok(X:Cx):Prop where
 mod:Mod X.K X.mg X.base
 kind:X.env.scope.kind=.function
 glob:X.env.globals=mainGlobals
 blt:X.env.builtins=builtinsNs
 above:X.s₀.heap.objs.size<=X.env.locals
 inj:∀x y c,X.env.cells.lookup x=some c->X.env.cells.lookup y=some c->x=y
 has:∀x,(X.env.kindOf x=some .cell\/X.env.kindOf x=some .free)->∃c,X.env.cells.lookup x=some c
 cab:∀x c,X.fn x=true->X.env.cells.lookup x=some c->X.s₀.heap.objs.size<=c
 hd:X.calm=true->X.A.handled=none
 frames:X.A.frames=some X.stack
 stk:X.stack=X.outer\/(X.stack=X.env::X.outer/\X.env.frame=some X.env.locals)
 exf:∀b∈X.ex,b≠X.env.locals/\∀x c,X.env.cells.lookup x=some c->c≠b
 bs:∀b o,X.base.get? b=some o->X.s₀.heap.get? b=some o/\X.H₀ b=none
 bsz:X.base.objs.size<=X.s₀.heap.objs.size
 noex:∀b o,X.base.get? b=some o->b∉X.ex
 exfs:∀b∈X.ex,b∉X.fs
 funs:X.s₀.heap.FunFrames X.base X.outer
 frf:∀b∈X.fs,X.H₀ b=none
structure Inv(X:Cx)(ϵ:List (δ×Obj))(σ:List (Option V))(H:Hp)(s:μ):Prop where
 ok:X.Ok
 os:s.os=X.s₀.os
 bare:AllBare s.gens
 base:Un X.fs X.ex X.H₀ H X.s₀.heap s.heap
 loc:∃m,s.heap.Ns X.env.locals m/\∀(i:Nat)(x:Str)(v:V),X.N[i]?=some x->σ[i]?=some (some v)->pK X.env.scope x->∃u,RelV v u/\Look X.env s.heap m x u
 cell:∀x c,X.env.cells.lookup x=some c->∃v,s.heap.IsCell c v
 free:H X.env.locals=none
 freeC:∀x c,X.env.cells.lookup x=some c->H c=none
 pin:∀p∈X.pn++ϵ,s.heap.get? p.1=some p.2/\H p.1=none/\p.1≠X.env.locals/\p.1∉X.fs/\∀v,p.2.data≠.cell v
 hok:Ϡ X.prog X.w H s.heap
 len:σ.length=X.N.length
section
variable{X:Cx}{ϵ:List (δ×Obj)}{σ:List (Option V)}{H H':Hp}{s:μ}{h':ϫ}
theorem Cx.Ok.nofr(ok:X.Ok){b:δ}{o:Obj}(e:X.base.get? b=some o):b∉X.fs:=λa=>by
 have:=(ok.funs.mem a).1;rw[e]at this;cases this
theorem Inv.bs(I:Inv X ϵ σ H s):∀b o,X.base.get? b=some o->s.heap.get? b=some o/\H b=none:=λb o e=>
 #[I.base.keep b o (I.ok.bs b o e).1 (I.ok.bs b o e).2 (I.ok.nofr e) (I.ok.noex b o e),I.base.free b o (I.ok.bs b o e).1 (I.ok.bs b o e).2 (I.ok.noex b o e)]
theorem Inv.bk(I:Inv X ϵ σ H s):∀b o,X.base.get? b=some o->s.heap.get? b=some o:=λb o e=>(I.bs b o e).1
theorem Inv.mod(I:Inv X ϵ σ H s):Mod X.K X.mg X.base:=I.ok.mod
theorem Inv.kIn(I:Inv X ϵ σ H s):X.K.In s.heap:=I.ok.mod.kin.keeps I.bk
theorem Inv.nolimit(I:Inv X ϵ σ H s):s.heap.NoLimit:=I.ok.mod.nolimit.keeps I.bk
theorem Inv.lt(I:Inv X ϵ σ H s):X.env.locals<s.heap.objs.size:=let⟨_,hn,_⟩:=I.loc;hn.lt
theorem Inv.sz(I:Inv X ϵ σ H s):X.s₀.heap.objs.size<=s.heap.objs.size:=aes I.ok.above (aod I.lt)
theorem Inv.nofs(I:Inv X ϵ σ H s){a:δ}(h:s.heap.objs.size<=a):a∉X.fs:=λc=>by
 let#[_,o,e,_]:=I.ok.funs.mem c;show absurd (abX (abV e) (aes I.sz h)) (ajM _)
theorem Inv.cne(I:Inv X ϵ σ H s):∀x c,X.env.cells.lookup x=some c->c≠X.env.locals:=λx c e z=>by
 let#[v,o,g,hd]:=I.cell x c e;let#[m,#[o',es,ep,a,f,_],_]:=I.loc;rw[z,a]at g;cases g;rw[f]at hd;cases hd
theorem Inv.funs(I:Inv X ϵ σ H s):s.heap.FunFrames X.base X.outer:=by
 let all:∀(l:List Env),(∀b∈cM l,b∈X.fs)->X.s₀.heap.FunFrames X.base l->s.heap.FunFrames X.base l:=by
  intro l;induction l with
  |nil=>intro _ _;trivial
  |cons env r g=>
   intro hs i;let#[j,#[L,o,a,m,n,hd],p]:=i;let c:L∈X.fs:=hs L (by unfold cM;rw[aon,a];show adV);let#[sl,e]:=I.base.slot L o n (I.ok.frf L c) c λz=>I.ok.exfs L z c
   show#[j,#[L,_,a,m,e,hd],g (λb f=>hs b (by unfold cM;rw[aon,a];show acY _ f)) p]
 show all X.outer (λ_ f=>f) I.ok.funs
theorem Inv.stack(I:Inv X ϵ σ H s):s.heap.FunFrames X.base X.stack:=by
 obtain e|⟨e,a⟩:=I.ok.stk
 .rw[e];show I.funs
 .rw[e];let#[m,c,_]:=I.loc;show .cons (by rw[I.ok.kind];decide) a c ?_ I.funs;show aj1 (aes I.ok.bsz I.ok.above)
theorem Inv.stkSub(I:Inv X ϵ σ H s):∀b∈cM X.stack,b∈X.env.locals::X.fs:=λb a=>by
 obtain e|⟨e,c⟩:=I.ok.stk
 .rw[e]at a;show acY _ a
 .rw[e]at a;unfold cM at a;rw[aon,c]at a;show a
theorem Inv.stkFree(I:Inv X ϵ σ H s):∀b∈cM X.stack,H b=none:=λb hb=>by
 rcases aaG.mp (I.stkSub b hb)with e|hb
 .rw[e];show I.free
 .let#[_,o,a,_]:=I.ok.funs.mem hb;show I.base.free b o a (I.ok.frf b hb) λz=>I.ok.exfs b z hb
theorem Inv.step{g':Array GenState}{t':Nat}{d':Drawn}{ch:List δ}(I:Inv X ϵ σ H s)(f:∀b∈ch,(b∈X.ex\/X.s₀.heap.get? b=none)/\b≠X.env.locals/\(∀x c,X.env.cells.lookup x=some c->c≠b)/\∀p∈X.pn++ϵ,p.1≠b)(keep:∀b o,b≠X.env.locals->b∉X.fs->b∉ch->s.heap.get? b=some o->H b=none->h'.get? b=some o)(slot:∀b o,b≠X.env.locals->b∈X.fs->b∉ch->s.heap.get? b=some o->H b=none->∃sl,h'.get? b=some {o with slots:=sl})(free:∀b o,b∉ch->s.heap.get? b=some o->H b=none->H' b=none)(there:∀b o,b∉ch->s.heap.get? b=some o->∃o',h'.get? b=some o')(tups:∀b xs,H b=some (.tup xs)->H' b=some (.tup xs))(frzs:∀b o u,H b=some (.frz o u)->H' b=some (.frz o u))(tbls:∀b ps,H b=some (.tbl ps)->∃D,H' b=some (.tbl (ps++D)))(ns:∀m,s.heap.Ns X.env.locals m->h'.Ns X.env.locals m)(hok:Ϡ X.prog X.w H' h')(O:AllBare g'):Inv X ϵ σ H' {s with heap:=h',gens:=g',drawn:=d',toks:=t'}:=by
 let E:∀b o,X.s₀.heap.get? b=some o->b≠X.env.locals:=λb o e=>ab7 (abX (abV e) I.ok.above)
 let y:∀b o,X.s₀.heap.get? b=some o->b∉X.ex->b∉ch:=λb o e a B=>by
  rcases(f b B).1 with z|z
  .show a z
  .rw[e]at z;cases z
 let g:∀x c,X.env.cells.lookup x=some c->∀v,s.heap.IsCell c v->h'.IsCell c v:=λx c e v ⟨o,C,hd⟩=>by
  let j:c∉ch:=λz=>(f c z).2.2.1 x c e rfl
  by_cases J:c∈X.fs
  .let#[sl,q]:=slot c o (I.cne x c e) J j C (I.freeC x c e);show#[_,q,hd]
  .show#[o,keep c o (I.cne x c e) J j C (I.freeC x c e),hd]
 show#[I.ok,I.os,O,#[λb o e n B a=>?_,λb o e n B a=>?_,λb o e n a=>?_,λb o e a=>?_,λb xs e=>tups b xs (I.base.tups b xs e),λb o xs e=>frzs b o xs (I.base.frzs b o xs e),λb ps e=>?_],?_,λx c e=>?_,?_,λx c e=>?_,λp L=>?_,hok,I.len]
 .show keep b o (E b o e) B (y b o e a) (I.base.keep b o e n B a) (I.base.free b o e n a)
 .let#[sl,e1]:=I.base.slot b o e n B a;let#[G,F]:=slot b _ (E b o e) B (y b o e a) e1 (I.base.free b o e n a);show#[G,F]
 .let#[o',e1]:=I.base.there b o e a;show free b o' (y b o e a) e1 (I.base.free b o e n a)
 .let#[o',e1]:=I.base.there b o e a;show there b o' (y b o e a) e1
 .let#[P,e1]:=I.base.tbls b ps e;let#[Q,F]:=tbls b _ e1;show#[P++Q,by rw[F,Array.append_assoc]]
 .let#[m,R,S]:=I.loc;show#[m,ns m R,λi x v e1 F T=>?_];let#[u,r,l]:=S i x v e1 F T;show#[u,r,?_];obtain l|⟨k,c,e,z⟩:=l
  .show .inl l
  .show .inr #[k,c,e,g x c e _ z]
 .let#[v,z]:=I.cell x c e;show#[v,g x c e v z]
 .let#[m,#[o,_,_,C,_],_]:=I.loc;show free _ o (λz=>(f _ z).2.1 rfl) C I.free
 .let#[v,o,C,hd]:=I.cell x c e;show free c o (λz=>(f c z).2.2.1 x c e rfl) C (I.freeC x c e)
 .let#[e,n,ne,M,d]:=I.pin p L;let j:p.1∉ch:=λz=>(f p.1 z).2.2.2 p L rfl
  show#[keep p.1 p.2 ne M j e n,free p.1 p.2 j e n,ne,M,d]
theorem Inv.un{t':Nat}(I:Inv X ϵ σ H s)(u:Un X.fs [] H H' s.heap h')(hok:Ϡ X.prog X.w H' h'):Inv X ϵ σ H' {s with heap:=h',toks:=t'}:=by
 let#[m,#[o,es,ep,i,r],_]:=id I.loc;let#[sl,j]:=u.any i I.free (by simp);show I.step (g':=s.gens) (d':=s.drawn) (ch:=[]) (λ_ z=>nomatch z) (λb o _ c _ e n=>u.keep b o e n c (by simp)) (λb o _ c _ e n=>u.slot b o e n c (by simp)) (λb o _ e n=>u.free b o e n (by simp)) (λb o _ e=>u.there b o e (by simp)) u.tups u.frzs u.tbls (λm' l=>by
  let#[o',f,g,a,p]:=l;rw[i]at a;cases a;show#[_,f,g,j,p]) hok I.bare
theorem Inv.call{g':Array GenState}{t':Nat}{d':Drawn}{ch:List δ}(I:Inv X ϵ σ H s)(u:Un (cM X.stack) ch H H' s.heap h')(hok:Ϡ X.prog X.w H' h')(v:AllBare g')(f:∀b∈ch,(b∈X.ex\/X.s₀.heap.get? b=none)/\b≠X.env.locals/\(∀x c,X.env.cells.lookup x=some c->c≠b)/\∀p∈X.pn++ϵ,p.1≠b):Inv X ϵ σ H' {s with heap:=h',gens:=g',drawn:=d',toks:=t'}:=by
 let#[m,#[o,es,ep,q,r],_]:=id I.loc;let#[sl,i]:=u.any q I.free λz=>(f _ z).2.1 rfl
 show I.step (ch:=ch) f (λb o i y a e n=>u.keep b o e n (λz=>(aaG.mp (I.stkSub b z)).elim i y) a) (λb o _ _ a e n=>u.any e n a) (λb o a e n=>u.free b o e n a) (λb o a e=>u.there b o e a) u.tups u.frzs u.tbls (λm' B=>by
  let#[o',j,l,g,C]:=B;rw[q]at g;cases g;show#[_,j,l,i,C]) hok v
theorem Inv.turned{t':Nat}{it:δ}(I:Inv X ϵ σ H s)(k:∀b o,b≠it->s.heap.get? b=some o->h'.get? b=some o)(i:H it=none)(g:it≠X.env.locals)(h1:it∈X.ex\/X.s₀.heap.get? it=none)(h2:∀x c,X.env.cells.lookup x=some c->c≠it)(j:∀p∈X.pn++ϵ,p.1≠it):Inv X ϵ σ H {s with heap:=h',toks:=t'}:=by
 let f:∀b u,H b=some u->b≠it:=λb u e z=>by rw[z,i]at e;cases e
 show I.step (g':=s.gens) (d':=s.drawn) (ch:=[it]) (λb l=>?_) (λb o _ _ a e _=>k b o (λz=>a (by simp[z])) e) (λb o _ _ a e _=>#[o.slots,k b o (λz=>a (by simp[z])) e]) (λ_ _ _ _ n=>n)
  (λb o a e=>#[o,k b o (λz=>a (by simp[z])) e]) (λ_ _ e=>e) (λ_ _ _ e=>e) (λb ps e=>#[#v[],by rw[e];simp]) (λm y=>?_) (λb u e=>?_) I.bare
 .let e:b=it:=by simpa using l
  subst e;show#[h1,g,h2,j]
 .let#[o,es,ep,B,r]:=y;show#[o,es,ep,k _ o (Ne.symm g) B,r]
 .show(I.hok b u e).stay (λc v a q=>k c v ?_ q) (λ_ q=>q) λ_ _ q=>q
  obtain z|z:=a
  .rw[z];show f b u e
  .show f c _ z
theorem Inv.tok(I:Inv X ϵ σ H s)(t:Nat):Inv X ϵ σ H {s with toks:=t}:=I.un (h':=s.heap) (t':=t) Un.refl I.hok
theorem Inv.kept{t':Nat}(I:Inv X ϵ σ H s)(k:∀b u,s.heap.get? b=some u->h'.get? b=some u):Inv X ϵ σ H {s with heap:=h',toks:=t'}:=I.un (Un.kept k) (I.hok.kept k)
theorem Inv.laid{a:δ}{o:HO}{t':Nat}(I:Inv X ϵ σ H s)(k:∀b u,s.heap.get? b=some u->h'.get? b=some u)(c:s.heap.objs.size<=a)(e:ϔ X.prog X.w (upd H a o) h' a o):Inv X ϵ σ (upd H a o) {s with heap:=h',toks:=t'}:=I.un (Un.laid k c (I.hok.fresh c)) (I.hok.laid k c e)
theorem Inv.write{x e:δ}{o:HO}{t':Nat}(I:Inv X ϵ σ H s)(f:uA (H x))(g:e=x\/H e=some (.own x))(k:∀b u,b≠e->s.heap.get? b=some u->h'.get? b=some u)(a:∃u,h'.get? e=some u)(c:ϔ X.prog X.w (upd H x o) h' x o):Inv X ϵ σ (upd H x o) {s with heap:=h',toks:=t'}:=I.un (Un.write f g k a) (I.hok.write f g k a c)
theorem Inv.weak{σ':List (Option V)}(I:Inv X ϵ σ H s)(a:σ'.length=σ.length)(w:∀(i:Nat) v,σ'[i]?=some (some v)->σ[i]?=some (some v)):Inv X ϵ σ' H s:=
 #[I.ok,I.os,I.bare,I.base,let⟨m,hn,hl'⟩:=I.loc;#[m,hn,λi x v e1 c e=>hl' i x v e1 (w i v c) e],I.cell,I.free,I.freeC,I.pin,I.hok,a.trans I.len]
theorem Inv.pins_of{pins':List (δ×Obj)}(I:Inv X ϵ σ H s)(h:∀p∈pins',s.heap.get? p.1=some p.2/\H p.1=none/\p.1≠X.env.locals/\p.1∉X.fs/\∀v,p.2.data≠.cell v):Inv X pins' σ H s:=
 #[I.ok,I.os,I.bare,I.base,I.loc,I.cell,I.free,I.freeC,λp a=>(afH.mp a).elim (λz=>I.pin p (aj9 _ z)) (h p),I.hok,I.len]
theorem HX{N:List Str}(c:N.Nodup){i j:Nat}{x:Str}(a:N[i]?=some x)(b:N[j]?=some x):i=j:=by
 let#[h1,e1]:=aap.mp a;let#[h2,e]:=aap.mp b;show(apD c).mp (e1.trans e.symm)
theorem oA{M:Model}{A:ϳ}{E:ε->μ->Prop}{i:Nat}{x:Str}{v:V}{u:ε}{Q:Unit->μ->Prop}(I:Inv X ϵ σ H s)(hN:X.N.Nodup)(hi:X.N[i]?=some x)(g:Loc X.env.scope x)(r:RelV v u)(h:∀s',Inv X ϵ (σ.set i (some v)) H s'->(∃a,ak6 a s.heap s'.heap/\(a=X.env.locals\/X.env.cells.lookup x=some a))->Q PUnit.unit s')(hf:X.fn x=true\/X.env.scope.names.lookup x=some .local:=by first|show .inl rfl|show .inr rfl|assumption):π M A (storeName X.env x u) Q E s:=by
 let#[m,U,hl]:=id I.loc;let J:(X.env.scope.kind==.class||(X.env.scope.kind==.module&&X.env.locals !=X.env.globals))=false:=by rw[I.ok.kind];rfl
 let C:i<σ.length:=by rw[I.len];show(aap.mp hi).1
 let cne:=I.cne;let f:∀{a:δ}{h':ϫ},(∃o,s.heap.get? a=some o/\H a=none)->ak6 a s.heap h'->Ϡ X.prog X.w H h':=λ{a h'} ha hs b ob e=>by
  let#[_,_,l]:=ha;show(I.hok b ob e).stay (λc S hc q=>(hs.2 c ?_).trans q) (λ_ q=>q) λ_ _ q=>q
  rintro rfl
  obtain rfl|hc:=hc
  .rw[l]at e;cases e
  .rw[l]at hc;cases hc
 obtain hk|hk:=g
 .show wpAny_storeName_local hk U (λh' W hs=>?_) J;let#[oL,_,_,Y,_]:=id U;show h _ #[I.ok,I.os,I.bare,#[λb o e n D g=>?_,λb o e n D g=>?_,I.base.free,λb o e g=>?_,I.base.tups,I.base.frzs,I.base.tbls],#[_,W,λj y Z e1 B e3=>?_],λy c e=>?_,I.free,I.freeC,λp hp=>?_,f #[oL,Y,I.free] hs,by simpa using I.len] #[_,hs,.inl rfl]
  .show(hs.2 b (ab7 (abX (abV e) I.ok.above))).trans (I.base.keep b o e n D g)
  .let#[sl,e1]:=I.base.slot b o e n D g;show#[sl,(hs.2 b (ab7 (abX (abV e) I.ok.above))).trans e1]
  .let#[o',e1]:=I.base.there b o e g;show#[o',(hs.2 b (ab7 (abX (abV e) I.ok.above))).trans e1]
  .by_cases F:j=i
   .subst F;rw[hi]at e1;cases e1;rw[amA C]at B;cases B;show#[u,r,.inl #[hk,by simp]]
   .rw[aok (Ne.symm F)]at B;let#[u',r',q]:=hl j y Z e1 B e3;show#[u',r',?_];obtain⟨k,e⟩|⟨k,c,e,z⟩:=q
    .show .inl #[k,?_];have:y≠x:=λe=>F (HX hN e1 (e▸hi))
     simp[this,e]
    .show .inr #[k,c,e,z.sameBut hs (cne y c e)]
  .let#[S,z]:=I.cell y c e;show#[S,z.sameBut hs (cne y c e)]
  .let#[e,n,ne,nf,d]:=I.pin p hp;show#[(hs.2 p.1 ne).trans e,n,ne,nf,d]
 .let G:X.fn x=true:=by
   obtain z|z:=hf
   .show z
   .rw[z]at hk;cases hk
  let#[c,hc]:=I.ok.has x (.inl hk);let#[S,z]:=I.cell x c hc;show wpAny_storeName_cell I.ok.kind hk hc z (λh' L hs=>?_);let#[oc,O,P]:=id z;show h {s with heap:=h'} #[I.ok,I.os,I.bare,#[λb o e n D g=>?_,λb o e n D g=>?_,I.base.free,λb o e g=>?_,I.base.tups,I.base.frzs,I.base.tbls],#[m,U.sameBut hs (Ne.symm (cne x c hc)),λj y Z e1 B e3=>?_],λy T e=>?_,I.free,I.freeC,λp hp=>?_,f #[oc,O,I.freeC x c hc] hs,by simpa using I.len] #[c,hs,.inr hc]
  .show(hs.2 b (ab7 (abX (abV e) (I.ok.cab x c G hc)))).trans (I.base.keep b o e n D g)
  .let#[sl,e1]:=I.base.slot b o e n D g;show#[sl,(hs.2 b (ab7 (abX (abV e) (I.ok.cab x c G hc)))).trans e1]
  .let#[o',e1]:=I.base.there b o e g;show#[o',(hs.2 b (ab7 (abX (abV e) (I.ok.cab x c G hc)))).trans e1]
  .by_cases F:j=i
   .subst F;rw[hi]at e1;cases e1;rw[amA C]at B;cases B;show#[u,r,.inr #[.inl hk,c,hc,L]]
   .rw[aok (Ne.symm F)]at B;let#[u',r',q]:=hl j y Z e1 B e3;show#[u',r',?_];obtain q|⟨k,T,e,z'⟩:=q
    .show .inl q
    .show .inr #[k,T,e,z'.sameBut hs ?_]
     rintro rfl
     show F (HX hN e1 (I.ok.inj _ _ _ e hc▸hi))
  .by_cases R:T=c
   .subst R;show#[_,L]
   .let#[w2,z2]:=I.cell y T e;show#[w2,z2.sameBut hs R]
  .let#[e,n,ne,nf,d]:=I.pin p hp;show#[(hs.2 p.1 ?_).trans e,n,ne,nf,d];intro q;rw[q,O]at e;let q':oc=p.2:=Option.some.inj e;show d S (by rw[<-q'];show P)
theorem R1{M:Model}{A:ϳ}{E:ε->μ->Prop}{i:Nat}{x:Str}{v:V}{u:ε}{Q:Unit->μ->Prop}(I:Inv X ϵ σ H s)(a:X.N.Nodup)(hi:X.N[i]?=some x)(c:Loc X.env.scope x)(r:RelV v u)(h:∀s',Inv X ϵ (σ.set i (some v)) H s'->Q PUnit.unit s')(e:X.fn x=true\/X.env.scope.names.lookup x=some .local:=by first|show .inl rfl|show .inr rfl|assumption):π M A (storeName X.env x u) Q E s:=
 oA I a hi c r (λs' f _=>h s' f) e
theorem Inv.call'{s':μ}{ch:List δ}(I:Inv X ϵ σ H s)(f:s'.os=s.os)(u:Un (cM X.stack) ch H H' s.heap s'.heap)(hok:Ϡ X.prog X.w H' s'.heap)(g:AllBare s'.gens)(a:∀b∈ch,(b∈X.ex\/X.s₀.heap.get? b=none)/\b≠X.env.locals/\(∀x c,X.env.cells.lookup x=some c->c≠b)/\∀p∈X.pn++ϵ,p.1≠b):Inv X ϵ σ H' s':=by
 let#[h',g',d',t',o']:=s';let e:o'=s.os:=f;subst e;show I.call (g':=g') (t':=t') (d':=d') u hok g a
end
abbrev XK:=ε->Option δ×Bool->Hp->Prop
abbrev St:=List (Option V)
abbrev VK:=V->Hp->Prop
abbrev TE:=St->Hp->VK->Prop
abbrev TT:=St->Hp->(Bool->Hp->Prop)->Prop
abbrev TA:=St->Hp->(List V->Hp->Prop)->Prop
structure Ends where
 nx:St->Hp->Prop
 rt:VK
 bk:St->Hp->Prop:=λ_ _=>False
 ct:St->Hp->Prop:=λ_ _=>False
abbrev TS:=Ends->St->Hp->Prop
def EP(X:Cx)(ϵ:List (δ×Obj))(σ:St)(Q:VK)(u:ε)(s':μ):=∃v H',Inv X ϵ σ H' s'/\RelV v u/\Q v H'
def TP(X:Cx)(ϵ:List (δ×Obj))(σ:St)(Q:Bool->Hp->Prop)(b:Bool)(s':μ):=∃H',Inv X ϵ σ H' s'/\Q b H'
def AP(X:Cx)(ϵ:List (δ×Obj))(σ:St)(Q:List V->Hp->Prop)(us:List ε)(s':μ):=∃vs H',Inv X ϵ σ H' s'/\Vals vs us/\Q vs H'
def SP(X:Cx)(ϵ:List (δ×Obj))(D:Ends)(f:Flow)(s':μ):Prop:=
 match f with
 |.next=>∃σ' H',Inv X ϵ σ' H' s'/\D.nx σ' H'
 |.brk=>∃σ' H',Inv X ϵ σ' H' s'/\D.bk σ' H'
 |.cont=>∃σ' H',Inv X ϵ σ' H' s'/\D.ct σ' H'
 |.ret u=>∃v σ' H',Inv X ϵ σ' H' s'/\RelV v u/\D.rt v H'
def PE(X:Cx)(e:ϧ)(t:TE):Prop:=
 ∀(ϵ:List (δ×Obj))(s:μ)(σ:St)(H:Hp)(Q:VK),Inv X ϵ σ H s->t σ H Q->π (Ϧ X.prog X.w) X.A (eval e X.env) (EP X ϵ σ Q) X.xe s
def PT(X:Cx)(e:ϧ)(t:TT):Prop:=
 ∀(ϵ:List (δ×Obj))(s:μ)(σ:St)(H:Hp)(Q:Bool->Hp->Prop),Inv X ϵ σ H s->t σ H Q->π (Ϧ X.prog X.w) X.A (isTrue e X.env (eval e X.env)) (TP X ϵ σ Q) X.xe s
def PW(X:Cx)(e:ϧ)(t:TT):Prop:=
 ∀(a:Sem ε)(ϵ:List (δ×Obj))(s:μ)(σ:St)(H:Hp)(Q:Bool->Hp->Prop),Inv X ϵ σ H s->t σ H Q->π (Ϧ X.prog X.w) X.A (isTrue e X.env a) (TP X ϵ σ Q) X.xe s
theorem PW.pt{X:Cx}{e:ϧ}{t:TT}(h:PW X e t):PT X e t:=h _
def PS(X:Cx)(st:Ϩ)(t:TS):Prop:=
 ∀(ϵ:List (δ×Obj))(s:μ)(σ:St)(H:Hp)(D:Ends),Inv X ϵ σ H s->t D σ H->π (Ϧ X.prog X.w) X.A (exec st X.env) (SP X ϵ D) X.xe s
def zx(X:Cx)(st:List Ϩ)(t:TS):Prop:=
 ∀(ϵ:List (δ×Obj))(s:μ)(σ:St)(H:Hp)(D:Ends),Inv X ϵ σ H s->t D σ H->π (Ϧ X.prog X.w) X.A (execs st X.env) (SP X ϵ D) X.xe s
theorem χ{α:Type}{t:Sem α}{Q c:α->μ->Prop}{M:Model}{A:ϳ}{E:ε->μ->Prop}{s:μ}(h:π M A t Q E s)(e:∀a s,Q a s->c a s):π M A t c E s:=adk h e λ_ _ x=>x
section
variable{X:Cx}
def aeP(i:Nat):TE:=λσ H Q=>∃v,σ[i]?=some (some v)/\Q v H
def tC(v:V):TE:=λ_ H Q=>Q v H
theorem acU{i:Nat}{x:Str}{pos:Pos}(j:X.N[i]?=some x)(n:pK X.env.scope x)(hd:(x==("__debug__":Str))=false:=by decide)(f:(x==("__classdict__":Str))=false:=by decide):PE X (.Name x pos) (aeP i):=by
 intro ϵ s σ H Q I h;let#[v,e,h]:=h;let#[m,o,p]:=I.loc;let#[u,r,l]:=p i x v j e n;let fin:EP X ϵ σ Q u s:=#[v,H,I,r,h];obtain⟨hk,q⟩|⟨hk,c,g,a⟩:=l
 .show wpAny_Name (wpAny_loadName_local I.ok.kind hk o q fin) hd
 .obtain hk|hk:=hk
  .show wpAny_Name (wpAny_loadName_cell I.ok.kind hk g a fin) hd
  .show wpAny_Name (wpAny_loadName_free I.ok.kind hk g a fin f) hd
def Gl(X:Cx)(x:Str):Prop:=X.env.kindOf x=some .globalImplicit
theorem nO{E:ε->μ->Prop}{ϵ:List (δ×Obj)}{s:μ}{σ:St}{H:Hp}{x:Str}{u:ε}{pos:Pos}{Q:ε->μ->Prop}(I:Inv X ϵ σ H s)(a:Gl X x)(c:X.mg x=some u)(h:Q u s)(hd:(x==("__debug__":Str))=false:=by decide):π (Ϧ X.prog X.w) X.A (eval (.Name x pos) X.env) Q E s:=
 Calls.Name_function_global I.ok.kind a (Calls.loadGlobal_global (by rw[I.ok.glob];show I.mod.glob.keeps I.bk) c h) hd
theorem il{E:ε->μ->Prop}{ϵ:List (δ×Obj)}{s:μ}{σ:St}{H:Hp}{x:Str}{u:ε}{pos:Pos}{Q:ε->μ->Prop}(I:Inv X ϵ σ H s)(a:Gl X x)(c:X.mg x=none)(e:bootBuiltins x=some u)(h:Q u s)(f:x≠"__name__":=by decide)(hd:(x==("__debug__":Str))=false:=by decide):π (Ϧ X.prog X.w) X.A (eval (.Name x pos) X.env) Q E s:=by
 let#[mb,h1,h2]:=I.mod.blt;show Calls.Name_function_global I.ok.kind a (Calls.loadGlobal_builtin (by rw[I.ok.glob];show I.mod.glob.keeps I.bk) c (by rw[I.ok.blt];show h1.keeps I.bk) ((h2 x f).trans e) h) hd
theorem RW{x:Str}{v:V}{u:ε}{pos:Pos}(a:Gl X x)(c:X.mg x=some u)(r:RelV v u)(hd:(x==("__debug__":Str))=false:=by decide):PE X (.Name x pos) (tC v):=
 λ_ _ _ H _ I h=>nO I a c #[v,H,I,r,h] hd
variable{a b:ϧ}{ta tb:TE}{pos:Pos}
variable{tA tB':TT}{rest:List ϧ}
end
def η(K:ϩ)(H:Hp)(a:δ)(xs:List V):Prop:=
 Rd H a (.lst xs)\/
  ∃(o:Obj)(c:Array ε)(n:Nat),K.lookup a=some o/\o.cls=.type "list"/\o.dict=none/\o.data=.seq c n/\c.size<=ϰ/\Vals xs c.toList
def ρ(K:ϩ)(H:Hp)(a:δ)(xs:List V):Prop:=
 Rd H a (.tup xs)\/
  ∃(o:Obj)(c:Array ε)(n:Nat),K.lookup a=some o/\o.cls=.type "tuple"/\o.data=.seq c n/\c.size<=ϰ/\Vals xs c.toList
def ab8:ε->Option V
 |.none=>some .non
 |.bool b=>some (.bl b)
 |.int i _=>some (.int i)
 |.str x _=>some (.str x)
 |.bytes b _=>some (.byt b)
 |.float b _=>some (.flt b)
 |.ref a=>some (.ref a)
 |.type n=>some (.ty n)
 |_=>none
theorem RelV.abs{x:V}{u:ε}(r:RelV x u):ab8 u=some x:=by
 cases x with
 |non=>cases r;rfl
 |bl _=>cases r;rfl
 |int _=>let#[t,rfl]:=r;rfl
 |str _=>let#[t,rfl]:=r;rfl
 |byt _=>let#[t,rfl]:=r;rfl
 |flt _=>let#[t,rfl]:=r;rfl
 |ref _=>cases r;rfl
 |ty _=>cases r;rfl
theorem RelV.inj{x y:V}{u:ε}(r:RelV x u)(q:RelV y u):x=y:=Option.some.inj (r.abs.symm.trans q.abs)
theorem Vals.inj{xs ys:List V}{us:List ε}(h:Vals xs us)(g:Vals ys us):xs=ys:=by
 induction h generalizing ys with
 |nil=>cases g;rfl
 |cons r t a=>cases g with|cons c t'=>rw[r.inj c,a t']
section
variable{X:Cx}{ϵ:List (δ×Obj)}{σ:St}{H:Hp}{s:μ}{a:δ}{xs ys:List V}
theorem η.of{K:ϩ}(h:H a=some (.lst xs)):η K H a xs:=.inl (.inl h)
theorem ρ.of{K:ϩ}(h:H a=some (.tup xs)):ρ K H a xs:=.inl (.inl h)
theorem Inv.list(I:Inv X ϵ σ H s)(h:η X.K H a xs):∃c:List ε,Vals xs c/\PlainL s.heap a c.toArray/\xs.length<=ϰ:=by
 obtain h|⟨o,c,n,f,g,hd,hs,hz,r⟩:=h
 .let#[z,c,n,r,e]:=h.ok I.hok;show#[c,r,#[_,n,e,rfl,rfl,rfl],z]
 .show#[c.toList,r,#[o,n,I.kIn a o f,g,hd,by simpa using hs],?_];let e:=r.length;simp only[akt]at e;omega
theorem Inv.tuple(I:Inv X ϵ σ H s)(h:ρ X.K H a xs):∃c:List ε,Vals xs c/\IsTup s.heap a c.toArray/\xs.length<=ϰ:=by
 obtain h|⟨o,c,n,f,g,hs,hz,r⟩:=h
 .let#[z,c,r,p]:=h.ok I.hok;show#[c,r,p,z]
 .show#[c.toList,r,#[o,I.kIn a o f,g,n,by simpa using hs],?_];let e:=r.length;simp only[akt]at e;omega
theorem Inv.list_inj(I:Inv X ϵ σ H s)(h:η X.K H a xs)(h':η X.K H a ys):xs=ys:=by
 let#[f,r,#[o,n,e,_,_,d],_]:=I.list h;let#[its',g,#[o',i,c,_,_,d'],_]:=I.list h';rw[e]at c;cases c;rw[d]at d';injection d' with d1 _
 have:f=its':=by simpa using congrArg aqc d1
 subst this;show r.inj g
theorem Inv.tuple_inj(I:Inv X ϵ σ H s)(h:ρ X.K H a xs)(h':ρ X.K H a ys):xs=ys:=by
 let#[f,r,#[o,e,_,n,d],_]:=I.tuple h;let#[its',g,#[o',c,_,i,d'],_]:=I.tuple h';rw[e]at c;cases c;rw[d]at d';injection d' with d1 _
 have:f=its':=by simpa using congrArg aqc d1
 subst this;show r.inj g
end
section
variable{X:Cx}{ϵ:List (δ×Obj)}{σ:St}{H:Hp}{s:μ}{E:ε->μ->Prop}
end
section
variable{X:Cx}{st:Ϩ}{rest:List Ϩ}{t u:TS}{e:ϧ}{te:TE}{pos:Pos}
theorem Inv.quiet{ϵ:List (δ×Obj)}{σ:St}{H:Hp}{s:μ}(I:Inv X ϵ σ H s):interactive X.env=false:=by simp[interactive,I.ok.kind]
end
abbrev TG:=V->St->Hp->(St->Hp->Prop)->Prop
section
variable{X:Cx}{pos:Pos}
end
section
variable{X:Cx}{pos:Pos}
def ajP(c:TT)(tb:TS):TS:=λD σ H=>∃W:Nat->St->Hp->Prop,(∃m,W m σ H)/\∀m σ H,W m σ H->
 c σ H λb H1=>if b=true then ∃N:St->Hp->Prop,(∀σ' H',N σ' H'->∃m',m'<m/\W m' σ' H')/\tb {D with nx:=N,ct:=N,bk:=D.nx} σ H1 else D.nx σ H1
theorem abG{c:ϧ}{body:List Ϩ}{tc:TT}{tb:TS}(q:alP (Ϧ X.prog X.w) X.A X.env X.xe)(y:PT X c tc)(z:zx X body tb):PS X (.While c body [] pos) (ajP tc tb):=by
 intro ϵ s σ H D I h;let#[W,#[B,C],turn]:=h;show wpAny_While (codeAny_whileLoop (λn s'=>∃σ' H',Inv X ϵ σ' H' s'/\W n σ' H') ?_ B #[σ,H,I,C])
 rintro n E ⟨e,H1,F,G⟩
 show akZ q (χ (y ϵ E e H1 _ F (turn n e H1 G)) λb J L=>?_);let#[H2,u,i]:=L;cases b with
 |true=>
  let#[N,x,i]:=i;rw[if_pos rfl];show akZ q (χ (z ϵ J e H2 _ u i) λf M j=>?_);cases f with
  |next=>
   let#[a,g,l,m]:=j;let#[m',o,p]:=x a g m;show#[m',o,a,g,l,p]
  |cont=>
   let#[a,g,l,m]:=j;let#[m',o,p]:=x a g m;show#[m',o,a,g,l,p]
  |brk=>show j
  |ret v=>show j
 |false=>
  rw[if_neg aaA];show wpAny_execs_nil #[e,H2,u,i]
end
structure It where
 go:Nat->Hp->Prop
 yld:Nat->Hp->V->Hp->Prop
 stop:Nat->Hp->Prop
def bA(X:Cx)(ϵ:List (δ×Obj))(H:Hp)(b:δ):Prop:=
 H b=none/\b≠X.env.locals/\b∉X.fs/\(b∈X.ex\/X.s₀.heap.get? b=none)/\(∀x c,X.env.cells.lookup x=some c->c≠b)/\∀p∈X.pn++ϵ,p.1≠b
theorem Inv.fpOk{X:Cx}{ϵ:List (δ×Obj)}{σ:St}{H H':Hp}{s:μ}{b:δ}(I:Inv X ϵ σ H s)(a:s.heap.objs.size<=b)(f:H' b=none):bA X ϵ H' b:=by
 show#[f,amF (abX I.lt a),I.nofs a,.inr (aj1 (aes I.sz a)),λx c e z=>?_,λp g z=>?_]
 .let#[v,q]:=I.cell x c e;show absurd (abX q.lt (by rw[z];show a)) (ajM _)
 .show absurd (abX (abV (I.pin p g).1) (by rw[z];show a)) (ajM _)
structure Turn(P:ϯ)(w:ϭ)(K:ϩ)(tg:ϧ)(J:It)(fp:List δ)(it:δ)(tn:Nat->ϫ->Prop):Prop where
 mem:it∈fp
 obj:∀i h,tn i h->∀b∈fp,∃o,h.get? b=some o/\∀v,o.data≠.cell v
 keep:∀i h h',tn i h->(∀b∈fp,∀o,h.get? b=some o->h'.get? b=some o)->tn i h'
 item:∀(X:Cx),X.prog=P->X.w=w->X.K=K->X.calm=true->∀(i:Nat)(ϵ:List (δ×Obj))(s:μ)(σ:St)(H:Hp)(E:ε->μ->Prop),Inv X ϵ σ H s->(∀b∈fp,bA X ϵ H b)->tn i s.heap->J.go i H->
  π (Ϧ P w) X.A (pyNext (.ref it)) (λr s1=>∃u,r=some u/\
   π (Ϧ P w) X.A (letOwnedTupleGo tg (.ref it) u) (λ_ s2=>∃x H',Inv X ϵ σ H' s2/\RelV x u/\J.yld i H x H'/\tn (i+1) s2.heap/\∀b∈fp,H' b=none) E s1) E s
 done:∀(X:Cx),X.prog=P->X.w=w->X.K=K->X.calm=true->∀(i:Nat)(ϵ:List (δ×Obj))(s:μ)(σ:St)(H:Hp)(E:ε->μ->Prop),Inv X ϵ σ H s->(∀b∈fp,bA X ϵ H b)->tn i s.heap->J.stop i H->
  π (Ϧ P w) X.A (pyNext (.ref it)) (λr s1=>r=none/\Inv X ϵ σ H s1) E s
 self:∀(A:ϳ)(i:Nat)(s:μ)(Q:ε->μ->Prop)(E:ε->μ->Prop),tn i s.heap->Q (.ref it) s->π (Ϧ P w) A (pyIter (.ref it)) Q E s
abbrev TI:=St->Hp->(It->Hp->Prop)->Prop
def yc(X:Cx)(ϵ:List (δ×Obj))(σ:St)(tg:ϧ)(R:It->Hp->Prop)(a:ε)(c:μ):Prop:=
 ∃(it:δ)(fp:List δ)(e:Nat->ϫ->Prop)(J:It)(H':Hp),a=.ref it/\Inv X ϵ σ H' c/\Turn X.prog X.w X.K tg J fp it e/\e 0 c.heap/\(∀b∈fp,bA X ϵ H' b)/\R J H'
def PI(X:Cx)(tg iter:ϧ)(a:TI):Prop:=
 ∀(ϵ:List (δ×Obj))(s:μ)(σ:St)(H:Hp)(R:It->Hp->Prop),Inv X ϵ σ H s->a σ H R->
  π (Ϧ X.prog X.w) X.A (eval iter X.env) (λv c=>π (Ϧ X.prog X.w) X.A (pyIter v) (yc X ϵ σ tg R) X.xe c) X.xe s
theorem rD{M:Model}{A:ϳ}{E:ε->μ->Prop}{s:μ}{tg:ϧ}{it:δ}{u:ε}{o:Obj}{n:String}{vs:Array ε}{Q:Unit->μ->Prop}(c:s.heap.get? it=some o)(e:o.cls=.type n)(hd:o.data=.fields vs)(f:["enumerate","zip","dict_itemiterator","dict_reverseitemiterator","odict_iterator","itertools.zip_longest","itertools.pairwise"].contains n=false)(a:Q PUnit.unit s):π M A (letOwnedTupleGo tg (.ref it) u) Q E s:=by
 unfold letOwnedTupleGo;cases tg<;>first
  |show Ϯ a
  |(cases u<;>first
   |show Ϯ a
   |(show ν (wpAny_load c ?_)
     rw[e,hd];show π M A (if(["enumerate","zip","dict_itemiterator","dict_reverseitemiterator","odict_iterator","itertools.zip_longest","itertools.pairwise"].contains n&&vs[0]?==some (rawInt _))=true then _ else _) Q E s;rw[if_neg (by intro h;rw[f,anG]at h;cases h)];show Ϯ a))
def jz(K:ϩ)(a:δ):It:=
 #[λi H=>∃xs x,η K H a xs/\xs[i]?=some x,λi H x H'=>H'=H/\∀xs,η K H a xs->xs[i]?=some x,λi H=>∃xs,η K H a xs/\xs.length<=i]
def qp(K:ϩ)(a:δ):It:=
 #[λi H=>∃xs x,ρ K H a xs/\xs[i]?=some x,λi H x H'=>H'=H/\∀xs,ρ K H a xs->xs[i]?=some x,λi H=>∃xs,ρ K H a xs/\xs.length<=i]
def jZ(lo:Int)(n:Nat):It:=#[λi _=>i<n,λi H x H'=>H'=H/\x=.int (lo+i),λi _=>n<=i]
theorem abU{P:ϯ}{w:ϭ}{K:ϩ}{tg:ϧ}(a it:δ):Turn P w K tg (jz K a) [it] it (λi h=>h.IsListIter it a i)where
 mem:=by simp
 obj:=λi h st b f=>by
  let e:b=it:=by simpa using f
  subst e;let#[o,e,c,d]:=st;show#[o,e,λv z=>by rw[d]at z;cases z]
 keep:=λi h h' st k=>st.at λo e=>k it (by simp) o e
 item:=by
  intro X m n q M i ϵ s σ H E I j st y;subst m n q;let#[xs,x,l,B]:=y;let#[O,C,p,hz]:=I.list l;let#[u,Q,R]:=C.get B;let#[D,F,S,G,J,L]:=j it (by simp);show wpAny_pyNext_list_item st p.isList (x:=u) (by simpa using Q) λh' g T=>?_
  let U:Inv X ϵ σ H {s with heap:=h'}:=I.turned (t':=s.toks) (λb o f e=>(T.2 b f).trans e) D F G J L;let#[o,e,c,d]:=id g;show#[u,rfl,rD (s:={s with heap:=h'}) e c d (by decide) #[x,H,U,R,#[rfl,λys W=>by rw[I.list_inj W l];show B],g,λb f=>(j b f).1]]
 done:=by
  intro X m n q M i ϵ s σ H E I j st y;subst m n q;let#[xs,l,B]:=y;let#[O,C,p,hz]:=I.list l;let#[D,F,S,G,J,L]:=j it (by simp);let Z:=C.length;show wpAny_pyNext_list_end (I.ok.hd M) st p.isList (by simp;omega) λh' Y=>#[rfl,I.turned (t':=s.toks) (λb o f e=>Y b o f e) D F G J L]
 self:=λ_ _ _ _ _ st h=>wpAny_pyIter_listiter st h
theorem aii{P:ϯ}{w:ϭ}{K:ϩ}{tg:ϧ}(a it:δ):Turn P w K tg (qp K a) [it] it (λi h=>h.IsTupleIter it a i)where
 mem:=by simp
 obj:=λi h st b f=>by
  let e:b=it:=by simpa using f
  subst e;let#[o,e,c,d]:=st;show#[o,e,λv z=>by rw[d]at z;cases z]
 keep:=λi h h' st k=>st.at λo e=>k it (by simp) o e
 item:=by
  intro X m n q O i ϵ s σ H E I j st y;subst m n q;let#[xs,x,l,B]:=y;let#[C,D,p,hz]:=I.tuple l;let#[u,Q,R]:=D.get B;let#[F,G,S,J,L,M]:=j it (by simp);show wpAny_pyNext_tuple_item st (show s.heap.IsTuple a C.toArray from p) (x:=u) (by simpa using Q) λh' g T=>?_
  let U:Inv X ϵ σ H {s with heap:=h'}:=I.turned (t':=s.toks) (λb o f e=>(T.2 b f).trans e) F G J L M;let#[o,e,c,d]:=id g;show#[u,rfl,rD (s:={s with heap:=h'}) e c d (by decide) #[x,H,U,R,#[rfl,λys W=>by rw[I.tuple_inj W l];show B],g,λb f=>(j b f).1]]
 done:=by
  intro X m n q O i ϵ s σ H E I j st y;subst m n q;let#[xs,l,B]:=y;let#[C,D,p,hz]:=I.tuple l;let#[F,G,S,J,L,M]:=j it (by simp);let Z:=D.length;show wpAny_pyNext_tuple_end (I.ok.hd O) st (show s.heap.IsTuple a C.toArray from p) (by simp;omega) λh' Y=>#[rfl,I.turned (t':=s.toks) (λb o f e=>Y b o f e) F G J L M]
 self:=λ_ _ _ _ _ st h=>wpAny_pyIter_tupleiter st h
theorem aeF{P:ϯ}{w:ϭ}{K:PySem.W.Frag}{tg:ϧ}(it:δ)(lo:Int)(n:Nat):Turn P w K tg (jZ lo n) [it] it (λi h=>IsRangeIter h it (lo+(i:Nat)*1) ((n:Int)-(i:Nat)) 1)where
 mem:=by simp
 obj:=λi h st b a=>by
  let e:b=it:=by simpa using a
  subst e;show#[_,st,λv z=>by
   let z':Data.fields _=Data.cell v:=z;cases z']
 keep:=λi h h' st k=>k it (by simp) _ st
 item:=by
  intro X g j l m i ϵ s σ H E I f st p;subst g j l;let#[q,u,C,x,y,B]:=f it (by simp);let W:=Walks.range (prog:=X.prog) (w:=X.w) (I.ok.hd m) it lo 1 n;show W.item i s _ _ p st λv h' tk D c kk=>?_
  let#[t,rfl]:=D;let F:Inv X ϵ σ H {s with heap:=h',toks:=tk}:=I.turned (λb o a e=>kk b o (by simpa using a) e) q u x y B;show#[_,rfl,rD (s:={s with heap:=h',toks:=tk}) (n:="range_iterator") c rfl rfl (by decide) #[.int (lo+i),H,F,#[t,?_],#[rfl,rfl],c,λb a=>(f b a).1]];rw[Int.mul_one]
 done:=by
  intro X g j l m i ϵ s σ H E I f st p;subst g j l;let#[q,u,C,x,y,B]:=f it (by simp);show wpAny_pyNext_range_end (I.ok.hd m) st (by have:n<=i:=p;omega) λh' G=>#[rfl,I.turned (t':=s.toks) (λb o a e=>G b o a e) q u x y B]
 self:=λ_ _ _ _ _ st h=>wpAny_pyIter_rangeiter st h
section
variable{X:Cx}{tg:ϧ}
theorem agZ{ϵ:List (δ×Obj)}{σ:St}{H:Hp}{s:μ}{R:It->Hp->Prop}{E:ε->μ->Prop}{lo hi:Int}{t u v:Tok}{tk:Nat}(I:Inv X ϵ σ H s)(h1: -(2^62)<=lo)(h2:lo<2^62)(c: -(2^62)<=hi)(f:hi<2^62)(q:R (jZ lo (hi-lo).toNat) H):π (Ϧ X.prog X.w) X.A (pyIter (.ref s.heap.objs.size)) (yc X ϵ σ tg R) E {s with heap:=s.heap.push {cls:=.type "range",data:=.fields #v[.int lo t,.int hi u,.int 1 v]},toks:=tk}:=by
 show wpAny_pyIter_range (IsRange.new ..) (small_one h1 h2 c f) ?_;let a:Inv X ϵ σ H {s with heap:=s.heap.push {cls:=.type "range",data:=.fields #v[.int lo t,.int hi u,.int 1 v]},toks:=tk}:=I.kept λb o e=>ϲ _ e
 show#[(s.heap.push {cls:=.type "range",data:=.fields #v[.int lo t,.int hi u,.int 1 v]}).objs.size,[(s.heap.push {cls:=.type "range",data:=.fields #v[.int lo t,.int hi u,.int 1 v]}).objs.size],_,_,H,rfl,
  a.kept (t':=tk) λb o e=>ϲ _ e,aeF _ lo (hi-lo).toNat,?_,λb g=>?_,q]
 .let e1:lo+((0:Nat):Int)*1=lo:=by simp
  let i:(((hi-lo).toNat:Nat):Int)-((0:Nat):Int)=Builtin.Range.rangeSize lo hi 1:=by rw[rangeSize_one];split <;>omega
  show IsRangeIter _ _ (lo+((0:Nat):Int)*1) ((((hi-lo).toNat:Nat):Int)-((0:Nat):Int)) 1;rw[e1,i];show abi _ rfl
 .let e:b=(s.heap.push {cls:=.type "range",data:=.fields #v[.int lo t,.int hi u,.int 1 v]}).objs.size:=by simpa using g
  subst e;show a.fpOk (Ϭ _) (a.hok.fresh (Ϭ _))
def fG(fp:List δ)(h:ϫ):List (δ×Obj):=fp.filterMap λb=>(h.get? b).map λo=>(b,o)
theorem vD{fp:List δ}{h:ϫ}{b:δ}{o:Obj}(a:b∈fp)(e:h.get? b=some o):(b,o)∈fG fp h:=anU.mpr #[b,a,by rw[e];rfl]
theorem aid{fp:List δ}{h:ϫ}{p:δ×Obj}(a:p∈fG fp h):p.1∈fp/\h.get? p.1=some p.2:=by
 let#[b,c,e]:=anU.mp a;cases q:h.get? b with
 |none=>rw[q]at e;cases e
 |some o=>
  rw[q]at e;let f:(b,o)=p:=Option.some.inj e;subst f;show#[c,q]
theorem Inv.pinned{ϵ:List (δ×Obj)}{σ:St}{H:Hp}{s:μ}{fp:List δ}(I:Inv X ϵ σ H s)(f:∀b∈fp,bA X ϵ H b)(g:∀b∈fp,∃o,s.heap.get? b=some o/\∀v,o.data≠.cell v):Inv X (ϵ++fG fp s.heap) σ H s:=
 I.pins_of λp i=>(afH.mp i).elim (λz=>I.pin p (aek _ z)) λz=>by
  let#[a,e]:=aid z;let#[j,l,m,_]:=f p.1 a;let#[o,c,d]:=g p.1 a;rw[e]at c;cases c;show#[e,j,l,m,d]
theorem Inv.unpinned{ϵ pl:List (δ×Obj)}{σ:St}{H:Hp}{s:μ}(I:Inv X (ϵ++pl) σ H s):Inv X ϵ σ H s:=I.pins_of λp a=>I.pin p (aek _ (aj9 _ a))
end
theorem afD{K:PySem.W.Frag}{a:δ}{xs:List V}{g:TG}{tb:TS}{D:Ends}{σ:St}{H:Hp}(c:Nat->St->Hp->Prop)(l:c 0 σ H)(n:∀i σ H,i<=xs.length->c i σ H->η K H a xs)(hs:∀i x σ H,xs[i]?=some x->c i σ H->g x σ H λf H2=>tb {D with nx:=c (i+1),ct:=c (i+1),bk:=D.nx} f H2)(hd:∀σ H,c xs.length σ H->D.nx σ H):∃W:Nat->Nat->St->Hp->Prop,(∃m,W 0 m σ H)/\∀i m σ H,W i m σ H->
   ((jz K a).stop i H/\D.nx σ H)\/((jz K a).go i H/\∃N:St->Hp->Prop,(∀σ' H',N σ' H'->∃m',m'<m/\W (i+1) m' σ' H')/\∀x H',(jz K a).yld i H x H'->g x σ H' λf H2=>tb {D with nx:=N,ct:=N,bk:=D.nx} f H2):=by
 show#[λi m σ H=>m=xs.length-i/\i<=xs.length/\c i σ H,#[xs.length,by simp,agz _,l],?_]
 rintro i m σ H ⟨rfl,hi,p⟩
 let q:=n i σ H hi p;by_cases j:i<xs.length
 .show .inr #[#[xs,xs[i],q,by simp[j]],c (i+1),λσ' H' p'=>#[xs.length-(i+1),(),rfl,j,p'],λx H' y=>?_];let#[e,y]:=y;subst e;show hs i x σ _ (y xs q) p
 .let e:i=xs.length:=()
  subst e;show .inl #[#[xs,q,Ϭ _],hd σ H p]
theorem ajJ{K:PySem.W.Frag}{a:δ}{xs:List V}{g:TG}{tb:TS}{D:Ends}{σ:St}{H:Hp}(c:Nat->St->Hp->Prop)(l:c 0 σ H)(n:∀i σ H,i<=xs.length->c i σ H->ρ K H a xs)(hs:∀i x σ H,xs[i]?=some x->c i σ H->g x σ H λf H2=>tb {D with nx:=c (i+1),ct:=c (i+1),bk:=D.nx} f H2)(hd:∀σ H,c xs.length σ H->D.nx σ H):∃W:Nat->Nat->St->Hp->Prop,(∃m,W 0 m σ H)/\∀i m σ H,W i m σ H->
   ((qp K a).stop i H/\D.nx σ H)\/((qp K a).go i H/\∃N:St->Hp->Prop,(∀σ' H',N σ' H'->∃m',m'<m/\W (i+1) m' σ' H')/\∀x H',(qp K a).yld i H x H'->g x σ H' λf H2=>tb {D with nx:=N,ct:=N,bk:=D.nx} f H2):=by
 show#[λi m σ H=>m=xs.length-i/\i<=xs.length/\c i σ H,#[xs.length,by simp,agz _,l],?_]
 rintro i m σ H ⟨rfl,hi,p⟩
 let q:=n i σ H hi p;by_cases j:i<xs.length
 .show .inr #[#[xs,xs[i],q,by simp[j]],c (i+1),λσ' H' p'=>#[xs.length-(i+1),(),rfl,j,p'],λx H' y=>?_];let#[e,y]:=y;subst e;show hs i x σ _ (y xs q) p
 .let e:i=xs.length:=()
  subst e;show .inl #[#[xs,q,Ϭ _],hd σ H p]
theorem Zf{lo:Int}{n:Nat}{g:TG}{tb:TS}{D:Ends}{σ:St}{H:Hp}(a:Nat->St->Hp->Prop)(j:a 0 σ H)(hs:∀i σ H,i<n->a i σ H->g (.int (lo+i)) σ H λc H2=>tb {D with nx:=a (i+1),ct:=a (i+1),bk:=D.nx} c H2)(hd:∀σ H,a n σ H->D.nx σ H):∃W:Nat->Nat->St->Hp->Prop,(∃m,W 0 m σ H)/\∀i m σ H,W i m σ H->
   ((jZ lo n).stop i H/\D.nx σ H)\/((jZ lo n).go i H/\∃N:St->Hp->Prop,(∀σ' H',N σ' H'->∃m',m'<m/\W (i+1) m' σ' H')/\∀x H',(jZ lo n).yld i H x H'->g x σ H' λc H2=>tb {D with nx:=N,ct:=N,bk:=D.nx} c H2):=by
 show#[λi m σ H=>m=n-i/\i<=n/\a i σ H,#[n,by simp,agz _,j],?_]
 rintro i m σ H ⟨rfl,hi,p⟩
 by_cases f:i<n
 .show .inr #[f,a (i+1),λσ' H' p'=>#[n-(i+1),(),rfl,f,p'],λx H' y=>?_];let#[e,y]:=y;subst e y;show hs i σ _ f p
 .let e:i=n:=()
  subst e;show .inl #[Ϭ _,hd σ H p]
abbrev R2:=V->V->Hp->VK->Prop
def aQ(X:Cx)(f:ε->ε->Sem ε)(r:R2):Prop:=
 ∀(ϵ:List (δ×Obj))(s:μ)(σ:St)(H:Hp)(x y:V)(v u:ε)(Q:VK),Inv X ϵ σ H s->RelV x v->RelV y u->r x y H Q->
  π (Ϧ X.prog X.w) X.A (f v u) (EP X ϵ σ Q) X.xe s
def vJ(X:Cx)(f:ε->Sem ε)(r:V->Hp->VK->Prop):Prop:=
 ∀(ϵ:List (δ×Obj))(s:μ)(σ:St)(H:Hp)(x:V)(v:ε)(Q:VK),Inv X ϵ σ H s->RelV x v->r x H Q->
  π (Ϧ X.prog X.w) X.A (f v) (EP X ϵ σ Q) X.xe s
def gC(X:Cx)(f:ε)(r:List V->Hp->VK->Prop):Prop:=
 ∀(ϵ:List (δ×Obj))(s:μ)(σ:St)(H:Hp)(xs:List V)(us:List ε)(Q:VK),Inv X ϵ σ H s->Vals xs us->r xs H Q->
  π (Ϧ X.prog X.w) X.A (call f us) (EP X ϵ σ Q) X.xe s
def ZQ(X:Cx)(r:V->Hp->(Bool->Hp->Prop)->Prop):Prop:=
 ∀(ϵ:List (δ×Obj))(s:μ)(σ:St)(H:Hp)(x:V)(v:ε)(Q:Bool->Hp->Prop),Inv X ϵ σ H s->RelV x v->r x H Q->
  π (Ϧ X.prog X.w) X.A (truthy v) (TP X ϵ σ Q) X.xe s
def rI(C:Int->Int->Prop)(g:Int->Int->V):R2:=λx y H Q=>∃i j,x=.int i/\y=.int j/\C i j/\Q (g i j) H
def kJ(g:Int->Int->V):R2:=λx y H Q=>∃i j,x=.int i/\y=.int j/\Q (g i j) H
def rU(g:Int->V):V->Hp->VK->Prop:=λx H Q=>∃i,x=.int i/\Q (g i) H
section
variable{X:Cx}{a b c:ϧ}{ta tb tc:TE}{pos:Pos}
theorem Gd(j:PE X a ta)(l:PE X b tb){ϵ:List (δ×Obj)}{s:μ}{σ:St}{H:Hp}{R:V->V->Hp->Prop}(I:Inv X ϵ σ H s)(h:ta σ H λx H1=>tb σ H1 λy H2=>R x y H2){Q:ε->μ->Prop}{f:ε->ε->Sem ε}(m:∀v u g x y H2,Inv X ϵ σ H2 g->RelV x v->RelV y u->R x y H2->π (Ϧ X.prog X.w) X.A (f v u) Q X.xe g):π (Ϧ X.prog X.w) X.A (eval a X.env) (λv c=>π (Ϧ X.prog X.w) X.A (eval b X.env) (λu e=>π (Ϧ X.prog X.w) X.A (f v u) Q X.xe e) X.xe c) X.xe s:=by
 show χ (j ϵ s σ H _ I h) λv n i=>?_
 let#[x,H1,o,r1,p]:=i;show χ (l ϵ n σ H1 _ o p) λu g i=>?_
 let#[y,H2,q,z,B]:=i;show m v u g x y H2 q r1 z B
theorem Fb{f:ε->ε->Sem ε}{C:Int->Int->Prop}{g:Int->Int->Int}(rule:∀(i j:Int)(t u:Tok)(s:μ)(Q:ε->μ->Prop)(E:ε->μ->Prop),C i j->Q (.int (g i j) s.toks) {s with toks:=s.toks+1}->π (Ϧ X.prog X.w) X.A (f (.int i t) (.int j u)) Q E s):aQ X f (rI C λi j=>.int (g i j)):=by
 intro ϵ s σ H x y v u Q I rx ry h;let#[i,j,rfl,rfl,a,q]:=h;let#[t,rfl]:=rx;let#[t',rfl]:=ry;show rule i j t t' s _ _ a #[.int (g i j),H,I.tok _,#[_,rfl],q]
theorem Ja{f:ε->ε->Sem ε}{g:Int->Int->Int}(rule:∀(i j:Int)(t u:Tok)(s:μ)(Q:ε->μ->Prop)(E:ε->μ->Prop),Q (.int (g i j) s.toks) {s with toks:=s.toks+1}->π (Ϧ X.prog X.w) X.A (f (.int i t) (.int j u)) Q E s):aQ X f (kJ λi j=>.int (g i j)):=by
 intro ϵ s σ H x y v u Q I rx ry h;let#[i,j,rfl,rfl,q]:=h;let#[t,rfl]:=rx;let#[t',rfl]:=ry;show rule i j t t' s _ _ #[.int (g i j),H,I.tok _,#[_,rfl],q]
theorem xN{f:ε->ε->Sem ε}{g:Int->Int->Bool}(rule:∀(i j:Int)(t u:Tok)(s:μ)(Q:ε->μ->Prop)(E:ε->μ->Prop),Q (.bool (g i j)) s->π (Ϧ X.prog X.w) X.A (f (.int i t) (.int j u)) Q E s):aQ X f (kJ λi j=>.bl (g i j)):=by
 intro ϵ s σ H x y v u Q I rx ry h;let#[i,j,rfl,rfl,q]:=h;let#[t,rfl]:=rx;let#[t',rfl]:=ry;show rule i j t t' s _ _ #[.bl (g i j),H,I,rfl,q]
def Ou(i j:Int):Prop:=0<j/\j<1073741824
def uR(i j:Int):Prop:=(-(2^64)<i/\i<2^64)\/(-(2^64)<j/\j<2^64)
theorem uR.ok{i j:Int}(h:uR i j):IntMulOk i j:=by
 obtain⟨h1,h2⟩|⟨h1,h2⟩:=h
 .show .of_left (intBits_le_64 h1 h2)
 .show .of_right (intBits_le_64 h1 h2)
theorem akh:aQ X (binaryOp .Add) (kJ λi j=>.int (i+j)):=Ja λ_ _ _ _ _ _ _ q=>add_int q
theorem aeT:aQ X (binaryOp .Sub) (kJ λi j=>.int (i-j)):=Ja λ_ _ _ _ _ _ _ q=>sub_int q
theorem abw:aQ X (binaryOp .Mult) (rI uR λi j=>.int (i*j)):=Fb λ_ _ _ _ _ _ _ a q=>mul_int q a.ok
theorem af6:aQ X (binaryOp .FloorDiv) (rI Ou λi j=>.int (i / j)):=Fb λi j _ _ _ _ _ a q=>by
 let h1:(0:Int)<j:=a.1;let h2:j<1073741824:=a.2;show floordiv_int () (by rw[Int.fdiv_eq_ediv_of_nonneg i ()];show q) (.inl (PyProof.noPylong_small ()))
theorem abP:aQ X (binaryOp .Mod) (rI (λ_ j=>0<j) λi j=>.int (i % j)):=Fb λi j _ _ _ _ _ a q=>by
 let h1:(0:Int)<j:=a;show mod_int' () (by rw[Int.fmod_eq_emod_of_nonneg i ()];show q)
theorem unI{f:ε->Sem ε}{g:Int->Int}(rule:∀(i:Int)(t:Tok)(s:μ)(Q:ε->μ->Prop)(E:ε->μ->Prop),Q (.int (g i) s.toks) {s with toks:=s.toks+1}->π (Ϧ X.prog X.w) X.A (f (.int i t)) Q E s):vJ X f (rU λi=>.int (g i)):=by
 intro ϵ s σ H x v Q I rx h;let#[i,rfl,q]:=h;let#[t,rfl]:=rx;show rule i t s _ _ #[.int (g i),H,I.tok _,#[_,rfl],q]
theorem aiz:vJ X (unaryOp .USub) (rU λi=>.int (-i)):=unI λ_ _ _ _ _ q=>neg_int q
end
def sE:V->V->Bool
 |.non,.non=>true|.non,.int _=>true|.int _,.non=>true|.non,.bl _=>true|.bl _,.non=>true|.non,.str _=>true|.str _,.non=>true
 |.int _,.int _=>true|.bl _,.bl _=>true|.str _,.str _=>true|.byt _,.byt _=>true
 |.int _,.str _=>true|.str _,.int _=>true|.bl _,.str _=>true|.str _,.bl _=>true
 |_,_=>false
def rEq:R2:=λx y H Q=>sE x y=true/\Q (.bl (decide (x=y))) H
def rNe:R2:=λx y H Q=>sE x y=true/\Q (.bl (!decide (x=y))) H
theorem V4{i j:Int}:decide (V.int i=V.int j)=(i==j):=by
 rw[ahB];simp
theorem KQ{i j:Bool}:decide (V.bl i=V.bl j)=(i==j):=by
 rw[ahB];simp
theorem Mm{i j:Str}:decide (V.str i=V.str j)=(i==j):=by
 rw[ahB];simp
theorem Iv{i j:Array UInt8}:decide (V.byt i=V.byt j)=(i.toList==j.toList):=by
 rw[ahB];cases i;cases j;simp
section
variable{X:Cx}{a b c:ϧ}{ta tb tc:TE}{pos:Pos}
theorem ϟ{ϵ:List (δ×Obj)}{σ:St}{H:Hp}{s:μ}{Q:VK}{k k':Bool}(I:Inv X ϵ σ H s)(q:Q (.bl k) H)(e:k=k'):EP X ϵ σ Q (.bool k') s:=by
 subst e;show#[.bl k,H,I,rfl,q]
theorem Yu:aQ X (adC .Eq) rEq:=by
 intro ϵ s σ H x y v u Q I rx ry h;let#[hs,q]:=h;cases x with
 |non=>
  cases rx;cases y with
  |non=>cases ry;show PySem.EqNone.eq_none_none (ϟ I q (by simp))
  |bl j=>cases ry;show PySem.EqNone.eq_none_bool (ϟ I q (by simp))
  |int j=>let#[t',rfl]:=ry;show PySem.EqNone.eq_none_int (ϟ I q (by simp))
  |str j=>let#[t',rfl]:=ry;show PySem.EqNone.eq_none_str (ϟ I q (by simp))
  |_=>show absurd (show false=true from hs) aaA
 |bl i=>
  cases rx;cases y with
  |non=>cases ry;show PySem.EqNone.eq_bool_none (ϟ I q (by simp))
  |bl j=>cases ry;show eq_bool (ϟ I q KQ)
  |str j=>let#[t',rfl]:=ry;show PySem.EqMixed.eq_bool_str (ϟ I q (by simp))
  |_=>show absurd (show false=true from hs) aaA
 |int i=>
  let#[t,rfl]:=rx;cases y with
  |non=>cases ry;show PySem.EqNone.eq_int_none (ϟ I q (by simp))
  |int j=>let#[t',rfl]:=ry;show eq_int (ϟ I q V4)
  |str j=>let#[t',rfl]:=ry;show PySem.EqMixed.eq_int_str (ϟ I q (by simp))
  |_=>show absurd (show false=true from hs) aaA
 |str i=>
  let#[t,rfl]:=rx;cases y with
  |non=>cases ry;show PySem.EqNone.eq_str_none (ϟ I q (by simp))
  |bl j=>cases ry;show PySem.EqMixed.eq_str_bool (ϟ I q (by simp))
  |int j=>let#[t',rfl]:=ry;show PySem.EqMixed.eq_str_int (ϟ I q (by simp))
  |str j=>let#[t',rfl]:=ry;show eq_str (ϟ I q Mm)
  |_=>show absurd (show false=true from hs) aaA
 |byt i=>
  let#[t,rfl]:=rx;cases y with
  |byt j=>let#[t',rfl]:=ry;show W.eq_bytes (ϟ I q Iv)
  |_=>show absurd (show false=true from hs) aaA
 |_=>cases y<;>show absurd (show false=true from hs) aaA
theorem aah:aQ X (adC .NotEq) rNe:=by
 intro ϵ s σ H x y v u Q I rx ry h;let#[hs,q]:=h;cases x with
 |non=>
  cases rx;cases y with
  |non=>cases ry;show PySem.EqNone.ne_none_none (ϟ I q (by simp))
  |bl j=>cases ry;show PySem.EqNone.ne_none_bool (ϟ I q (by simp))
  |int j=>let#[t',rfl]:=ry;show PySem.EqNone.ne_none_int (ϟ I q (by simp))
  |str j=>let#[t',rfl]:=ry;show PySem.EqNone.ne_none_str (ϟ I q (by simp))
  |_=>show absurd (show false=true from hs) aaA
 |bl i=>
  cases rx;cases y with
  |non=>cases ry;show PySem.EqNone.ne_bool_none (ϟ I q (by simp))
  |bl j=>cases ry;show ne_bool (ϟ I q (congrArg not KQ))
  |str j=>let#[t',rfl]:=ry;show PySem.EqMixed.ne_bool_str (ϟ I q (by simp))
  |_=>show absurd (show false=true from hs) aaA
 |int i=>
  let#[t,rfl]:=rx;cases y with
  |non=>cases ry;show PySem.EqNone.ne_int_none (ϟ I q (by simp))
  |int j=>let#[t',rfl]:=ry;show ne_int (ϟ I q (congrArg not V4))
  |str j=>let#[t',rfl]:=ry;show PySem.EqMixed.ne_int_str (ϟ I q (by simp))
  |_=>show absurd (show false=true from hs) aaA
 |str i=>
  let#[t,rfl]:=rx;cases y with
  |non=>cases ry;show PySem.EqNone.ne_str_none (ϟ I q (by simp))
  |bl j=>cases ry;show PySem.EqMixed.ne_str_bool (ϟ I q (by simp))
  |int j=>let#[t',rfl]:=ry;show PySem.EqMixed.ne_str_int (ϟ I q (by simp))
  |str j=>let#[t',rfl]:=ry;show ne_str (ϟ I q (congrArg not Mm))
  |_=>show absurd (show false=true from hs) aaA
 |byt i=>
  let#[t,rfl]:=rx;cases y with
  |byt j=>let#[t',rfl]:=ry;show W.ne_bytes (ϟ I q (congrArg not Iv))
  |_=>show absurd (show false=true from hs) aaA
 |_=>cases y<;>show absurd (show false=true from hs) aaA
theorem aao:aQ X (adC .Lt) (kJ λi j=>.bl (decide (i<j))):=xN λ_ _ _ _ _ _ _ q=>lt_int q
theorem abY:aQ X (adC .LtE) (kJ λi j=>.bl (decide (i<=j))):=xN λ_ _ _ _ _ _ _ q=>le_int q
theorem YZ:aQ X (adC .Gt) (kJ λi j=>.bl (decide (j<i))):=xN λ_ _ _ _ _ _ _ q=>gt_int q
theorem aas:aQ X (adC .GtE) (kJ λi j=>.bl (decide (j<=i))):=xN λ_ _ _ _ _ _ _ q=>ge_int q
theorem adA:aQ X (adC .Lt) (λx y H Q=>∃i j,x=.str i/\y=.str j/\Q (.bl (decide (i.cps.toList<j.cps.toList))) H):=by
 intro ϵ s σ H x y v u Q I rx ry h;let#[i,j,rfl,rfl,q]:=h;let#[t,rfl]:=rx;let#[t',rfl]:=ry;show lt_str (ϟ I q rfl)
theorem ai2:aQ X (adC .In) (λx y H Q=>∃i j,x=.str i/\y=.str j/\Q (.bl (!(Builtin.Str.occurrences j i 0 j.length 1).isEmpty)) H):=by
 intro ϵ s σ H x y v u Q I rx ry h;let#[i,j,rfl,rfl,q]:=h;let#[t,rfl]:=rx;let#[t',rfl]:=ry;show in_str (ϟ I q rfl)
theorem ahx:aQ X (adC .Is) (λx y H Q=>y=.non/\Q (.bl (decide (x=.non))) H):=by
 intro ϵ s σ H x y v u Q I rx ry h;let#[rfl,q]:=h;cases ry;show is_none_gen (ϟ I q ?_);cases x<;>first
  |(cases rx;rfl)
  |(let#[t,rfl]:=rx;rfl)
theorem acW:aQ X (adC .IsNot) (λx y H Q=>y=.non/\Q (.bl (!decide (x=.non))) H):=by
 intro ϵ s σ H x y v u Q I rx ry h;let#[rfl,q]:=h;cases ry;show isnot_none_gen (ϟ I q ?_);cases x<;>first
  |(cases rx;rfl)
  |(let#[t,rfl]:=rx;rfl)
theorem Xb(b:ϧ){op:CmpOp}(h:op≠ .In:=by decide)(h2:op≠ .NotIn:=by decide):behindInMarks op b=false:=by
 let e1:(op==CmpOp.In)=false:=by cases op<;>first|rfl|show absurd rfl h
 let a:(op==CmpOp.NotIn)=false:=by cases op<;>first|rfl|show absurd rfl h2
 cases b<;>simp[behindInMarks,e1,a]
def Hs(K:ϩ)(x:V)(H:Hp)(k:Bool):Prop:=
 match x with
 |.non=>k=false
 |.bl b=>k=b
 |.int i=>k=(i !=0)
 |.str y=>y.length<=ϰ/\k=((y.length:Int) !=0)
 |.byt y=>y.size<=ϰ/\k=((y.size:Int) !=0)
 |.ref p=>(∃xs,η K H p xs/\k= !xs.isEmpty)\/(∃xs,ρ K H p xs/\k= !xs.isEmpty)\/∃Ϸ,H p=some (.dK Ϸ)/\k= !Ϸ.isEmpty
 |_=>False
theorem acB{κ:Type}{Ϸ:List (κ×V)}{vs:List (κ×ε)}(r:KV Ϸ vs):(!vs.isEmpty)= !Ϸ.isEmpty:=by
 cases r<;>rfl
theorem Vd{xs:List V}{a:List ε}(r:Vals xs a):(!a.toArray.isEmpty)= !xs.isEmpty:=by
 cases r<;>simp
theorem oY:(ϰ:Nat)<2^63:=by rw[ϱ];decide
theorem ahA:ZQ X (λx H Q=>∃k,Hs X.K x H k/\Q k H):=by
 intro ϵ s σ H x v Q I rx h;let#[k,e,q]:=h;let n:=oY;let hs:ϰ=16777216:=ϱ;cases x with
 |non=>
  cases rx;let a:k=false:=e;subst a;show truthy_none #[H,I,q]
 |bl b=>
  cases rx;let a:k=b:=e;subst a;show agT #[H,I,q]
 |int i=>
  let#[t,rfl]:=rx;let a:k=(i !=0):=e;subst a;show PySem.P.truthy_int #[H,I,q]
 |str y=>
  let#[t,rfl]:=rx;obtain⟨g,a⟩:y.length<=ϰ/\k=((y.length:Int) !=0):=e;subst a;show PySem.P.truthy_str () #[H,I.tok _,q]
 |byt y=>
  let#[t,rfl]:=rx;obtain⟨g,a⟩:y.size<=ϰ/\k=((y.size:Int) !=0):=e;subst a;show W.truthy_bytes () #[H,I.tok _,q]
 |ref p=>
  cases rx;let a:(∃xs,η X.K H p xs/\k= !xs.isEmpty)\/(∃xs,ρ X.K H p xs/\k= !xs.isEmpty)\/∃Ϸ,H p=some (.dK Ϸ)/\k= !Ϸ.isEmpty:=e;obtain⟨xs,f,a⟩|⟨xs,f,a⟩|⟨Ϸ,f,a⟩:=a
  .subst a;let#[j,r,pl,hz]:=I.list f;let c:=r.length;show wpAny_truthy_list pl.isList (by simp only[aaH];omega) #[H,I.tok _,by rw[Vd r];show q]
  .subst a;let#[j,r,pl,hz]:=I.tuple f;let c:=r.length;show truthy_tuple pl (by simp only[aaH];omega) #[H,I.tok _,by rw[Vd r];show q]
  .subst a;obtain⟨hz,l,vs,r,m⟩:Ϸ.length<=ϰ/\(p==sysModules)=false/\∃vs,KV Ϸ vs/\s.heap.DictOf (cI X.prog X.w) p vs:=I.hok p _ f;let c:Ϸ.length=vs.length:=Paired.length r;show wpAny_truthy_dict l m () #[H,I.tok _,by rw[acB r];show q]
 |_=>show(show False from e).elim
theorem adn:aQ X (binaryOp .Add) (λx y H Q=>∃i j,x=.str i/\y=.str j/\i.length+j.length<=ϰ/\Q (.str (i++j)) H):=by
 intro ϵ s σ H x y v u Q I rx ry h;let#[i,j,rfl,rfl,hz,q]:=h;let#[t,rfl]:=rx;let#[t',rfl]:=ry;show add_str (λt' tk=>#[.str (i++j),H,I.tok _,#[_,rfl],q]) hz
theorem vals1{x:V}{us:List ε}(r:Vals [x] us):∃u,us=[u]/\RelV x u:=by
 cases r with
 |cons r1 a=>cases a;show#[_,rfl,r1]
theorem vals2{x y:V}{us:List ε}(r:Vals [x,y] us):∃u w',us=[u,w']/\RelV x u/\RelV y w':=by
 cases r with
 |cons r1 a=>
  cases a with
  |cons c e=>cases e;show#[_,_,rfl,r1,c]
theorem Zy(c:X.calm=true):gC X (.builtin "max") (λxs H Q=>∃i j,xs=[.int i,.int j]/\Q (.int (if j>i then j else i)) H):=by
 intro ϵ s σ H xs us Q I r h;let#[i,j,rfl,q]:=h;let#[u,e,rfl,#[t,rfl],#[t',rfl]]:=vals2 r;show max_two_ints (I.ok.hd c) λh' tk k=>#[_,H,I.kept k,?_,q]
 by_cases a:j>i
 .rw[if_pos a,if_pos a];show#[_,rfl]
 .rw[if_neg a,if_neg a];show#[_,rfl]
theorem afw(c:X.calm=true):gC X (.builtin "min") (λxs H Q=>∃i j,xs=[.int i,.int j]/\Q (.int (if j<i then j else i)) H):=by
 intro ϵ s σ H xs us Q I r h;let#[i,j,rfl,q]:=h;let#[u,e,rfl,#[t,rfl],#[t',rfl]]:=vals2 r;show min_two_ints (I.ok.hd c) λh' tk k=>#[_,H,I.kept k,?_,q]
 by_cases a:j<i
 .rw[if_pos a,if_pos a];show#[_,rfl]
 .rw[if_neg a,if_neg a];show#[_,rfl]
theorem afM:gC X (.type "str") (λxs H Q=>∃i,xs=[.int i]/\i.natAbs.log2<1920/\Q (.str (toString i)) H):=by
 intro ϵ s σ H xs us Q I r h;let#[i,rfl,hz,q]:=h;let#[u,rfl,t,rfl]:=vals1 r;show PySem.P.str_of_int hz #[.str _,H,I.tok _,#[_,rfl],q]
end
structure mO(h:ϫ)(x dx C:δ)(mA:Str->Option ε):Prop where
 obj:h.get? x=some (aoc C dx)
 ns:h.Ns1 dx mA
 ne:dx≠x
theorem Jk{h:ϫ}{dx:δ}{mA:Str->Option ε}(n:h.Ns1 dx mA):∃od,h.get? dx=some od/\∀name,apR name od=some (mA name):=by
 let#[o,es,ep,f,hd,g,_,i]:=n;show#[o,f,λname=>?_];let e:=i name;unfold nsFind findBy at e;rw[<-apk]at e;unfold apR;rw[hd];dsimp only;split
 .rename_i y q;rw[q]at e;show congrArg some e
 .rename_i q;rw[q]at e;let a:es.toList.any (·.refKey)=false:=by
   rw[List.any_eq_false];intro y j;let#[z,t,c]:=g y (Array.mem_toList_iff.mp j);simp[DictEntry.refKey,c]
  let l:¬es.toList.any (·.refKey)=true:=by rw[a];show aaA
  rw[if_neg l];show congrArg some e
theorem mO.look{h:ϫ}{x dx C:δ}{mA:Str->Option ε}(I:mO h x dx C mA):∃od,apb h x (aoc C dx) C (some od)/\∀name,apR name od=some (mA name):=
 let⟨od,ho,hl⟩:=Jk I.ns
 #[od,#[I.obj,rfl,rfl,ho],hl]
section
variable{prog:ϯ}{w:ϭ}{A:ϳ}{E:ε->μ->Prop}{s:μ}{K:ϩ}{x dx C f:δ}{mA:Str->Option ε}{name:Str}{v:ε}
theorem get_map{a:Bool}{Q:ε->μ->Prop}(X:K.In s.heap)(I:mO s.heap x dx C mA)(e:aom K C name=true)(f:amH K C=true)(g:aew K (.ref C) name=some none)(i:mA name=some v)(c:ap4 v=true)(h:Q v {s with toks:=s.toks+1}):π (Ϧ prog w) A (getAttr (.ref x) name a) Q E s:=by
 let#[od,J,j]:=I.look;show W.get_value X J (apl e).1 (ap7 f g rfl (by rw[j,i])) c h
theorem ai4{pl:Sem Bool}{Q:ε×List ε->μ->Prop}(X:K.In s.heap)(I:mO s.heap x dx C mA)(a:aom K C name=true)(c:aew K (.ref C) name=some (some (.ref f)))(e:apm K (.ref f)=true)(g:mA name=none)(h:Q (.ref f,[.ref x]) s):π (Ϧ prog w) A (getMethod (.ref x) name pl) Q E s:=by
 let#[od,J,i]:=I.look;show W.method_fn X J (apl a).1 (apl a).2 c (beq_iff_eq.mp e) (by show(apR name od).map (·.isSome)=some false;rw[i,g];rfl) h
theorem Zo{ns:List Str}{Q:Unit->μ->Prop}(X:K.In s.heap)(I:mO s.heap x dx C mA)(hs:aew K (.ref C) "__setattr__"=some (some (.builtin "object.__setattr__")))(l:aoN K C=true)(m:aoo K C name=some none)(n:amH K C=true)(o:PySem.Within mA ns)(hsz:ns.length<=ϰ)(h:∀h',mO h' x dx C (λy=>if y=name then some v else mA y)->ak6 dx s.heap h'->Q PUnit.unit {s with heap:=h',toks:=s.toks+2}):π (Ϧ prog w) A (setAttr (.ref x) name v) Q E s:=by
 let#[od,J,B]:=I.look;show W.set_plain X J hs (W.osa_open (s:={s with toks:=s.toks+1}) (r:=none) X J l m λb=>?_);let#[cd,p,f]:=apc n;let q:s.heap.get? x=some #[.ref C,some dx,.plain, #v[]]:=I.obj;show ν (Ϯ (ν (ν (wpAny_loadPart q (ν (W.Looks.here (s:={s with toks:=s.toks+1}) (apn X p) ?_))))));rw[f];show Ϯ (a:=some dx) (ν (Ϯ (ν ?_)));show wpAny_nsSet1 (s:={s with toks:=s.toks+1}) I.ns λh' c e=>?_
 let#[D,u,z,g,i,j]:=c.count (PySem.Within.cons name v o);show ν (wpAny_lookBehind g (by rw[i];show pastItsLine_dict (aes j (by rw[acS];omega))) ?_);show Ϯ (h _ #[(e.2 _ (Ne.symm I.ne)).trans I.obj,c,I.ne] e)
theorem ahO{R:Result->μ->Prop}{vs:List ε}{kw:List (Str×ε)}(X:K.In s.heap)(a:apT K C=true)(hi:aew K (.ref C) "__init__"=some (some (.ref f)))(c:aol K (.ref f)=some (.type "function"))(h:codeAny (Ϧ prog w) (A.under (.builtin "type.__call__" #[.ref C::vs,kw])) (.call (.ref f) #[.ref (s.heap.objs.size+1)::vs,kw]) (W.InitBack (s.heap.objs.size+1) R)
   {s with heap:=(s.heap.push alY).push (aoc C s.heap.objs.size)}):codeAny (Ϧ prog w) A (.call (.ref C) #[vs,kw]) R s:=by
 let#[e,g,d,t,os]:=s;show W.make_core (W.makes_of X a) (aoC X hi) (λself=>W.bind_fn X self c) (.inl rfl) h
end
def ϛ(f:Str)(v:V):List (Str×V)->List (Str×V)
 |[]=>[(f,v)]
 |(g,x)::r=>if g=f then(g,v)::r else(g,x)::ϛ f v r
theorem Ly(f g:Str)(v:V):∀fs:List (Str×V),(ϛ f v fs).lookup g=if g=f then some v else fs.lookup g
 |[]=>by
  show aij g [(f,v)]=_;by_cases h:g=f
  .let a:(g==f)=true:=beq_iff_eq.mpr h;simp only[aij,a,if_pos h]
  .let a:(g==f)=false:=beq_eq_false_iff_ne.mpr h;simp only[aij,a,if_neg h]
 |(k,x)::r=>by
  let i:=Ly f g v r;rw[show ϛ f v ((k,x)::r)=(if k=f then(k,v)::r else(k,x)::ϛ f v r)from rfl];by_cases c:k=f
  .rw[if_pos c];by_cases h:g=k
   .let a:(g==k)=true:=beq_iff_eq.mpr h;simp only[aij,a,if_pos (h.trans c)]
   .let a:(g==k)=false:=beq_eq_false_iff_ne.mpr h;simp only[aij,a,if_neg (λe:g=f=>h (e.trans c.symm))]
  .rw[if_neg c];by_cases h:g=k
   .let a:(g==k)=true:=beq_iff_eq.mpr h;simp only[aij,a,if_neg (λe:g=f=>c (h.symm.trans e))]
   .let a:(g==k)=false:=beq_eq_false_iff_ne.mpr h;simp only[aij,a];show i
theorem DK(f:Str)(v:V):∀fs:List (Str×V),f∈(ϛ f v fs).map (·.1)/\∀g,g∈fs.map (·.1)->g∈(ϛ f v fs).map (·.1)
 |[]=>#[by simp[ϛ],λg h=>by simp at h]
 |(k,x)::r=>by
  let#[c,i]:=DK f v r;rw[show ϛ f v ((k,x)::r)=(if k=f then(k,v)::r else(k,x)::ϛ f v r)from rfl];by_cases a:k=f
  .rw[if_pos a];subst a;show#[by simp,λg h=>by simpa using h]
  .rw[if_neg a];show#[?_,λg h=>?_]
   .rw[adF];show acY _ c
   .rw[adF]at h⊢;obtain e|e:=aaG.mp h
    .show aaG.mpr (.inl e)
    .show acY _ (i g e)
theorem jK(f:Str)(v:V):∀fs:List (Str×V),(ϛ f v fs).length<=fs.length+1
 |[]=>by simp[ϛ]
 |(k,x)::r=>by
  let c:=jK f v r;rw[show ϛ f v ((k,x)::r)=(if k=f then(k,v)::r else(k,x)::ϛ f v r)from rfl];by_cases a:k=f
  .rw[if_pos a,acS,acS];omega
  .rw[if_neg a,acS,acS];omega
theorem bM.some_of{v:V}{o:Option ε}(r:bM (some v) o):∃u,o=some u/\RelV v u:=by
 cases o with
 |none=>show(show False from r).elim
 |some u=>show#[u,rfl,r]
theorem bM.none_of{o:Option ε}(r:bM none o):o=none:=by
 cases o with
 |none=>rfl
 |some u=>show(show False from r).elim
theorem ad6{v:V}{u:ε}(r:RelV v u):ap4 u=true:=by
 cases v with
 |non=>cases(show u=Value.none from r);rfl
 |bl b=>cases(show u=Value.bool b from r);rfl
 |int i=>let#[t,e]:=(show ∃t,u=Value.int i t from r);cases e;rfl
 |str x=>let#[t,e]:=(show ∃t,u=Value.str x t from r);cases e;rfl
 |byt b=>let#[t,e]:=(show ∃t,u=Value.bytes b t from r);cases e;rfl
 |flt b=>let#[t,e]:=(show ∃t,u=Value.float b t from r);cases e;rfl
 |ref a=>cases(show u=Value.ref a from r);rfl
 |ty n=>cases(show u=Value.type n from r);rfl
section
variable{P:ϯ}{w:ϭ}{H H':Hp}{h h':ϫ}{a C dx:δ}{fs fs':List (Str×V)}
theorem xF(hok:Ϡ P w H h)(e:H a=some (.ins C dx fs)):∃mA,mO h a dx C mA/\(∀f,bM (fs.lookup f) (mA f))/\PySem.Within mA (fs.map (·.1))/\fs.length<=1000/\H dx=some (.own a):=by
 let#[d,z,ne,c,mA,n,r,q]:=(show ϔ P w H h a (.ins C dx fs)from hok a _ e);show#[mA,#[c,n,ne],r,q,z,d]
end
structure ϗ(K:ϩ)(C:δ):Prop where
 pg:aom K C aop=true
 hd:amH K C=true
 po:aoN K C=true
 sa:aew K (.ref C) "__setattr__"=some (some (.builtin "object.__setattr__"))
theorem ϗ.get{K:ϩ}{C:δ}(c:ϗ K C)(f:Str):aom K C f=true:=c.pg
def Φ(K:ϩ)(C:δ)(f:Str):Prop:=aew K (.ref C) f=some none
theorem Φ.taker{K:ϩ}{C:δ}{f:Str}(n:Φ K C f):aoo K C f=some none:=by
 unfold aoo;rw[show aew K (.ref C) f=some none from n];rfl
structure Meth(K:ϩ)(C:δ)(m:Str)(f:δ):Prop where
 at_:aew K (.ref C) m=some (some (.ref f))
 fn:apm K (.ref f)=true
 kp:anJ K (.ref f)=true
section
variable{X:Cx}{ϵ:List (δ×Obj)}{σ:St}{H:Hp}{s:μ}{a C dx:δ}{fs:List (Str×V)}{f:Str}{v:V}{A:ϳ}{E:ε->μ->Prop}
theorem U8{b:Bool}{Q:ε->μ->Prop}(I:Inv X ϵ σ H s)(e:H a=some (.ins C dx fs))(c:ϗ X.K C)(n:Φ X.K C f)(l:fs.lookup f=some v)(h:∀u s',Inv X ϵ σ H s'->RelV v u->Q u s'):π (Ϧ X.prog X.w) A (getAttr (.ref a) f b) Q E s:=by
 let#[mA,O,r,_,_,_]:=xF I.hok e;let#[u,i,g]:=bM.some_of (v:=v) (o:=mA f) (by rw[<-l];show r f);show get_map I.kIn O (c.get f) c.hd n i (ad6 g) (h u _ (I.tok _) g)
theorem Vi{m:Str}{g:δ}{pl:Sem Bool}{Q:ε×List ε->μ->Prop}(I:Inv X ϵ σ H s)(e:H a=some (.ins C dx fs))(c:ϗ X.K C)(k:Meth X.K C m g)(l:fs.lookup m=none)(h:Q (.ref g,[.ref a]) s):π (Ϧ X.prog X.w) A (getMethod (.ref a) m pl) Q E s:=by
 let#[mA,O,r,_,_,_]:=xF I.hok e;let f:mA m=none:=bM.none_of (by rw[<-l];show r m);show ai4 I.kIn O (c.get m) k.at_ k.fn f h
theorem Od{y:V}{u:ε}{Q:Unit->μ->Prop}(I:Inv X ϵ σ H s)(e:H a=some (.ins C dx fs))(c:ϗ X.K C)(n:Φ X.K C f)(B:fs.length<1000)(ry:RelV y u)(h:∀s',Inv X ϵ σ (upd H a (.ins C dx (ϛ f y fs))) s'->Q PUnit.unit s'):π (Ϧ X.prog X.w) A (setAttr (.ref a) f u) Q E s:=by
 let#[mA,O,r,j,_,l]:=xF I.hok e;let hz:(fs.map (·.1)).length<=ϰ:=by rw[aaz,ϱ];omega
 show Zo I.kIn O c.sa c.po n.taker c.hd j hz λh' i m=>h _ ?_
 let hd:∃o,h'.get? dx=some o:=let⟨o,_,_,e',_⟩:=i.ns;#[o,e'];show I.write (x:=a) (e:=dx) (by rw[e];show True.intro) (.inr l) (λb q p z=>(m.2 b p).trans z) hd ?_;show#[by rw[ο O.ne];show l,?_,O.ne,i.obj,_,i.ns,λg=>?_,λg v=>?_]
 .have :=jK f y fs;omega
 .show bM ((ϛ f y fs).lookup g) (if g=f then some u else mA g);rw[Ly];by_cases q:g=f
  .rw[if_pos q,if_pos q];show ry
  .rw[if_neg q,if_neg q];show r g
 .by_cases q:g=f
  .rw[q];show(DK f y fs).1
  .show(DK f y fs).2 g (j g λz=>v ?_);show(if g=f then some u else mA g)=none;rw[if_neg q];show z
theorem Inv.made(I:Inv X ϵ σ H s):Inv X ϵ σ (upd (upd H s.heap.objs.size (.own (s.heap.objs.size+1))) (s.heap.objs.size+1) (.ins C s.heap.objs.size []))
  {s with heap:=(s.heap.push alY).push (aoc C s.heap.objs.size)}:=by
 let e1:(s.heap.push alY).get? s.heap.objs.size=some alY:=abi s.heap rfl;let c:((s.heap.push alY).push (aoc C s.heap.objs.size)).get? (s.heap.objs.size+1)=some (aoc C s.heap.objs.size):=by
  have:=abi (s.heap.push alY) (o:=aoc C s.heap.objs.size) rfl
  rwa [akj]at this
 let f:(s.heap.push alY).Ns s.heap.objs.size (λ_=>none):=#[alY, #v[],_,e1,rfl,(λe g=>absurd g (by simp)),λ_=>rfl];let i:=I.laid (a:=s.heap.objs.size) (o:=.own (s.heap.objs.size+1)) (h':=s.heap.push alY) (t':=s.toks) (λb u q=>ϲ _ q) (Ϭ _) #[_,e1];show i.laid (a:=s.heap.objs.size+1) (o:=.ins C s.heap.objs.size []) (t':=s.toks) (λb u q=>ϲ _ q) (amJ (akj _ _)) ?_;let ne:s.heap.objs.size≠s.heap.objs.size+1:=ab7 (apE _);show#[by rw[ο ne,υ],agz _,ne,c,λ_=>none,(Heap.Ns1.of_empty f).at λo q=>ϲ _ q,λ_=>True.intro,λy j=>absurd rfl j]
theorem Kw{prog:ϯ}{w:ϭ}{env:Env}{e:ϧ}{f:Str}{pos:Pos}{s:μ}{Q:ε->μ->Prop}(c:attributeBase e f env (eval e env)=eval e env)(h:π (Ϧ prog w) A (eval e env) (λo a=>π (Ϧ prog w) A (getAttr o f true) Q E a) E s):π (Ϧ prog w) A (eval (.Attribute e f pos) env) Q E s:=
 Attribute_any_ h (by rw[arm_eval_Attribute,c])
end
def adO(K:ϩ)(ta tv:TE)(f:Str):TS:=λD σ H=>tv σ H λy H1=>ta σ H1 λx H2=>∃a C dx fs,x=.ref a/\H2 a=some (.ins C dx fs)/\ϗ K C/\ Φ K C f/\fs.length<1000/\
 D.nx σ (upd H2 a (.ins C dx (ϛ f y fs)))
def XN(X:Cx)(op:Operator)(rd:V->V->Hp->VK->Prop):Prop:=
 ∀(ϵ:List (δ×Obj))(s:μ)(σ:St)(H:Hp)(x y:V)(u v:ε)(Q:VK),Inv X ϵ σ H s->RelV x u->RelV y v->rd x y H Q->π (Ϧ X.prog X.w) X.A (inplaceOp op u v) (EP X ϵ σ Q) X.xe s
def ahV(K:ϩ)(ta tv:TE)(rd:V->V->Hp->VK->Prop)(f:Str):TS:=λD σ H=>ta σ H λx H1=>∃a C dx fs v,x=.ref a/\H1 a=some (.ins C dx fs)/\ϗ K C/\ Φ K C f/\fs.lookup f=some v/\
 tv σ H1 λy H2=>rd v y H2 λz e=>∃c fs',e a=some (.ins C c fs')/\fs'.length<1000/\D.nx σ (upd e a (.ins C c (ϛ f z fs')))
section
variable{X:Cx}{o e value:ϧ}{f:Str}{pos pos' tpos:Pos}{ta tv:TE}
theorem afz(e:PE X o ta)(g:PE X value tv)(hs:amu value (some (.Attribute o f pos')) pos.line X.env=pure false):PS X (.Assign [.Attribute o f pos'] value pos) (adO X.K ta tv f):=by
 intro ϵ s σ H D I h;show plainObj_wpAny_Assign_Attribute (χ (g ϵ s σ H _ I h) λu i ⟨y,H1,j,ry,q⟩=>χ (e ϵ i σ H1 _ j q) λm E p=>?_) hs;let#[x,H2,v,rx,a,C,dx,fs,ex,ea,c,n,l,z]:=p;subst ex;obtain rfl:m=Value.ref a:=rx;show Od v ea c n l ry λF B=>#[σ,_,B,z]
theorem agA{op:Operator}{rd:V->V->Hp->VK->Prop}(j:PE X o ta)(m:PE X value tv)(e:XN X op rd):PS X (.AugAssign (.Attribute o f tpos) op value pos) (ahV X.K ta tv rd f):=by
 intro ϵ s σ H D I h;show wpAny_AugAssign_AttributeAny (χ (j ϵ s σ H _ I h) λp U g=>?_);let#[x,H1,B,rx,a,C,dx,fs,v,ex,ea,c,n,l,q]:=g;subst ex;obtain rfl:p=Value.ref a:=rx;show U8 B ea c n l λu E F G=>χ (m ϵ E σ H1 _ F q) λJ L ⟨y,H2,M,ry,O⟩=>χ (e ϵ L σ H2 v y u J _ M G ry O) λW Y g=>?_
 let#[z,Z,P,Q,R,fs',i,l',S]:=g;show Od P i c n l' Q λs5 T=>#[σ,_,T,S]
def VG:V->V->Hp->VK->Prop:=λx y H Q=>∃i j,x=.int i/\y=.int j/\Q (.int (i+j)) H
theorem akn:XN X .Add VG:=by
 rintro ϵ s σ H x y u v Q I rx ry ⟨i,j,rfl,rfl,q⟩
 let#[t,rfl]:=(show ∃t,u=Value.int i t from rx);let#[t',rfl]:=(show ∃t',v=Value.int j t' from ry);show PyProof.Rows.iadd_int #[.int (i+j),H,I.tok _,#[_,rfl],q]
end
section
variable{X:Cx}{ϵ:List (δ×Obj)}{σ:St}{H:Hp}{s:μ}{A:ϳ}{E:ε->μ->Prop}{Q:ε->μ->Prop}{c:ε}{b:Bool}
inductive cU (K:ϩ) (H:Hp):V->ε->Prop where
 |non:cU K H .non (.type "NoneType")
 |bl (x:Bool):cU K H (.bl x) (.type "bool")
 |int (i:Int):cU K H (.int i) (.type "int")
 |str (x:Str):cU K H (.str x) (.type "str")
 |flt (x:UInt64):cU K H (.flt x) (.type "float")
 |lst {a:δ} {xs:List V} (e:H a=some (.lst xs)):cU K H (.ref a) (.type "list")
 |frz {a:δ} {o:Obj} {xs:List V} (e:H a=some (.frz o (.lst xs))):cU K H (.ref a) (.type "list")
 |tup {a:δ} {xs:List V} (e:H a=some (.tup xs)):cU K H (.ref a) (.type "tuple")
 |dK {a:δ} {Ϸ:List (Key×V)} (e:H a=some (.dK Ϸ)):cU K H (.ref a) (.type "dict")
 |dT {a:δ} {Ϸ:List (List Key×V)} (e:H a=some (.dT Ϸ)):cU K H (.ref a) (.type "dict")
 |ins {a C dx:δ} {fs:List (Str×V)} (e:H a=some (.ins C dx fs)) (cl:ϗ K C) (ha:aew K (.ref C) "__class__"=some (some (.builtin "object.__class__")))
  (hn:air K (.builtin "object.__class__") "__get__"=some (some (.builtin "getset_descriptor.__get__"))) (htk:aoD K (.builtin "object.__class__")=some true)
  (hm:anF K C (.type "object")=some true):cU K H (.ref a) (.ref C)
theorem adQ{x:V}{u t:ε}(I:Inv X ϵ σ H s)(rx:RelV x u)(ty:cU X.K H x t)(e:aoy X.K t c=some b)(h:∀tk,Q (.bool b) {s with toks:=tk}):π (Ϧ X.prog X.w) A (call (.builtin "isinstance") [u,c]) Q E s:=by
 cases ty with
 |non=>cases(show u=Value.none from rx);show amN W.kitx_none I.kIn True.intro e (λz=>nomatch z) h
 |bl y=>cases(show u=Value.bool y from rx);show amN W.kitx_bool I.kIn True.intro e (λz=>nomatch z) h
 |int i=>let#[t,q]:=(show ∃t,u=Value.int i t from rx);cases q;show amN W.kitx_int I.kIn True.intro e (λz=>nomatch z) h
 |str y=>let#[t,q]:=(show ∃t,u=Value.str y t from rx);cases q;show amN W.kitx_str I.kIn True.intro e (λz=>nomatch z) h
 |flt y=>let#[t,q]:=(show ∃t,u=Value.float y t from rx);cases q;show amN W.kitx_float I.kIn True.intro e (λz=>nomatch z) h
 | @lst a xs ea=>
   cases(show u=Value.ref a from rx);let#[_,_,n,_,h1]:=(show ϔ X.prog X.w H s.heap a (.lst xs)from I.hok a _ ea);show amN W.kitx_list I.kIn #[_,h1,rfl] e (λz=>nomatch z) h
 | @frz a g xs ea=>
   cases(show u=Value.ref a from rx);let#[_,_,_,n,_,h1]:=(show ϔ X.prog X.w H s.heap a (.frz g (.lst xs))from I.hok a _ ea);show amN W.kitx_list I.kIn #[_,h1,rfl] e (λz=>nomatch z) h
 | @tup a xs ea=>
   cases(show u=Value.ref a from rx);let#[_,_,_,p]:=(show ϔ X.prog X.w H s.heap a (.tup xs)from I.hok a _ ea);let#[o,h1,h2,_]:=p;show amN W.kitx_tuple I.kIn #[o,h1,h2] e (λz=>nomatch z) h
 | @dK a Ϸ ea=>
   cases(show u=Value.ref a from rx);let#[_,_,vs,_,p]:=(show ϔ X.prog X.w H s.heap a (.dK Ϸ)from I.hok a _ ea);let#[o,es,ep,h1,h2,_]:=p;show amN W.kitx_dict I.kIn #[o,h1,h2.1] e (λz=>nomatch z) h
 | @dT a Ϸ ea=>
   cases(show u=Value.ref a from rx);let#[_,_,xs,_,o,es,ep,h1,h2,_]:=(show ϔ X.prog X.w H s.heap a (.dT Ϸ)from I.hok a _ ea);show amN W.kitx_dict I.kIn #[o,h1,h2.1] e (λz=>nomatch z) h
 | @ins a C dx fs ea cl j l f m=>
   cases(show u=Value.ref a from rx);let#[mA,O,_]:=xF I.hok ea;let#[od,J,_]:=O.look;show amN (W.kitx_own (cl.get _) cl.hd j l f m) I.kIn J e (λz=>nomatch z) h
end
structure ϒ(cc:Bool)(k:Nat)(A:ϳ):Prop where
 hd:cc=true->A.handled=none
 dp:A.depth+3*k+5<recursionLimit
 un:A.units+16*k+200<cLine
theorem ϒ.mono{j k:Nat}{A:ϳ}(r:ϒ cc k A)(h:j<=k):ϒ cc j A:=#[r.hd,by have:=r.dp;omega,by have:=r.un;omega]
theorem ϒ.deeper{k:Nat}{A:ϳ}(r:ϒ cc (k+1) A)(env:Env):ϒ cc k (A.deeper env):=
 #[r.hd,by have:=r.dp;show A.depth+1+3*k+5<_;omega,by have:=r.un;show A.units+3+16*k+200<_;omega]
theorem ϒ.in1{k:Nat}{A:ϳ}(r:ϒ cc (k+1) A):ϒ cc k A.in1:=
 #[r.hd,by have:=r.dp;show A.depth+3*k+5<_;omega,by have:=r.un;show A.units+1+16*k+200<_;omega]
theorem ad3{A:ϳ}{C:δ}{us:List ε}{kw:List (Str×ε)}:(A.under (.builtin "type.__call__" #[.ref C::us,kw])).depth=A.depth+1:=by
 first|rfl|simp[Around.under,Code.weight,Code.isCreation,Code.isGuard,Code.isCaller,Code.frames,Code.isFrame,guardIds]
theorem ags{A:ϳ}{C:δ}{us:List ε}{kw:List (Str×ε)}:(A.under (.builtin "type.__call__" #[.ref C::us,kw])).units=A.units+1:=by
 first|rfl|simp[Around.under,Code.cUnits,Code.frames,Code.isFrame]
theorem ϒ.make{k:Nat}{A:ϳ}(r:ϒ cc (k+1) A)(C:δ)(us:List ε)(kw:List (Str×ε)):ϒ cc k (A.under (.builtin "type.__call__" #[.ref C::us,kw])):=
 #[r.hd,by have:=r.dp;rw[ad3];omega,by have:=r.un;rw[ags];omega]
theorem ϒ.depth{k:Nat}{A:ϳ}(r:ϒ cc k A):A.depth<recursionLimit:=by have:=r.dp;omega
theorem ϒ.units{k:Nat}{A:ϳ}(r:ϒ cc k A):A.units+64<cLine:=by have:=r.un;omega
theorem ϒ.units0{k:Nat}{A:ϳ}(r:ϒ cc k A):A.units<cLine:=by have:=r.un;omega
section
variable{X:Cx}{e:ϧ}{es:List ϧ}{te:TE}{t:TA}{pos:Pos}
end
abbrev Sp:=List V->Hp->VK->XK->Prop
abbrev eU:=List Env->Hp->μ->XK->ε->μ->Prop
structure nU(P:ϯ)(w:ϭ)(K:ϩ)(mg:Str->Option ε)(base:ϫ)(A:ϳ)(outer:List Env)(s:μ)(H:Hp):Prop where
 frames:A.frames=some outer
 mod:Mod K mg base
 bs:∀b o,base.get? b=some o->s.heap.get? b=some o/\H b=none
 bsz:base.objs.size<=s.heap.objs.size
 funs:s.heap.FunFrames base outer
 frf:∀b∈cM outer,H b=none
 hok:Ϡ P w H s.heap
 bare:AllBare s.gens
def CE(outer:List Env)(P:ϯ)(w:ϭ)(H:Hp)(s:μ)(Q:VK)(u:ε)(s':μ):Prop:=
 ∃v H',s'.os=s.os/\AllBare s'.gens/\Un (cM outer) [] H H' s.heap s'.heap/\Ϡ P w H' s'.heap/\RelV v u/\Q v H'
def CR(CX:eU)(outer:List Env)(P:ϯ)(w:ϭ)(H:Hp)(s:μ)(Q:VK)(E:XK)(r:Result)(s':μ):Prop:=
 match r with
 |.ok (.ret u)=>CE outer P w H s Q u s'
 |.ok _=>False
 |.error e=>CX outer H s E e s'
structure cG(P:ϯ)(w:ϭ)(K:ϩ)(mg:Str->Option ε)(base:ϫ)(CX:eU)(cc:Bool)(k:Nat)(f:δ)(fd:aiF)(ps:List Str)(sp:Sp):Prop where
 len:∀vs H Q E,sp vs H Q E->vs.length=ps.length
 run:∀(A:ϳ)(outer:List Env)(s:μ)(H:Hp)(args:Args)(us:List ε)(vs:List V)(Q:VK)(E:XK),ϒ cc k A->nU P w K mg base A outer s H->BindsTo s fd args (ps.zip us)->Vals vs us->sp vs H Q E->
  codeAny (Ϧ P w) A (.call (.ref f) args) (CR CX outer P w H s Q E) s
theorem cG.mono{P:ϯ}{w:ϭ}{K:ϩ}{mg:Str->Option ε}{base:ϫ}{CX:eU}{j k:Nat}{f:δ}{fd:aiF}{ps:List Str}{sp:Sp}(F:cG P w K mg base CX cc j f fd ps sp)(h:j<=k):cG P w K mg base CX cc k f fd ps sp:=#[F.len,λA outer s H a us vs Q E c=>F.run A outer s H a us vs Q E (c.mono h)]
theorem nU.make{P:ϯ}{w:ϭ}{K:ϩ}{mg:Str->Option ε}{base:ϫ}{A:ϳ}{outer:List Env}{s:μ}{H:Hp}(e:nU P w K mg base A outer s H)(C:δ)(us:List ε)(kw:List (Str×ε)):nU P w K mg base (A.under (.builtin "type.__call__" #[.ref C::us,kw])) outer s H:=#[by first|show e.frames|(simpa [Around.under,Code.envs,Code.isFrame,pushEnvs]using e.frames),e.mod,e.bs,e.bsz,e.funs,e.frf,e.hok,e.bare]
section
variable{X:Cx}{ϵ:List (δ×Obj)}{σ:St}{H:Hp}{s s':μ}
theorem Inv.env0(I:Inv X ϵ σ H s):nU X.prog X.w X.K X.mg X.base X.A X.stack s H:=
 #[I.ok.frames,I.ok.mod,I.bs,aes I.ok.bsz I.sz,I.stack,I.stkFree,I.hok,I.bare]
theorem Inv.after{Q:VK}{u:ε}(I:Inv X ϵ σ H s)(h:CE X.stack X.prog X.w H s Q u s'):EP X ϵ σ Q u s':=by
 let#[v,H',os,bare,un,hok,r,q]:=h;let#[c,g,d,t,a]:=s';obtain rfl:a=s.os:=os;show#[v,H',I.call (h':=c) (g':=g) (d':=d) (t':=t) (ch:=[]) un hok bare (λb z=>absurd z (by simp)),r,q]
end
def Binds(K:ϩ)(fd:aiF)(ps:List Str)(ds:List ε):Prop:=
 ∀(s:μ)(us:List ε),K.In s.heap->(us++ds).length=ps.length->BindsTo s fd #[us,[]] (ps.zip (us++ds))
theorem Binds.all{K:ϩ}{fd:aiF}{ps:List Str}(h:∀us:List ε,us.length=ps.length->bindArgs fd #[us,[]]=pure (ps.zip us)):Binds K fd ps []:=λs us _ a=>by
 rw[ag5]at a⊢;show .of_eq (h us a)
section
variable{X:Cx}{CX:eU}{k:Nat}{f C:δ}{fd:aiF}{ps:List Str}{sp:Sp}{dvs:List V}{ds:List ε}{E:XK}{x m:Str}{p pos apos:Pos}{e o:ϧ}{es:List ϧ}{ta:TE}{t:TA}
structure Mk(K:ϩ)(C f:δ):Prop where
 makes:apT K C=true
 init:aew K (.ref C) "__init__"=some (some (.ref f))
 fn:apm K (.ref f)=true
 kp:anJ K (.ref C)=true
end
section
variable{X:Cx}{CX:eU}{k:Nat}{f C:δ}{fd:aiF}{ps ks:List Str}{sp:Sp}{E:XK}{x m:Str}{p pos apos kpos:Pos}{e o:ϧ}{es:List ϧ}{kws:List Keyword}{te ta:TE}{t tk:TA}{nm:Option Str}
variable{g:List ε->List ε->List ε}{gV:List V->List V->List V}
end
structure Ο(N P:List Str)(sc:ah9):Prop where
 kind:sc.kind=.function
 co:sc.isCoroutine=false
 gen:sc.isGenerator=false
 nd:N.Nodup
 pre:N.take P.length=P
 par:∀x∈P,sc.names.lookup x=some .local\/sc.names.lookup x=some .cell
 nofree:∀y∈sc.names,y.2≠.free
theorem Rb{kindOf:Str->Option an5}{x:Str}:∀{binds:List (Str×ε)}{m:Str->Option ε},(∀v,(x,v)∉binds)->bindL kindOf binds m x=m x
 |[],_,_=>rfl
 |(n,v)::r,m,h=>by
  unfold bindL;rw[Rb λw a=>h w (acY _ a)];split
  .have :x≠n:=by rintro rfl;show h v adV
   simp[this]
  .rfl
theorem Iw{kindOf:Str->Option an5}{x:Str}:∀{binds:List (Str×ε)}{m:Str->Option ε},(∀v,(x,v)∉binds)->bindC kindOf binds m x=m x
 |[],_,_=>rfl
 |(n,v)::r,m,h=>by
  unfold bindC;rw[Iw λw a=>h w (acY _ a)];split
  .rfl
  .have :x≠n:=by rintro rfl;show h v adV
   simp[this]
theorem Qd{kindOf:Str->Option an5}{x:Str}{v:ε}:∀{P:List Str}{vs:List ε}{i:Nat}{m:Str->Option ε},P.Nodup->P[i]?=some x->vs[i]?=some v->kindOf x=some .local->
  bindL kindOf (P.zip vs) m x=some v
 |[],_,_,_,_,h,_,_=>by simp at h
 |_::_,[],_,_,_,_,h,_=>by simp at h
 |p::P,w::vs,0,m,nd,h1,h2,a=>by
  simp at h1 h2;subst h1;subst h2;show bindL kindOf ((p,w)::P.zip vs) m p=_;unfold bindL;rw[Rb λv c=>(amR.mp nd).1 (ao0 c).1,if_pos a];simp
 |p::P,w::vs,i+1,m,nd,h1,h2,a=>by
  show bindL kindOf ((p,w)::P.zip vs) m x=_;unfold bindL;show Qd (i:=i) (amR.mp nd).2 (by simpa using h1) (by simpa using h2) a
theorem Ji{kindOf:Str->Option an5}{x:Str}{v:ε}:∀{P:List Str}{vs:List ε}{i:Nat}{m:Str->Option ε},P.Nodup->P[i]?=some x->vs[i]?=some v->kindOf x≠some .local->
  bindC kindOf (P.zip vs) m x=some v
 |[],_,_,_,_,h,_,_=>by simp at h
 |_::_,[],_,_,_,_,h,_=>by simp at h
 |p::P,w::vs,0,m,nd,h1,h2,a=>by
  simp at h1 h2;subst h1;subst h2;show bindC kindOf ((p,w)::P.zip vs) m p=_;unfold bindC;rw[Iw λv c=>(amR.mp nd).1 (ao0 c).1,if_neg a];simp
 |p::P,w::vs,i+1,m,nd,h1,h2,a=>by
  show bindC kindOf ((p,w)::P.zip vs) m x=_;unfold bindC;show Ji (i:=i) (amR.mp nd).2 (by simpa using h1) (by simpa using h2) a
def start(N:List Str)(vs:List V):St:=vs.map some++aml (N.length-vs.length) none
def km(cc:Bool)(CX:eU)(P:ϯ)(w:ϭ)(K:ϩ)(mg:Str->Option ε)(base:ϫ)(N:List Str)(qual:Str)(scope:ah9)(f:δ)(cd:ε)(A:ϳ)(outer:List Env)(s:μ)(H:Hp)(E:XK):Cx where
 prog:=P
 w:=w
 K:=K
 mg:=mg
 base:=base
 A:=A.deeper (envOfC qual scope s.heap.objs.size f cd)
 N:=N
 s₀:=s
 H₀:=H
 env:=envOfC qual scope s.heap.objs.size f cd
 outer:=outer
 stack:=envOfC qual scope s.heap.objs.size f cd::outer
 ex:=[]
 calm:=cc
 fn:=λ_=>true
 pn:=[]
 xe:=λe s'=>π (Ϧ P w) (A.deeper (envOfC qual scope s.heap.objs.size f cd)) (leaving (envOfC qual scope s.heap.objs.size f cd) e) (λ_ a=>CX outer H s E e a) (λc a=>CX outer H s E c a) s'
theorem JF{sc:ah9}{n:Nat}{x:Str}(h:sc.names.lookup x=some .cell):∃c,(cellsFrom n sc.names []).lookup x=some c:=by
 let q:=apF sc.names n [] (.inl h);show alC.mp q
theorem ahE{CX:eU}{P:ϯ}{w:ϭ}{K:ϩ}{mg:Str->Option ε}{base:ϫ}{N ps:List Str}{qual:Str}{scope:ah9}{f:δ}{cd:ε}{A:ϳ}{outer:List Env}{s s1:μ}{H:Hp}{E:XK}{us:List ε}{vs:List V}(S:Ο N ps scope)(hd:cc=true->A.handled=none)(g:nU P w K mg base A outer s H)(G:vs.length=ps.length)(r:Vals vs us)(x:InCallC s s.heap.objs.size (bindL (envOfC qual scope s.heap.objs.size f cd).kindOf (ps.zip us) λ_=>none) (cellsFrom (s.heap.objs.size+1) scope.names []) (bindC (envOfC qual scope s.heap.objs.size f cd).kindOf (ps.zip us) λ_=>none) s1):Inv (km cc CX P w K mg base N qual scope f cd A outer s H E) [] (start N vs) H s1:=by
 let C:ps.length<=N.length:=by have:=congrArg aoO S.pre;rw[ahH]at this;omega
 let#[h1,tk,rfl,o]:=x.done;let j:∀b:δ,b∉(km cc CX P w K mg base N qual scope f cd A outer s H E).ex:=λb z=>absurd (show b∈([]:List δ)from z) (by simp)
 show#[#[g.mod,S.kind,rfl,rfl,Ϭ _,λy z c h1 h2=>?_,λy hy=>?_,λy c _ h=>?_,hd,Around.frames_deeper g.frames,.inr #[rfl,rfl],λb z=>absurd z (j b),g.bs,g.bsz,λb _ _=>j b,λb z=>absurd z (j b),g.funs,g.frf],
  rfl,g.bare,Un.kept o,#[_,x.toInCall.ns,λi y v h1 h2 I=>?_],λy c h=>#[_,x.cell y c h],g.hok.fresh (Ϭ _),λy c h=>?_,λp l=>absurd (show p∈([]:List (δ×Obj))from l) (by simp),g.hok.kept o,?_]
 .show name_of_addr x.apart (PySem.mem_of_lookup h1) (PySem.mem_of_lookup h2)
 .let hy:scope.names.lookup y=some .cell\/scope.names.lookup y=some .free:=hy;obtain hy|hy:=hy
  .show JF hy
  .show absurd rfl (S.nofree _ (PySem.mem_of_lookup hy))
 .show aod (x.above y c (PySem.mem_of_lookup h))
 .let hi:i<vs.length:=by
   unfold start at h2;by_cases hi:i<vs.length
   .show hi
   .rw[akQ (by simpa using hi)]at h2;rw[List.getElem?_replicate]at h2;split at h2<;>cases h2
  let D:vs[i]?=some v:=by
   unfold start at h2;rw[ajS (by simpa using hi),abh]at h2;cases e:vs[i]? with
   |none=>rw[e]at h2;cases h2
   |some a=>rw[e]at h2;cases h2;rfl
  let#[u,B,F]:=r.get D;let l:ps[i]?=some y:=by
   rw[<-S.pre,List.getElem?_take_of_lt ()];show h1
  let m:ps.Nodup:=by rw[<-S.pre];show S.nd.sublist (List.take_sublist _ _)
  show#[u,F,?_];rcases S.par y (aaq l)with k|k
  .show .inl #[k,Qd m l B k]
  .let#[c,e]:=JF (n:=s.heap.objs.size+1) k;show .inr #[.inl k,c,e,?_];let q:=x.cell y c e;rw[Ji m l B (by show scope.names.lookup y≠_;rw[k];decide)]at q;show q
 .show g.hok.fresh (aod (x.above y c (PySem.mem_of_lookup h)))
 .unfold start;show _=N.length;rw[abu,aaz,ao1];omega
theorem QM{CX:eU}{P:ϯ}{w:ϭ}{K:ϩ}{mg:Str->Option ε}{base:ϫ}{k:Nat}{f:δ}{name qual:Str}{a:Arguments}{body:List Ϩ}{scope:ah9}{dV kV j pm c ct oc:ε}{an od:Option δ}{p:Array (Option ε)}{N ps:List Str}{sp:Sp}(lk:K.lookup f=some #[oc,od,.func (apf name qual a body scope dV kV j pm an c ct),p])(z:aoP K c qual=true)(S:Ο N ps scope)(len:∀vs H Q E,sp vs H Q E->vs.length=ps.length)(g:∀(A:ϳ)(outer:List Env)(s:μ)(H:Hp)(vs:List V)(Q:VK)(E:XK),ϒ cc k (A.deeper (envOfC qual scope s.heap.objs.size f c))->sp vs H Q E->
   ∃t,zx (km cc CX P w K mg base N qual scope f c A outer s H E) body t/\t {nx:=λ_ H'=>Q .non H',rt:=Q} (start N vs) H):cG P w K mg base CX cc (k+1) f (apf name qual a body scope dV kV j pm an c ct) ps sp:=by
 show#[len,λA outer s H F us vs Q E B l L r m=>?_];let M:=len _ _ _ _ m;let G:K.In s.heap:=l.mod.kin.keeps λb o e=>(l.bs b o e).1
 let C:s.heap.NoLimit:=l.mod.nolimit.keeps λb o e=>(l.bs b o e).1
 let i:∀y∈ps.zip us,scope.names.lookup y.1=some .local\/(scope.names.lookup y.1=some .cell/\((cellsFrom (s.heap.objs.size+1) scope.names []).lookup y.1).isSome=true):=λ⟨n,v⟩ O=>by
  obtain q|q:=S.par n (ao0 O).1
  .show .inl q
  .show .inr #[q,apF _ _ _ (.inl q)]
 show codeAny_call_function B.depth (G _ _ lk) rfl S.co S.gen rfl (W.codeRec_of G z) (L _ _ _ _ ?_);show wpAny_newFunctionEnv_cells S.kind i λenv R s1 x=>?_
 subst R;show#[C.keeps x.toInCall.keep,codeAny_func ?_];let#[t,T,U]:=g A outer s H vs Q E (B.deeper _) m;let I:Inv (km cc CX P w K mg base N qual scope f c A outer s H E) [] (start N vs) H s1:=ahE S B.hd l M r x;show adk (T [] s1 (start N vs) H _ I U) (λX s' hs=>?_) λe s' hs=>hs
 let fin:∀{σ':St}{H':Hp}{v:V}{u:ε},Inv (km cc CX P w K mg base N qual scope f c A outer s H E) [] σ' H' s'->RelV v u->Q v H'->CE outer P w H s Q u s':=
  λ{σ' H' v u} J D q=>#[v,H',J.os,J.bare,J.base,J.hok,D,q]
 cases X with
 |ret u=>
  let#[v,σ',H',J,D,q]:=hs;show fin J D q
 |next=>
  let#[σ',H',J,q]:=hs;show fin (v:=V.non) (u:=Value.none) J rfl q
 |brk=>
  let#[_,_,_,q]:=hs;show False.elim q
 |cont=>
  let#[_,_,_,q]:=hs;show False.elim q
section
variable{X:Cx}{x:Str}{p pos:Pos}{e:ϧ}{es:List ϧ}{t:TA}{id T:String}{r:List V->Hp->VK->Prop}
end
end _L
namespace _H
open PySem PyProof.Rows
section
open PySem.SeqAt
open PySem.AutoSeq1 (wpAny_loadPart')
open PySem.MeetsSeq PySem.MeetsSeq2 PySem.MeetsSeq3
end
section
variable{prog:ϯ}{w:ϭ}{A:ϳ}{E:ε->μ->Prop}{s:μ}
theorem YW{t b:δ}{vs ws:List ε}{Q:ε->μ->Prop}(q:IsTup s.heap t vs.toArray)(u:IsTup s.heap b ws.toArray)(m:vs≠[])(h1:ws=[]->Q (.ref t) s)(h2:ws≠[]->Q (.ref s.heap.objs.size) {s with heap:=s.heap.push {cls:=.type "tuple",data:=.seq (vs++ws).toArray}})(hsz:vs.length+ws.length<=ϰ):π (Ϧ prog w) A (binaryOp .Add (.ref t) (.ref b)) Q E s:=by
 let#[#[cls,dd,data,sl],j,o,n,hd]:=id q;let#[#[p,c,data2,f],a,g,n2,i]:=id u;simp only at o hd g i;subst o hd g i;let e:vs.toArray++ws.toArray=(vs++ws).toArray:=by simp
 by_cases l:ws=[]
 .show concat_meets #[_,j,rfl] #[_,a,rfl] noFill_tuple_add seq_tuple_add PySem.F.slot_tuple_add PySem.F.entry_tuple_add (PySem.F.args_tuple_add_2 _ _)
   (tuple_addW1 t b vs.toArray ws.toArray n n2 dd c sl f (by simpa using m) (by simp[l])) #[j,a,h1 l]
 .show concat_meets #[_,j,rfl] #[_,a,rfl] noFill_tuple_add seq_tuple_add PySem.F.slot_tuple_add PySem.F.entry_tuple_add (PySem.F.args_tuple_add_2 _ _)
   (tuple_addW2 t b vs.toArray ws.toArray n n2 dd c sl f (by simpa using m) (by simpa using l) (by rw[aaH,aaH];show hsz)) #[j,a,?_]
  rw[e];show h2 l
def Α(n d:Nat):Option Int->Nat
 |none=>d
 |some v=>if v<0 then(v+(n:Int)).toNat else min v.toNat n
theorem tu(n d:Nat):Α n d none=d:=rfl
theorem pO(n d k:Nat):Α n d (some (k:Int))=min k n:=by
 show(if(k:Int)<0 then((k:Int)+(n:Int)).toNat else min (k:Int).toNat n)=min k n;rw[if_neg (),aoE]
theorem Eb(n d:Nat)(hd:d<=n)(o:Option Int):Α n d o<=n:=by
 cases o with
 |none=>show hd
 |some v=>
  show(if v<0 then(v+(n:Int)).toNat else min v.toNat n)<=n;by_cases a:v<0
  .rw[if_pos a];omega
  .rw[if_neg a];show aoh _ _
theorem Bx(v:Int)(n d:Nat):(if v<0 then max (v+(n:Int)) 0 else min v (n:Int))=((Α n d (some v):Nat):Int):=by
 show(if v<0 then max (v+(n:Int)) 0 else min v (n:Int))=(((if v<0 then(v+(n:Int)).toNat else min v.toNat n):Nat):Int);by_cases a:v<0
 .simp only[if_pos a];omega
 .simp only[if_neg a];omega
theorem ZG(lo hi:Option Int)(n:Nat):Builtin.Slice.sliceAdjust lo hi 1 (n:Int)=(((Α n 0 lo:Nat):Int),((Α n n hi:Nat):Int)):=by
 let h1:¬((1:Int)<0):=()
 unfold Builtin.Slice.sliceAdjust;simp only[h1,if_false];show Prod.ext ?_ ?_
 .cases lo with
  |none=>rfl
  |some v=>show Bx v n 0
 .cases hi with
  |none=>rfl
  |some v=>show Bx v n n
theorem ajk(i j:Nat):Builtin.Slice.slicePlaces (i:Int) (j:Int) 1=j-i:=by
 unfold Builtin.Slice.slicePlaces;let h1:(1:Int)>0:=()
 simp only[h1,if_true,Int.ediv_one];split <;>omega
theorem Ko{v:ε}{o:Option Int}{Q:Option Int->μ->Prop}(p:IsPart v o)(h:Q o s):π (Ϧ prog w) A (Builtin.Slice.slicePartIndex v) Q E s:=by
 cases p with
 |none=>show slicePart_none h
 |int i t=>show slicePart_int h
theorem Z0{sl:δ}{e f:ε}{lo hi:Option Int}{n:Nat}{Q:Int×Int×Nat->μ->Prop}(hs:s.heap.IsSliceOf sl e f .none)(pl:IsPart e lo)(g:IsPart f hi)(h:Q (((Α n 0 lo:Nat):Int),1,Α n n hi- Α n 0 lo) s):π (Ϧ prog w) A (Builtin.Slice.sliceApplied (.ref sl) (pure (n:Int))) Q E s:=by
 let#[os,a,i,c]:=id hs;unfold Builtin.Slice.sliceApplied Builtin.Slice.sliceFields;show ν (ν (ahc a c (x:=e) rfl (ν (ahc a c (x:=f) rfl (ν (ahc a c (x:=.none) rfl (Ϯ ?_)))))));show ν (slicePart_none ?_);show π _ _ (if((1:Int)==0)=true then _ else _) _ _ s;rw[if_neg (by decide)];show ν (Ko pl (ν (Ko g (ν (Ϯ ?_)))));show π _ _ (match Builtin.Slice.sliceAdjust lo hi 1 (n:Int)with|(lo,hi)=>pure (lo,(1:Int),Builtin.Slice.slicePlaces lo hi 1)) _ _ s;rw[ZG lo hi n];show π _ _ (pure (((Α n 0 lo:Nat):Int),(1:Int),Builtin.Slice.slicePlaces ((Α n 0 lo:Nat):Int) ((Α n n hi:Nat):Int) 1)) _ _ s;rw[ajk];show Ϯ h
theorem ad1(xs:Array ε)(i k:Nat):((aeJ k).filterMap λ(m:Nat)=>xs[((i:Int)+(m:Int)*1).toNat]?).toArray=((xs.toList.drop i).take k).toArray:=by
 let e:(λ(m:Nat)=>xs[((i:Int)+(m:Int)*1).toNat]?)=λm=>xs[i+m]? :=by
  funext m;have:((i:Int)+(m:Int)*1).toNat=i+m:=()
  rw[this]
 rw[e];have:=pick_run xs i k;rw[List.filterMap_map]at this;let a:((λx=>xs[x]?)∘λx=>i+x)=λm=>xs[i+m]? :=rfl
 rw[a]at this;rw[this]
theorem aiU{t sl:δ}{a:Array ε}{l n:ε}{lo hi:Option Int}{Q:ε->μ->Prop}(e:IsTup s.heap t a)(hs:s.heap.IsSliceOf sl l n .none)(pl:IsPart l lo)(o:IsPart n hi)(p:¬(Α a.size 0 lo=0/\ Α a.size a.size hi=a.size))(h:Q (.ref s.heap.objs.size) {s with heap:=s.heap.push {cls:=.type "tuple",data:=.seq ((a.toList.drop (Α a.size 0 lo)).take (Α a.size a.size hi- Α a.size 0 lo)).toArray}})(hsz:a.size<=ϰ):π (Ϧ prog w) A (getItem (.ref t) (.ref sl)) Q E s:=by
 let c:sizeOk (.seq ((a.toList.drop (Α a.size 0 lo)).take (Α a.size a.size hi- Α a.size 0 lo)).toArray):=by
  show((a.toList.drop (Α a.size 0 lo)).take (Α a.size a.size hi- Α a.size 0 lo)).toArray.size<=ϰ;rw[aaH,ahH,adH,akt];omega
 let v:Α a.size a.size hi<=a.size:=Eb _ _ (Ϭ _) hi;let#[os,f,g,u]:=id hs;let i:s.TypeIs (.ref sl) "slice":=#[os,f,g];unfold getItem
 try with_reducible show afm ?_
 first|show ν (Ϯ ?_)|skip
 show ν (wpAny_sequenceKey e.typeIs (by decide) ?_);show ν (anT (name:=Ϫ "__getitem__") e.typeIs PyProof.Rows.slot_tuple_getitem
  (wpAny_call_entry PyProof.Rows.slot_tuple_getitem e.typeIs entry_tuple_getitem ?_ (args_tuple_getitem _ _)))
 show π _ _ (Builtin.Tuple.tupleItemsOf (.ref t)>>=_) _ _ s;show ν (tupleItemsOf_ e ?_);show ν (wpAny_typeOf i ?_);rw[if_pos (by decide)];show ν (Z0 hs pl o ?_);let j:¬((((Α a.size 0 lo:Nat):Int)==0&&(1:Int)==1&&(Α a.size a.size hi- Α a.size 0 lo)==a.size)=true):=by
  intro q;rw[aaW,aaW]at q;let x:((Α a.size 0 lo:Nat):Int)=0:=eq_of_beq q.1.1;let y:Α a.size a.size hi- Α a.size 0 lo=a.size:=eq_of_beq q.2;show p #[(),()]
 show π _ _ (if(((Α a.size 0 lo:Nat):Int)==0&&(1:Int)==1&&(Α a.size a.size hi- Α a.size 0 lo)==a.size)=true then _ else _) _ _ s;rw[if_neg j,ad1]
 first
  |show ν (m:=Builtin.Tuple.tupleExact _) (ajY (Ϯ #[_,rfl,Ϯ h]) c)
  |show ν (m:=Builtin.Tuple.tupleExact _) (ajY (ν (Ϯ (Ϯ #[_,rfl,Ϯ h]))) c)
  |show ν (ν (m:=Builtin.Tuple.tupleExact _) (ajY (Ϯ (Ϯ #[_,rfl,Ϯ h])) c))
  |show ν (ν (m:=Builtin.Tuple.tupleExact _) (ajY (Ϯ #[_,rfl,Ϯ h]) c))
end
end _H
namespace _L
open PySem PySem.Spec PyProof.Rows
abbrev TO:=St->Hp->(Option Int->Hp->Prop)->Prop
def PO(X:Cx)(e:Option ϧ)(t:TO):Prop:=
 ∀(ϵ:List (δ×Obj))(s:μ)(σ:St)(H:Hp)(Q:Option Int->Hp->Prop),Inv X ϵ σ H s->t σ H Q->
  π (Ϧ X.prog X.w) X.A (evalPart e X.env) (λu s'=>∃o H',Inv X ϵ σ H' s'/\IsPart u o/\Q o H') X.xe s
def adR:TO:=λ_ H Q=>Q none H
def aeR(t:TE):TO:=λσ H Q=>t σ H λx H1=>∃i,x=.int i/\Q (some i) H1
section
variable{X:Cx}{e:ϧ}{te:TE}{lo hi:Option ϧ}{tl th:TO}{pos p2:Pos}
theorem aji:PO X none adR:=by
 intro ϵ s σ H Q I h;rw[evalPart_none];show Ϯ #[none,H,I,.none,h]
theorem ajR(h:PE X e te):PO X (some e) (aeR te):=by
 intro ϵ s σ H Q I a;rw[evalPart_some];show χ (h ϵ s σ H _ I a) λu j c=>?_
 let#[x,H1,f,r1,g]:=c;let#[i,rfl,q]:=g;let#[t,rfl]:=r1;show#[some i,H1,f,.int i t,q]
def rJ(X:Cx)(r:V->Option Int->Option Int->Hp->VK->Prop):Prop:=
 ∀(ϵ:List (δ×Obj))(s:μ)(σ:St)(H:Hp)(x:V)(v a c:ε)(lo hi:Option Int)(sl:δ)(Q:VK),Inv X ϵ σ H s->RelV x v->s.heap.IsSliceOf sl a c .none->IsPart a lo->IsPart c hi->r x lo hi H Q->
  ∃T id,typeLookup (.type T) "__getitem__"=pure (some (.builtin id))/\s.TypeIs v T/\π (Ϧ X.prog X.w) X.A (getItem v (.ref sl)) (EP X ϵ σ Q) X.xe s
def bH(xs:List V)(lo hi:Option Int):List V:=(xs.drop (_H.Α xs.length 0 lo)).take (_H.Α xs.length xs.length hi-_H.Α xs.length 0 lo)
theorem Ir(xs:List V)(lo hi:Option Int):(bH xs lo hi).length<=xs.length:=by
 unfold bH;rw[ahH,adH];omega
def ZD(K:ϩ):V->Option Int->Option Int->Hp->VK->Prop:=λx lo hi H Q=>∃a xs,x=.ref a/\ρ K H a xs/\
 ¬(_H.Α xs.length 0 lo=0/\_H.Α xs.length xs.length hi=xs.length)/\∀p,H p=none->Q (.ref p) (upd H p (.tup (bH xs lo hi)))
theorem abZ:rJ X (ZD X.K):=by
 intro ϵ s σ H x v l m lo hi sl Q I rx hs pl f h;let#[a,xs,rfl,g,i,q]:=h;cases rx;let#[j,r,e,hz]:=I.tuple g;let c:j.toArray.size=xs.length:=by rw[aaH];show r.length.symm
 show#["tuple",_,PyProof.Rows.slot_tuple_getitem.lookup,e.typeIs,?_];show _H.aiU e hs pl f (by rw[c];show i) ?_ (by rw[c];show hz);rw[c];show#[.ref s.heap.objs.size,_,I.laid (t':=s.toks) (o:=.tup (bH xs lo hi)) (λb n q=>ϲ _ q) (Ϭ _) ?_,rfl,q _ (I.hok.fresh (Ϭ _))];show#[aes (Ir xs lo hi) hz,_,(r.drop (_H.Α xs.length 0 lo)).take (_H.Α xs.length xs.length hi-_H.Α xs.length 0 lo),IsTup.new _ _]
def Yo(K:ϩ):R2:=λx y H Q=>∃a b xs ys,x=.ref a/\y=.ref b/\ρ K H a xs/\ρ K H b ys/\xs≠[]/\xs.length+ys.length<=ϰ/\
 (ys=[]->Q (.ref a) H)/\(ys≠[]->∀p,H p=none->Q (.ref p) (upd H p (.tup (xs++ys))))
theorem Vals.nil_iff{xs:List V}{us:List ε}(r:Vals xs us):us=[]↔xs=[]:=by
 cases r with
 |nil=>simp
 |cons _ _=>simp
theorem Zc:aQ X (binaryOp .Add) (Yo X.K):=by
 intro ϵ s σ H x y v u Q I rx ry h;let#[a,b,xs,ys,rfl,rfl,f,g,i,hz,j,l]:=h;cases rx;cases ry;let#[m,r1,p1,_]:=I.tuple f;let#[e,c,p2,_]:=I.tuple g;show _H.YW p1 p2 (λz=>i (r1.nil_iff.mp z)) (λz=>#[.ref a,H,I,rfl,j (c.nil_iff.mp z)]) (λz=>?_) (by rw[<-r1.length, <-c.length];show hz);show#[.ref s.heap.objs.size,_,I.laid (t':=s.toks) (o:=.tup (xs++ys)) (λb n q=>ϲ _ q) (Ϭ _) ?_,rfl,l (λw=>z (c.nil_iff.mpr w)) _ (I.hok.fresh (Ϭ _))];show#[by rw[abu];show hz,_,r1.append c,IsTup.new _ _]
end
def mV(n:Nat)(i:Int):Option Nat:=if 0<=i then(if i<n then some i.toNat else none)else if -(n:Int)<=i then some (i+n).toNat else none
def Ω{α:Type}(xs:List α)(i:Int):Option α:=(mV xs.length i).bind λj=>xs[j]?
theorem aau{n:Nat}{i:Int}{j:Nat}(h:mV n i=some j):seqIndex? i n=some j/\j<n/\ -(n:Int)<=i/\i<n:=by
 unfold mV at h;by_cases a:0<=i
 .rw[if_pos a]at h;by_cases h1:i<n
  .rw[if_pos h1]at h;let e:i.toNat=j:=Option.some.inj h;show#[by rw[seqIndex_of a h1,e],(),(),h1]
  .rw[if_neg h1]at h;cases h
 .rw[if_neg a]at h;by_cases h1: -(n:Int)<=i
  .rw[if_pos h1]at h;let e:(i+n).toNat=j:=Option.some.inj h;show#[by rw[seqIndex_neg () h1,e],(),h1,()]
  .rw[if_neg h1]at h;cases h
theorem Gr{α:Type}{xs:List α}{i:Int}{v:α}(h:Ω xs i=some v):∃j,seqIndex? i xs.length=some j/\xs[j]?=some v/\j<xs.length/\ -(xs.length:Int)<=i/\i<xs.length:=by
 unfold Ω at h;cases e:mV xs.length i with
 |none=>rw[e]at h;cases h
 |some j=>
  rw[e]at h;let#[h1,h2,a,c]:=aau e;show#[j,h1,h,h2,a,c]
theorem aY{α:Type}{xs:List α}{j:Nat}{v:α}(h:xs[j]?=some v):Ω xs (j:Int)=some v:=by
 let a:j<xs.length:=(aap.mp h).1;let e:mV xs.length (j:Int)=some j:=by
  unfold mV;rw[if_pos (),if_pos ()];simp
 unfold Ω;rw[e];show h
def agN(b:ϧ):=∀o i,subscripted b false o i=operate [o,i] (getItem o i)
def p8(X:Cx)(r:R2):Prop:=
 ∀(value a:ϧ)(ϵ:List (δ×Obj))(s:μ)(σ:St)(H:Hp)(x y:V)(v u:ε)(Q:VK),Inv X ϵ σ H s->RelV x v->RelV y u->r x y H Q->
  subscripted a false v u=operate [v,u] (getItem v u)->π (Ϧ X.prog X.w) X.A (subscriptTail value a v u) (EP X ϵ σ Q) X.xe s
def Bd(X:Cx)(id:String)(r:V->List V->Hp->VK->Prop):Prop:=
 ∀(ϵ:List (δ×Obj))(s:μ)(σ:St)(H:Hp)(x:V)(xs:List V)(v:ε)(us:List ε)(Q:VK),Inv X ϵ σ H s->RelV x v->Vals xs us->r x xs H Q->
  π (Ϧ X.prog X.w) X.A (call (.builtin id) (v::us)) (EP X ϵ σ Q) X.xe s
section
variable{X:Cx}{a b:ϧ}{ta tb:TE}{pos:Pos}
def QB(K:ϩ):R2:=λx y H Q=>∃p xs i v,x=.ref p/\y=.int i/\η K H p xs/\ Ω xs i=some v/\Q v H
def Sy(K:ϩ):R2:=λx y H Q=>∃p xs i v,x=.ref p/\y=.int i/\ρ K H p xs/\ Ω xs i=some v/\Q v H
def Ra:R2:=λx y H Q=>∃z i c,x=.str z/\y=.int i/\z.length<=ϰ/\ Ω z.cps.toList i=some c/\Q (.str #[#v[c]]) H
theorem aik:p8 X (QB X.K):=by
 intro value a ϵ s σ H x y v u Q I rx ry h hs;let#[p,xs,i,z,rfl,rfl,l,m,q]:=h;cases rx;let#[t,rfl]:=ry;let#[n,r,pl,hz]:=I.list l;let#[j,h1,h2,D,o,B]:=Gr m;let#[w,f,c]:=r.get h2;let C:=r.length;let E:=oY;let fin:EP X ϵ σ Q w s:=#[z,H,I,c,q];by_cases g:0<=i
 .let e:i.toNat=j:=by
   rw[seqIndex_of g B]at h1;show Option.some.inj h1
  show item_listR pl.isList g () (by rw[e];simpa using f) fin hs
 .let e:(i+(n.toArray.size:Int)).toNat=j:=by
   rw[seqIndex_neg () o]at h1;rw[aaH, <-C];show Option.some.inj h1
  show subscriptTail_builtinR (x:=w) pl.isList.typeIs slot_list_getitem.lookup
   (wpAny_getItem_list_neg (Q:=λr s'=>r=w/\EP X ϵ σ Q r s') pl.isList () (by rw[aaH]<;>omega) () (by rw[e];simpa using f) #[rfl,fin]) hs
theorem adw:p8 X (Sy X.K):=by
 intro value a ϵ s σ H x y v u Q I rx ry h hs;let#[p,xs,i,z,rfl,rfl,e,f,q]:=h;cases rx;let#[t,rfl]:=ry;let#[m,r,pl,hz]:=I.tuple e;let#[j,h1,h2,n,o,B]:=Gr f;let#[w,g,c]:=r.get h2;let l:=r.length;let C:=oY;let fin:EP X ϵ σ Q w s:=#[z,H,I,c,q];show subscriptTail_builtinR (x:=w) pl.typeIs slot_tuple_getitem.lookup
  (getItem_tuple (j:=j) (Q:=λr s'=>r=w/\EP X ϵ σ Q r s') pl () () (by rw[aaH, <-l];show h1) (by simpa using g) #[rfl,fin]) hs
theorem aaO:p8 X Ra:=by
 intro value a ϵ s σ H x y v u Q I rx ry h hs;let#[z,i,c,rfl,rfl,hz,e,q]:=h;let#[t,rfl]:=rx;let#[t',rfl]:=ry;let#[j,h1,h2,n,f,g]:=Gr e;let l:z.cps.toList.length=z.length:=by simp[aoF]
 rw[l]at h1 f g;let o:=oY;show tail_any (typeIs_str s z t) slot_str_getitem.lookup (getItem_str (c:=c) (by
  let e1:decide (i< -(2^63:Int))=false:=decide_eq_false ();let m:decide (i≥2^63)=false:=decide_eq_false ();rw[e1,m,aoQ]) (by rw[h1];simpa using h2) #[.str #[#v[c]],H,I.tok _,#[_,rfl],q]) hs
theorem abj(lo hi:Option Int)(n:Nat):(sliceBounds lo hi none n).1=((_H.Α n 0 lo:Nat):Int)/\(sliceBounds lo hi none n).2.1=((_H.Α n n hi:Nat):Int)/\(sliceBounds lo hi none n).2.2=1:=by
 show#[?_,?_,rfl]
 .cases lo with
  |none=>simp[sliceBounds,_H.Α]
  |some i=>
   simp only[sliceBounds,_H.Α,apG,show(1:Int)>0 by decide,if_true];by_cases h:i<0
   .simp only[h,if_true]<;>omega
   .simp only[h,if_false]<;>omega
 .cases hi with
  |none=>simp[sliceBounds,_H.Α]
  |some i=>
   simp only[sliceBounds,_H.Α,apG,show(1:Int)>0 by decide,if_true];by_cases h:i<0
   .simp only[h,if_true]<;>omega
   .simp only[h,if_false]<;>omega
theorem aeE(a:List ε)(lo hi:Option Int):slicePick a.toArray lo hi none=((a.drop (_H.Α a.length 0 lo)).take (_H.Α a.length a.length hi-_H.Α a.length 0 lo)).toArray:=by
 let#[h1,h2,c]:=abj lo hi a.toArray.size;unfold slicePick;rw[h1,h2,c];simp only[sliceRange_one,pick_run,aaH]<;>rfl
def agp(K:ϩ):V->Option Int->Option Int->Hp->VK->Prop:=λx lo hi H Q=>∃a xs,x=.ref a/\η K H a xs/\∀p,H p=none->Q (.ref p) (upd H p (.lst (bH xs lo hi)))
theorem aj8:rJ X (agp X.K):=by
 intro ϵ s σ H x v i j lo hi sl Q I rx hs pl f h;let#[a,xs,rfl,g,q]:=h;cases rx;let#[l,r,e,hz]:=I.list g;let c:=r.length;show#["list",_,slot_list_getitem.lookup,e.isList.typeIs,?_];show wpAny_getItem_list_slice e.isList hs pl f .none (by simp) ?_ (by rw[aaH]<;>omega);rw[aeE, <-c];show#[.ref s.heap.objs.size,_,I.laid (t':=s.toks) (o:=.lst (bH xs lo hi)) (λb m q=>ϲ _ q) (Ϭ _) ?_,rfl,q _ (I.hok.fresh (Ϭ _))];show#[aes (Ir xs lo hi) hz,_,0,(r.drop (_H.Α xs.length 0 lo)).take (_H.Α xs.length xs.length hi-_H.Α xs.length 0 lo),abi _ rfl]
def fV:V->Bool
 |.non=>true
 |.bl _=>true
 |.int _=>true
 |.str _=>true
 |_=>false
def eZ:V->V->Bool
 |.non,.non=>true
 |.bl a,.bl b=>a==b
 |.bl a,.int b=>(if a then 1 else 0)==b
 |.int a,.bl b=>a==(if b then 1 else 0)
 |.int a,.int b=>a==b
 |.str a,.str b=>a==b
 |_,_=>false
theorem ail{A:ϳ}{s:μ}{y x:V}{u v:ε}(ry:RelV y u)(rx:RelV x v)(e:fV y=true)(c:fV x=true):SeqAt.EqAt A s u v (eZ y x):=by
 cases y with
 |non=>
  cases ry;cases x with
  |non=>cases rx;show SeqAt.EqAt.same _
  |bl b=>cases rx;show SeqAt.EqAt.none_bool b
  |int b=>let#[t,rfl]:=rx;show SeqAt.EqAt.none_int b t
  |str b=>let#[t,rfl]:=rx;show SeqAt.EqAt.none_str b t
  |_=>show absurd (show false=true from c) aaA
 |bl a=>
  cases ry;cases x with
  |non=>cases rx;show SeqAt.EqAt.bool_none a
  |bl b=>cases rx;show SeqAt.EqAt.bool_bool a b
  |int b=>let#[t,rfl]:=rx;show SeqAt.EqAt.bool_int a b t
  |str b=>let#[t,rfl]:=rx;show SeqAt.EqAt.bool_str a b t
  |_=>show absurd (show false=true from c) aaA
 |int a=>
  let#[t',rfl]:=ry;cases x with
  |non=>cases rx;show SeqAt.EqAt.int_none a t'
  |bl b=>cases rx;show SeqAt.EqAt.int_bool a t' b
  |int b=>let#[t,rfl]:=rx;show SeqAt.EqAt.int_int a t' b t
  |str b=>let#[t,rfl]:=rx;show SeqAt.EqAt.int_str a t' b t
  |_=>show absurd (show false=true from c) aaA
 |str a=>
  let#[t',rfl]:=ry;cases x with
  |non=>cases rx;show SeqAt.EqAt.str_none a t'
  |bl b=>cases rx;show SeqAt.EqAt.str_bool a t' b
  |int b=>let#[t,rfl]:=rx;show SeqAt.EqAt.str_int a t' b t
  |str b=>let#[t,rfl]:=rx;show SeqAt.EqAt.str_str a t' b t
  |_=>show absurd (show false=true from c) aaA
 |_=>show absurd (show false=true from e) aaA
def dq(x:V)(u:ε):Bool:=match u with
 |.none=>eZ .non x
 |.bool b=>eZ (.bl b) x
 |.int i _=>eZ (.int i) x
 |.str z _=>eZ (.str z) x
 |_=>false
theorem Xj{x y:V}{u:ε}(r:RelV y u)(f:fV y=true):dq x u=eZ y x:=by
 cases y with
 |non=>cases r;rfl
 |bl b=>cases r;rfl
 |int i=>let#[t,rfl]:=r;rfl
 |str z=>let#[t,rfl]:=r;rfl
 |_=>show absurd (show false=true from f) aaA
theorem tW{x:V}:∀{xs:List V}{us:List ε},Vals xs us->xs.all fV=true->us.any (dq x)=xs.any λy=>eZ y x
 |_,_,.nil,_=>rfl
 |y::xs,u::us,.cons r t,f=>by
  rw[aoR,aaW]at f;rw[alZ,alZ,Xj r f.1,tW t f.2]
theorem tQ{A:ϳ}{s:μ}{x:V}{v:ε}(rx:RelV x v)(a:fV x=true):∀{xs:List V}{us:List ε},Vals xs us->xs.all fV=true->∀u∈us,SeqAt.EqAt A s u v (dq x u)
 |_,_,.nil,_=>λu hu=>by cases hu
 |y::xs,u::us,.cons r t,f=>λc hu=>by
  rw[aoR,aaW]at f;obtain rfl|hu:=aaG.mp hu
  .rw[Xj r f.1];show ail r rx f.1 a
  .show tQ rx a t f.2 c hu
def gJ(x:V)(xs:List V):Bool:=xs.any λy=>eZ y x
def UJ(K:ϩ)(a:Bool):R2:=λx y H Q=>∃p xs,y=.ref p/\(η K H p xs\/ρ K H p xs)/\fV x=true/\xs.all fV=true/\Q (.bl (if a then !gJ x xs else gJ x xs)) H
theorem adh:aQ X (adC .In) (UJ X.K false):=by
 intro ϵ s σ H x y v u Q I rx ry h;let#[p,xs,rfl,hq,e,fs,q]:=h;cases ry;obtain hq|hq:=hq
 .let#[a,r,pl,hz]:=I.list hq;show SeqAt.in_listAt (dq x) pl.isList (λw c=>tQ rx e r fs w (by simpa using c)) #[.bl _,H,I,rfl,?_];rw[show a.toArray.any (dq x)=a.any (dq x)by simp,tW r fs];show q
 .let#[a,r,pl,hz]:=I.tuple hq;show SeqAt.in_tupleAt (dq x) pl (λw c=>tQ rx e r fs w (by simpa using c)) #[.bl _,H,I,rfl,?_];rw[show a.toArray.any (dq x)=a.any (dq x)by simp,tW r fs];show q
theorem ajC:aQ X (adC .NotIn) (UJ X.K true):=by
 intro ϵ s σ H x y v u Q I rx ry h;let#[p,xs,rfl,hq,e,fs,q]:=h;cases ry;obtain hq|hq:=hq
 .let#[a,r,pl,hz]:=I.list hq;show SeqAt.notIn_listAt (dq x) pl.isList (λw c=>tQ rx e r fs w (by simpa using c)) #[.bl _,H,I,rfl,?_];rw[show a.toArray.any (dq x)=a.any (dq x)by simp,tW r fs];show q
 .let#[a,r,pl,hz]:=I.tuple hq;show SeqAt.notIn_tupleAt (dq x) pl (λw c=>tQ rx e r fs w (by simpa using c)) #[.bl _,H,I,rfl,?_];rw[show a.toArray.any (dq x)=a.any (dq x)by simp,tW r fs];show q
theorem af2:gC X (.builtin "len") (λxs H Q=>∃p ys,xs=[.ref p]/\(η X.K H p ys\/ρ X.K H p ys)/\Q (.int ys.length) H):=by
 intro ϵ s σ H xs us Q I r h;let#[p,ys,rfl,hq,q]:=h;let#[u,rfl,rx]:=vals1 r;cases rx;let f:=oY;obtain hq|hq:=hq
 .let#[e,c,pl,hz]:=I.list hq;let a:=c.length;show Calls.call_len_list pl.isList (by simp only[aaH]<;>omega) #[.int ys.length,H,I.tok _,#[s.toks+1,by rw[aaH,a]],q]
 .let#[e,c,pl,hz]:=I.tuple hq;let a:=c.length;show len_tuple pl (by simp only[aaH]<;>omega) #[.int ys.length,H,I.tok _,#[s.toks+1,by rw[aaH,a]],q]
theorem adB:gC X (.builtin "len") (λxs H Q=>∃z,xs=[.str z]/\z.length<=ϰ/\Q (.int z.length) H):=by
 intro ϵ s σ H xs us Q I r h;let#[z,rfl,hz,q]:=h;let#[u,rfl,t,rfl]:=vals1 r;let a:=oY;show len_str () #[.int z.length,H,I.tok _,#[_,rfl],q]
theorem af3:gC X (.type "list") (λxs H Q=>∃p ys,xs=[.ref p]/\(η X.K H p ys\/ρ X.K H p ys)/\∀l,H l=none->Q (.ref l) (upd H l (.lst ys))):=by
 intro ϵ s σ H xs us Q I r h;let#[p,ys,rfl,hq,q]:=h;let#[u,rfl,rx]:=vals1 r;cases rx
 let fin:∀(a:List ε),Vals ys a->ys.length<=ϰ->∀(h':ϫ)(c:Nat),(∀b o',s.heap.get? b=some o'->h'.get? b=some o')->
   h'.get? s.heap.objs.size=some {cls:=.type "list",dict:=none,data:=.seq a.toArray c,slots:= #v[]}->EP X ϵ σ Q (.ref s.heap.objs.size) {s with heap:=h'}:=λa f hz h' c kp e=>
  #[.ref s.heap.objs.size,_,I.laid (t':=s.toks) kp (Ϭ _) (show ϔ X.prog X.w _ h' _ (.lst ys)from#[hz,a,c,f,e]),rfl,q _ (I.hok.fresh (Ϭ _))]
 obtain hq|hq:=hq
 .let#[a,f,pl,hz]:=I.list hq;let g:=f.length;let#[o,i,j,n,hd]:=pl.isList;show call_list_seq p (.inl rfl) i j hd (λh' c kp e=>fin a f hz h' c kp e) (by simp only[aaH]<;>omega)
 .let#[a,f,pl,hz]:=I.tuple hq;let g:=f.length;let#[o,i,j,n,hd]:=pl;show call_list_seq p (.inr rfl) i j hd (λh' c kp e=>fin a f hz h' c kp e) (by simp only[aaH]<;>omega)
theorem ajf:gC X (.type "tuple") (λxs H Q=>∃p ys,xs=[.ref p]/\((η X.K H p ys/\∀l,H l=none->Q (.ref l) (upd H l (.tup ys)))\/(ρ X.K H p ys/\Q (.ref p) H))):=by
 intro ϵ s σ H xs us Q I r h;let#[p,ys,rfl,h]:=h;let#[u,rfl,rx]:=vals1 r;cases rx;obtain⟨a,q⟩|⟨a,q⟩:=h
 .let#[c,f,pl,hz]:=I.list a;let g:=f.length;show call_tuple_list pl.isList (λh' kp=>?_) (by simp only[aaH]<;>omega);let i:Inv X ϵ σ H {s with heap:=h'}:=I.kept (t':=s.toks) kp;let j:Inv X ϵ σ (upd H h'.objs.size (.tup ys)) {s with heap:=h'.push {cls:=.type "tuple",data:=.seq c.toArray}}:=
   i.laid (t':=s.toks) (λb o e=>ϲ _ e) (Ϭ _) (show ϔ X.prog X.w _ _ _ (.tup ys)from#[hz,c,f,IsTup.new _ _])
  show#[.ref h'.objs.size,_,j,rfl,q _ (i.hok.fresh (Ϭ _))]
 .let#[c,f,pl,hz]:=I.tuple a;show call_tuple_same pl #[.ref p,H,I,rfl,q]
def rC(K:ϩ)(T:String)(x:V)(H:Hp):Prop:=match x with
 |.str _=>T="str"
 |.int _=>T="int"
 |.ref p=>(T="list"/\∃xs,η K H p xs)\/(T="tuple"/\∃o,K.lookup p=some o/\o.cls=.type "tuple"/\o.dict=none)\/
   (T="dict"/\((∃Ϸ,H p=some (.dK Ϸ))\/∃Ϸ,H p=some (.dT Ϸ)))\/(T="set"/\∃S n,H p=some (.set S n))
 |_=>False
theorem ahh{ϵ:List (δ×Obj)}{σ:St}{H:Hp}{s:μ}{T:String}{x:V}{v:ε}(I:Inv X ϵ σ H s)(r:RelV x v)(ty:rC X.K T x H):s.TypeIs v T/\∀a,v=.ref a->∃j,s.heap.get? a=some j/\j.dict=none:=by
 cases x with
 |str z=>
  let#[t,rfl]:=r;cases(show T="str" from ty);show#[typeIs_str s z t,λ_ e=>nomatch e]
 |int i=>
  let#[t,rfl]:=r;cases(show T="int" from ty);show#[typeIs_int s i t,λ_ e=>nomatch e]
 |ref p=>
  cases r;obtain⟨rfl,xs,l⟩|⟨rfl,o,f,m,hd⟩|⟨rfl,f⟩|⟨rfl,S,n,f⟩:=ty
  .let#[q,_,pl,_]:=I.list l;show#[pl.isList.typeIs,λa e=>?_];cases e;let#[o,n,e,c,hd,_]:=pl;show#[o,e,hd]
  .show#[#[o,I.kIn p o f,m],λa e=>?_];cases e;show#[o,I.kIn _ o f,hd]
  .let z:∃o,s.heap.get? p=some o/\o.ExactDict:=by
    obtain⟨Ϸ,f⟩|⟨Ϸ,f⟩:=f
    .let#[_,_,_,_,o,_,_,e,ex,_]:=I.hok p _ f;show#[o,e,ex]
    .let#[_,_,_,_,o,_,_,e,ex,_]:=I.hok p _ f;show#[o,e,ex]
   let#[o,e,ex]:=z;show#[#[o,e,ex.1],λa g=>?_];cases g;show#[o,e,ex.2.1]
  .let#[o,_,_,_,e,ex,_]:=I.hok p _ f;show#[#[o,e,ex.1],λa g=>?_];cases g;show#[o,e,ex.2.1]
 |_=>show False.elim ty
variable{o e:ϧ}{es:List ϧ}{to:TE}{t:TA}{name:Str}{apos cpos:Pos}{T id:String}{r:V->List V->Hp->VK->Prop}
end
def MtM(X:Cx)(id:String)(r:V->List V->Hp->VK->Prop):Prop:=
 ∀(ϵ:List (δ×Obj))(s:μ)(σ:St)(H:Hp)(x:V)(xs:List V)(v:ε)(us:List ε)(Q:VK),Inv X ϵ σ H s->RelV x v->Vals xs us->r x xs H Q->
  π (Ϧ X.prog X.w) X.A (call (.builtin id) (v::us)) (EP X ϵ σ Q) X.xe s
theorem Vals.one{x:V}{us:List ε}(h:Vals [x] us):∃u,us=[u]/\RelV x u:=vals1 h
theorem Vals.zero:∀{us:List ε},Vals [] us->us=[]
 |_,.nil=>rfl
section
variable{X:Cx}{ϵ:List (δ×Obj)}{σ:St}{H:Hp}{s:μ}{l b:δ}{xs ys zs:List V}
theorem Inv.lset{a its':List ε}{n:Nat}{f:Array ε->Array ε}{t':Nat}(I:Inv X ϵ σ H s)(c:H l=some (.lst xs))(e:s.heap.get? l=some {cls:=.type "list",data:=.seq a.toArray n})(g:f a.toArray=its'.toArray)(i:Vals ys its')(hz:ys.length<=ϰ):Inv X ϵ σ (upd H l (.lst ys)) {s with heap:=s.heap.update l (Obj.mapSeq f),toks:=t'}:=by
 let q:=PySem.IsL.update e f;rw[g]at q;show I.write (x:=l) (e:=l) (by rw[c];show trivial) (.inl rfl) (λo u j m=>(acg s.heap (Obj.mapSeq f) (Ne.symm j)).trans m) #[_,q] ?_;show#[hz,its',_,i,q]
theorem Inv.lnew{a:List ε}{t':Nat}(I:Inv X ϵ σ H s)(c:Vals ys a)(hz:ys.length<=ϰ):Inv X ϵ σ (upd H s.heap.objs.size (.lst ys)) {s with heap:=s.heap.push {cls:=.type "list",data:=.seq a.toArray},toks:=t'}:=
 I.laid (λ_ _ q=>ϲ _ q) (Ϭ _) #[hz,a,0,c,abi _ rfl]
theorem Inv.fresh(I:Inv X ϵ σ H s):H s.heap.objs.size=none:=I.hok.fresh (Ϭ _)
theorem Inv.lstM(I:Inv X ϵ σ H s)(c:H l=some (.lst xs)):xs.length<=ϰ/\∃(a:List ε)(n:Nat),Vals xs a/\xs.length=a.length/\s.heap.get? l=some {cls:=.type "list",data:=.seq a.toArray n}:=by
 let#[z,a,n,r,e]:=I.hok l _ c;show#[z,a,n,r,r.length,e]
end
section
variable{X:Cx}
def afn:V->List V->Hp->VK->Prop:=λx vs H Q=>∃l xs y,x=.ref l/\vs=[y]/\H l=some (.lst xs)/\xs.length<ϰ/\Q .non (upd H l (.lst (xs++[y])))
theorem Ep:MtM X "list.append" afn:=by
 intro ϵ s σ H x vs v us Q I rx f h;let#[l,xs,y,rfl,rfl,a,hz,q]:=h;cases rx;let#[u,rfl,g]:=f.one;let#[z,c,n,r,i,e]:=I.lstM a;show anR F.slot_list_append #[_,e,rfl] F.entry_list_append (F.args_list_append_2 _ _) (PySem.list_append l c.toArray n u (by rw[aaH];omega)) #[e,?_];show#[.non,_,I.lset (its':=c++[u]) a e (by simp) (r.append (.cons g .nil)) ?_,rfl,q];rw[abu,ael];omega
def aaJ:R2:=λx y H Q=>∃l b xs zs,x=.ref l/\y=.ref b/\H l=some (.lst xs)/\H b=some (.lst zs)/\xs.length+zs.length<=ϰ/\∀p,H p=none->Q (.ref p) (upd H p (.lst (xs++zs)))
theorem ahw:aQ X (binaryOp .Add) aaJ:=by
 intro ϵ s σ H x y v u Q I rx ry h;let#[l,b,xs,zs,rfl,rfl,f,g,hz,q]:=h;cases rx;cases ry;let#[z,c,n,r,o,e]:=I.lstM f;let#[p,a,n2,i,j,m]:=I.lstM g;show PySem.P.add_list e m ?_ (by rw[aaH,aaH];omega);let ea:c.toArray++a.toArray=(c++a).toArray:=by simp
 rw[ea];show#[.ref _,_,I.lnew (t':=s.toks) (r.append i) (by rw[abu];omega),rfl,q _ I.fresh]
end
section
variable{prog:ϯ}{w:ϭ}{A:ϳ}{E:ε->μ->Prop}{s:μ}
end
section
variable{X:Cx}
end
section
variable{κ:Type} [DecidableEq κ]
def au(Ϸ:List (κ×V))(k:κ):Option V:=(Ϸ.find? λa=>decide (a.1=k)).map (·.2)
def putK(Ϸ:List (κ×V))(k:κ)(v:V):List (κ×V):=
 if(Ϸ.any λa=>decide (a.1=k))=true then Ϸ.map (λa=>if a.1=k then(a.1,v)else a)else Ϸ++[(k,v)]
def fX(Ϸ:List (κ×V))(k:κ):List (κ×V):=Ϸ.filter λa=>decide (a.1≠k)
theorem Ae{p:κ×V}{r:List (κ×V)}{k:κ}(e:p.1=k):au (p::r) k=some p.2:=by simp[au,adZ,e]
theorem Ax{p:κ×V}{r:List (κ×V)}{k:κ}(e:¬p.1=k):au (p::r) k=au r k:=by simp[au,adZ,e]
theorem Ut(k:κ):∀Ϸ:List (κ×V),(Ϸ.any λa=>decide (a.1=k))=(au Ϸ k).isSome
 |[]=>rfl
 |p::r=>by
  rw[alZ];by_cases e:p.1=k
  .simp only[Ae e,decide_eq_true e,aqd,Option.isSome_some]
  .rw[Ax e,decide_eq_false e,aoS];show Ut k r
theorem O7(Ϸ:List (κ×V))(k:κ)(v:V):(putK Ϸ k v).length<=Ϸ.length+1:=by
 unfold putK;split
 .rw[aaz];omega
 .rw[abu,acS,aoq];omega
theorem bM.isSome_eq{o:Option V}{u:Option ε}(r:bM o u):o.isSome=u.isSome:=by
 cases o with
 |none=>cases u with
  |none=>rfl
  |some _=>show(show False from r).elim
 |some _=>cases u with
  |none=>show(show False from r).elim
  |some _=>rfl
theorem bM.getD{o:Option V}{u:Option ε}{d:V}{d':ε}(r:bM o u)(rd:RelV d d'):RelV (o.getD d) (u.getD d'):=by
 cases o with
 |none=>cases u with
  |none=>show rd
  |some _=>show(show False from r).elim
 |some _=>cases u with
  |none=>show(show False from r).elim
  |some _=>show r
theorem KV.val{Ϸ:List (κ×V)}{vs:List (κ×ε)}(r:KV Ϸ vs)(k:κ):bM (au Ϸ k) (valueAt vs k):=by
 unfold KV at r;induction r with
 |nil=>show True.intro
 | @cons p q ps a h t f=>
   let#[h1,h2]:=h;by_cases e:p.1=k
   .let c:q.1=k:=h1.symm.trans e;let b:valueAt (q::a) k=some q.2:=by simp[valueAt,adZ,c]
    rw[Ae e,b];show h2
   .let c:¬q.1=k:=λz=>e (h1.trans z)
    let b:valueAt (q::a) k=valueAt a k:=by simp[valueAt,adZ,c]
    rw[Ax e,b];show f
theorem KV.any{Ϸ:List (κ×V)}{vs:List (κ×ε)}(r:KV Ϸ vs)(k:κ):(Ϸ.any λa=>decide (a.1=k))=vs.any λa=>decide (a.1=k):=by
 unfold KV at r;induction r with
 |nil=>rfl
 |cons h t c=>rw[alZ,alZ,c,h.1]
theorem KV.repl{Ϸ:List (κ×V)}{vs:List (κ×ε)}(r:KV Ϸ vs)(k:κ){y:V}{u:ε}(ry:RelV y u):KV (Ϸ.map λa=>if a.1=k then(a.1,y)else a) (vs.map λa=>if a.1=k then(a.1,u)else a):=by
 unfold KV at r⊢;induction r with
 |nil=>show .nil
 | @cons p q ps f h t c=>
   rw[adF,adF];show .cons ?_ c;let#[h1,h2]:=h;by_cases e:p.1=k
   .rw[if_pos e,if_pos (h1.symm.trans e)];show#[h1,ry]
   .rw[if_neg e,if_neg (λz=>e (h1.trans z))];show#[h1,h2]
theorem KV.put{Ϸ:List (κ×V)}{vs:List (κ×ε)}(r:KV Ϸ vs)(k:κ){y:V}{u:ε}(ry:RelV y u):KV (putK Ϸ k y) (stored vs k u):=by
 unfold putK stored;rw[r.any k];by_cases e:(vs.any λa=>decide (a.1=k))=true
 .rw[if_pos e,if_pos e];show r.repl k ry
 .rw[if_neg e,if_neg e];show Paired.snoc r #[rfl,ry]
theorem KV.drop{Ϸ:List (κ×V)}{vs:List (κ×ε)}(r:KV Ϸ vs)(k:κ):KV (fX Ϸ k) (without vs k):=by
 unfold KV at r⊢;unfold fX without;induction r with
 |nil=>show .nil
 | @cons p q ps g h t c=>
   let#[h1,h2]:=h;rw[anK,anK];by_cases e:p.1=k
   .let a:¬decide (p.1≠k)=true:=by simp[e]
    let b:¬decide (q.1≠k)=true:=by simp[h1.symm.trans e]
    rw[if_neg a,if_neg b];show c
   .let f:¬q.1=k:=λz=>e (h1.trans z)
    let a:decide (p.1≠k)=true:=by simp[e]
    let b:decide (q.1≠k)=true:=by simp[f]
    rw[if_pos a,if_pos b];show .cons #[h1,h2] c
theorem KV.keys{Ϸ:List (κ×V)}{vs:List (κ×ε)}(r:KV Ϸ vs):Ϸ.map (·.1)=vs.map (·.1):=by
 unfold KV at r;induction r with
 |nil=>rfl
 |cons h t a=>rw[adF,adF,a,h.1]
theorem KV.length{Ϸ:List (κ×V)}{vs:List (κ×ε)}(r:KV Ϸ vs):Ϸ.length=vs.length:=Paired.length r
theorem Y0(Ϸ:List (κ×V))(k:κ):(fX Ϸ k).length<=Ϸ.length:=aib _ _
end
theorem nH{P:ϯ}{w:ϭ}{k:Key}{u:ε}(r:RelV (kV k) u):(cI P w).is k u=true:=by
 cases k with
 |inl i=>let#[t,e]:=(show ∃t,u=Value.int i t from r);subst e;show abo P w i t
 |inr x=>let#[t,e]:=(show ∃t,u=Value.str x t from r);subst e;show abv P w x t
theorem R3{P:ϯ}{w:ϭ}:∀{ks:List Key}{us:List ε},Vals (ks.map kV) us->ItemsAre (cI P w) ks us
 |[],_,r=>by rw[aqe]at r;cases r;show .nil
 |k::ks,_,r=>by
  rw[adF]at r;cases r with
  |cons h t=>show .cons (nH h) (R3 t)
abbrev KT(H:Hp):List (List Key×V)->List (List Key×δ×ε)->Prop:=Paired λp q=>p.1=q.1/\H q.2.1=some (.tup (p.1.map kV))/\RelV p.2 q.2.2
theorem KT.val{H:Hp}{Ϸ:List (List Key×V)}{xs:List (List Key×δ×ε)}(r:KT H Ϸ xs)(k:List Key):bM (au Ϸ k) ((atKey xs k).map (·.2)):=by
 induction r with
 |nil=>show True.intro
 | @cons p q ps a h t f=>
   let#[h1,_,h2]:=h;by_cases e:p.1=k
   .let c:q.1=k:=h1.symm.trans e;let b:atKey (q::a) k=some q.2:=by simp[atKey,adZ,c]
    rw[Ae e,b];show h2
   .let c:¬q.1=k:=λz=>e (h1.trans z)
    let b:atKey (q::a) k=atKey a k:=by simp[atKey,adZ,c]
    rw[Ax e,b];show f
theorem KT.repl{H:Hp}{Ϸ:List (List Key×V)}{xs:List (List Key×δ×ε)}(r:KT H Ϸ xs)(k:List Key){y:V}{u:ε}(ry:RelV y u):KT H (Ϸ.map λa=>if a.1=k then(a.1,y)else a) (xs.map (putAt k u)):=by
 induction r with
 |nil=>show .nil
 | @cons p q ps g h t c=>
   rw[adF,adF];show .cons ?_ c;let#[h1,h2,f]:=h;unfold putAt;by_cases e:p.1=k
   .rw[if_pos e,if_pos (h1.symm.trans e)];show#[h1,h2,ry]
   .rw[if_neg e,if_neg (λz=>e (h1.trans z))];show#[h1,h2,f]
theorem KT.put{H:Hp}{Ϸ:List (List Key×V)}{xs:List (List Key×δ×ε)}(r:KT H Ϸ xs)(k:List Key){b:δ}{y:V}{u:ε}(a:H b=some (.tup (k.map kV)))(ry:RelV y u):KT H (putK Ϸ k y) (storedH xs k b u):=by
 let e:(Ϸ.any λc=>decide (c.1=k))=(atKey xs k).isSome:=by
  rw[Ut,(r.val k).isSome_eq,aoG]
 unfold putK storedH;rw[e];by_cases q:(atKey xs k).isSome=true
 .rw[if_pos q,if_pos q];show r.repl k ry
 .rw[if_neg q,if_neg q];show Paired.snoc r #[rfl,a,ry]
theorem KT.keeps{H H':Hp}{Ϸ:List (List Key×V)}{xs:List (List Key×δ×ε)}(r:KT H Ϸ xs)(a:∀b ys,H b=some (.tup ys)->H' b=some (.tup ys)):KT H' Ϸ xs:=
 Paired.mapP r λ_ _ z=>#[z.1,a _ _ z.2.1,z.2.2]
section
variable{P:ϯ}{w:ϭ}{H:Hp}{h:ϫ}{a:δ}
theorem Nz{u:HO}(ok:Ϡ P w H h)(e:Rd H a u):ϔ P w H h a u:=e.ok ok
theorem jC{Ϸ:List (Key×V)}(ok:Ϡ P w H h)(e:Rd H a (.dK Ϸ)):Ϸ.length<=ϰ/\(a==sysModules)=false/\∃vs,KV Ϸ vs/\h.DictOf (cI P w) a vs:=
 show ϔ P w H h a (.dK Ϸ)from Nz ok e
theorem Ea{Ϸ:List (Key×V)}(ok:Ϡ P w H h)(e:H a=some (.dK Ϸ)):Ϸ.length<=ϰ/\(a==sysModules)=false/\∃vs,KV Ϸ vs/\h.DictOf (cI P w) a vs:=jC ok (.inl e)
theorem oW{ks:List Key}(ok:Ϡ P w H h)(e:H a=some (.tup (ks.map kV))):(tupleKind (cI P w)).is h ks a:=by
 let#[_,c,r,o,h1,h2,n,f]:=(show ϔ P w H h a (.tup (ks.map kV))from ok a _ e);show#[o,c.toArray,n,h1,h2,f,by simpa using R3 r]
theorem lV{Ϸ:List (List Key×V)}(ok:Ϡ P w H h)(e:Rd H a (.dT Ϸ)):Ϸ.length<=ϰ/\(a==sysModules)=false/\
  ∃xs,KT H Ϸ xs/\h.DictOfH (tupleKind (cI P w)) a xs:=by
 let#[z,y,xs,r,o,es,ep,h1,h2,f,g,i]:=(show ϔ P w H h a (.dT Ϸ)from Nz ok e);show#[z,y,xs,r,o,es,ep,h1,h2,f,g,λx hx=>?_,i];let all:∀{l:List (List Key×V)}{m:List (List Key×δ×ε)},KT H l m->∀x∈m,(tupleKind (cI P w)).is h x.1 x.2.1:=by
  intro l m q;induction q with
  |nil=>intro x hx;show nomatch hx
  | @cons p q ps n c t j=>
    intro x hx;obtain e|hx:=aaG.mp hx
    .subst e;show oW ok (by rw[<-c.1];show c.2.1)
    .show j x hx
 show all r x hx
theorem agf{Ϸ:List (List Key×V)}(ok:Ϡ P w H h)(e:H a=some (.dT Ϸ)):Ϸ.length<=ϰ/\(a==sysModules)=false/\
  ∃xs,KT H Ϸ xs/\h.DictOfH (tupleKind (cI P w)) a xs:=lV ok (.inl e)
end
def aG(H:Hp)(a:δ)(y:V)(r:Option V):Prop:=
 (∃Ϸ k,Rd H a (.dK Ϸ)/\y=kV k/\r=au Ϸ k)\/∃Ϸ k b,Rd H a (.dT Ϸ)/\y=.ref b/\H b=some (.tup (k.map kV))/\r=au Ϸ k
def iz(H:Hp)(a:δ)(y v:V)(H':Hp):Prop:=
 (∃Ϸ k,H a=some (.dK Ϸ)/\y=kV k/\Ϸ.length<ϰ/\H'=upd H a (.dK (putK Ϸ k v)))\/
 ∃Ϸ k b,H a=some (.dT Ϸ)/\y=.ref b/\H b=some (.tup (k.map kV))/\Ϸ.length<ϰ/\H'=upd H a (.dT (putK Ϸ k v))
theorem aG.k{H:Hp}{a:δ}{Ϸ:List (Key×V)}{k:Key}(e:H a=some (.dK Ϸ)):aG H a (kV k) (au Ϸ k):=.inl #[Ϸ,k,.inl e,rfl,rfl]
theorem iz.k{H:Hp}{a:δ}{Ϸ:List (Key×V)}{k:Key}{v:V}(e:H a=some (.dK Ϸ))(c:Ϸ.length<ϰ):iz H a (kV k) v (upd H a (.dK (putK Ϸ k v))):=.inl #[Ϸ,k,e,rfl,c,rfl]
section
variable{X:Cx}{ϵ:List (δ×Obj)}{σ:St}{H:Hp}{s:μ}{a:δ}{y v:V}{u r:ε}{o:Option V}{A:ϳ}{E:ε->μ->Prop}
theorem Inv.big(I:Inv X ϵ σ H s):sysModules<s.heap.objs.size:=by
 let h:mainGlobals<s.heap.objs.size:=(I.mod.glob.keeps I.bk).lt;show Nat.lt_trans (by decide) h
theorem ajI{Q:ε->μ->Prop}(q:A.units+1<cLine)(I:Inv X ϵ σ H s)(g:aG H a y (some v))(ry:RelV y u)(h:∀i s',Inv X ϵ σ H s'->RelV v i->Q i s'):π (Ϧ X.prog X.w) A (getItem (.ref a) u) Q E s:=by
 obtain⟨Ϸ,k,e,j,l⟩|⟨Ϸ,k,b,e,j,x,l⟩:=g
 .subst j;let#[z,hd,vs,c,dd]:=jC I.hok e;let#[i,m,f]:=bM.some_of (v:=v) (o:=valueAt vs k) (by rw[l];show c.val k);show wpAny_getItem_of (nH ry) dd.mapOf m (h i _ (I.tok _) f)
 .subst j;cases(show u=Value.ref b from ry);let#[z,hd,xs,c,dd]:=lV I.hok e;let#[i,m,f]:=bM.some_of (v:=v) (o:=(atKey xs k).map (·.2)) (by rw[l];show c.val k);let#[p,B,n]:=agJ.mp m;show wpAny_getItem_heap (al8 q) (oW I.hok x) dd B ?_;rw[n];show h i _ (I.tok _) f
theorem agi{Q:ε->μ->Prop}(i:A.units+1<cLine)(I:Inv X ϵ σ H s)(g:aG H a y o)(ry:RelV y u)(h:∀s',Inv X ϵ σ H s'->Q (.bool o.isSome) s'):π (Ϧ X.prog X.w) A (adC .In u (.ref a)) Q E s:=by
 obtain⟨Ϸ,k,e,f,l⟩|⟨Ϸ,k,b,e,f,j,l⟩:=g
 .subst f;let#[z,hd,vs,c,dd]:=jC I.hok e;show wpAny_in_of (nH ry) hd dd.mapOf ?_;rw[<-(c.val k).isSome_eq, <-l];show h _ (I.tok _)
 .subst f;cases(show u=Value.ref b from ry);let#[z,hd,xs,c,dd]:=lV I.hok e;show wpAny_in_heap (al8 i) (oW I.hok j) hd dd ?_;let q:=(c.val k).isSome_eq;rw[aoG]at q;rw[<-q, <-l];show h _ (I.tok _)
theorem Ze{Q:ε->μ->Prop}(i:A.units+1<cLine)(I:Inv X ϵ σ H s)(g:aG H a y o)(ry:RelV y u)(h:∀s',Inv X ϵ σ H s'->Q (.bool (!o.isSome)) s'):π (Ϧ X.prog X.w) A (adC .NotIn u (.ref a)) Q E s:=by
 obtain⟨Ϸ,k,e,f,l⟩|⟨Ϸ,k,b,e,f,j,l⟩:=g
 .subst f;let#[z,hd,vs,c,dd]:=jC I.hok e;show wpAny_notIn_of (nH ry) hd dd.mapOf ?_;rw[<-(c.val k).isSome_eq, <-l];show h _ (I.tok _)
 .subst f;cases(show u=Value.ref b from ry);let#[z,hd,xs,c,dd]:=lV I.hok e;show wpAny_notIn_heap (al8 i) (oW I.hok j) hd dd ?_;let q:=(c.val k).isSome_eq;rw[aoG]at q;rw[<-q, <-l];show h _ (I.tok _)
theorem Cz{h':ϫ}{t':Nat}{c:HO}(I:Inv X ϵ σ H s)(g:uA (H a))(hs:ak6 a s.heap h')(i:∃q,h'.get? a=some q)(f:ϔ X.prog X.w (upd H a c) h' a c):Inv X ϵ σ (upd H a c) {s with heap:=h',toks:=t'}:=
 I.write (x:=a) (e:=a) g (.inl rfl) (λb q j z=>(hs.2 b j).trans z) i f
theorem Hn{P:ϯ}{w:ϭ}{H':Hp}{h':ϫ}{Ϸ:List (Key×V)}{vs:List (Key×ε)}(z:Ϸ.length<=ϰ)(hd:(a==sysModules)=false)(c:KV Ϸ vs)(dd:h'.DictOf (cI P w) a vs):ϔ P w H' h' a (.dK Ϸ):=#[z,hd,vs,c,dd]
theorem ag0{H':Hp}{Q:Unit->μ->Prop}(C:A.units+1<cLine)(I:Inv X ϵ σ H s)(g:iz H a y v H')(ry:RelV y u)(p:RelV v r)(h:∀s',Inv X ϵ σ H' s'->Q PUnit.unit s'):π (Ϧ X.prog X.w) A (setItem (.ref a) u r) Q E s:=by
 obtain⟨Ϸ,k,e,m,l,n⟩|⟨Ϸ,k,b,e,m,x,l,n⟩:=g
 .subst m n;let#[z,hd,vs,f,dd]:=Ea I.hok e;let hz:vs.length<=ϰ:=by rw[<-f.length];show z
  let o:(putK Ϸ k v).length<=ϰ:=by have:=O7 Ϸ k v;omega
  show wpAny_setItem_pairs (hsz:=hz) (nH ry) dd λh' i hs=>h _ ?_
  let D:∃q,h'.get? a=some q:=let⟨q,_,_,j,_⟩:=i;#[q,j];show Cz I (by rw[e];show True.intro) hs D (Hn o hd (f.put k p) i)
 .subst m n;cases(show u=Value.ref b from ry);let#[z,hd,xs,f,dd]:=agf I.hok e;let hz:xs.length<=ϰ:=by rw[<-Paired.length f];show z
  let o:(putK Ϸ k v).length<=ϰ:=by have:=O7 Ϸ k v;omega
  show wpAny_setItem_heap (hsz:=hz) (al8 C) (oW I.hok x) dd λh' i hs=>h _ ?_
  let#[q,es,ep,j,h2,F,G,_,J]:=i;show Cz I (by rw[e];show True.intro) hs ⟨q,j⟩ ⟨o,hd,_,(f.put k x p).keeps λc ys B=>?_,q,es,ep,j,h2,F,G,J⟩;rw[ο (ajg B e (λz=>nomatch z))];show B
end
section
variable{X:Cx}{ϵ:List (δ×Obj)}{σ:St}{H:Hp}{s:μ}{a:δ}{Ϸ:List (Key×V)}{k:Key}{u:ε}{A:ϳ}{E:ε->μ->Prop}
theorem ahI{v:V}{c:List ε}{Q:ε->μ->Prop}(I:Inv X ϵ σ H s)(e:H a=some (.dK Ϸ))(ry:RelV (kV k) u)(l:au Ϸ k=some v)(n:c=[]\/∃x,c=[x])(h:∀g s',Inv X ϵ σ (upd H a (.dK (fX Ϸ k))) s'->RelV v g->Q g s'):π (Ϧ X.prog X.w) A (call (.builtin "dict.pop") (.ref a::u::c)) Q E s:=by
 let#[z,hd,vs,f,dd]:=Ea I.hok e;let#[g,p,m]:=bM.some_of (v:=v) (o:=valueAt vs k) (by rw[<-l];show f.val k);let y:(keyPart u).isSome=true:=by
  cases k with
  |inl i=>let#[t,q]:=(show ∃t,u=Value.int i t from ry);subst q;rfl
  |inr x=>let#[t,q]:=(show ∃t,u=Value.str x t from ry);subst q;rfl
 let B:argsOk "dict.pop" #[.ref a::u::c,[]]:=by
  obtain q|⟨x,q⟩:=n
  .subst q;show F.args_dict_pop_2 _ _
  .subst q;show F.args_dict_pop_3 _ _ _
 show call_meetsIn F.slot_dict_pop dd.typeIs F.entry_dict_pop B (meets_dict_pop_there (cI X.prog X.w) a (nH ry) c n y)
  #[vs,g,dd,by rw[<-f.length];show z,p,λh' j hs=>h g _ ?_ m]
 let C:∃q,h'.get? a=some q:=let⟨q,_,_,hq,_⟩:=j;#[q,hq];show Cz I (by rw[e];show True.intro) hs C (Hn (aes (Y0 Ϸ k) z) hd (f.drop k) j)
theorem ad0{Q:ε->μ->Prop}(I:Inv X ϵ σ H s)(e:Rd H a (.dK Ϸ))(h:∀t s',Inv X ϵ σ H s'->Q (.int Ϸ.length t) s'):π (Ϧ X.prog X.w) A (call (.builtin "len") [.ref a]) Q E s:=by
 let#[z,hd,vs,c,dd]:=jC I.hok e;show call_len_dict hd dd (by rw[<-c.length];rw[ϱ]at z;omega) ?_;rw[<-c.length];show h _ _ (I.tok _)
end
theorem ajG{X:Cx}{ϵ:List (δ×Obj)}{σ:St}{H:Hp}{s:μ}{a:δ}{y:V}{o:Option V}(I:Inv X ϵ σ H s)(g:aG H a y o):s.TypeIs (.ref a) "dict":=by
 obtain⟨Ϸ,k,e,_,_⟩|⟨Ϸ,k,b,e,_,_,_⟩:=g
 .let#[_,_,vs,_,dd]:=jC I.hok e;show dd.typeIs
 .let#[_,_,xs,_,dd]:=lV I.hok e;show dd.typeIs
section
variable{X:Cx}{o i e value:ϧ}{pos pos' tpos:Pos}{td ty tv:TE}
end
theorem adX{P:ϯ}{w:ϭ}{H:Hp}(h:ϫ)(a:sysModules<h.objs.size):ϔ P w H (h.push {cls:=.type "dict",data:=.dict #v[]}) h.objs.size (.dK []):=
 #[agz _,beq_eq_false_iff_ne.mpr (Ne.symm (ab7 a)),[],.nil,Heap.DictOf.new h]
def ab4:TE:=λ_ H Q=>∀p,H p=none->Q (.ref p) (upd H p (.dK []))
section
variable{X:Cx}{pos:Pos}
theorem ae8:PE X (.Dict [] [] pos) ab4:=λϵ s σ H Q I h=>
 wpAny_Dict_empty #[.ref s.heap.objs.size,_,I.laid (a:=s.heap.objs.size) (o:=.dK []) (t':=s.toks) (λ_ _ q=>ϲ _ q) (Ϭ _) (adX s.heap I.big),rfl,h _ (I.hok.fresh (Ϭ _))]
end
structure M1(X:Cx)(o:ϧ)(m:Str)(apos:Pos)(e:ϧ)(cpos:Pos):Prop where
 base:attributeBase o m X.env (eval o X.env)=eval o X.env
 few:((backTo cpos (ϴ [e] X.env)).all (λx=> !x.1)&&(backToKw cpos (keywordEach [] X.env)).all (λx=>x.1.isSome)
  &&decide (([e]:List ϧ).length+([]:List Keyword).length+(if([]:List Keyword).isEmpty then 0 else 1)<30))=true
 line:(apos.endLine==cpos.line)=true
 trees:backTo cpos (ϴ [e] X.env)=[(false,eval e X.env)]
structure M2(X:Cx)(o:ϧ)(m:Str)(apos:Pos)(e f:ϧ)(cpos:Pos):Prop where
 base:attributeBase o m X.env (eval o X.env)=eval o X.env
 few:((backTo cpos (ϴ [e,f] X.env)).all (λx=> !x.1)&&(backToKw cpos (keywordEach [] X.env)).all (λx=>x.1.isSome)
  &&decide (([e,f]:List ϧ).length+([]:List Keyword).length+(if([]:List Keyword).isEmpty then 0 else 1)<30))=true
 line:(apos.endLine==cpos.line)=true
 trees:backTo cpos (ϴ [e,f] X.env)=[(false,eval e X.env),(false,eval f X.env)]
def lC(H:Hp)(a:δ):Prop:=(∃Ϸ,Rd H a (.dK Ϸ))\/∃Ϸ,Rd H a (.dT Ϸ)
theorem Qn{X:Cx}{ϵ:List (δ×Obj)}{σ:St}{H:Hp}{s:μ}{a:δ}(I:Inv X ϵ σ H s)(d:lC H a):s.TypeIs (.ref a) "dict"/\(∀b,Value.ref a=.ref b->∃c,s.heap.get? b=some c/\c.dict=none)/\(a==sysModules)=false:=by
 obtain⟨Ϸ,e⟩|⟨Ϸ,e⟩:=d
 .let#[_,hd,vs,_,dd]:=jC I.hok e;show#[dd.typeIs,λb q=>?_,hd];cases q;let#[c,_,_,h1,h2,_]:=dd;show#[c,h1,h2.2.1]
 .let#[_,hd,xs,_,dd]:=lV I.hok e;show#[dd.typeIs,λb q=>?_,hd];cases q;let#[c,_,_,h1,h2,_]:=dd;show#[c,h1,h2.2.1]
section
variable{X:Cx}{ϵ:List (δ×Obj)}{σ:St}{H:Hp}{s:μ}{a:δ}{y d:V}{u r:ε}{o:Option V}{A:ϳ}{E:ε->μ->Prop}
theorem agV{Q:ε->μ->Prop}(j:A.units+1<cLine)(I:Inv X ϵ σ H s)(g:aG H a y o)(ry:RelV y u)(h:∀i s',Inv X ϵ σ H s'->RelV (o.getD .non) i->Q i s'):π (Ϧ X.prog X.w) A (call (.builtin "dict.get") [.ref a,u]) Q E s:=by
 obtain⟨Ϸ,k,e,f,l⟩|⟨Ϸ,k,b,e,f,m,l⟩:=g
 .subst f;let#[z,hd,vs,c,dd]:=jC I.hok e;show call_meetsIn F.slot_dict_get dd.typeIs F.entry_dict_get (F.args_dict_get_2 _ _) (meets_dict_get (cI X.prog X.w) a (nH ry) hd) #[_,dd.mapOf,h _ _ (I.tok _) ?_];rw[l];show(c.val k).getD rfl
 .subst f;cases(show u=Value.ref b from ry);let#[z,hd,xs,c,dd]:=lV I.hok e;show call_meetsIn F.slot_dict_get dd.typeIs F.entry_dict_get (F.args_dict_get_2 _ _) (meetsH_dict_get (tupleKind (cI X.prog X.w)) a b hd) #[al8 j,k,xs,oW I.hok m,dd,h _ _ (I.tok _) ?_];rw[l];show(c.val k).getD rfl
end
section
variable{X:Cx}{o e f:ϧ}{apos cpos:Pos}{td ty tx:TE}
end
section
variable{X:Cx}{ϵ:List (δ×Obj)}{σ:St}{H:Hp}{s:μ}{a:δ}{Ϸ:List (Key×V)}{A:ϳ}{E:ε->μ->Prop}
theorem ajc{Q:ε->μ->Prop}(I:Inv X ϵ σ H s)(e:Rd H a (.dK Ϸ))(h:∀p s',H p=none->Inv X ϵ σ (upd H p (.dK Ϸ)) s'->Q (.ref p) s'):π (Ϧ X.prog X.w) A (call (.type "dict") [.ref a]) Q E s:=by
 let#[z,hd,vs,c,dd]:=jC I.hok e;show kt_call_dict hd dd (by rw[<-c.length];show z) λh' f hs=>?_
 show h _ _ (I.hok.fresh (Ϭ _)) (I.laid (a:=s.heap.objs.size) (o:=.dK Ϸ) (t':=s.toks) (λb q g=>?_) (Ϭ _) (Hn z (beq_eq_false_iff_ne.mpr (Ne.symm (ab7 I.big))) c f));show(hs.2 b (ab7 (abV g))).trans (ϲ _ g)
end
section
variable{X:Cx}{ϵ:List (δ×Obj)}{σ:St}{H:Hp}{s:μ}{a:δ}{y:V}{u:ε}{A:ϳ}{E:ε->μ->Prop}
end
end _L
namespace _A
open PySem PySem.W PySem.Calls PyProof.Rows
theorem ab2{P:Params}{h:ϫ}:∀(ns:List Int)(vs:List ε),WellAll P h vs (ns.map WData.int)->IntsAre vs ns:=by
 intro ns;induction ns with
 |nil=>
  intro vs w;rw[aqe]at w;cases w;show .nil
 |cons n ns c=>
  intro vs w;rw[adF]at w;cases w with
  |cons a b=>
   cases a;show .cons _ _ (c _ b)
theorem aaI{l:OpenLaw}{n:Nat}(p:l.most=some n){P:Params}{h:ϫ}{args:List WData}{vals:List ε}(c:l.row.toRowW.claim.pre args=true)(j:WellAll P h vals args):∃a vs ns,vals=[Value.ref a]/\args=[WData.list (ns.map WData.int)]/\h.get? a=some {cls:=.type "list",data:=.seq vs.toArray}/\IntsAre vs ns/\ns.length<=n:=by
 let m:WShape.hasAll [] args [.list .int]=true:=(pre_splitW c).1;let o:l.pre.holds [] {args:=args}=true:=(pre_splitW c).2;let#[d,r,rfl,h1,h2]:=hasAllW_cons m;obtain rfl:=hasAllW_nil h2;let#[xs,rfl,s]:=hasW_list h1;let#[ns,rfl]:=items_int s;let e:ns.length<=n:=by
  unfold OpenLaw.pre at o;let g:(WTm.not (.lt (.lit (.int (n:Int))) (.len (.arg 0)))).holds [] {args:=[.list (ns.map .int)]}=true:=by
   let g:=(holds_andW o).1;rw[p]at g;show g
  let i:=condW_of g (w_not (w_lt w_lit (w_len_list (w_arg rfl))));rw[aaz]at i;show Nat.le_of_not_lt λq=>?_
  let u:(n:Int)<((ns.length:Nat):Int):=()
  first
   |(rw[decide_eq_true u]at i;show absurd i (by decide))
   |(simp at i;omega)
 cases j with
 |cons v x=>
  cases x;cases v with
  |list y f=>show#[_,_,ns,rfl,rfl,y,ab2 ns _ f,e]
theorem ai0(l:OpenLaw)(args:List WData):l.row.toRowW.claim.post args (.bool true) args=true:=
 postW_of (r:=l.row.toRowW) (X:=(true==true))
  (show WShape.has [] (.bool true) .bool=true by first|rfl|decide|simp[WShape.has,WShape.arms,WShape.armsAll])
  (show(WTm.eq .res (.lit (.bool true))).value [] {args:=args,res:=some (.bool true),after:=args}=some (.bool (true==true))from w_eq_bool (w_res rfl) w_lit) rfl
theorem afb{l:OpenLaw}{n:Nat}{q:ϯ}{e:List Str}{z:(Str->Option ε)->ϫ->Prop}{B:ϭ->ϫ->Prop}{d:DefRec}(F:l.most=some n)(u:d.params.defaults=[])(call:∀(w:ϭ)(s₀ c:μ)(mg mb:Str->Option ε)(j:δ)(o:Obj)(pm cd g:ε)(a:δ)(vs:List ε)(ns:List Int),
   Ground q e [] z w s₀ mg mb c.heap->B w c.heap->
   c.heap.get? j=some o->o.data=.func (docDef d.name d.params d.body d.scope pm cd g)->c.heap.CodeRec cd d.name->mg d.name=some (.ref j)->
   c.heap.get? a=some {cls:=.type "list",data:=.seq vs.toArray}->IntsAre vs ns->ns.length<=n->c.gens= #v[]->
   codeAny (Ϧ l.prog w) callerA (.call (.ref j) #[[.ref a],[]]) (λr s'=>r=.ok (.ret (.bool true))/\OldK c.heap s'.heap/\s'.os=c.os/\AllBare s'.gens) c):WalkO q e z B l.row.toRowW d [] (λf vs=>PySem.call f vs):=by
 intro w s₀ c mg mb G Y j o pm cd g dV kV H hd v C x I D vals as m E J y L;obtain rfl:dV=.none:=Dflts.none C u;obtain rfl:kV=.none:=Dflts.noKw C;let#[a,vs,ns,rfl,rfl,p,i,s]:=aaI F m y;show enter_call (akc (call w s₀ c mg mb j o pm cd g a vs ns G Y H (fd_plain hd) v x p i s I) λr s' M=>?_);let#[rfl,h2,O,P]:=M;show#[.inl #[.bool true,.bool true,[],rfl,λ_=>rfl,.bool true,ai0 l _,λ_=>#[List.Pairwise.nil,λ_ Q=>(nomatch Q)]],h2,O,P]
section
variable{prog:ϯ}{w:ϭ}{A:ϳ}{E:ε->μ->Prop}{s:μ}{K:Frag}
end
end _A
namespace _L
open PySem PySem.Spec PyProof.Rows
theorem Uj:∀{vs:List ε}{ns:List Int},IntsAre vs ns->Vals (ns.map V.int) vs
 |_,_,.nil=>.nil
 |_,_,.cons n t h=>.cons #[t,rfl] (Uj h)
abbrev TX{K:ϩ}{h:ϫ}(_:K.In h):ϩ:=K
def inClass(s:Ϩ)(j:Nat):Ϩ:=match s with
 |.ClassDef _ _ _ body _ _ _ _ _ _ _=>body.getD j (.Pass #[0,0,0,0])
 |_=>.Pass #[0,0,0,0]
def jt(s:Ϩ):Arguments:=match s with
 |.FunctionDef _ a _ _ _ _ _ _ _ _=>a
 |_=>{posonlyargs:=[],args:=[],vararg:=none,kwonlyargs:=[],kw_defaults:=[],kwarg:=none,defaults:=[]}
def aA(s:Ϩ):List Ϩ:=match s with
 |.FunctionDef _ _ b _ _ _ _ _ _ _=>b
 |_=>[]
def ψ(s:Ϩ):ah9:=match s with
 |.FunctionDef _ _ _ _ _ _ sc _ _ _=>sc
 |_=>{kind:=.function,names:=[],isGenerator:=false,isCoroutine:=false}
structure cj(K:ϩ)(x qual:Str)(st:Ϩ)(f:δ)(fd:aiF):Prop where
 ex:∃(oc:ε)(od:Option δ)(kV doc pm:ε)(an:Option δ)(Ϻ ct:ε)(osl:Array (Option ε)),
  fd=apf x qual (jt st) (aA st) (ψ st) .none kV doc pm an Ϻ ct/\K.lookup f=some #[oc,od,.func fd,osl]/\aoP K Ϻ qual=true
 kp:anJ K (.ref f)=true
section
variable{P:ϯ}{w:ϭ}{K:ϩ}{mg:Str->Option ε}{base:ϫ}
theorem cj.binds{x qual:Str}{st:Ϩ}{f:δ}{fd:aiF}{ps:List Str}(F:cj K x qual st f fd)(h:∀(kV a pm:ε)(an:Option δ)(c ct:ε)(us:List ε),us.length=ps.length->bindArgs (apf x qual (jt st) (aA st) (ψ st) .none kV a pm an c ct) #[us,[]]=pure (ps.zip us)):Binds K fd ps []:=by
 let#[oc,od,kV,a,pm,an,c,ct,e,rfl,lk,g]:=F.ex;show .all (h kV a pm an c ct)
theorem sW{x qual:Str}{st:Ϩ}{f:δ}{oc:ε}{od an:Option δ}{e:Array (Option ε)}{kV a pm g ct:ε}(l:K.lookup f=some #[oc,od,.func (apf x qual (jt st) (aA st) (ψ st) .none kV a pm an g ct),e])(c:aoP K g qual=true)(k:anJ K (.ref f)=true):cj K x qual st f (apf x qual (jt st) (aA st) (ψ st) .none kV a pm an g ct):=#[#[oc,od,kV,a,pm,an,g,ct,e,rfl,l,c],k]
end
section
variable{X:Cx}
end
theorem ahl{A B:Prop}(h:B):if false=true then A else B:=by
 rw[if_neg aaA];show h
theorem ac3{A B:Prop}(h:A):if true=true then A else B:=by
 rw[if_pos rfl];show h
def ζ(H H':Hp):=∀b o,H b=some o->H' b=some o
theorem ζ.refl(H:Hp):ζ H H:=λ_ _ h=>h
theorem ζ.trans{H H1 H2:Hp}(a:ζ H H1)(b:ζ H1 H2):ζ H H2:=λc o h=>b c o (a c o h)
theorem ζ.free{H H':Hp}(e:ζ H H'){l:δ}(h:H' l=Option.none):H l=Option.none:=by
 cases q:H l with
 |none=>rfl
 |some o=>
  rw[e l o q]at h;cases h
theorem ζ.seq{K:ϩ}{H H':Hp}{a:δ}{xs:List V}(e:ζ H H')(h:η K H a xs):η K H' a xs:=by
 rcases h with(h|⟨o,h⟩)|h
 .show .inl (.inl (e _ _ h))
 .show .inl (.inr #[o,e _ _ h])
 .show .inr h
section
variable{X:Cx}
theorem aeC:gC X (.builtin "len") (λxs H Q=>∃a Ϸ,xs=[V.ref a]/\H a=some (.dK Ϸ)/\Q (.int Ϸ.length) H):=by
 intro ϵ s σ H xs us Q I r h;let#[a,Ϸ,rfl,c,q]:=h;let#[u,rfl,e]:=vals1 r;cases e;show ad0 I (.inl c) λt s' f=>#[.int Ϸ.length,H,f,#[t,rfl],q]
end
section
variable{κ:Type} [DecidableEq κ]
end
def oh(h:ϫ):Option ε->List δ->Prop
 |c,[]=>c=some .none
 |c,a::r=>c=some (.ref a)/\∃o vs,h.get? a=some o/\o.data=.fields vs/\oh h vs[2]? r
theorem oh.stay{h h':ϫ}{e:δ}(k:∀v o ws,v≠e->h.get? v=some o->o.data=.fields ws->∃o' f,h'.get? v=some o'/\o'.data=.fields f/\f[2]?=ws[2]?):∀{l:List δ}{c:Option ε},oh h c l->e∉l->oh h' c l
 |[],_,q,_=>q
 |a::r,c,⟨g,o,vs,i,j,m⟩,n=>by
  let#[o',f,k1,k2,k3]:=k a o vs (λz=>n (by simp[z])) i j;show#[g,o',f,k1,k2,?_];rw[k3];show oh.stay k m λz=>n (by simp[z])
def Ctx(h:ϫ)(e:δ)(b:Bool)(c:Option ε):Prop:=(b=true->c=some .none)/\∃l,oh h c l/\e∉l/\l.Nodup
theorem Ctx.yes{h:ϫ}{e:δ}{c:Option ε}(q:c=some .none):Ctx h e true c:=#[λ_=>q,[],q,by simp,.nil]
theorem Ctx.stay{h h':ϫ}{e:δ}{b:Bool}{c:Option ε}(q:Ctx h e b c)(k:∀v o ws,v≠e->h.get? v=some o->o.data=.fields ws->∃o' a,h'.get? v=some o'/\o'.data=.fields a/\a[2]?=ws[2]?):Ctx h' e b c:=by
 let#[g,l,i,f,j]:=q;show#[g,l,i.stay k f,f,j]
def bz(h:ϫ)(e:δ)(cls:ε)(d:Option δ×Bool)(tb:Option δ)(f:ε):Prop:=
 ∃a vs,h.get? e=some a/\a.cls=cls/\a.dict=d.1/\a.data=.fields vs/\vs[1]?=some (tb.elim Value.none Value.ref)/\2<vs.size/\Ctx h e d.2 vs[2]? /\
  ∀T,tb=some T->T≠e/\∃c ws,h.get? T=some c/\c.data=.fields ws/\ws[3]?=some f
theorem Ϡ.free{P:ϯ}{w:ϭ}{H:Hp}{h:ϫ}{a:δ}(x:Ϡ P w H h)(e:h.get? a=none):H a=none:=by
 cases q:H a with
 |none=>rfl
 |some u=>
  let#[c,z]:=(x a u q).there;rw[e]at z;cases z
def bL(P:ϯ)(w:ϭ):eU:=λouter H s E x s'=>∃e tb cls d H',x=.ref e/\s'.os=s.os/\AllBare s'.gens/\Un (cM outer) [] H H' s.heap s'.heap/\Ϡ P w H' s'.heap/\bz s'.heap e cls d tb .none/\
 (∀b∈e::tb.toList,H' b=none/\s.heap.get? b=none)/\E cls d H'
theorem bL.never{P:ϯ}{w:ϭ}{outer:List Env}{H:Hp}{s s':μ}{e:ε}(h:bL P w outer H s (λ_ _ _=>False) e s'):False:=by
 let#[_,_,_,_,_,_,_,_,_,_,_,_,z]:=h;show z
section
variable{M:Model}{A:ϳ}{E:ε->μ->Prop}{s:μ}
theorem Im{base:ϫ}{env:Env}{outer:List Env}{L e:δ}{oe:Obj}{vs:Array ε}{head:ε}{c:Bool}{Q:Unit->μ->Prop}(i:A.frames=some (env::outer))(p:s.heap.FunFrames base (env::outer))(z:env.frame=some L)(u:s.heap.get? e=some oe)(hd:oe.data=.fields vs)(hsz:1<vs.size)(k:∀(h':ϫ)(T:δ)(v:Obj)(ws:Array ε),s.heap.objs.size<=h'.objs.size->(∀b o,s.heap.get? b=some o->b≠e->b∉cM (env::outer)->h'.get? b=some o)->
   (∀b o,s.heap.get? b=some o->b≠e->∃sl,h'.get? b=some {o with slots:=sl})->s.heap.objs.size<=T->h'.get? e=some (oe.mapFields (·.setIfInBounds 1 (.ref T)))->
   h'.get? T=some v->v.data=.fields ws->ws[3]?=some (rawInt L)->Q PUnit.unit {s with heap:=h'}):π M A (do
   let a<-frameOf env;let pl<-entryPlaceOf L c;let b<-EntryCells.newEntry head a .none (rawInt L) .none pl
   setField (.ref e) 1 b) Q E s:=by
 let B:e∉(env::outer).filterMap (·.frame):=λm=>by
  let#[_,o,x,C]:=p.mem m;rw[u]at x;cases x;show C vs hd
 show ν (wpAny_frameOf_fun i p z λh1 g=>ν (wpAny_entryPlaceOf λpl y=>?_));unfold EntryCells.newEntry newFields;show ν (ajY ?_ (y.sizeOk5 _ _ _ _ _));let e1:h1.get? e=some oe:=(g.2.1 e B).trans u;let j:e≠h1.objs.size:=ab7 (abV e1);show wpAny_setField (ϲ _ e1) hd hsz (k _ h1.objs.size {cls:=.type "traceback",dict:=none,data:=.fields (([head,.ref L,.none,rawInt L,.none]:List ε)++(if pl.isEmpty then aml 6 Value.none else pl)).toArray} (([head,.ref L,.none,rawInt L,.none]:List ε)++(if pl.isEmpty then aml 6 Value.none else pl)).toArray ?_ (λb o l f n=>?_) (λb o l f=>?_) (amJ g.1.symm) ?_ ?_ ?_ ?_)
 .rw[aoX,akj,g.1];show anO _
 .rw[acg _ _ (Ne.symm f)];show ϲ _ ((g.2.1 b n).trans l)
 .let#[sl,q]:=g.2.2 b o l;show#[sl,by rw[acg _ _ (Ne.symm f)];show ϲ _ q]
 .show ae6 _ (ϲ _ e1) (Obj.isFreed_of_fields (Obj.data_mapFields hd _))
 .rw[acg _ _ j];show abi h1 rfl
 .show rfl
 .first
   |(simp;done)
   |(obtain rfl|⟨_,_,_,_,_,_,_,rfl⟩:=y<;>simp)
structure tG(h h':ϫ)(ch fs:List δ):Prop where
 keep:∀b o,h.get? b=some o->b∉fs->b∉ch->h'.get? b=some o
 slot:∀b o,h.get? b=some o->b∉ch->∃sl,h'.get? b=some {o with slots:=sl}
 there:∀b o,h.get? b=some o->∃o',h'.get? b=some o'
theorem Xm{base:ϫ}{env:Env}{outer:List Env}{L e:δ}{cls:ε}{d:Option δ×Bool}{tb:Option δ}{fl:ε}{Q:Unit->μ->Prop}(p:A.frames=some (env::outer))(hl:s.heap.FunFrames base (env::outer))(I:env.frame=some L)(F:bz s.heap e cls d tb fl)(J:(fl==rawInt L)=false)(k:∀(h':ϫ)(T:δ),tG s.heap h' (e::tb.toList) (cM (env::outer))->s.heap.objs.size<=T->bz h' e cls d (some T) (rawInt L)->Q PUnit.unit {s with heap:=h'}):π M A (noteFrame (.ref e) env) Q E s:=by
 let#[O,vs,m,hc,P,hd,h1,hz,h2,ht]:=F
 let fin:∀{R:ϫ}{h':ϫ}{T:δ}{n:Obj}{ws:Array ε},(∀v o ws,v≠e->s.heap.get? v=some o->o.data=.fields ws->∃o' u,h'.get? v=some o'/\o'.data=.fields u/\u[2]?=ws[2]?)->R.get? e=some O->R.objs.size<=T->h'.get? e=some (O.mapFields (·.setIfInBounds 1 (.ref T)))->h'.get? T=some n->n.data=.fields ws->
   ws[3]?=some (rawInt L)->bz h' e cls d (some T) (rawInt L):=λ{R h' T n ws} kk e0 hT a g f q4=>by
  let S:=Obj.data_mapFields hd (·.setIfInBounds 1 (Value.ref T));show#[_,_,a,(Obj.cls_mapFields _ _).trans hc,?_,S,?_,by simpa using hz,?_,λT' eT=>?_]
  .let#[c0,d0,dt,sl]:=O;cases hd;show P
  .have :1<vs.size:=()
   simp[this]
  .rw[aiX (by decide)];show h2.stay kk
  .cases eT;show#[λz=>ajM _ (abX (abV e0) (z▸hT)),n,ws,g,f,q4]
 unfold noteFrame;simp only[I];cases tb with
 |none=>
  let l:vs[1]?=some Value.none:=h1;show ν (ahc m hd l ?_);rw[if_neg (by decide)];show Im p hl I m hd () λh' T n ws a1 U j x y W X Y=>k h' T #[λb o a g f=>U b o a (λz=>f (by simp[z])) g,λb o a f=>j b o a λz=>f (by simp[z]),λb o a=>?_] x (fin (λv o ws G a g=>by let#[sl,q]:=j v o a G;show#[_,ws,q,g,rfl]) m x y W X Y)
  by_cases z:b=e
  .subst z;show#[_,y]
  .let#[sl,q]:=j b o a z;show#[_,q]
 |some i=>
  let#[Ϲ,oT0,Z,B,H,t3]:=ht i rfl;let l:vs[1]?=some (Value.ref i):=h1;show ν (ahc m hd l ?_);rw[if_pos (show(Value.ref i !=Value.none)=true from by simp)];show ν (ahc B H t3 ?_);rw[if_neg (by rw[J];show aaA)];show ν (wpAny_setField B H (akR.mp t3).1 ?_);let c:∀b,b≠i->(s.heap.update i (Obj.mapFields (·.setIfInBounds 3 Value.none))).get? b=s.heap.get? b:=λb C=>acg _ _ (Ne.symm C)
  let QZ:=ae6 (Obj.mapFields (·.setIfInBounds 3 Value.none)) B (Obj.isFreed_of_fields (Obj.data_mapFields H _));let hsz:(s.heap.update i (Obj.mapFields (·.setIfInBounds 3 Value.none))).objs.size=s.heap.objs.size:=aoX ..;let ab:(s.heap.update i (Obj.mapFields (·.setIfInBounds 3 Value.none))).FunFrames base (env::outer):=hl.of_keeps λb o C nf=>#[o,(c b λz=>by
   subst z;rw[B]at C;cases C;show nf Z H).trans C,rfl]
  show Im (s:={s with heap:=s.heap.update i (Obj.mapFields (·.setIfInBounds 3 Value.none))}) p ab I ((c e (Ne.symm Ϲ)).trans m) hd () λh' T n ws a1 U j x y W X Y=>
   k h' T #[λb o a g f=>U b o ((c b λz=>f (by simp[z])).trans a) (λz=>f (by simp[z])) g,λb o a f=>j b o ((c b λz=>f (by simp[z])).trans a) λz=>f (by simp[z]),λb o a=>?_] (hsz▸x) (fin (λv o ws G a g=>by
     by_cases D:v=i
     .subst D;let#[sl,q]:=j v _ QZ G;rw[B]at a;cases a;show#[_,_,q,Obj.data_mapFields g _,by rw[aiX (by decide)]]
     .let#[sl,q]:=j v o ((c v D).trans a) G;show#[_,ws,q,g,rfl]) ((c e (Ne.symm Ϲ)).trans m) x y W X Y)
  by_cases z:b=e
  .subst z;show#[_,y]
  .by_cases D:b=i
   .subst D;let#[sl,q]:=j b _ QZ z;show#[_,q]
   .let#[sl,q]:=j b o ((c b D).trans a) z;show#[_,q]
theorem ahT{base:ϫ}{env:Env}{outer:List Env}{L e:δ}{cls:ε}{d:Option δ×Bool}{tb:Option δ}{Q:Unit->μ->Prop}(a:A.frames=some (env::outer))(c:s.heap.FunFrames base (env::outer))(f:env.frame=some L)(F:bz s.heap e cls d tb .none)(k:∀(h':ϫ)(T:δ),tG s.heap h' (e::tb.toList) (cM (env::outer))->s.heap.objs.size<=T->bz h' e cls d (some T) (rawInt L)->Q PUnit.unit {s with heap:=h'}):π M A (noteFrame (.ref e) env) Q E s:=
 Xm a c f F (by simp[rawInt]) k
theorem agF{env:Env}{L e:δ}{cls:ε}{d:Option δ×Bool}{tb:Option δ}{Q:Unit->μ->Prop}(a:env.frame=some L)(F:bz s.heap e cls d tb (rawInt L))(c:tb.isSome=true)(k:Q PUnit.unit s):π M A (noteFrame (.ref e) env) Q E s:=by
 let#[n,vs,f,o,g,hd,h1,hz,h2,i]:=F;cases tb with
 |none=>cases c
 |some T=>
  let#[_,p,ws,j,l,m]:=i T rfl;show wpAny_noteFrame_inFlight a f hd h1 j l m k
theorem ajW{e T:δ}{cls:ε}{d:Option δ×Bool}{p:ε}{Q:Unit->μ->Prop}(F:bz s.heap e cls d (some T) p)(k:∀h',tG s.heap h' [T] []->bz h' e cls d (some T) .none->Q PUnit.unit {s with heap:=h'}):π M A (setFlight (.ref e) none) Q E s:=by
 let#[u,vs,i,x,f,hd,h1,hz,h2,y]:=F;let#[j,D,ws,a,c,B]:=y T rfl;let l:3<ws.size:=(akR.mp B).1;show wpAny_setFlight_none i hd h1 a c l (k _ #[λb o q _ n=>?_,λb o q n=>#[o.slots,?_],λb o q=>?_] ?_)
 .rw[acg _ _ (λz=>n (by simp[z]))];show q
 .rw[acg _ _ (λz=>n (by simp[z]))];show q
 .by_cases z:b=T
  .subst z;show#[_,ae6 _ a (Obj.isFreed_of_fields (Obj.data_mapFields c _))]
  .show#[o,by rw[acg _ _ (Ne.symm z)];show q]
 .show#[u,vs,?_,x,f,hd,h1,hz,h2.stay λv o ws G g m=>?_,λH C=>?_]
  .rw[acg _ _ j];show i
  .by_cases z:v=T
   .subst z;rw[a]at g;cases g;show#[_,_,ae6 _ a (Obj.isFreed_of_fields (Obj.data_mapFields c _)),Obj.data_mapFields m _,by rw[aiX (by decide)]]
   .show#[o,ws,by rw[acg _ _ (Ne.symm z)];show g,m,rfl]
  .cases C;show#[j,_,_,ae6 _ a (Obj.isFreed_of_fields (Obj.data_mapFields c _)),Obj.data_mapFields c _,by simp[l]]
end
section
variable{X:Cx}{ϵ:List (δ×Obj)}{σ:St}{H H':Hp}{s s':μ}
def Ch(X:Cx)(ϵ:List (δ×Obj))(b:δ):Prop:=(b∈X.ex\/X.s₀.heap.get? b=none)/\b≠X.env.locals/\(∀x c,X.env.cells.lookup x=some c->c≠b)/\∀p∈X.pn++ϵ,p.1≠b
theorem Inv.ch(I:Inv X ϵ σ H s){b:δ}(h:s.heap.get? b=none):Ch X ϵ b:=by
 show#[?_,λz=>?_,λx c q z=>?_,λp g z=>?_]
 .by_cases e:b∈X.ex
  .show .inl e
  .show .inr ?_;cases q:X.s₀.heap.get? b with
   |none=>rfl
   |some o=>
    let#[o',f]:=I.base.there b o q e;rw[h]at f;cases f
 .let#[_,#[o,_,_,a,_],_]:=I.loc;rw[<-z,h]at a;cases a
 .let#[_,o,a,_]:=I.cell x c q;rw[z,h]at a;cases a
 .have :=(I.pin p g).1;rw[z,h]at this;cases this
theorem Inv.noted{ch:List δ}{h':ϫ}(I:Inv X ϵ σ H s)(N:tG s.heap h' ch (cM X.stack))(i:∀b∈ch,H b=none/\Ch X ϵ b):Inv X ϵ σ H {s with heap:=h'}:=by
 let jo:∀b u,H b=some u->b∉cM X.stack/\b∉ch:=λb u e=>#[(λz=>by rw[I.stkFree b z]at e;cases e),(λz=>by rw[(i b z).1]at e;cases e)]
 show I.call (g':=s.gens) (d':=s.drawn) (t':=s.toks) (ch:=ch) (h':=h') #[λb o e _ a f=>N.keep b o e a f,λb o e _ _ f=>N.slot b o e f,λ_ _ _ n _=>n,λb o e _=>N.there b o e,λ_ _ e=>e,λ_ _ _ e=>e,λb ps e=>#[#v[],by rw[e];simp]] ?_ I.bare λb a=>(i b a).2
 intro b u e;show(I.hok b u e).stay (λc v g q=>?_) (λ_ q=>q) λ_ _ q=>q
 obtain z|z:=g
 .subst z;show N.keep c v q (jo c u e).1 (jo c u e).2
 .show N.keep c v q (jo c _ z).1 (jo c _ z).2
def qQ(X:Cx)(ϵ:List (δ×Obj))(σ:St)(H:Hp)(s:μ)(e:δ)(cls:ε)(d:Option δ×Bool):Prop:=
 Inv X ϵ σ H s/\∃tb a,bz s.heap e cls d tb a/\(a=.none\/(a=rawInt X.env.locals/\tb.isSome=true))/\∀b∈e::tb.toList,H b=none/\Ch X ϵ b
def bO(X:Cx)(Kx:St->XK):=∀(ϵ:List (δ×Obj))(σ:St)(H:Hp)(s:μ)(e:δ)(cls:ε)(d:Option δ×Bool),qQ X ϵ σ H s e cls d->Kx σ cls d H->X.xe (.ref e) s
theorem Inv.flown{E:XK}{x:ε}(I:Inv X ϵ σ H s)(c:bL X.prog X.w X.stack H s E x s'):∃e cls d H',x=.ref e/\qQ X ϵ σ H' s' e cls d/\E cls d H':=by
 let#[e,tb,cls,d,H',rfl,os,bare,un,hok,F,ch,q]:=c;let f:Inv X ϵ σ H' s':=I.call' (ch:=[]) os un hok bare λb z=>absurd z (by simp)
 show#[e,cls,d,H',rfl,#[f,tb,.none,F,.inl rfl,λb a=>#[(ch b a).1,I.ch (ch b a).2]],q]
theorem Qg(h:X.xe=λ_ _=>False):bO X (λ_ _ _ _=>False):=λ_ _ _ _ _ _ _ _ z=>z.elim
theorem qQ.note{M:Model}{E:ε->μ->Prop}{e:δ}{cls:ε}{d:Option δ×Bool}{Q:Unit->μ->Prop}(x:qQ X ϵ σ H s e cls d)(a:X.stack=X.env::X.outer)(f:X.env.frame=some X.env.locals)(k:∀s' T,Inv X ϵ σ H s'->bz s'.heap e cls d (some T) (rawInt X.env.locals)->(∀b∈[e,T],H b=none/\Ch X ϵ b)->Q PUnit.unit s'):π M X.A (noteFrame (.ref e) X.env) Q E s:=by
 let#[I,tb,n,F,c,ch]:=x;obtain z|⟨z,j⟩:=c
 .subst z;let g:=I.stack;rw[a]at g;show ahT (base:=X.base) (I.ok.frames.trans (by rw[a])) g f F λh' T N i l=>k _ T (I.noted (by rw[a];show N) ch) l λb m=>?_
  obtain z|z:=aaG.mp m
  .subst z;show ch _ adV
  .let z':b=T:=by simpa using z
   subst z';show#[I.hok.fresh i,I.ch (aj1 i)]
 .subst z;cases tb with
  |none=>cases j
  |some T=>show agF f F rfl (k s T I F ch)
theorem Inv.off{M:Model}{E:ε->μ->Prop}{e T:δ}{cls:ε}{d:Option δ×Bool}{a:ε}{Q:Unit->μ->Prop}(I:Inv X ϵ σ H s)(F:bz s.heap e cls d (some T) a)(c:∀b∈[e,T],H b=none/\Ch X ϵ b)(k:∀s',Inv X ϵ σ H s'->bz s'.heap e cls d (some T) .none->Q PUnit.unit s'){A:ϳ}:π M A (setFlight (.ref e) none) Q E s:=by
 show ajW F λh' N f=>k _ (I.noted (ch:=[T]) #[λb o q _ n=>N.keep b o q (by simp) n,N.slot,N.there] λb g=>?_) f
 let z:b=T:=by simpa using g
 subst z;show c b (by simp)
end
theorem ύ{cc:Bool}{P:ϯ}{w:ϭ}{K:ϩ}{mg:Str->Option ε}{base:ϫ}{N:List Str}{qual:Str}{scope:ah9}{f:δ}{cd:ε}{A:ϳ}{outer:List Env}{s₀:μ}{H₀:Hp}{E:XK}:bO (km cc (bL P w) P w K mg base N qual scope f cd A outer s₀ H₀ E) (λ_=>E):=by
 intro ϵ σ H s e cls d x q;show π _ _ (leaving _ _) _ _ s;unfold leaving;show ν (x.note rfl rfl λl T c g c1=>?_);show c.off g c1 λm a i=>?_
 show#[e,some T,cls,d,H,rfl,a.os,a.bare,a.base,a.hok,i,λb j=>?_,q];let z:=c1 b (by simpa using j);show#[z.1,?_];obtain y|y:=z.2.1
 .show absurd (show b∈([]:List δ)from y) (by simp)
 .show y
theorem aaV{cc:Bool}{P:ϯ}{w:ϭ}{K:ϩ}{mg:Str->Option ε}{base:ϫ}{N:List Str}{qual:Str}{scope:ah9}{f:δ}{cd:ε}{A:ϳ}{outer:List Env}{s₀:μ}{H₀:Hp}{E:XK}:alP (Ϧ P w) (A.deeper (envOfC qual scope s₀.heap.objs.size f cd)) (envOfC qual scope s₀.heap.objs.size f cd) (km cc (bL P w) P w K mg base N qual scope f cd A outer s₀ H₀ E).xe:=PassesOwn.leaving
section
variable{X:Cx}{Kx:St->XK}{cc:Bool}{k k':Nat}{f C:δ}{fd:aiF}{ps:List Str}{sp:Sp}{x m:Str}{p pos apos:Pos}{e o:ϧ}{es:List ϧ}{σ:St}{H:Hp}{Q:VK}
theorem qM{ϵ:List (δ×Obj)}{s:μ}{us:List ε}{vs:List V}(F:cG X.prog X.w X.K X.mg X.base (bL X.prog X.w) cc k f fd ps sp)(i:ϒ cc k X.A)(j:Binds X.K fd ps [])(l:bO X Kx)(I:Inv X ϵ σ H s)(r:Vals vs us)(h:sp vs H Q (Kx σ)):π (Ϧ X.prog X.w) X.A (call (.ref f) us) (EP X ϵ σ Q) X.xe s:=by
 let m:us.length=ps.length:=by rw[<-r.length];show F.len _ _ _ _ h
 let c:=j s us I.kIn (by simpa using m);rw[ag5]at c;show anm (akc (F.run X.A X.stack s H #[us,[]] us vs Q (Kx σ) i I.env0 c r h) λr s' g=>?_);cases r with
 |error e=>
  let#[a,cls,d,H',rfl,n,q]:=I.flown g;show l ϵ σ H' s' a cls d n q
 |ok o=>
  cases o with
  |ret u=>show I.after g
  |next=>show False.elim g
  |brk=>show False.elim g
  |cont=>show False.elim g
end
def EV(X:Cx)(e:ϧ)(σ:St)(H:Hp)(Q:VK):Prop:=
 ∀(ϵ:List (δ×Obj))(s:μ),Inv X ϵ σ H s->π (Ϧ X.prog X.w) X.A (eval e X.env) (EP X ϵ σ Q) X.xe s
def ET(X:Cx)(e:ϧ)(σ:St)(H:Hp)(Q:Bool->Hp->Prop):Prop:=
 ∀(ϵ:List (δ×Obj))(s:μ),Inv X ϵ σ H s->π (Ϧ X.prog X.w) X.A (isTrue e X.env (eval e X.env)) (TP X ϵ σ Q) X.xe s
def EW(X:Cx)(e:ϧ)(σ:St)(H:Hp)(Q:Bool->Hp->Prop):Prop:=
 ∀(a:Sem ε)(ϵ:List (δ×Obj))(s:μ),Inv X ϵ σ H s->π (Ϧ X.prog X.w) X.A (isTrue e X.env a) (TP X ϵ σ Q) X.xe s
def EA(X:Cx)(es:List ϧ)(σ:St)(H:Hp)(Q:List V->Hp->Prop):Prop:=
 ∀(pos:Pos)(ϵ:List (δ×Obj))(s:μ),Inv X ϵ σ H s->π (Ϧ X.prog X.w) X.A (spliced (backTo pos (ϴ es X.env))) (AP X ϵ σ Q) X.xe s
def EO(X:Cx)(e:Option ϧ)(σ:St)(H:Hp)(Q:Option Int->Hp->Prop):=∃t,PO X e t/\t σ H Q
def SX(X:Cx)(st:Ϩ)(D:Ends)(σ:St)(H:Hp):Prop:=
 ∀(ϵ:List (δ×Obj))(s:μ),Inv X ϵ σ H s->π (Ϧ X.prog X.w) X.A (exec st X.env) (SP X ϵ D) X.xe s
def Ρ(X:Cx)(st:List Ϩ)(D:Ends)(σ:St)(H:Hp):Prop:=
 ∀(ϵ:List (δ×Obj))(s:μ),Inv X ϵ σ H s->π (Ϧ X.prog X.w) X.A (execs st X.env) (SP X ϵ D) X.xe s
def EG(X:Cx)(tg:ϧ)(v:V)(σ:St)(H:Hp)(Q:St->Hp->Prop):Prop:=
 ∀(ϵ:List (δ×Obj))(s:μ)(u:ε),Inv X ϵ σ H s->RelV v u->π (Ϧ X.prog X.w) X.A (assign tg X.env u) (λ_ s'=>∃σ' H',Inv X ϵ σ' H' s'/\Q σ' H') X.xe s
def rE(X:Cx)(a:List ϧ)(vs:List V)(σ:St)(H:Hp)(Q:St->Hp->Prop):Prop:=
 ∀(ϵ:List (δ×Obj))(s:μ)(us:List ε),Inv X ϵ σ H s->Vals vs us->π (Ϧ X.prog X.w) X.A (assignInOrder ((assignEach a X.env).map (·.2)) us) (λ_ s'=>∃σ' H',Inv X ϵ σ' H' s'/\Q σ' H') X.xe s
def EI(X:Cx)(tg iter:ϧ)(σ:St)(H:Hp)(R:It->Hp->Prop):Prop:=
 ∀(ϵ:List (δ×Obj))(s:μ),Inv X ϵ σ H s->
  π (Ϧ X.prog X.w) X.A (eval iter X.env) (λv a=>π (Ϧ X.prog X.w) X.A (pyIter v) (yc X ϵ σ tg R) X.xe a) X.xe s
def OP(X:Cx)(f:ε->ε->Sem ε)(x y:V)(H:Hp)(Q:VK):=∃r,aQ X f r/\r x y H Q
def UN(X:Cx)(f:ε->Sem ε)(x:V)(H:Hp)(Q:VK):=∃r,vJ X f r/\r x H Q
def CL(X:Cx)(f:ε)(xs:List V)(H:Hp)(Q:VK):=∃r,gC X f r/\r xs H Q
def IX(X:Cx)(x y:V)(H:Hp)(Q:VK):=∃r,p8 X r/\r x y H Q
def SL(X:Cx)(x:V)(lo hi:Option Int)(H:Hp)(Q:VK):=∃r,rJ X r/\r x lo hi H Q
def MT(X:Cx)(id:String)(x:V)(xs:List V)(H:Hp)(Q:VK):=∃r,Bd X id r/\r x xs H Q
section
variable{X:Cx}{a b c e:ϧ}{es:List ϧ}{σ:St}{H:Hp}{Q:VK}{QT:Bool->Hp->Prop}{QA:List V->Hp->Prop}{D:Ends}{pos p apos:Pos}{x:Str}{v:V}
theorem gH:PE X e (EV X e):=λϵ s _ _ _ I h=>h ϵ s I
theorem acF:PT X e (ET X e):=λϵ s _ _ _ I h=>h ϵ s I
theorem aaR:PW X e (EW X e):=λa ϵ s _ _ _ I h=>h a ϵ s I
theorem Xx{o:Option ϧ}:PO X o (EO X o):=λϵ s σ H Q I ⟨_,h,q⟩=>h ϵ s σ H Q I q
theorem Cv{st:List Ϩ}:zx X st (Ρ X st):=λϵ s _ _ _ I h=>h ϵ s I
theorem lR{f:ε->ε->Sem ε}:aQ X f (OP X f):=λϵ s σ H x y v u Q I rx ry ⟨_,h,q⟩=>h ϵ s σ H x y v u Q I rx ry q
theorem aeV{f:ε->Sem ε}:vJ X f (UN X f):=λϵ s σ H x v Q I rx ⟨_,h,q⟩=>h ϵ s σ H x v Q I rx q
theorem Xd{f:ε}:gC X f (CL X f):=λϵ s σ H xs us Q I rx ⟨_,h,q⟩=>h ϵ s σ H xs us Q I rx q
theorem aeM:p8 X (IX X):=λa sl ϵ s σ H x y v u Q I rx ry ⟨_,h,q⟩ hs=>h a sl ϵ s σ H x y v u Q I rx ry q hs
theorem abI:rJ X (SL X):=λϵ s σ H x v a c lo hi sl Q I rx hs pl e ⟨_,h,q⟩=>h ϵ s σ H x v a c lo hi sl Q I rx hs pl e q
theorem abW{id:String}:Bd X id (MT X id):=λϵ s σ H x xs v us Q I rx rs ⟨_,h,q⟩=>h ϵ s σ H x xs v us Q I rx rs q
theorem wj{t:TE}(h:PE X e t)(q:t σ H Q):EV X e σ H Q:=λϵ s I=>h ϵ s σ H Q I q
theorem ag1{t:TT}(h:PT X e t)(q:t σ H QT):ET X e σ H QT:=λϵ s I=>h ϵ s σ H QT I q
def eV:List Str->St->Str->Option V
 |n::N,o::σ,x=>if n=x then o else eV N σ x
 |_,_,_=>none
theorem Ab:∀{N:List Str}{σ:St}{x:Str}{v:V},eV N σ x=some v->∃i:Nat,N[i]?=some x/\σ[i]?=some (some v)
 |n::N,o::σ,x,v,h=>by
  unfold eV at h;split at h
  .rename_i e;show#[0,by simp[e],by simp[h]]
  .let#[i,h1,h2]:=Ab h;show#[i+1,by simpa using h1,by simpa using h2]
 |[],_,_,_,h=>by simp[eV]at h
 |_::_,[],_,_,h=>by simp[eV]at h
def nameAt:List Str->Str->Option Nat
 |n::N,x=>if n=x then some 0 else(nameAt N x).map (· +1)
 |[],_=>none
theorem j8:∀{N:List Str}{x:Str}{i:Nat},nameAt N x=some i->N[i]?=some x
 |n::N,x,i,h=>by
  unfold nameAt at h;split at h
  .rename_i e;cases h;simp[e]
  .cases q:nameAt N x with
   |none=>rw[q]at h;cases h
   |some j=>
    rw[q]at h;cases h;simpa using j8 q
 |[],_,_,h=>by simp[nameAt]at h
theorem ajZ(c:eV X.N σ x=some v)(e:pK X.env.scope x)(q:Q v H)(hd:(x==("__debug__":Str))=false)(a:(x==("__classdict__":Str))=false):EV X (.Name x pos) σ H Q:=by
 let#[i,h1,h2]:=Ab c;show wj (acU h1 e hd a) #[v,h2,q]
def Gc(mg:Str->Option ε)(x:Str)(v:V):=∃u,mg x=some u/\RelV v u
theorem ahG(g:Gc X.mg x v)(a:Gl X x)(q:Q v H)(hd:(x==("__debug__":Str))=false):EV X (.Name x pos) σ H Q:=by
 let#[u,h1,h2]:=g;show wj (RW a h1 h2 hd) q
theorem aiC{T:String}(a:Gl X x)(c:X.mg x=none)(e:bootBuiltins x=some (.type T))(q:Q (.ty T) H)(f:x≠"__name__")(hd:(x==("__debug__":Str))=false):EV X (.Name x pos) σ H Q:=λϵ s I=>il I a c e #[(.ty T),H,I,rfl,q] f hd
theorem ahM{i:Int}{j}(q:Q (.int i) H):EV X (.Constant (.int i) j pos) σ H Q:=λϵ s I=>wpAny_Constant_int #[.int i,H,I.tok _,#[_,rfl],q]
theorem aeS{i:Bool}{j}(q:Q (.bl i) H):EV X (.Constant (.bool i) j pos) σ H Q:=λϵ s I=>Constant_bool #[.bl i,H,I,rfl,q]
theorem aaj{j}(q:Q .non H):EV X (.Constant .none j pos) σ H Q:=λϵ s I=>Constant_none #[.non,H,I,rfl,q]
theorem U7{i:Str}{j}(q:Q (.str i) H):EV X (.Constant (.str i) j pos) σ H Q:=λϵ s I=>Calls.Constant_str #[.str i,H,I.tok _,#[_,rfl],q]
theorem afs{op:Operator}(h:EV X a σ H λx H1=>EV X b σ H1 λy H2=>OP X (binaryOp op) x y H2 Q):EV X (.BinOp a op b pos) σ H Q:=by
 intro ϵ s I;show wpAny_BinOp (Gd gH gH I h λv u c x y H2 e rx ry q=>lR ϵ c σ H2 x y v u Q e rx ry q)
theorem aad{op:UnaryOp}(h:EV X a σ H λx H1=>UN X (unaryOp op) x H1 Q):EV X (.UnaryOp op a pos) σ H Q:=by
 intro ϵ s I;show UnaryOp_ (χ (h ϵ s I) λv c ⟨x,H1,e,r1,f⟩=>aeV ϵ c σ H1 x v Q e r1 f)
theorem aeD{op:CmpOp}(c:behindInMarks op b=false)(h:EV X a σ H λx H1=>EV X b σ H1 λy H2=>OP X (adC op) x y H2 Q):EV X (.Compare a [op] [b] pos) σ H Q:=by
 intro ϵ s I;show wpAny_Compare1 (Gd gH gH I h λv u e x y H2 f rx ry q=>lR ϵ e σ H2 x y v u Q f rx ry q) c
theorem aeO{op:CmpOp}(g:behindInMarks op b=false)(h:EV X a σ H λx H1=>EV X b σ H1 λy H2=>OP X (adC op) x y H2 λz f=>∃k,z=.bl k/\QT k f):ET X (.Compare a [op] [b] pos) σ H QT:=by
 intro ϵ s I;show wpAny_isTrue_Compare1 (χ (h ϵ s I) λv i ⟨x,H1,j,r1,l⟩=>χ (l ϵ i j) λu m ⟨y,H2,n,o,p⟩=>
  χ (lR ϵ m σ H2 x y v u _ n r1 o p) λc D ⟨z,f,q,B,k,e,C⟩=>?_) g
 subst e;cases B;show agT #[f,q,C]
theorem abf{op f:CmpOp}(o:lastMarks [op,f] [b,c]=false)(h:EV X a σ H λx H1=>EV X b σ H1 λy H2=>OP X (adC op) x y H2 λz g=>∃k,z=.bl k/\(if k=true then EV X c σ g λi j=>OP X (adC f) y i j Q else Q (.bl false) g)):EV X (.Compare a [op,f] [b,c] pos) σ H Q:=by
 intro ϵ s I;show Compare_chain (χ (h ϵ s I) λv p ⟨x,H1,q,r1,B⟩=>chain_link (χ (B ϵ p q) λu C ⟨y,H2,D,l,E⟩=>
  χ (lR ϵ C σ H2 x y v u _ D r1 l E) λd F ⟨z,g,m,G,k,e,n⟩=>?_)) o
 subst e;cases G;show agT ?_;cases k with
 |false=>show ite_ff #[.bl false,g,m,rfl,n]
 |true=>show ite_tt (chain_last (χ (n ϵ F m) λi J ⟨z',j,L,M,O⟩=>lR ϵ J σ j y z' u i Q L l M O))
theorem afp{op f:CmpOp}(p:lastMarks [op,f] [b,c]=false)(h:EV X a σ H λx H1=>EV X b σ H1 λy H2=>OP X (adC op) x y H2 λz g=>∃k,z=.bl k/\(if k=true then EV X c σ g λi j=>OP X (adC f) y i j λz' l=>∃k',z'=.bl k'/\QT k' l else ∃k',V.bl false=.bl k'/\QT k' g)):ET X (.Compare a [op,f] [b,c] pos) σ H QT:=by
 intro ϵ s I;show isTrue_chain (χ (h ϵ s I) λv q ⟨x,H1,B,r1,C⟩=>test_link (χ (C ϵ q B) λu D ⟨y,H2,E,m,F⟩=>
  χ (lR ϵ D σ H2 x y v u _ E r1 m F) λd G ⟨z,g,n,J,k,e,o⟩=>?_)) p
 subst e;cases J;show agT ?_;cases k with
 |false=>
  let#[k',L,M]:=o;cases L;show ite_ff #[g,n,M]
 |true=>
  show ite_tt (test_last (χ (o ϵ G n) λi O ⟨z',j,P,Q,R⟩=>χ (lR ϵ O σ j y z' u i _ P m Q R) λd' Z S=>?_));let#[z2,l,T,U,k2,W,Y]:=S;subst W;cases U;show agT #[l,T,Y]
theorem Af(c:∀a,isTrue e X.env a=(do let v<-a;standAt e.pos;holding [v] (truthy v)))(h:EV X e σ H λx H'=>∃k,Hs X.K x H' k/\QT k H'):ET X e σ H QT:=by
 intro ϵ s I;show isTrue_plain (χ (h ϵ s I) λv f ⟨x,H1,g,r1,i⟩=>ahA ϵ f σ H1 x v QT g r1 i) (c _)
theorem ad9(h:ET X a σ H λk H1=>QT (!k) H1):ET X (.UnaryOp .Not a pos) σ H QT:=by
 intro ϵ s I;show isTrue_not (h ϵ s I)
theorem vB(h:EW X e σ H QT):ET X e σ H QT:=ag1 aaR.pt h
theorem abL{rest:List ϧ}(h:ET X a σ H λk H1=>if k=true then EW X (.BoolOp .And (b::rest) pos) σ H1 QT else QT false H1):EW X (.BoolOp .And (a::b::rest) pos) σ H QT:=by
 intro g ϵ s I;show isTrue_and (χ (h ϵ s I) λc i j=>?_);let#[H1,e,f]:=j;cases c with
 |true=>show f g ϵ i e
 |false=>show#[H1,e,f]
theorem aef{rest:List ϧ}(h:ET X a σ H λk H1=>if k=true then QT true H1 else EW X (.BoolOp .Or (b::rest) pos) σ H1 QT):EW X (.BoolOp .Or (a::b::rest) pos) σ H QT:=by
 intro g ϵ s I;show isTrue_or (χ (h ϵ s I) λc i j=>?_);let#[H1,e,f]:=j;cases c with
 |true=>show#[H1,e,f]
 |false=>show f g ϵ i e
theorem aiq(h:ET X a σ H QT):EW X (.BoolOp .And [a] pos) σ H QT:=by
 intro f ϵ s I;show isTrue_and (χ (h ϵ s I) λc g e=>?_);cases c with
 |true=>show isTrue_and_nil e
 |false=>show e
theorem ahQ(h:ET X a σ H QT):EW X (.BoolOp .Or [a] pos) σ H QT:=by
 intro f ϵ s I;show isTrue_or (χ (h ϵ s I) λc g e=>?_);cases c with
 |false=>show isTrue_or_nil e
 |true=>show e
theorem Qs{op}(h:EV X a σ H Q):EV X (.BoolOp op [a] pos) σ H Q:=λϵ s I=>BoolOp_one (h ϵ s I)
theorem aiQ{rest:List ϧ}(h:EV X a σ H λx H1=>∃k,x=.bl k/\if k=true then EV X (.BoolOp .And (b::rest) pos) σ H1 Q else Q (.bl false) H1):EV X (.BoolOp .And (a::b::rest) pos) σ H Q:=by
 intro ϵ s I;show BoolOp_and (χ (h ϵ s I) λv g i=>?_);let#[x,H1,f,r1,e]:=i;let#[c,rfl,e]:=e;cases r1;show agT ?_;cases c with
 |true=>show e ϵ g f
 |false=>show#[.bl false,H1,f,rfl,e]
theorem aaK{rest:List ϧ}(h:EV X a σ H λx H1=>∃k,x=.bl k/\if k=true then Q (.bl true) H1 else EV X (.BoolOp .Or (b::rest) pos) σ H1 Q):EV X (.BoolOp .Or (a::b::rest) pos) σ H Q:=by
 intro ϵ s I;show BoolOp_or (χ (h ϵ s I) λv g i=>?_);let#[x,H1,f,r1,e]:=i;let#[c,rfl,e]:=e;cases r1;show agT ?_;cases c with
 |false=>show e ϵ g f
 |true=>show#[.bl true,H1,f,rfl,e]
theorem ahs(h:EV X a σ H λx H1=>∃k,x=.bl k/\Q (.bl (!k)) H1):EV X (.UnaryOp .Not a pos) σ H Q:=by
 intro ϵ s I;show UnaryOp_ (χ (h ϵ s I) λv i f=>?_);let#[x,H1,g,r1,e]:=f;let#[c,rfl,e]:=e;cases r1;show not_of (agT #[.bl (!c),H1,g,rfl,e])
theorem Yz(h:ET X c σ H λk H1=>if k=true then EV X a σ H1 Q else EV X b σ H1 Q):EV X (.IfExp c a b pos) σ H Q:=by
 intro ϵ s I;show wpAny_IfExp (χ (h ϵ s I) λd e i=>?_);let#[H1,f,g]:=i;cases d with
 |true=>show g ϵ e f
 |false=>show g ϵ e f
theorem iZ(q:QA [] H):EA X [] σ H QA:=λpos ϵ s I=>Calls.spliced_nil #[[],H,I,.nil,q]
theorem d8(hs:ϴ (e::es) X.env=(false,eval e X.env)::ϴ es X.env)(h:EV X e σ H λx H1=>EA X es σ H1 λxs H2=>QA (x::xs) H2):EA X (e::es) σ H QA:=by
 intro pos ϵ s I;rw[hs];show π _ _ (spliced ((false,eval e X.env)::backTo pos (ϴ es X.env))) _ _ s;show Calls.spliced_cons (χ (h ϵ s I) λu a c=>?_);let#[x,H1,f,r1,g]:=c;show χ (g pos ϵ a f) λus m ⟨xs,H2,i,j,l⟩=>#[x::xs,H2,i,.cons r1 j,l]
theorem N8{x1}(h:EA X es σ H λxs H1=>xs.length<=ϰ/\∀p,H1 p=none->Q (.ref p) (upd H1 p (.tup xs))):EV X (.Tuple es x1 pos) σ H Q:=by
 intro ϵ s I;show wpAny_Tuple_spliced (χ (h pos ϵ s I) λus a ⟨xs,H1,c,r,z,q⟩=>#[by rw[<-r.length];show z,?_]);let f:H1 a.heap.objs.size=none:=c.hok.fresh (Ϭ _);show#[.ref a.heap.objs.size,upd H1 a.heap.objs.size (.tup xs),c.laid (t':=a.toks) (λb u e=>ϲ _ e) (Ϭ _) ?_,rfl,q _ f];show#[z,us,r,#[_,abi _ rfl,rfl,_,rfl]]
theorem aaM(h:EA X es σ H λxs H1=>xs.length<=ϰ/\∀p,H1 p=none->Q (.ref p) (upd H1 p (.lst xs))):EV X (.List es pos) σ H Q:=by
 intro ϵ s I;show wpAny_List_spliced (χ (h pos ϵ s I) λus a ⟨xs,H1,c,r,z,q⟩=>#[by rw[<-r.length];show z,?_]);let f:H1 a.heap.objs.size=none:=c.hok.fresh (Ϭ _);show#[.ref a.heap.objs.size,upd H1 a.heap.objs.size (.lst xs),c.laid (t':=a.toks) (λb u e=>ϲ _ e) (Ϭ _) ?_,rfl,q _ f];show#[z,us,0,r,abi _ rfl]
theorem aiO{id:String}(f:Gl X x)(g:X.mg x=none)(i:bootBuiltins x=some (.builtin id))(j:x≠"__name__")(a:(x==("__debug__":Str))=false)(l:ϴ (e::es) X.env=(false,eval e X.env)::ϴ es X.env)(c:(backTo pos (ϴ es X.env)).any (·.1)=false)(h:EA X (e::es) σ H λvs H1=>CL X (.builtin id) vs H1 Q):EV X (.Call (.Name x p) (e::es) [] pos) σ H Q:=by
 intro ϵ s I;show akK (il I f g i ?_ j a);show PyProof.Rows.callWith_builtin1 (χ (h pos ϵ s I) λus m ⟨vs,H1,n,r1,o⟩=>Xd ϵ m σ H1 vs us Q n r1 o) l c
theorem aiG{T:String}(f:Gl X x)(g:X.mg x=none)(i:bootBuiltins x=some (.type T))(j:x≠"__name__")(a:(x==("__debug__":Str))=false)(l:ϴ (e::es) X.env=(false,eval e X.env)::ϴ es X.env)(c:(backTo pos (ϴ es X.env)).any (·.1)=false)(h:EA X (e::es) σ H λvs H1=>CL X (.type T) vs H1 Q):EV X (.Call (.Name x p) (e::es) [] pos) σ H Q:=by
 intro ϵ s I;show akK (il I f g i ?_ j a);show PyProof.Rows.callWith_type1 (χ (h pos ϵ s I) λus m ⟨vs,H1,n,r1,o⟩=>Xd ϵ m σ H1 vs us Q n r1 o) l c
structure Def(P:ϯ)(w:ϭ)(K:ϩ)(mg:Str->Option ε)(base:ϫ)(cc:Bool)(k:Nat)(x:Str)(ps:List Str)(sp:Sp):Prop where
 ex:∃f fd,mg x=some (.ref f)/\anJ K (.ref f)=true/\Binds K fd ps []/\cG P w K mg base (bL P w) cc k f fd ps sp
theorem ϒ.pR{cc bc:Bool}{k:Nat}{A:ϳ}(r:ϒ cc k A)(h:bc=true->cc=true):ϒ bc k A:=#[λz=>r.hd (h z),r.dp,r.un]
theorem adM{Kx:St->XK}{cc bc:Bool}{k k':Nat}{ps:List Str}{sp:Sp}(F:Def X.prog X.w X.K X.mg X.base bc k x ps sp)(j:ϒ cc k' X.A)(l:k<=k')(a:bc=true->cc=true)(m:Gl X x)(n:bO X Kx)(c:(x==("__debug__":Str))=false)(o:ϴ (e::es) X.env=(false,eval e X.env)::ϴ es X.env)(g:(backTo pos (ϴ es X.env)).any (·.1)=false)(h:EA X (e::es) σ H λvs H1=>sp vs H1 Q (Kx σ)):EV X (.Call (.Name x p) (e::es) [] pos) σ H Q:=by
 let#[f,fd,h1,h2,u,v]:=F.ex;intro ϵ s I;show akK (nO I m h1 ?_ c);show ao2 (h₀:=X.base) I.ok.mod.kin h2 (χ (h pos ϵ s I) λus y ⟨vs,H1,i,r,q⟩=>#[i.kIn,?_]) o g;show qM v ((j.mono l).pR a) u n i r q
theorem ag6(hs:agN b)(h:EV X a σ H λx H1=>EV X b σ H1 λy H2=>IX X x y H2 Q):EV X (.Subscript a b pos) σ H Q:=by
 intro ϵ s I;show Subscript_ (Gd gH gH I h λv u c x y H2 e rx ry q=>aeM a b ϵ c σ H2 x y v u Q e rx ry q (hs _ _))
theorem afS{QO:Option Int->Hp->Prop}(q:QO none H):EO X none σ H QO:=#[_,aji,q]
theorem adN{QO:Option Int->Hp->Prop}(q:EV X e σ H λx H1=>∃i,x=.int i/\QO (some i) H1):EO X (some e) σ H QO:=#[_,ajR gH,q]
theorem aeK{lo hi:Option ϧ}{p2:Pos}(h:EV X a σ H λx H1=>EO X lo σ H1 λl H2=>EO X hi σ H2 λu e=>SL X x l u e Q):EV X (.Subscript a (.Slice lo hi none p2) pos) σ H Q:=by
 intro ϵ s I;show Subscript_ (χ (h ϵ s I) λv j i=>?_);let#[x,H1,m,r1,n]:=i;show wpAny_Slice (χ (Xx ϵ j σ H1 _ m n) λf o ⟨l,H2,p,pl,y⟩=>χ (Xx ϵ o σ H2 _ p y) λg c i=>?_);let#[u,e,z,B,C]:=i;rw[evalPart_none];show Ϯ ?_;let D:Inv X ϵ σ e {c with heap:=c.heap.push {cls:=.type "slice",data:=.fields #v[f,g,.none]}}:=z.kept (t':=c.toks) λb J q=>ϲ _ q
 let#[T,id,E,F,G]:=abI ϵ {c with heap:=c.heap.push {cls:=.type "slice",data:=.fields #v[f,g,.none]}} σ e x v f g l u c.heap.objs.size Q D r1 (Heap.IsSliceOf.new ..) pl B C;show π (Ϧ X.prog X.w) X.A (subscriptTail a (.Slice lo hi none p2) v (.ref c.heap.objs.size)) (EP X ϵ σ Q) X.xe {c with heap:=c.heap.push {cls:=.type "slice",data:=.fields #v[f,g,.none]}};show tail_any (ops:=[.ref c.heap.objs.size,v]) F E G (by with_unfolding_all rfl)
theorem dF{T id:String}{name:Str}(n:PlainAttrs T)(slot:Slot T name id)(j:typeOf (.builtin id)=pure (.type "method_descriptor"))(f:attributeBase a name X.env (eval a X.env)=eval a X.env:=by rfl)(i:((backTo pos (ϴ (e::es) X.env)).all (λx=> !x.1)&&(backToKw pos (keywordEach [] X.env)).all (λx=>x.1.isSome)
   &&decide ((e::es).length+([]:List Keyword).length+(if([]:List Keyword).isEmpty then 0 else 1)<30))=true:=by rfl)(g:(apos.endLine==pos.line)=true:=by rfl)(hs:ϴ (e::es) X.env=(false,eval e X.env)::ϴ es X.env:=by rfl)(c:(backTo pos (ϴ es X.env)).any (·.1)=false:=by rfl)(h:EV X a σ H λx H1=>rC X.K T x H1/\EA X (e::es) σ H1 λxs H2=>MT X id x xs H2 Q):EV X (.Call (.Attribute a name apos) (e::es) [] pos) σ H Q:=by
 intro ϵ s I;show wpAny_Call_method_late f i g rfl (χ (h ϵ s I) λv o p=>?_);let#[x,H1,l,r1,ty,q]:=p;let#[h1,h2]:=ahh l r1 ty;show#[T,id,n,slot,j,h1,h2,?_];let m:=q pos ϵ o l;rw[hs]at m⊢;show Calls.callWith_builtin (by show(false||(backTo pos (ϴ es X.env)).any (·.1))=false;rw[c]<;>rfl) (Calls.evalArgs_plain ?_);show χ m λus u ⟨vs,H2,y,z,B⟩=>abW ϵ u σ H2 x vs v us Q y r1 z B
theorem Ε(q:D.nx σ H):Ρ X [] D σ H:=λϵ s I=>wpAny_execs_nil #[σ,H,I,q]
theorem yE{st:Ϩ}{rest:List Ϩ}(h:SX X st {D with nx:=λσ' H'=>Ρ X rest D σ' H'} σ H):Ρ X (st::rest) D σ H:=by
 intro ϵ s I;show wpAny_execs_cons (χ (h ϵ s I) λf a q=>?_);cases f with
 |next=>
  let#[σ',H',c,q]:=q;show q ϵ a c
 |ret v=>show q
 |brk=>show q
 |cont=>show q
theorem Ej{st:Ϩ}(h:SX X st D σ H):Ρ X [st] D σ H:=by
 intro ϵ s I;show wpAny_execs_cons (χ (h ϵ s I) λf a q=>?_);cases f with
 |next=>show wpAny_execs_nil q
 |ret v=>show q
 |brk=>show q
 |cont=>show q
theorem aM(h:EV X e σ H λ_ H1=>D.nx σ H1)(hs:amu e none pos.line X.env=pure false:=by rfl):SX X (.Expr e pos) D σ H:=by
 intro ϵ s I;show wpAny_Expr_any (χ (h ϵ s I) λv f ⟨x,H1,a,r1,c⟩=>#[σ,H1,a,c]) I.quiet hs
theorem ω(h:EV X e σ H D.rt):SX X (.Return (some e) pos) D σ H:=by
 intro ϵ s I;show wpAny_Return_some (χ (h ϵ s I) λv f ⟨x,H1,a,r1,c⟩=>#[x,σ,H1,a,r1,c])
theorem Ka(h:D.rt .non H):SX X (.Return none pos) D σ H:=λϵ s I=>wpAny_Return_none #[.non,σ,H,I,rfl,h]
theorem Κ{t u:List Ϩ}(h:ET X c σ H λk H1=>if k=true then Ρ X t D σ H1 else Ρ X u D σ H1):SX X (.If c t u pos) D σ H:=by
 intro ϵ s I;show wpAny_If (χ (h ϵ s I) λd a g=>?_);let#[H1,e,f]:=g;cases d with
 |true=>show f ϵ a e
 |false=>show f ϵ a e
theorem YC{i:Nat}{p':Pos}(a:X.N.Nodup)(hi:nameAt X.N x=some i)(c:Loc X.env.scope x)(hs:amu e (some (.Name x p')) pos.line X.env=pure false)(f:X.fn x=true\/X.env.scope.names.lookup x=some .local)(h:EV X e σ H λv H1=>D.nx (σ.set i (some v)) H1):SX X (.Assign [.Name x p'] e pos) D σ H:=by
 intro ϵ s I;show wpAny_Assign_Name (χ (h ϵ s I) λv n g=>?_) hs;let#[y,H1,j,r1,l]:=g;show R1 j a (j8 hi) c r1 (λo m=>#[_,H1,m,l]) f
theorem Β{i:Nat}{QG:St->Hp->Prop}(a:X.N.Nodup)(hi:nameAt X.N x=some i)(c:Loc X.env.scope x)(e:X.fn x=true\/X.env.scope.names.lookup x=some .local)(q:QG (σ.set i (some v)) H):EG X (.Name x pos) v σ H QG:=by
 intro ϵ s u I r;show wpAny_assign_Name (R1 I a (j8 hi) c r (λs' f=>#[_,H,f,q]) e)
theorem az{QG:St->Hp->Prop}(q:QG σ H):rE X [] [] σ H QG:=by
 intro ϵ s us I r;cases r;show assignInOrder_nil #[σ,H,I,q]
theorem Θ{a:List ϧ}{vs:List V}{QG:St->Hp->Prop}(h:EG X e v σ H λσ' H'=>rE X a vs σ' H' QG)(hs:(assignEach (e::a) X.env).map (·.2)=assign e X.env::(assignEach a X.env).map (·.2):=by rfl):rE X (e::a) (v::vs) σ H QG:=by
 intro ϵ s us I r;cases r with
 |cons r c=>
  rw[hs];show assignInOrder_cons (χ (h ϵ s _ I r) λ_ f g=>?_);let#[i,H1,j,l]:=g;show l ϵ f _ j c
theorem aj{n:Nat}{k:Nat}{QG:St->Hp->Prop}{q:δ}{xs:List V}(a:ρ X.K H q xs)(h:rE X es xs σ H QG)(g:X.calm=true:=by rfl)(i:(assignEach es X.env).length=n:=by rfl)(c:(assignEach es X.env).findIdx? (·.1)=none:=by rfl)(j:xs.length=n:=by rfl):EG X (.Tuple es k pos) (.ref q) σ H QG:=by
 intro ϵ s u I r;cases r;let#[p,f,a,hz]:=I.tuple a;show assign_Tuple_tuple (I.ok.hd g) a (by simp[i, <-j,f.length]) c λh' l=>?_
 let m:Inv X ϵ σ H {s with heap:=h'}:=I.kept (t':=s.toks) λb o e=>l b o (ab7 (abV e)) e
 show h ϵ _ _ m (by simpa using f)
theorem lF{tg iter:ϧ}{body:List Ϩ}(B:alP (Ϧ X.prog X.w) X.A X.env X.xe)(S:X.calm=true)(hs:∀x,foldedSetIterable iter X.env x=pure x)(h:EI X tg iter σ H λJ H1=>∃W:Nat->Nat->St->Hp->Prop,(∃m,W 0 m σ H1)/\∀i m σ H,W i m σ H->
   (J.stop i H/\D.nx σ H)\/(J.go i H/\∃N:St->Hp->Prop,(∀σ' H',N σ' H'->∃m',m'<m/\W (i+1) m' σ' H')/\∀x H',J.yld i H x H'->EG X tg x σ H' λL H2=>Ρ X body {D with nx:=N,ct:=N,bk:=D.nx} L H2)):SX X (.For tg iter body [] pos) D σ H:=by
 intro ϵ s I;show wpAny_For (χ (h ϵ s I) λv s1 h1=>χ h1 λitv s2 h2=>?_) hs;let#[it,fp,U,J,H2,e,I2,T,M,Y,W,#[m0,w0],turn]:=h2;subst e;let c:∀{H':Hp},(∀b∈fp,H' b=none)->∀b∈fp,bA X ϵ H' b:=λhn b l=>#[hn b l,(Y b l).2]
 show codeAny_forLoop_any (λn s'=>∃i σ' H',Inv X ϵ σ' H' s'/\U i s'.heap/\(∀b∈fp,H' b=none)/\W i n σ' H') ?_ m0 #[0,σ,H2,I2,M,λb l=>(Y b l).1,w0]
 rintro n Z ⟨i,p,G,I3,C,E,w3⟩
 obtain⟨stop,qn⟩|⟨go,N,hN,step⟩:=turn i n p G w3
 .show akZ B (χ (T.done X rfl rfl rfl S i ϵ Z p G X.xe I3 (c E) C stop) λr s4 y=>?_);let#[O,I4]:=y;subst O;show wpAny_execs_nil #[p,G,I4,qn]
 .show akZ B (χ (T.item X rfl rfl rfl S i ϵ Z p G X.xe I3 (c E) C go) λr s4 y=>?_);let#[u,O,h4]:=y;subst O;show akZ B (χ h4 λ_ s5 y=>?_);let#[x,H5,I5,r5,y5,z,P]:=y;let Q:=I5.pinned (c P) (T.obj _ _ z);show akZ B (χ ((step x H5 y5) _ s5 u Q r5) λ_ s6 y=>?_);let#[σ6,H6,I6,q6]:=y;show akZ B (χ (q6 _ s6 I6) λf R q=>?_);let again:∀{a:St}{g:Hp},Inv X (ϵ++fG fp s5.heap) a g R->N a g->∃m,m<n/\∃i σ' H',Inv X ϵ σ' H' R/\U i R.heap/\(∀b∈fp,H' b=none)/\W i m σ' H':=λ{a g} j F=>by
   let#[m',hm,w7]:=hN a g F;show#[m',hm,i+1,a,g,j.unpinned,T.keep _ _ _ z λb l o e=>(j.pin (b,o) (aek _ (aek _ (vD l e)))).1,λb l=>?_,w7];let#[o,e,d]:=T.obj _ _ z b l;show(j.pin (b,o) (aek _ (aek _ (vD l e)))).2.1
  cases f with
  |next=>let#[a,g,j,F]:=q;show again j F
  |cont=>let#[a,g,j,F]:=q;show again j F
  |brk=>let#[a,g,j,q]:=q;show#[a,g,j.unpinned,q]
  |ret v=>let#[x7,a,g,j,r7,q]:=q;show#[x7,a,g,j.unpinned,r7,q]
theorem oE{tg l:ϧ}{R:It->Hp->Prop}(h:EV X l σ H λx H1=>∃a,x=.ref a/\(∃xs,η X.K H1 a xs)/\R (jz X.K a) H1):EI X tg l σ H R:=by
 intro ϵ s I;show χ (h ϵ s I) λv c g=>?_
 let#[x,H1,f,r1,i]:=g;let#[a,e,#[xs,j],q]:=i;subst e;cases r1;let#[n,u,p,hz]:=f.list j;show alc p.isList ?_;show#[c.heap.objs.size,[c.heap.objs.size],_,_,H1,rfl,f.kept (t':=c.toks) λb o e=>ϲ _ e,abU a _,#[_,abi _ rfl,rfl,rfl],λb m=>?_,q];let e:b=c.heap.objs.size:=by simpa using m
 subst e;show f.fpOk (Ϭ _) (f.hok.fresh (Ϭ _))
theorem YH{tg l:ϧ}{R:It->Hp->Prop}(h:EV X l σ H λx H1=>∃a,x=.ref a/\(∃xs,ρ X.K H1 a xs)/\R (qp X.K a) H1):EI X tg l σ H R:=by
 intro ϵ s I;show χ (h ϵ s I) λv c g=>?_
 let#[x,H1,f,r1,i]:=g;let#[a,e,#[xs,j],q]:=i;subst e;cases r1;let#[m,u,p,hz]:=f.tuple j;show wpAny_pyIter_tuple (show c.heap.IsTuple a m.toArray from p) ?_;show#[c.heap.objs.size,[c.heap.objs.size],_,_,H1,rfl,f.kept (t':=c.toks) λb o e=>ϲ _ e,aii a _,#[_,abi _ rfl,rfl,rfl],λb n=>?_,q];let e:b=c.heap.objs.size:=by simpa using n
 subst e;show f.fpOk (Ϭ _) (f.hok.fresh (Ϭ _))
theorem aja{tg:ϧ}{R:It->Hp->Prop}(f:Gl X "range")(g:X.mg "range"=none)(hs:ϴ [a] X.env=[(false,eval a X.env)])(h:EA X [a] σ H λvs H1=>∃j:Int,vs=[.int j]/\ -(2^62)<=j/\j<2^62/\R (jZ 0 j.toNat) H1):EI X tg (.Call (.Name "range" p) [a] [] pos) σ H R:=by
 intro ϵ s I;show Call_ (il I f g boot_range (PyProof.Rows.callWith_type1 (χ (h pos ϵ s I) λus o i=>?_) hs rfl));let#[vs,H1,l,r1,c]:=i;let#[j,e,c,m,q]:=c;subst e;cases r1 with
 |cons r n=>
  cases n;let#[t,rfl]:=r;show call_range_1 (agZ l () () c m (by simpa using q))
theorem aq{Q':VK}(h:EV X e σ H Q)(m:∀v H',Q v H'->Q' v H'):EV X e σ H Q':=λϵ s I=>χ (h ϵ s I) λ_ _ ⟨v,H',a,r,q⟩=>#[v,H',a,r,m v H' q]
theorem bh{f:ε->ε->Sem ε}{r:R2}{y z:V}(h:aQ X f r)(q:r y z H Q):OP X f y z H Q:=#[r,h,q]
variable{i j:Int}{k k':Bool}{z z':Str}
theorem aev(q:Q (.int (i+j)) H):OP X (binaryOp .Add) (.int i) (.int j) H Q:=bh akh #[i,j,rfl,rfl,q]
theorem acp(q:Q (.int (i-j)) H):OP X (binaryOp .Sub) (.int i) (.int j) H Q:=bh aeT #[i,j,rfl,rfl,q]
theorem aeW(c:uR i j)(q:Q (.int (i*j)) H):OP X (binaryOp .Mult) (.int i) (.int j) H Q:=bh abw #[i,j,rfl,rfl,c,q]
theorem aiR(c:Ou i j)(q:Q (.int (i / j)) H):OP X (binaryOp .FloorDiv) (.int i) (.int j) H Q:=bh af6 #[i,j,rfl,rfl,c,q]
theorem agc(c:0<j)(q:Q (.int (i % j)) H):OP X (binaryOp .Mod) (.int i) (.int j) H Q:=bh abP #[i,j,rfl,rfl,c,q]
theorem acr(q:Q (.bl (decide (i<j))) H):OP X (adC .Lt) (.int i) (.int j) H Q:=bh aao #[i,j,rfl,rfl,q]
theorem agR(q:Q (.bl (decide (i<=j))) H):OP X (adC .LtE) (.int i) (.int j) H Q:=bh abY #[i,j,rfl,rfl,q]
theorem YL(q:Q (.bl (decide (j<i))) H):OP X (adC .Gt) (.int i) (.int j) H Q:=bh YZ #[i,j,rfl,rfl,q]
theorem aju(q:Q (.bl (decide (j<=i))) H):OP X (adC .GtE) (.int i) (.int j) H Q:=bh aas #[i,j,rfl,rfl,q]
theorem Dv{y z:V}(s:sE y z=true)(q:Q (.bl (decide (y=z))) H):OP X (adC .Eq) y z H Q:=bh Yu #[s,q]
theorem GD{y z:V}(s:sE y z=true)(q:Q (.bl (!decide (y=z))) H):OP X (adC .NotEq) y z H Q:=bh aah #[s,q]
theorem aby(q:Q (.bl (decide (z.cps.toList<z'.cps.toList))) H):OP X (adC .Lt) (.str z) (.str z') H Q:=bh adA #[z,z',rfl,rfl,q]
theorem ZC(q:Q (.bl (!(Builtin.Str.occurrences z' z 0 z'.length 1).isEmpty)) H):OP X (adC .In) (.str z) (.str z') H Q:=bh ai2 #[z,z',rfl,rfl,q]
theorem YK{y:V}(q:Q (.bl (decide (y=.non))) H):OP X (adC .Is) y .non H Q:=bh ahx #[rfl,q]
theorem aaw{y:V}(q:Q (.bl (!decide (y=.non))) H):OP X (adC .IsNot) y .non H Q:=bh acW #[rfl,q]
theorem jW(c:z.length+z'.length<=ϰ)(q:Q (.str (z++z')) H):OP X (binaryOp .Add) (.str z) (.str z') H Q:=bh adn #[z,z',rfl,rfl,c,q]
theorem akp(q:Q (.int (-i)) H):UN X (unaryOp .USub) (.int i) H Q:=#[_,aiz,i,rfl,q]
theorem cO{f:ε}{r:List V->Hp->VK->Prop}{vs:List V}(h:gC X f r)(q:r vs H Q):CL X f vs H Q:=#[r,h,q]
theorem Fy{q:δ}{ys:List V}(h:η X.K H q ys\/ρ X.K H q ys)(g:Q (.int ys.length) H):CL X (.builtin "len") [.ref q] H Q:=cO af2 #[q,ys,rfl,h,g]
theorem ajt(h:z.length<=ϰ)(g:Q (.int z.length) H):CL X (.builtin "len") [.str z] H Q:=cO adB #[z,rfl,h,g]
theorem Ex(g:Q (.int (if j<i then j else i)) H)(a:X.calm=true:=by rfl):CL X (.builtin "min") [.int i,.int j] H Q:=cO (afw a) #[i,j,rfl,g]
theorem Fj(g:Q (.int (if j>i then j else i)) H)(a:X.calm=true:=by rfl):CL X (.builtin "max") [.int i,.int j] H Q:=cO (Zy a) #[i,j,rfl,g]
theorem uv(h:i.natAbs.log2<1920)(g:Q (.str (toString i)) H):CL X (.type "str") [.int i] H Q:=cO afM #[i,rfl,h,g]
theorem jf{q:δ}{ys:List V}(h:η X.K H q ys\/ρ X.K H q ys)(g:∀l,H l=none->Q (.ref l) (upd H l (.lst ys))):CL X (.type "list") [.ref q] H Q:=cO af3 #[q,ys,rfl,h,g]
theorem yu{r:R2}{y z:V}(h:p8 X r)(q:r y z H Q):IX X y z H Q:=#[r,h,q]
theorem ϡ{q:δ}{xs:List V}(h:η X.K H q xs)(e:Ω xs i=some v)(g:Q v H):IX X (.ref q) (.int i) H Q:=yu aik #[q,xs,i,v,rfl,rfl,h,e,g]
theorem Χ{q:δ}{xs:List V}(h:ρ X.K H q xs)(e:Ω xs i=some v)(g:Q v H):IX X (.ref q) (.int i) H Q:=yu adw #[q,xs,i,v,rfl,rfl,h,e,g]
theorem xu{n:Nat}(h:z.length<=ϰ)(e:Ω z.cps.toList i=some n)(g:Q (.str #[#v[n]]) H):IX X (.str z) (.int i) H Q:=yu aaO #[z,i,n,rfl,rfl,h,e,g]
theorem kZ{q:δ}{xs:List V}{lo hi:Option Int}(h:η X.K H q xs)(g:∀p,H p=none->Q (.ref p) (upd H p (.lst (bH xs lo hi)))):SL X (.ref q) lo hi H Q:=#[_,aj8,q,xs,rfl,h,g]
theorem aiZ{q:δ}{xs:List V}{lo hi:Option Int}(h:ρ X.K H q xs)(n:¬(_H.Α xs.length 0 lo=0/\_H.Α xs.length xs.length hi=xs.length))(g:∀p,H p=none->Q (.ref p) (upd H p (.tup (bH xs lo hi)))):SL X (.ref q) lo hi H Q:=#[_,abZ,q,xs,rfl,h,n,g]
theorem ain{y:V}{t:ε}{T:String}(ty:cU X.K H y t)(e:aoy X.K t (.type T)=some k)(g:Q (.bl k) H):CL X (.builtin "isinstance") [y,.ty T] H Q:=by
 show#[λxs H Q=>∃y t T k,xs=[y,.ty T]/\cU X.K H y t/\aoy X.K t (.type T)=some k/\Q (.bl k) H,?_,y,t,T,k,rfl,ty,e,g];intro ϵ s σ H xs us Q I r h;let#[y,t,T,k,rfl,ty,e,g]:=h;let#[f,a,rfl,r1,c]:=vals2 r;cases(show a=Value.type T from c);show adQ I r1 ty e λtk=>#[.bl k,H,I.tok tk,rfl,g]
end
def Pg(x:Str):It:=#[λi _=>i<x.cps.size,λi H v H'=>H'=H/\∃c,x.cps[i]?=some c/\v=.str #[#v[c]],λi _=>x.cps.size<=i]
theorem aeh{P:ϯ}{w:ϭ}{K:PySem.W.Frag}{tg:ϧ}{T:String}(l:T="str_ascii_iterator"\/T="str_iterator")(it:δ)(x:Str)(t:Tok):Turn P w K tg (Pg x) [it] it (λi h=>h.IsStrIter it T x t i)where
 mem:=by simp
 obj:=λi h st b a=>by
  let e:b=it:=by simpa using a
  subst e;let#[o,e,c,d]:=st;show#[o,e,λv z=>by rw[d]at z;cases z]
 keep:=λi h h' st k=>by
  let#[o,e,c,d]:=st;show#[o,k it (by simp) o e,c,d]
 item:=by
  intro X D F G g i ϵ s σ H E I m st J;subst D F G;let#[p,q,M,y,B,C]:=m it (by simp);let f:i<x.cps.size:=J;let O:∃W:Nat->ϫ->Prop,Walks X.prog X.w X.A it [it] [it] x.cps.size (SignAt x) W/\W=λi h=>h.IsStrIter it T x t i:=by
   obtain rfl|rfl:=l
   .show#[_,Walks.strAscii (I.ok.hd g) it x t,rfl]
   .show#[_,Walks.strWide (I.ok.hd g) it x t,rfl]
  let#[_,W,rfl]:=O;show W.item i s _ _ f st λv h' tk Q j kk=>?_
  let#[c,u,e1,rfl]:=Q;let R:Inv X ϵ σ H {s with heap:=h',toks:=tk}:=I.turned (λb o a e=>kk b o (by simpa using a) e) p q y B C;let#[o,e,S,d]:=id j;show#[_,rfl,rD (s:={s with heap:=h',toks:=tk}) (n:=T) e S d (by obtain rfl|rfl:=l<;>decide) ⟨.str ⟨#v[c]⟩,H,R,⟨u,rfl⟩,⟨rfl,c,e1,rfl⟩,j,λb a=>(m b a).1⟩]
 done:=by
  intro X D F G g i ϵ s σ H E I m st J;subst D F G;let#[p,q,M,y,B,C]:=m it (by simp);let f:x.cps[i]?=none:=akP J;obtain rfl|rfl:=l
  .show wpAny_pyNext_ascii_end (I.ok.hd g) st f λh' L=>#[rfl,I.turned (t':=s.toks) (λb o a e=>L b o a e) p q y B C]
  .show wpAny_pyNext_wide_end (I.ok.hd g) st f λh' L=>#[rfl,I.turned (t':=s.toks) (λb o a e=>L b o a e) p q y B C]
 self:=λ_ _ _ _ _ st h=>by
  obtain rfl|rfl:=l
  .show wpAny_pyIter_striter_ascii st h
  .show wpAny_pyIter_striter_wide st h
section
variable{X:Cx}{tg l:ϧ}{σ:St}{H:Hp}{R:It->Hp->Prop}
theorem Uq(h:EV X l σ H λx H1=>∃z,x=.str z/\R (Pg z) H1):EI X tg l σ H R:=by
 intro ϵ s I;show χ (h ϵ s I) λv a f=>?_
 let#[x,H1,c,r1,z,e,q]:=f;subst e;let#[t,rfl]:=r1
 let fin:∀T:String,(T="str_ascii_iterator"\/T="str_iterator")->
   yc X ϵ σ tg R (.ref a.heap.objs.size) {a with heap:=a.heap.push {cls:=.type T,data:=.fields #v[.str z t,.int 0 0]}}:=λT g=>by
  show#[a.heap.objs.size,[a.heap.objs.size],_,_,H1,rfl,c.kept (t':=a.toks) λb o e=>ϲ _ e,aeh g _ z t,#[_,abi _ rfl,rfl,rfl],λb i=>?_,q];let e:b=a.heap.objs.size:=by simpa using i
  subst e;show c.fpOk (Ϭ _) (c.hok.fresh (Ϭ _))
 cases ha:z.cps.all (· <128)
 .show wpAny_pyIter_wide ha (fin _ (.inr rfl))
 .show wpAny_pyIter_ascii ha (fin _ (.inl rfl))
end
def cF(N' N:List Str)(σ:St)(scope:ah9):St:=N'.map λx=>if scope.names.lookup x=some .free then eV N σ x else none
def bR(X:Cx)(N':List Str)(scope:ah9)(cl:List (Str×δ))(C:δ)(s:μ)(H:Hp)(fp:List δ):Cx:=
 {X with N:=N',s₀:=s,H₀:=H,env:=compEnvC scope cl C X.env,outer:=X.stack,stack:=X.stack,ex:=fp,fn:=λ_=>false,pn:=[],xe:=λ_ _=>False}
def Aa(X:Cx)(ifs:List ϧ)(σ:St)(H:Hp)(Q:Bool->Hp->Prop):Prop:=
 ∀(ϵ:List (δ×Obj))(s:μ),Inv X ϵ σ H s->
  π (Ϧ X.prog X.w) X.A (forIn ifs true λc r=>if r=true then do let ok<-isTrue c X.env (eval c X.env);pure (ForInStep.yield ok)else pure (ForInStep.yield r)) (TP X ϵ σ Q) X.xe s
theorem Hx(env:Env):∀(names:List (Str×an5))(cs:List (Str×δ)),(∀y∈names,y.2=.free->∃c,env.cells.lookup y.1=some c)->
  (forIn names cs (λ(x:Str×an5)(r:List (Str×δ))=>if(x.2==NameKind.free)=true then do let a<-cellOf env x.1;pure (ForInStep.yield ((x.1,a)::r))else pure (ForInStep.yield r)):Sem (List (Str×δ)))=
   pure (names.foldl (λcs y=>if y.2==.free then(y.1,(env.cells.lookup y.1).getD 0)::cs else cs) cs)
 |[],cs,_=>by simp
 |(n,k)::r,cs,h=>by
  rw[amU];by_cases i:k=.free
  .subst i;let#[c,e]:=h (n,.free) adV rfl;let l:cellOf env n=pure c:=by
    unfold cellOf;let f:env.cells.lookup n=some c:=e;rw[f]
   simp only[beq_self_eq_true,if_true,l,pure_bind];let f:env.cells.lookup n=some c:=e;rw[Hx env r _ λy g=>h y (acY _ g),alN];simp only[beq_self_eq_true,if_true,f,apH]
  .let j:(k==NameKind.free)=false:=by simpa using i
   simp only[j,anV,if_false,pure_bind];rw[Hx env r _ λy g=>h y (acY _ g),alN];simp only[j,anV,if_false]
def ϓ(scope:ah9)(env:Env):List (Str×δ):=scope.names.foldl (λcs y=>if y.2==.free then(y.1,(env.cells.lookup y.1).getD 0)::cs else cs) []
theorem HR{scope:ah9}{env:Env}(h:∀y∈scope.names,y.2=.free->∃c,env.cells.lookup y.1=some c):closureFor scope env=pure (ϓ scope env):=by
 have:=Hx env scope.names [] h;unfold closureFor ϓ;rw[<-this];simp
theorem UL{env:Env}:∀(names:List (Str×an5))(cs:List (Str×δ)),(∀y∈names,y.2=.free->∃c,env.cells.lookup y.1=some c)->
  ∀x c,(names.foldl (λcs y=>if y.2==.free then(y.1,(env.cells.lookup y.1).getD 0)::cs else cs) cs).lookup x=some c->(env.cells.lookup x=some c\/cs.lookup x=some c)
 |[],cs,_,x,c,e=>.inr e
 |(n,k)::r,cs,h,x,c,e=>by
  rw[alN]at e;rcases UL r _ (λy i=>h y (acY _ i)) x c e with q|q
  .show .inl q
  .by_cases f:k=.free
   .subst f;let#[c',j]:=h (n,.free) adV rfl;let g:env.cells.lookup n=some c':=j;simp only[beq_self_eq_true,if_true,g,apH,afo]at q;cases hx:x==n with
    |true=>
     rw[hx]at q;let a:x=n:=by simpa using hx
     subst a;show .inl (g.trans q)
    |false=>rw[hx]at q;show .inr q
   .let l:(k==NameKind.free)=false:=by simpa using f
    rw[if_neg (by simp[l])]at q;show .inr q
theorem Hh{env:Env}:∀(names:List (Str×an5))(cs:List (Str×δ))(x:Str),((x,NameKind.free)∈names\/∃c,cs.lookup x=some c)->
  ∃c,(names.foldl (λcs y=>if y.2==.free then(y.1,(env.cells.lookup y.1).getD 0)::cs else cs) cs).lookup x=some c
 |[],cs,x,h=>by
  obtain h|h:=h
  .cases h
  .show h
 |(n,k)::r,cs,x,h=>by
  rw[alN];show Hh r _ x ?_;by_cases a:k=.free
  .subst a;simp only[beq_self_eq_true,if_true,afo];cases hx:x==n with
   |true=>show .inr #[_,rfl]
   |false=>
    obtain h|h:=h
    .obtain h|h:=aaG.mp h
     .cases h;simp at hx
     .show .inl h
    .show .inr h
  .let e:(k==NameKind.free)=false:=by simpa using a
   rw[if_neg (by simp[e])];obtain h|h:=h
   .obtain h|h:=aaG.mp h
    .cases h;show absurd rfl a
    .show .inl h
   .show .inr h
theorem Jt{env:Env}{x:Str}:∀{names:List (Str×an5)},names.lookup x=some .free->
  (names.map λ(n,k)=>if(k==NameKind.free&&env.scope.kind==.function&&env.kindOf n==some .cell)then(n,NameKind.cell)else(n,k)).lookup x=some .cell\/
  (names.map λ(n,k)=>if(k==NameKind.free&&env.scope.kind==.function&&env.kindOf n==some .cell)then(n,NameKind.cell)else(n,k)).lookup x=some .free
 |[],h=>by simp at h
 |(n,k')::r,h=>by
  let c:= @Jt env x r;show aij x ((if(k'==NameKind.free&&env.scope.kind==.function&&env.kindOf n==some .cell)=true then(n,NameKind.cell)else(n,k'))::_)=_\/aij x ((if(k'==NameKind.free&&env.scope.kind==.function&&env.kindOf n==some .cell)=true then(n,NameKind.cell)else(n,k'))::_)=_;cases hx:x==n with
  |true=>
   simp only[afo,hx]at h;cases h;by_cases a:(NameKind.free==NameKind.free&&env.scope.kind==.function&&env.kindOf n==some .cell)=true
   .rw[if_pos a];left;simp only[afo,hx]
   .rw[if_neg a];right;simp only[afo,hx]
  |false=>
   simp only[afo,hx]at h;by_cases a:(k'==NameKind.free&&env.scope.kind==.function&&env.kindOf n==some .cell)=true
   .rw[if_pos a];simp only[afo,hx];show c h
   .rw[if_neg a];simp only[afo,hx];show c h
theorem Vu{env:Env}{x:Str}:∀{names:List (Str×an5)},(∀y∈names,y.2≠.cell)->
  ((names.map λ(n,k)=>if(k==NameKind.free&&env.scope.kind==.function&&env.kindOf n==some .cell)then(n,NameKind.cell)else(n,k)).lookup x=some .cell\/
  (names.map λ(n,k)=>if(k==NameKind.free&&env.scope.kind==.function&&env.kindOf n==some .cell)then(n,NameKind.cell)else(n,k)).lookup x=some .free)->(x,NameKind.free)∈names
 |[],_,h=>by simp at h
 |(n,k')::r,c,h=>by
  let f:= @Vu env x r λy g=>c y (acY _ g)
  let h':aij x ((if(k'==NameKind.free&&env.scope.kind==.function&&env.kindOf n==some .cell)=true then(n,NameKind.cell)else(n,k'))::(r.map λ(n,k)=>if(k==NameKind.free&&env.scope.kind==.function&&env.kindOf n==some .cell)then(n,NameKind.cell)else(n,k)))=some .cell\/
   aij x ((if(k'==NameKind.free&&env.scope.kind==.function&&env.kindOf n==some .cell)=true then(n,NameKind.cell)else(n,k'))::(r.map λ(n,k)=>if(k==NameKind.free&&env.scope.kind==.function&&env.kindOf n==some .cell)then(n,NameKind.cell)else(n,k)))=some .free:=h
  cases hx:x==n with
  |true=>
   let e:x=n:=by simpa using hx
   subst e;by_cases a:(k'==NameKind.free&&env.scope.kind==.function&&env.kindOf x==some .cell)=true
   .have :k'=.free:=by simp only[aaW]at a;simpa using a.1.1
    subst this;show adV
   .rw[if_neg a]at h';simp only[afo,hx]at h';obtain h'|h':=h'
    .cases h';show absurd rfl (c (x,.cell) adV)
    .cases h';show adV
  |false=>
   show acY _ (f ?_);by_cases a:(k'==NameKind.free&&env.scope.kind==.function&&env.kindOf n==some .cell)=true
   .rw[if_pos a]at h';simpa only[afo,hx]using h'
   .rw[if_neg a]at h';simpa only[afo,hx]using h'
theorem ady{prog:ϯ}{w:ϭ}{A:ϳ}{R:Result->μ->Prop}{s:μ}{elt a iter:ϧ}{ifs:List ϧ}{scope:ah9}{pos:Pos}{it q:ε}{env:Env}(I:Nat->μ->Prop){Er:ε->μ->Prop}(y:∀x s,Er x s->notedBy (Ϧ prog w) A env (λx s'=>R (.error x) s') x s)(turn:∀n s,I n s->π (Ϧ prog w) A (pyNext it) (λr e=>match r with
   |none=>R (.ok .next) e
   |some v=>π (Ϧ prog w) A (letOwnedTupleGo a it v) (λ_ f=>π (Ϧ prog w) A (assign a env v) (λ_ i=>
    π (Ϧ prog w) A (forIn ifs true λc r=>if r=true then do let ok<-isTrue c env (eval c env);pure (ForInStep.yield ok)else pure (ForInStep.yield r)) (λok g=>
     if ok=true then π (Ϧ prog w) A (eval elt env) (λx j=>
      π (Ϧ prog w) A (call (.builtin "list.append") [q,x]) (λ_ l=>∃m,m<n/\I m l) Er j) Er g
     else ∃m,m<n/\I m g) Er i) Er f) Er e) Er s)(n:Nat)(h:I n s):codeAny (Ϧ prog w) A (.compLoop (.ListComp elt [#[a,iter,ifs,0]] scope pos) 0 it q env) R s:=by
 show codeAny_loop rfl I (λn s D=>?_) n h;show π _ A ((compTurn (.ListComp elt [#[a,iter,ifs,0]] scope pos) 0 it q env).onRaise (λx=>do noteFrame x env;theTreesLotGoes x)) _ _ s;show wpAny_noted ?_;rw[compTurn_list];show ν (amx (ν (adk (turn n s D) (λr e o=>?_) y)));cases r with
 |none=>show Ϯ o
 |some v=>
  show ν (adk o (λ_ f u=>?_) y);show ν (adk u (λ_ i z=>ν (adk z (λok g p=>?_) y)) y);cases ok with
  |false=>show Ϯ #[rfl,p]
  |true=>
   show ν (ν (adk p (λx j B=>ν (adk B (λ_ l C=>Ϯ (Ϯ #[rfl,C])) y)) y))
def rO(M:Model)(A:ϳ)(E:ε->μ->Prop)(use:Option (ε->Sem Unit))(Q:ε->μ->Prop)(c:ε)(C:Env)(r:Result)(s':μ):Prop:=
 match r,use with
 |.ok _,none=>∃m,s'.heap.Ns C.locals m/\∀h',ak6 C.locals s'.heap h'->Q c {s' with heap:=h'}
 |.ok _,some u=>π M A (u c) (λ_ a=>∃m,a.heap.Ns C.locals m/\∀h',ak6 C.locals a.heap h'->Q .none {a with heap:=h'}) E s'
 |.error x,_=>∃m,s'.heap.Ns C.locals m/\∀h',ak6 C.locals s'.heap h'->π M A (passOn "comprehension.variables-let-go" x C:Sem ε) (λ_ _=>False) E {s' with heap:=h'}
theorem Bg{M:Model}{A:ϳ}{E:ε->μ->Prop}{s:μ}{env:Env}{e:ϧ}{scope:ah9}{pos:Pos}{c first:Sem ε}{g:Comprehension}{R:List Comprehension}{cl:List (Str×δ)}{use:Option (ε->Sem Unit)}{Q:ε->μ->Prop}(L:clausesOf e=g::R)(hs:∀x,foldedSetIterable g.iter env x=pure x)(q:closureFor scope env=pure cl)(a:scope.kind=.function)(j:∀x∈scope.names,x.2=.local->scope.names.lookup x.1=some .local)(h:π M A first (λx l=>π M A (pyIter x) (λit n=>π M A c (λv o=>π M A (newFunctionEnv scope env.globals cl [] env.qual none .none (some env)) (λcenv p=>
   codeAny M A (.compStart e 0 it v {cenv with scope:=relabel scope env}) (rO M A E use Q v {cenv with scope:=relabel scope env}) p) E o) E n) E l) E s):π M A (comprehension e scope env pos c false first use) Q E s:=by
 unfold comprehension;rw[q,L];show ν (adk h (λx l C=>ν (amx (ν (wpAny_of_eq (hs x) (ν (afm (adk C (λit n D=>wpAny_standIf (ν (adk D (λv o F=>
  ν (Ϯ (ν (adk F (λcenv p G=>?_) λ_ _ z=>z)))) λ_ _ z=>z))) λ_ _ z=>z))))))) λ_ _ z=>z)
 dsimp only;let I:∀x∈(scope.names.filter λx=>(x.2==.local||x.2==.cell)&&x.1 !=(".0":Str)).reverse,x.2=.local->Env.kindOf {cenv with scope:=relabel scope env} x.1=some .local:=
  λx O J=>lookup_relabel_local (j x (ajV.mp (List.mem_reverse.mp O)).1 J)
 let S:∀x∈(scope.names.filter λx=>(x.2==.local||x.2==.cell)&&x.1 !=(".0":Str)).reverse.drop 1++(scope.names.filter λx=>(x.2==.local||x.2==.cell)&&x.1 !=(".0":Str)).reverse.take 1,x.2=.local->Env.kindOf {cenv with scope:=relabel scope env} x.1=some .local:=λx O J=>by
  obtain z|z:=afH.mp O
  .show I x (af0 z) J
  .show I x (ahq z) J
 show afm (ν (anI (afm (wpAny_run (akc G λr s' B=>?_)))));cases r with
 |ok f=>
  cases use with
  |none=>
   let#[m,H,B]:=B;show ν (afm (wpAny_comp_letGo (cenv:={cenv with scope:=relabel scope env}) a _ s' m I H λh' m' _ z=>Ϯ (B h' z)))
  |some u=>
   show ν (wpAny_rule (ν (afm (adk B (λ_ P i=>?_) λ_ _ z=>z))));let#[m,H,i]:=i;show ν (wpAny_comp_letGo (cenv:={cenv with scope:=relabel scope env}) a _ P m S H λh' m' _ z=>Ϯ (i h' z))
 |error x=>
  let i:∃m,s'.heap.Ns cenv.locals m/\∀h',ak6 cenv.locals s'.heap h'->π M A (passOn "comprehension.variables-let-go" x {cenv with scope:=relabel scope env}:Sem ε) (λ_ _=>False) E {s' with heap:=h'}:=by cases use<;>show B
  let#[m,H,B]:=i;show ν (afm (wpAny_comp_letGo (cenv:={cenv with scope:=relabel scope env}) a _ s' m I H λh' m' _ z=>adk (B h' z) (λ_ _ f=>f.elim) λ_ _ y=>y))
abbrev Cx.tri(X:Cx)(F:ε->μ->Prop)(pn:List (δ×Obj)):Cx:={X with xe:=F,pn:=pn}
section
variable{X:Cx}{ϵ pins':List (δ×Obj)}{σ:St}{H:Hp}{s:μ}{F:ε->μ->Prop}
theorem Cx.Ok.tri(ok:X.Ok)(pn:List (δ×Obj)):(X.tri F pn).Ok:=
 #[ok.mod,ok.kind,ok.glob,ok.blt,ok.above,ok.inj,ok.has,ok.cab,ok.hd,ok.frames,ok.stk,ok.exf,ok.bs,ok.bsz,ok.noex,ok.exfs,ok.funs,ok.frf]
theorem Inv.tri(I:Inv X ϵ σ H s):Inv (X.tri F (X.pn++ϵ)) [] σ H s:=
 #[I.ok.tri _,I.os,I.bare,I.base,I.loc,I.cell,I.free,I.freeC,λp a=>I.pin p (by simpa using a),I.hok,I.len]
theorem Inv.jU(ok:X.Ok)(I:Inv (X.tri F (X.pn++ϵ)) pins' σ H s):Inv X ϵ σ H s:=
 #[ok,I.os,I.bare,I.base,I.loc,I.cell,I.free,I.freeC,λp a=>I.pin p (aj9 _ a),I.hok,I.len]
end
abbrev dG(X:Cx)(N':List Str)(scope:ah9)(cl:List (Str×δ))(C:δ)(s:μ)(H:Hp)(fp:List δ)(F:ε->μ->Prop):Cx:=(bR X N' scope cl C s H fp).tri F []
section
variable{X:Cx}{ϵ:List (δ×Obj)}{σ:St}{H H':Hp}{s s':μ}{scope:ah9}{fp:List δ}{N':List Str}
structure cu(env:Env)(scope:ah9):Prop where
 kind:scope.kind=.function
 free:∀y∈scope.names,y.2=.free->env.kindOf y.1=some .cell\/env.kindOf y.1=some .free
 cell:∀y∈scope.names,y.2≠.cell
 loc:∀y∈scope.names,y.2=.local->scope.names.lookup y.1=some .local
theorem cu.has(S:cu X.env scope)(I:Inv X ϵ σ H s):∀y∈scope.names,y.2=.free->∃c,X.env.cells.lookup y.1=some c:=λy a e=>I.ok.has y.1 (S.free y a e)
theorem cu.cl(S:cu X.env scope)(I:Inv X ϵ σ H s){x:Str}{c:δ}(h:(ϓ scope X.env).lookup x=some c):X.env.cells.lookup x=some c:=by
 obtain q|q:=UL scope.names [] (S.has I) x c h
 .show q
 .simp at q
theorem ahi(S:cu X.env scope)(I:Inv X ϵ σ H s)(f:∀b∈fp,bA X ϵ H b)(g:∀b∈fp,b<s.heap.objs.size):(bR X N' scope (ϓ scope X.env) s.heap.objs.size s H fp).Ok where
 mod:=I.ok.mod
 kind:=S.kind
 glob:=I.ok.glob
 blt:=I.ok.blt
 above:=Ϭ _
 inj:=λx y c h1 h2=>I.ok.inj x y c (S.cl I h1) (S.cl I h2)
 has:=λx i=>Hh (env:=X.env) scope.names [] x (.inl (Vu S.cell i))
 cab:=λx c h _=>by cases h
 hd:=I.ok.hd
 frames:=I.ok.frames
 stk:=.inl rfl
 exf:=λb a=>#[ab7 (g b a),λx c h=>(f b a).2.2.2.2.1 x c (S.cl I h)]
 bs:=I.bs
 bsz:=aes I.ok.bsz I.sz
 noex:=λb o e a=>by
  rcases(f b a).2.2.2.1 with z|z
  .show I.ok.noex b o e z
  .rw[(I.ok.bs b o e).1]at z;cases z
 exfs:=λb a z=>by
  rcases aaG.mp (I.stkSub b z)with e|e
  .show(f b a).2.1 e
  .show(f b a).2.2.1 e
 funs:=I.stack
 frf:=I.stkFree
theorem afR{N:List Str}{i:Nat}{x:Str}{v:V}(h1:N'[i]?=some x)(h2:(cF N' N σ scope)[i]?=some (some v)):scope.names.lookup x=some .free/\eV N σ x=some v:=by
 unfold cF at h2;rw[abh,h1]at h2;let a:(if scope.names.lookup x=some .free then eV N σ x else none)=some v:=by simpa using h2
 split at a
 .rename_i e;show#[e,a]
 .cases a
theorem ahj(S:cu X.env scope)(I:Inv X ϵ σ H s)(D:∀b∈fp,bA X ϵ H b)(g:∀b∈fp,b<s.heap.objs.size){a:ϫ}{m:Str->Option ε}{tk:Nat}(l:a.Ns s.heap.objs.size m)(old:∀b o,s.heap.get? b=some o->a.get? b=some o):Inv (bR X N' scope (ϓ scope X.env) s.heap.objs.size s H fp) [] (cF N' X.N σ scope) H {s with heap:=a,toks:=tk}where
 ok:=ahi S I D g
 os:=rfl
 bare:=I.bare
 base:=Un.kept old
 loc:=by
  show#[m,l,λi x v h1 h2 O=>?_];let#[e1,E]:=afR h1 h2;let#[j,F,G]:=Ab E;let y:(x,NameKind.free)∈scope.names:=PySem.mem_of_lookup e1;let hk:=S.free _ y rfl;let#[P,_,J]:=I.loc;let n:pK X.env.scope x:=.inr hk;let#[u,r,lk]:=J j x v F G n;show#[u,r,.inr #[Jt (env:=X.env) e1,?_]];obtain⟨k,_⟩|⟨_,c,e,z⟩:=lk
  .obtain hk|hk:=hk
   .let f:X.env.kindOf x=some .cell:=hk;rw[f]at k;cases k
   .let f:X.env.kindOf x=some .free:=hk;rw[f]at k;cases k
  .let#[L,B]:=Hh (env:=X.env) scope.names [] x (.inl y);let C:=S.cl I (x:=x) (c:=L) B;rw[e]at C;cases C;let#[o,q,hd]:=z;show#[c,B,o,old _ _ q,hd]
 cell:=λx c h=>by
  let#[v,o,q,hd]:=I.cell x c (S.cl I h);show#[v,o,old _ _ q,hd]
 free:=I.hok.fresh (Ϭ _)
 freeC:=λx c h=>I.freeC x c (S.cl I h)
 pin:=λp M=>absurd (show p∈([]:List (δ×Obj))from M) (by simp)
 hok:=I.hok.kept old
 len:=by show(cF N' X.N σ scope).length=N'.length;unfold cF;rw[aaz]
theorem ahJ{i:St}(I:Inv X ϵ σ H s)(a:∀b∈fp,bA X ϵ H b)(J:Inv (bR X N' scope (ϓ scope X.env) s.heap.objs.size s H fp) [] i H' s'):Inv X ϵ σ H' s':=by
 let#[j,g,d,t,f]:=s';let e:f=s.os:=J.os;subst e;show I.call (h':=j) (g':=g) (d':=d) (t':=t) (ch:=fp) J.base J.hok J.bare λb c=>#[(a b c).2.2.2.1,(a b c).2.1,(a b c).2.2.2.2.1,(a b c).2.2.2.2.2]
variable{elt iter tg:ϧ}{ifs:List ϧ}{pos:Pos}
def jD(X Y:Cx)(tg elt:ϧ)(ifs:List ϧ)(J:It)(D:δ)(σ':St)(H:Hp)(Q:Hp->Prop):Prop:=
 ∃W:Nat->Nat->St->Hp->Prop,(∃m,W 0 m σ' (upd H D (.lst [])))/\∀i m e H,W i m e H->
  (J.stop i H/\Q H)\/(J.go i H/\∃N:St->Hp->Prop,(∀c H',N c H'->∃m',m'<m/\W (i+1) m' c H')/\∀x H',J.yld i H x H'->
   EG Y tg x e H' λa H2=>Aa Y ifs a H2 λk f=>if k=true then EV Y elt a f λy g=>∃xs,g D=some (.lst xs)/\xs.length<ϰ/\N a (upd g D (.lst (xs++[y])))else N a f)
theorem Hq{R:ε->Env->Result->μ->Prop}{it:δ}{Y:Nat->ϫ->Prop}{J:It}{E:ε->μ->Prop}{Q:δ->Hp->Prop}(Fx:δ->Env->ε->μ->Prop)(hc:X.calm=true)(S:cu X.env scope)(I:Inv X ϵ σ H s)(T:Turn X.prog X.w X.K tg J fp it Y)(st:Y 0 s.heap)(hf:∀b∈fp,bA X ϵ H b)(aw:∀D C x s',Fx D C x s'->notedBy (Ϧ X.prog X.w) X.A C (λx s'=>R (.ref D) C (.error x) s') x s')(h:∀(D:δ)(s3:μ),H D=none->Inv X ϵ σ (upd H D (.lst [])) s3->(∀b∈fp,bA X ϵ (upd H D (.lst [])) b)->
   (∀{pins':List (δ×Obj)}{j:St}{H':Hp}{s':μ},Inv (dG X N' scope (ϓ scope X.env) s3.heap.objs.size s3 (upd H D (.lst [])) fp (Fx D (compEnvC scope (ϓ scope X.env) s3.heap.objs.size X.env))) pins' j H' s'->Inv X ϵ σ H' s')->
   jD X (dG X N' scope (ϓ scope X.env) s3.heap.objs.size s3 (upd H D (.lst [])) fp (Fx D (compEnvC scope (ϓ scope X.env) s3.heap.objs.size X.env))) tg elt ifs J D (cF N' X.N σ scope) H (Q D))(hR:∀(D:δ)(C:Env)(H':Hp)(s':μ),H D=none->Q D H'->Inv X ϵ σ H' s'->bA X ϵ H' C.locals->(∃m,s'.heap.Ns C.locals m)->R (.ref D) C (.ok .next) s'):π (Ϧ X.prog X.w) X.A (newList []) (λab ac=>π (Ϧ X.prog X.w) X.A (newFunctionEnv scope X.env.globals (ϓ scope X.env) [] X.env.qual none .none (some X.env)) (λcenv ae=>
   codeAny (Ϧ X.prog X.w) X.A (.compStart (.ListComp elt [#[tg,iter,ifs,0]] scope pos) 0 (.ref it) ab {cenv with scope:=relabel scope X.env}) (R ab {cenv with scope:=relabel scope X.env}) ae) E ac) E s:=by
 show ajY ?_;let hD:H s.heap.objs.size=none:=I.hok.fresh (Ϭ _);generalize U:({s with heap:=s.heap.push {cls:=.type "list",dict:=none,data:=.seq ([]:List ε).toArray}}:μ)=s3;let Z:Inv X ϵ σ (upd H s.heap.objs.size (.lst [])) s3:=by
  subst U;show I.laid (t':=s.toks) (λb u e=>ϲ _ e) (Ϭ _) #[agz _,[],0,.nil,abi _ rfl]
 let hsz:s3.heap.objs.size=s.heap.objs.size+1:=by subst U;show akj ..
 let af:∀b o,s.heap.get? b=some o->s3.heap.get? b=some o:=λb o e=>by subst U;show ϲ _ e
 let Pj:∀b∈fp,b<s.heap.objs.size:=λb a=>by
  let#[o,e,_]:=T.obj _ _ st b a;show abV e
 let lq:∀b∈fp,bA X ϵ (upd H s.heap.objs.size (.lst [])) b:=λb a=>#[by rw[ο (ab7 (Pj b a))];show(hf b a).1,(hf b a).2]
 let ax:Y 0 s3.heap:=T.keep _ _ _ st λb _ o e=>af b o e
 let Wf:∀b∈fp,b<s3.heap.objs.size:=λb a=>by rw[hsz];show an8 (Pj b a)
 show wpAny_newFunctionEnv S.cell (by intro y hy;simp at hy) (λO ay aC=>?_) S.kind;let qI:∀b o,s3.heap.get? b=some o->O.get? b=some o:=λb o e=>aC.extBut b o (ab7 (abV e)) (ϲ _ e)
 let L:=h s.heap.objs.size s3 hD Z lq;generalize mq:compEnvC scope (ϓ scope X.env) s3.heap.objs.size X.env=Ce at L;generalize hF:Fx s.heap.objs.size Ce=F at L;let tV:Ce.locals=s3.heap.objs.size:=by rw[<-mq];rfl
 generalize l:bR X N' scope (ϓ scope X.env) s3.heap.objs.size s3 (upd H s.heap.objs.size (.lst [])) fp=B;generalize Vk:({s3 with heap:=O,toks:=s3.toks+([]:List (Str×ε)).length}:μ)=s4;let Q8:Inv B [] (cF N' X.N σ scope) (upd H s.heap.objs.size (.lst [])) s4:=by
  subst Vk;rw[<-l];show ahj S Z lq Wf ay qI
 let ag:B.pn=[]:=by rw[<-l];rfl
 let ah:∀{pins':List (δ×Obj)}{j:St}{H':Hp}{s':μ},Inv (B.tri F []) pins' j H' s'->Inv X ϵ σ H' s':=λ{pins' j H' s'} J=>by
  let J2:Inv B [] j H' s':=Inv.jU (X:=B) (ϵ:=[]) (F:=F) (pins':=pins') Q8.ok (by rw[ag];show J);rw[<-l]at J2;show ahJ Z lq J2
 let hP:(B.tri F []).prog=X.prog:=by rw[<-l];rfl
 let hw:(B.tri F []).w=X.w:=by rw[<-l];rfl
 let hK:(B.tri F []).K=X.K:=by rw[<-l];rfl
 let hA:(B.tri F []).A=X.A:=by rw[<-l];rfl
 let RN:(B.tri F []).calm=true:=by rw[<-l];show hc
 let ai:(B.tri F []).env=Ce:=by rw[<-l, <-mq];rfl
 let P:(B.tri F []).env.locals=s3.heap.objs.size:=by rw[ai,tV]
 rw[show dG X N' scope (ϓ scope X.env) s3.heap.objs.size s3 (upd H s.heap.objs.size (.lst [])) fp F=B.tri F []from by rw[<-l]]at L;let#[W,#[m0,w0],turn]:=L ah;let I4:Inv (B.tri F []) [] (cF N' X.N σ scope) (upd H s.heap.objs.size (.lst [])) s4:=by
  have:=Q8.tri (F:=F);rw[ag]at this;show this
 let PX:Y 0 s4.heap:=by
  subst Vk;show T.keep _ _ _ ax λb _ o e=>qI b o e
 let Ek:∀b∈fp,∀H':Hp,H' b=none->bA (B.tri F []) [] H' b:=λb a H' e=>by
  rw[<-l];show#[e,ab7 (Wf b a),λz=>?_,.inl a,λx c q=>(lq b a).2.2.2.2.1 x c (S.cl Z q),λp hp=>absurd (show p∈([]:List (δ×Obj))from hp) (by simp)];rcases aaG.mp (Z.stkSub b z)with e|e
  .show(hf b a).2.1 e
  .show(hf b a).2.2.1 e
 let G:codeAny (Ϧ X.prog X.w) X.A (.compLoop (.ListComp elt [#[tg,iter,ifs,0]] scope pos) 0 (.ref it) (.ref s.heap.objs.size) Ce) (R (.ref s.heap.objs.size) Ce) s4:=by
  show ady (Er:=F) (λn s'=>∃i j H',Inv (B.tri F []) [] j H' s'/\Y i s'.heap/\(∀b∈fp,H' b=none)/\W i n j H') (λx s z=>aw _ _ x s (by rw[hF];show z)) ?_ m0 #[0,_,_,I4,PX,λb a=>(lq b a).1,w0]
  rintro n s5 ⟨i,j,H5,I5,am,ar,w5⟩
  let M:∀{α:Type}{t:Sem α}{Q:α->μ->Prop}{s:μ},π (Ϧ (B.tri F []).prog (B.tri F []).w) (B.tri F []).A t Q (B.tri F []).xe s->π (Ϧ X.prog X.w) X.A t Q F s:=λh=>by
   rw[hP,hw,hA]at h;show h
  rw[<-ai];obtain⟨stop,qn⟩|⟨go,N,hN,step⟩:=turn i n j H5 w5
  .let q:=T.done (B.tri F []) hP hw hK RN i [] s5 j H5 F I5 (λb a=>Ek b a _ (ar b a)) am stop;rw[hA]at q;show χ q λr s6 f=>?_
   let#[hr,I6]:=f;subst hr;show hR _ _ H5 s6 hD qn (ah I6) ?_ ?_
   .rw[P];show Z.fpOk (Ϭ _) ?_;have:=I6.free;rw[P]at this;show this
   .let#[m,hn,_]:=I6.loc;show#[m,hn]
  .let q:=T.item (B.tri F []) hP hw hK RN i [] s5 j H5 F I5 (λb a=>Ek b a _ (ar b a)) am go;rw[hA]at q;show χ q λr s6 f=>?_
   let#[u,hr,h6]:=f;subst hr;show χ h6 λ_ s7 f=>?_
   let#[x,H7,I7,r7,y7,Bv,aD]:=f;let ZP:=I7.pinned (λb a=>Ek b a _ (aD b a)) (T.obj _ _ Bv);let VH:∀{av:St}{H8:Hp}{s8:μ},Inv (B.tri F []) ([]++fG fp s7.heap) av H8 s8->Y (i+1) s8.heap/\∀b∈fp,H8 b=none:=λ{av H8 s8} I8=>by
    show#[T.keep _ _ _ Bv λb a o e=>(I8.pin (b,o) (aek _ (aek _ (vD a e)))).1,λb a=>?_];let#[o,e,d]:=T.obj _ _ Bv b a;show(I8.pin (b,o) (aek _ (aek _ (vD a e)))).2.1
   show M (χ (step x H7 y7 _ s7 u ZP r7) λ_ s8 f=>?_);let#[g,H8,I8,q8]:=f;show M (χ (q8 _ s8 I8) λok s9 f=>?_);let#[H9,I9,q9]:=f;cases ok with
   |false=>
    let Hw:N g H9:=by simpa using q9
    let#[m',hm,w9]:=hN _ _ Hw;let#[k1,k2]:=VH I9;show ∃m,_;show#[m',hm,i+1,g,H9,I9.unpinned,k1,k2,w9]
   |true=>
    let Hw:EV (B.tri F []) elt g H9 λy H4=>∃xs,H4 s.heap.objs.size=some (.lst xs)/\xs.length<ϰ/\N g (upd H4 s.heap.objs.size (.lst (xs++[y]))):=by simpa using q9
    show π _ _ _ _ _ _;show M (χ (Hw _ s9 I9) λz uP f=>?_);let#[y,lJ,aE,aI,xs,aO,aP,aS]:=f;show M (χ (Ep _ uP g lJ (.ref s.heap.objs.size) [y] _ [z] (λv yK=>v=.non/\yK=upd lJ s.heap.objs.size (.lst (xs++[y]))) aE rfl (.cons aI .nil) #[_,xs,y,rfl,rfl,aO,aP,rfl,rfl]) λ_ yg f=>?_);let#[_,yK,NB,_,_,yR]:=f;subst yR;let#[m',hm,aT]:=hN _ _ aS;let#[k1,k2]:=VH NB;show#[m',hm,i+1,g,_,NB.unpinned,k1,k2,aT]
 rw[<-mq]at G;show codeAny_compStart_list G (T.self X.A 0 s4 _ _ PX G)
theorem vM{Q:VK}(l:X.calm=true)(S:cu X.env scope)(hs:∀x,foldedSetIterable iter X.env x=pure x)(h:EI X tg iter σ H λJ H1=>∀(fp:List δ)(D C:δ)(a:μ),H1 D=none->jD X (bR X N' scope (ϓ scope X.env) C a (upd H1 D (.lst [])) fp) tg elt ifs J D (cF N' X.N σ scope) H1 (λH'=>Q (.ref D) H')):EV X (.ListComp elt [#[tg,iter,ifs,0]] scope pos) σ H Q:=by
 intro ϵ s I;rw[eval_ListComp];show Bg (use:=none) rfl hs (HR (S.has I)) S.kind S.loc (χ (h ϵ s I) λv P h1=>χ h1 λn U h2=>?_);let#[it,fp,W,J,H2,e,p,T,c,q,u]:=h2;subst e;show Hq (λ_ _ _ _=>False) (R:=λf C=>rO (Ϧ X.prog X.w) X.A X.xe none (EP X ϵ σ Q) f C) (Q:=λD H'=>Q (.ref D) H') l S p T c q (λ_ _ _ _ z=>z.elim) (λD a j _ _ _=>u fp D _ a j) λD C H' s' j y IX B g=>?_
 let#[m,g]:=g;let#[E,F,Y,G,L,M]:=B;show#[m,g,λh' i=>#[.ref D,H',IX.turned (t':=s'.toks) (λb o O e=>i.extBut b o O e) E F G L M,rfl,y]]
theorem Kr{D:Ends}{y:Str}{py spos:Pos}{j:Nat}(c:amu (.ListComp elt [#[tg,iter,ifs,0]] scope pos) (some (.Name y py)) spos.line X.env=pure true)(L:X.calm=true)(S:cu X.env scope)(hs:∀x,foldedSetIterable iter X.env x=pure x)(M:X.N.Nodup)(hi:nameAt X.N y=some j)(u:X.env.scope.names.lookup y=some .local)(h:EI X tg iter σ H λJ H1=>∀(fp:List δ)(E C:δ)(f:μ),H1 E=none->jD X (bR X N' scope (ϓ scope X.env) C f (upd H1 E (.lst [])) fp) tg elt ifs J E (cF N' X.N σ scope) H1 (λH'=>D.nx (σ.set j (some (.ref E))) H')):SX X (.Assign [.Name y py] (.ListComp elt [#[tg,iter,ifs,0]] scope pos) spos) D σ H:=by
 intro ϵ s I;rw[exec_Assign_Name_used _ _ _ _ c];show ν (amx (ν ?_));show π _ X.A (do let _<-comprehension (.ListComp elt [#[tg,iter,ifs,0]] scope pos) scope X.env _ (newList []) false (eval iter X.env) (some (assign (.Name y py) X.env))) _ _ s;show ν (adk (Bg (use:=some (assign (.Name y py) X.env)) (Q:=λ_ s'=>SP X ϵ D .next s') rfl hs (HR (S.has I)) S.kind S.loc
  (χ (h ϵ s I) λv s1 h1=>χ h1 λO s2 h2=>?_)) (λ_ s' P=>Ϯ (Ϯ P)) λ_ _ e=>e)
 let#[it,fp,tn,J,H2,e,U,T,g,W,Y]:=h2;subst e;show Hq (λ_ _ _ _=>False) (R:=λi C=>rO (Ϧ X.prog X.w) X.A X.xe (some (assign (.Name y py) X.env)) (λ_ s'=>SP X ϵ D .next s') i C) (Q:=λE H'=>D.nx (σ.set j (some (.ref E))) H') L S U T g W (λ_ _ _ _ z=>z.elim) (λE f B _ _ _=>Y fp E _ f B) λE C H' s' B Z IX fC l=>?_
 let#[m,l]:=l;let#[f0,F,Xz,f3,G,f5]:=fC;show π _ _ (assign (.Name y py) X.env (.ref E)) _ _ _;show wpAny_assign_Name (oA IX M (j8 hi) (.inl u) (v:=.ref E) rfl (λn Ci p=>?_) (.inr u));let#[a,sb,ha]:=p;let Em:C.locals≠a:=by
  obtain ha|ha:=ha
  .rw[ha];show F
  .intro z;show G y a ha z.symm
 show#[m,l.sameBut sb Em,λh' q=>#[σ.set j (some (.ref E)),H',Ci.turned (t':=n.toks) (λb o p e=>q.extBut b o p e) f0 F f3 G f5,Z]]
theorem Mu{Q:Bool->Hp->Prop}(q:Q true H):Aa X [] σ H Q:=λϵ s I=>by
 rw[an9];show Ϯ #[H,I,q]
theorem ajj{c:ϧ}{Q:Bool->Hp->Prop}(h:ET X c σ H Q):Aa X [c] σ H Q:=λϵ s I=>by
 rw[amU];simp only[if_true];show ν (ν (χ (h ϵ s I) λk a q=>Ϯ ?_));dsimp only;rw[an9];show Ϯ q
end
theorem Ζ{c A B:Prop}[Decidable c](h1:c->A)(h2:¬c->B):if decide c=true then A else B:=by
 by_cases h:c
 .rw[if_pos (decide_eq_true h)];show h1 h
 .rw[if_neg (by simpa using h)];show h2 h
theorem cJ{c A B:Prop}[Decidable c](q:B)(h:¬c:=by fin2):if decide c=true then A else B:=Ζ (λz=>absurd z h) λ_=>q
theorem gY{c A B:Prop}[Decidable c](q:A)(h:c:=by rfl):if decide c=true then A else B:=Ζ (λ_=>q) λz=>absurd h z
theorem dJ{c A B:Prop}[Decidable c](h1:¬c->A)(h2:c->B):if(!decide c)=true then A else B:=by
 by_cases h:c
 .rw[if_neg (by simp[h])];show h2 h
 .rw[if_pos (by simp[h])];show h1 h
theorem iu{k:Bool}{A B:Prop}(h1:k=true->A)(h2:k=false->B):if k=true then A else B:=by
 cases k with
 |true=>rw[if_pos rfl];show h1 rfl
 |false=>rw[if_neg aaA];show h2 rfl
theorem agk{k:Bool}{A B:Prop}(h1:k=false->A)(h2:k=true->B):if(!k)=true then A else B:=by
 cases k with
 |true=>rw[if_neg (by decide)];show h2 rfl
 |false=>rw[if_pos (by decide)];show h1 rfl
theorem ac9{A B:Prop}(h:B):if(!true)=true then A else B:=by rw[if_neg (by decide)];show h
theorem acV{A B:Prop}(h:A):if(!false)=true then A else B:=by rw[if_pos (by decide)];show h
theorem ζ.upd{H:Hp}{p:δ}{o:HO}(h:H p=none):ζ H (_L.upd H p o):=λb u e=>by rw[ο (Ψ e h)];show e
theorem ϋ{H:Hp}{p:δ}(h:H p=none)(o:HO):ζ H (upd H p o)/\(upd H p o) p=some o:=#[ζ.upd h,υ]
section
variable{X:Cx}{a e:ϧ}{σ:St}{H:Hp}{Q:VK}{D:Ends}{pos p p':Pos}
theorem Gz{tg:ϧ}{body:List Ϩ}(j:alP (Ϧ X.prog X.w) X.A X.env X.xe)(l:X.calm=true)(m:Gl X "range")(o:X.mg "range"=none)(hs:ϴ [a] X.env=[(false,eval a X.env)])(h:EV X a σ H λv H1=>∃n:Int,v=.int n/\ -(2^62)<=n/\n<2^62/\∃c:Nat->St->Hp->Prop,c 0 σ H1/\
   (∀i σ' H',i<n.toNat->c i σ' H'->EG X tg (.int i) σ' H' λe H2=>Ρ X body {D with nx:=c (i+1),ct:=c (i+1),bk:=D.nx} e H2)/\∀σ' H',c n.toNat σ' H'->D.nx σ' H'):SX X (.For tg (.Call (.Name "range" p) [a] [] p') body [] pos) D σ H:=by
 show lF j l (by intro _;rfl) (aja m o hs (d8 hs (aq h λv H1 q=>?_)));let#[n,rfl,h1,h2,c,s,f,hd]:=q;show iZ #[n,rfl,h1,h2,?_];show Zf (g:=EG X tg) (tb:=Ρ X body) c s (λi σ' H' hi u=>by rw[aqf];show f i σ' H' hi u) hd
theorem wG{tg:ϧ}{body:List Ϩ}(j:alP (Ϧ X.prog X.w) X.A X.env X.xe)(l:X.calm=true)(hs:∀x,foldedSetIterable e X.env x=pure x)(h:EV X e σ H λv H1=>∃q xs,v=.ref q/\η X.K H1 q xs/\∃a:Nat->St->Hp->Prop,a 0 σ H1/\(∀i σ' H',i<=xs.length->a i σ' H'->η X.K H' q xs)/\
   (∀i x σ' H',xs[i]?=some x->a i σ' H'->EG X tg x σ' H' λc H2=>Ρ X body {D with nx:=a (i+1),ct:=a (i+1),bk:=D.nx} c H2)/\∀σ' H',a xs.length σ' H'->D.nx σ' H'):SX X (.For tg e body [] pos) D σ H:=by
 show lF j l hs (oE (aq h λv H1 q=>?_));let#[q,xs,rfl,m,a,n,o,f,hd]:=q;show#[q,rfl,#[xs,m],afD (g:=EG X tg) (tb:=Ρ X body) a n o f hd]
theorem agl{tg:ϧ}{body:List Ϩ}(l:alP (Ϧ X.prog X.w) X.A X.env X.xe)(n:X.calm=true)(hs:∀x,foldedSetIterable e X.env x=pure x)(h:EV X e σ H λv H1=>∃z:Str,v=.str z/\∃a:Nat->St->Hp->Prop,a 0 σ H1/\
   (∀i c σ' H',z.cps.toList[i]?=some c->a i σ' H'->EG X tg (.str #[#v[c]]) σ' H' λf H2=>Ρ X body {D with nx:=a (i+1),ct:=a (i+1),bk:=D.nx} f H2)/\∀σ' H',a z.cps.toList.length σ' H'->D.nx σ' H'):SX X (.For tg e body [] pos) D σ H:=by
 show lF l n hs (Uq (aq h λv H1 q=>?_));let#[z,rfl,a,o,j,hd]:=q;show#[z,rfl,λi m σ H=>m=z.cps.size-i/\i<=z.cps.size/\a i σ H,#[z.cps.size,by simp,agz _,o],?_]
 rintro i m σ' H' ⟨rfl,hi,p⟩
 by_cases g:i<z.cps.size
 .show .inr #[g,a (i+1),λf H2 p2=>#[z.cps.size-(i+1),(),rfl,g,p2],λx H2 y=>?_];let#[e1,c,s,u]:=y;subst e1 u;show j i c σ' _ (by simpa using s) p
 .let e:i=z.cps.size:=()
  subst e;show .inl #[Ϭ _,hd σ' H' (by simpa using p)]
theorem afB{Y:Cx}{elt:ϧ}{J:It}{E:δ}{f:St}{Q:Hp->Prop}{y:Str}{py:Pos}{j:Nat}(T:Y.N.Nodup)(U:nameAt Y.N y=some j)(L:Y.env.scope.names.lookup y=some .local)(n:Nat)(hn:n<=ϰ)(q:Nat->V->Prop)(It:Nat->V->Prop)(M:H E=none)(go:∀i H1,ζ (upd H E (.lst [])) (upd H1 E (.lst []))->i<n->J.go i H1)(stop:∀H1,ζ (upd H E (.lst [])) (upd H1 E (.lst []))->J.stop n H1)(yld:∀i H1 x H2,i<n->ζ (upd H E (.lst [])) (upd H1 E (.lst []))->J.yld i H1 x H2->It i x/\H2=H1)(step:∀i x H1,i<n->It i x->ζ H H1->EV Y elt (f.set j (some x)) H1 λv H2=>q i v/\ζ H1 H2)(fin:∀H1 xs,xs.length=n->(∀i v,xs[i]?=some v->q i v)->H1 E=some (.lst xs)->ζ H H1->Q H1):jD X Y (.Name y py) elt [] J E f H Q:=by
 let C:∀{H1:Hp},ζ H H1->ζ (upd H E (.lst [])) (upd H1 E (.lst [])):=λ{H1} s b o e=>by
  by_cases O:b=E
  .subst O;rw[υ]at e⊢;show e
  .rw[ο O]at e⊢;show s b o e
 show#[λi m B H1=>m=n-i/\i<=n/\ζ H H1/\(B=f\/∃x,B=f.set j (some x))/\∃xs,H1 E=some (.lst xs)/\xs.length=i/\∀k v,xs[k]?=some v->q k v,#[n,by simp,agz _,ζ.upd M,.inl rfl,[],υ,rfl,λk v e=>by simp at e],?_]
 rintro i m B H1 ⟨rfl,hi,p,D,xs,P,F,R⟩
 by_cases g:i<n
 .show .inr #[go i H1 (C p) g,λl H'=>ζ H H'/\(l=f\/∃x,l=f.set j (some x))/\∃xs,H' E=some (.lst xs)/\xs.length=i+1/\∀k v,xs[k]?=some v->q k v,λl H' ⟨a,b,c⟩=>#[n-(i+1),(),rfl,g,a,b,c],λx H2 y=>?_];let#[W,Z]:=yld i H1 x H2 g (C p) y;subst Z;show Β T U (.inl L) (.inr L) (Mu ?_);rw[if_pos rfl];let G:B.set j (some x)=f.set j (some x):=by
   obtain e|⟨z,e⟩:=D
   .rw[e]
   .rw[e,List.set_set]
  rw[G];show aq (step i x H2 g W p) λv H3 ⟨pv,S⟩=>#[xs,S _ _ P,(),?_]
  show#[λb o e=>?_,.inr #[x,rfl],xs++[v],υ,by simp[F],λk u e=>?_]
  .rw[ο (Ψ e M)];show S _ _ (p _ _ e)
  .by_cases hk:k<xs.length
   .rw[ajS hk]at e;show R k u e
   .let I:k=i:=by
     have:=(aap.mp e).1;rw[abu,ael]at this;omega
    subst I;rw[<-F,amX]at e;cases e;show pv
 .let e:i=n:=()
  subst e;show .inl #[stop H1 (C p),fin H1 xs F R P p]
theorem ad4{elt:ϧ}{scope:ah9}{y:Str}{py:Pos}{j:Nat}(N':List Str){σ':St}(m:cF N' X.N σ scope=σ')(u:X.calm=true)(S:cu X.env scope)(B:N'.Nodup)(D:nameAt N' y=some j)(F:scope.names.lookup y=some .local)(hs:∀x,foldedSetIterable e X.env x=pure x)(h:EV X e σ H λv H1=>∃z:Str,v=.str z/\z.cps.size<=ϰ/\∃f:Nat->V->Prop,
   (∀(fp:List δ)(E C:δ)(g:μ)(H0:Hp)(i c:Nat)(H2:Hp),z.cps.toList[i]?=some c->ζ H1 H2->EV (bR X N' scope (ϓ scope X.env) C g H0 fp) elt (σ'.set j (some (.str #[#v[c]]))) H2 λv G=>f i v/\ζ H2 G)/\
   ∀(E:δ)(H2:Hp)(xs:List V),H1 E=none->xs.length=z.cps.size->(∀i v,xs[i]?=some v->f i v)->H2 E=some (.lst xs)->ζ H1 H2->Q (.ref E) H2):EV X (.ListComp elt [#[.Name y py,e,[],0]] scope pos) σ H Q:=by
 show vM (N':=N') u S hs (Uq (aq h λv H1 q=>?_));let#[z,rfl,h2,f,n,a]:=q;show#[z,rfl,λfp E C g p=>?_];rw[m];show afB (Y:=bR X N' scope (ϓ scope X.env) C g (upd H1 E (.lst [])) fp) B D (lookup_relabel_local F) z.cps.size h2 f (λi x=>∃c,z.cps.toList[i]?=some c/\x=.str #[#v[c]]) p (λi _ _ hi=>hi) (λ_ _=>Ϭ _) (λi H1 x H2 _ _ I=>?_) (λi x H2 hi ex s=>?_) (λH2 xs l J L s=>a E H2 xs p l J L s)
 .let#[e1,c,o,M]:=I;show#[#[c,by simpa using o,M],e1]
 .let#[c,e1,o]:=ex;subst o;show n fp E C g _ i c H2 e1 s
end
section
variable{P:ϯ}{w:ϭ}{K:ϩ}{mg:Str->Option ε}{base:ϫ}{cc:Bool}
abbrev gq(cc:Bool)(P:ϯ)(w:ϭ)(K:ϩ)(mg:Str->Option ε)(base:ϫ)(N:List Str)(qual:Str)(scope:ah9)(f:δ)(cd:ε)(A:ϳ)(outer:List Env)(s:μ)(H:Hp)(E:XK):Cx:=
 km cc (bL P w) P w K mg base N qual scope f cd A outer s H E
theorem zf{x qual:Str}{st:Ϩ}{ps N:List Str}{k:Nat}{sp:Sp}{f:δ}{fd:aiF}(F:cj K x qual st f fd)(S:Ο N ps (ψ st))(len:∀vs H Q E,sp vs H Q E->vs.length=ps.length)(body:∀(a:ε)(A:ϳ)(outer:List Env)(s:μ)(H:Hp)(vs:List V)(Q:VK)(E:XK),ϒ cc k (A.deeper (envOfC qual (ψ st) s.heap.objs.size f a))->sp vs H Q E->
   Ρ (gq cc P w K mg base N qual (ψ st) f a A outer s H E) (aA st) {nx:=λ_ H'=>Q .non H',rt:=Q} (start N vs) H):cG P w K mg base (bL P w) cc (k+1) f fd ps sp:=by
 let#[oc,od,kV,e,pm,an,a,ct,g,rfl,lk,c]:=id F.ex;show QM lk c S len λA outer s H vs Q E i h=>#[_,Cv,body a A outer s H vs Q E i h]
theorem Γ{x:Str}{st:Ϩ}{ps N:List Str}{k:Nat}{sp:Sp}(F:∃f fd,cj K x x st f fd/\mg x=some (.ref f))(body:∀(f:δ)(a:ε)(A:ϳ)(outer:List Env)(s:μ)(H:Hp)(vs:List V)(Q:VK)(E:XK),ϒ cc k (A.deeper (envOfC x (ψ st) s.heap.objs.size f a))->sp vs H Q E->
   let X:=gq cc P w K mg base N x (ψ st) f a A outer s H E;let D:Ends:={nx:=λ_ H'=>Q .non H',rt:=Q};Ρ X (aA st) D (start N vs) H)(S:Ο N ps (ψ st):=by show#[rfl,rfl,rfl,by fin2,rfl,by fin2,by fin2])(e:∀(kV c pm:ε)(an:Option δ)(a ct:ε)(us:List ε),us.length=ps.length->bindArgs (apf x x (jt st) (aA st) (ψ st) .none kV c pm an a ct) #[us,[]]=pure (ps.zip us):=by walk_at"bb")(len:∀vs H Q E,sp vs H Q E->vs.length=ps.length:=by walk_at"ln"):Def P w K mg base cc (k+1) x ps sp:=by
 let#[f,fd,F,g]:=F;show#[f,fd,g,F.kp,F.binds e,zf F S len λa A outer s H vs Q E i h=>body f a A outer s H vs Q E i h]
end
def ϐ(z:Str)(lo hi:Option Int):Str:=#[((z.cps.toList.drop (_H.Α z.length 0 lo)).take (_H.Α z.length z.length hi-_H.Α z.length 0 lo)).toArray]
theorem uX(n d:Nat)(v:Int):max 0 (min (if v<0 then v+(n:Int)else v) (n:Int))=((_H.Α n d (some v):Nat):Int):=by
 rw[<-_H.Bx];split <;>omega
theorem J4(lo hi:Option Int)(n:Nat):Builtin.Str.strSliceIndices lo hi 1 n=(aeJ (_H.Α n n hi-_H.Α n 0 lo)).map (λm=>_H.Α n 0 lo+m):=by
 let e:Builtin.Str.strSliceIndices lo hi 1 n=sliceRange ((_H.Α n 0 lo:Nat):Int) ((_H.Α n n hi:Nat):Int) 1:=by
  cases lo with
  |none=>
   cases hi with
   |none=>rfl
   |some v=>rw[<-uX n n v];rfl
  |some u=>
   cases hi with
   |none=>rw[<-uX n 0 u];rfl
   |some v=>rw[<-uX n 0 u, <-uX n n v];rfl
 rw[e];generalize _H.Α n 0 lo=a;generalize _H.Α n n hi=b;by_cases h:a<=b
 .have :=StrLaws.strSliceIndices_plain (len:=b) h (Ϭ b);rw[<-this];let c:Builtin.Str.strSliceIndices (some (a:Int)) (some (b:Int)) 1 b=sliceRange (a:Int) (b:Int) 1:=by
   let h1:¬((a:Int)<0):=()
   let h2:¬((b:Int)<0):=()
   let e1:max (0:Int) (min (a:Int) (b:Int))=a:=()
   let c:max (0:Int) (min (b:Int) (b:Int))=b:=()
   simp only[Builtin.Str.strSliceIndices,h1,h2,if_false,e1,c,show((1:Int)>0)=True from by simp,if_true]
  rw[c]
 .let f:b-a=0:=()
  rw[f];have:¬((a:Int)<b):=()
  simp[sliceRange,this]
theorem ajh(z:Str)(lo hi:Option Int):(#[((Builtin.Str.strSliceIndices lo hi 1 z.length).filterMap (z.cps[·]?)).toArray]:Str)=ϐ z lo hi:=by
 rw[J4];unfold ϐ;let h1:=_H.Eb z.length z.length (Ϭ _) hi;let c:z.cps.toList.length=z.length:=by simp[aoF]
 by_cases h:_H.Α z.length 0 lo<=_H.Α z.length z.length hi
 .have :=StrLaws.picks z.cps.toList (_H.Α z.length z.length hi-_H.Α z.length 0 lo) (_H.Α z.length 0 lo) ();rw[<-this];simp
 .let a:_H.Α z.length z.length hi-_H.Α z.length 0 lo=0:=()
  rw[a];simp
theorem Uk{v:ε}{o:Option Int}(h:IsPart v o):∃l:Option (Int×Tok),v=partValue l/\l.map (·.1)=o:=by
 cases h with
 |none=>show#[none,rfl,rfl]
 |int i t=>show#[some (i,t),rfl,rfl]
theorem aiA{X:Cx}:rJ X (λx lo hi H Q=>∃z,x=.str z/\z.length<=ϰ/\Q (.str (ϐ z lo hi)) H):=by
 intro ϵ s σ H x v E G lo hi sl Q I rx hs pl n h;let#[z,rfl,hz,q]:=h;let#[t,rfl]:=rx;show#["str",_,F.slot_str_getitem.lookup,typeIs_str s z t,?_];let#[l,rfl,rfl]:=Uk pl;let#[u,rfl,rfl]:=Uk n;let g:s.heap.IsSlice sl l u none:=by
  let#[o,p,y,hd]:=hs;show#[o,p,y,hd]
 show wpAny_getItem_str_slice g rfl ?_;let e:(slicePicked z l u none)=Builtin.Str.strSliceIndices (l.map (·.1)) (u.map (·.1)) 1 z.length:=rfl;unfold sliceMade;let i:(#[((slicePicked z l u none).filterMap (z.cps[·]?)).toArray]:Str)=ϐ z (l.map (·.1)) (u.map (·.1)):=by rw[e];show ajh z _ _
 split
 .rename_i j;let f:(slicePicked z l u none).length=z.length:=by
   simp only[aaW,beq_iff_eq]at j;show j.2
  let a:ϐ z (l.map (·.1)) (u.map (·.1))=z:=by
   rw[e,J4,aaz,aoH]at f;let h1:=_H.Eb z.length z.length (Ϭ _) (u.map (·.1));let J:z.cps.toList.length=z.length:=by simp[aoF]
   unfold ϐ;by_cases B:z.length=0
   .have :z.cps.toList=[]:=ame ();rw[this];let m:z.cps= #v[]:=by
     have:=congrArg afh this;simpa using this
    let#[c]:=z;simp at m;subst m;simp
   .let C:_H.Α z.length 0 (l.map (·.1))=0:=()
    let D:_H.Α z.length z.length (u.map (·.1))=z.length:=()
    rw[C,D,amm,aoe,aiK ()]
  show#[.str (ϐ z (l.map (·.1)) (u.map (·.1))),H,I,#[t,by rw[a]],q]
 .rw[i];show#[?_,.str (ϐ z (l.map (·.1)) (u.map (·.1))),H,I.tok _,#[_,rfl],q];have:(ϐ z (l.map (·.1)) (u.map (·.1))).length<=z.length:=by
   unfold ϐ aoF;simp;omega
  omega
section
variable{X:Cx}{H:Hp}{Q:VK}{z y:Str}
theorem mU{lo hi:Option Int}(g:Q (.str (ϐ z lo hi)) H)(h:z.length<=ϰ:=by omega):SL X (.str z) lo hi H Q:=#[_,aiA,z,rfl,h,g]
theorem je{id:String}{r:V->List V->Hp->VK->Prop}{x:V}{xs:List V}(h:Bd X id r)(q:r x xs H Q):MT X id x xs H Q:=#[r,h,q]
theorem PL{ys:List Str}:∀{us:List ε},Vals (ys.map V.str) us->StrsAre us ys:=by
 induction ys with
 |nil=>intro us r;cases r;show .nil
 |cons y ys a=>
  intro us r;cases r with
  |cons r c=>
   let#[t,rfl]:=r;show .cons y t (a c)
theorem sJ{q:δ}{ys:List Str}(h:η X.K H q (ys.map V.str))(a:(ys.map (·.length)).sum+ys.length*z.length<=16777216)(g:Q (.str (ae5 z ys)) H):MT X "str.join" (.str z) [.ref q] H Q:=by
 show je (r:=λx xs H Q=>∃z q ys,x=.str z/\xs=[.ref q]/\η X.K H q (ys.map V.str)/\(ys.map (·.length)).sum+ys.length*z.length<=16777216/\Q (.str (ae5 z ys)) H) ?_ #[z,q,ys,rfl,rfl,h,a,g];intro ϵ s σ H x xs v us Q I rx rs h;let#[z,q,ys,rfl,rfl,h,a,g]:=h;let#[t,rfl]:=rx;let#[u,rfl,c]:=vals1 rs;cases(show u=Value.ref q from c);let#[i,f,pl,_]:=I.list h;show join_list pl.isList (by simpa using PL f) a λt' k=>#[.str (ae5 z ys),H,I.tok k,#[t',?_],g]
 let e:Txt.join z ys=ae5 z ys:=by
  unfold Txt.join;cases ys with
  |nil=>rfl
  |cons y r=>show StrLaws.glued_cons z r y
 rw[e]
theorem JD(g:Q (.bl (Txt.startswith z y)) H):MT X "str.startswith" (.str z) [.str y] H Q:=by
 show je (r:=λx xs H Q=>∃z y,x=.str z/\xs=[.str y]/\Q (.bl (Txt.startswith z y)) H) ?_ #[z,y,rfl,rfl,g];intro ϵ s σ H x xs v us Q I rx rs h;let#[z,y,rfl,rfl,g]:=h;let#[t,rfl]:=rx;let#[u,rfl,a]:=vals1 rs;let#[t',rfl]:=a;show SC.startswith #[.bl _,H,I,rfl,g]
theorem Ml{q:δ}{bs:List Bool}(z:X.calm=true)(h:η X.K H q (bs.map V.bl))(g:Q (.bl (bs.all id)) H):CL X (.builtin "all") [.ref q] H Q:=by
 show cO (r:=λxs H Q=>∃q bs,xs=[.ref q]/\η X.K H q (bs.map V.bl)/\Q (.bl (bs.all id)) H) ?_ #[q,bs,rfl,h,g];intro ϵ s σ H xs us Q I r h;let#[q,bs,rfl,h,g]:=h;let#[u,rfl,B]:=vals1 r;cases(show u=Value.ref q from B);let#[c,y,pl,hz]:=I.list h;show call_all_walk (alc pl.isList ?_);let m:q<s.heap.objs.size:=by
  let#[o,n,_]:=pl.isList;show abV n
 let a:c.length=bs.length:=by have:=y.length;rw[aaz]at this;show this.symm
 show#[s.heap.objs.size,[s.heap.objs.size,q],[s.heap.objs.size],c.toArray.size,(λi v=>c.toArray[i]?=some v),(λi h=>h.IsListIter s.heap.objs.size q i/\h.IsList q c.toArray),λi=>bs.getD i true,rfl,Walks.list (A:=X.A.in1) (show X.A.in1.handled=none from I.ok.hd z) s.heap.objs.size q (ab7 m) c.toArray,#[#[_,abi _ rfl,rfl,rfl],?_],?_,λh' tk C=>?_]
 .let#[o,n,r]:=pl.isList;show#[o,ϲ _ n,r]
 .intro i v s Q E D m;let f:c[i]?=some v:=by simpa using D
  let hi:i<bs.length:=by rw[<-a];show(aap.mp f).1
  let#[u,e1,F]:=y.get (i:=i) (x:=V.bl bs[i]) (by simp[hi]);rw[f]at e1;cases e1;cases(show v=Value.bool bs[i]from F);show agT ?_;have:bs.getD i true=bs[i]:=by simp[hi]
  let j:Q (bs.getD i true) s:=m;rw[this]at j;show j
 .let e:(aeJ c.toArray.size).all (λi=>bs.getD i true)=bs.all id:=by
   rw[aaH,a,ahB,acN,acN];constructor
   .intro h b p;let#[i,hi,e]:=aor p;have:=h i (by simpa using hi);simpa [hi,e]using this
   .intro h i hi;let l:i<bs.length:=by simpa using hi
    have:=h bs[i] (ahZ l);simpa [l]using this
  rw[e];let fp:=I.fpOk (Ϭ _) (I.hok.fresh (Ϭ _));let G:Inv X ϵ σ H {s with heap:=s.heap.push {cls:=.type "list_iterator",data:=.fields #v[.ref q,.int 0 0]}}:=I.kept (t':=s.toks) λb o e=>ϲ _ e
  show#[.bl _,H,G.turned (it:=s.heap.objs.size) (λb o p e=>C b o (by simpa using p) e) (I.hok.fresh (Ϭ _)) fp.2.1 fp.2.2.2.1 fp.2.2.2.2.1 fp.2.2.2.2.2,rfl,g]
end
theorem cz{env:Env}{scope:ah9}(sc:ah9)(c:env.scope=sc:=by rfl)(f:scope.kind=.function:=by rfl)(h:(scope.names.all λy=>(if y.2==.free then(sc.names.lookup y.1==some .cell||sc.names.lookup y.1==some .free)else true)&&y.2 !=.cell&&(if y.2==.local then scope.names.lookup y.1==some .local else true))=true:=by fin2):cu env scope:=by
 let h':=acN.mp h;show#[f,λy a e=>?_,λy a e=>?_,λy a e=>?_]
 .let q:=h' y a;simp only[e,beq_self_eq_true,if_true,aaW,anW,beq_iff_eq]at q;show env.scope.names.lookup y.1=_\/env.scope.names.lookup y.1=_;rw[c];show q.1.1
 .let q:=h' y a;rw[e]at q;simp at q
 .let q:=h' y a;simp only[e,aaW,beq_iff_eq,beq_self_eq_true,if_true]at q;show q.2
theorem jx{α:Type}{xs:List V}{ys:List α}(f:α->V)(g:xs.length=ys.length)(h:∀(i:Nat) v,xs[i]?=some v->∃c,ys[i]?=some c/\v=f c):xs=ys.map f:=by
 apply List.ext_getElem?;intro i;rw[abh];cases e:xs[i]? with
 |none=>
  have:xs.length<=i:=List.getElem?_eq_none_iff.mp e;rw[aof ()];rfl
 |some v=>
  let#[c,e1,a]:=h i v e;rw[e1,a];rfl
section
variable{X:Cx}{H:Hp}{Q:VK}
end
def EJ(X:Cx)(vs:List ϧ)(out:Str)(σ:St)(H:Hp)(Q:VK):Prop:=
 ∀(ϵ:List (δ×Obj))(s:μ),Inv X ϵ σ H s->π (Ϧ X.prog X.w) X.A (joinParts out (evalEach vs X.env)) (EP X ϵ σ Q) X.xe s
section
variable{X:Cx}{σ:St}{H:Hp}{Q:VK}{v v₁ v₂:ϧ}{rest:List ϧ}{pos:Pos}{out:Str}
theorem ac8(h:EJ X (v₁::v₂::rest) aop σ H Q):EV X (.JoinedStr (v₁::v₂::rest) pos) σ H Q:=λϵ s I=>h ϵ s I
theorem aei(a:out.length<=ϰ)(q:Q (.str out) H):EJ X [] out σ H Q:=λϵ s I=>joinParts_nil #[.str out,H,I.tok _,#[_,rfl],q] a
theorem afY(h:EV X v σ H λx H1=>∃y,x=.str y/\(out++y).length<=ϰ/\EJ X rest (out++y) σ H1 Q):EJ X (v::rest) out σ H Q:=λϵ s I=>by
 show joinParts_cons (χ (h ϵ s I) λu a c=>?_);let#[x,H1,f,r,y,e,g,q]:=c;subst e;let#[t,rfl]:=r;show#[g,q ϵ a f]
theorem LC(h:EV X v σ H λx H1=>∃i,x=.int i/\i.natAbs.log2<1920/\Q (.str (toString i)) H1):EV X (.FormattedValue v (-1) none pos) σ H Q:=λϵ s I=>by
 show FormattedValue_plain (χ (h ϵ s I) λu g a=>?_);let#[x,H1,c,r,z,e,f,q]:=a;subst e;let#[t,rfl]:=r;show formatField_int_small f #[.str (toString z),H1,c.tok _,#[_,rfl],q]
end
def jP(X:Cx)(vs:List ϧ)(n:Nat)(σ:St)(H:Hp)(R:Hp->Prop):=∀out:Str,out.length<=n->∀Q:VK,(∀z H',R H'->Q (.str z) H')->EJ X vs out σ H Q
theorem XJ(x y:Str):(x++y).length=x.length+y.length:=by
 show(x.cps++y.cps).size=_;rw[Array.size_append];rfl
section
variable{X:Cx}{σ:St}{H:Hp}{Q:VK}{R:Hp->Prop}{v v₁ v₂:ϧ}{rest:List ϧ}{pos:Pos}{n:Nat}
theorem Z3(h:jP X (v₁::v₂::rest) 0 σ H λH'=>∀z,Q (.str z) H'):EV X (.JoinedStr (v₁::v₂::rest) pos) σ H Q:=ac8 (h aop (Ϭ _) Q λz H' r=>r z)
theorem aaL(a:n<=ϰ)(r:R H):jP X [] n σ H R:=λout c Q k=>aei (aes c a) (k out H r)
theorem M5(h:EV X v σ H λx H1=>∃y m,x=.str y/\y.length<=m/\n+m<=ϰ/\jP X rest (n+m) σ H1 R):jP X (v::rest) n σ H R:=λout a Q k=>
 afY (aq h λx H1 ⟨y,m,e,c,f,q⟩=>#[y,e,by rw[XJ];omega,q (out++y) (by rw[XJ];omega) Q k])
end
abbrev eY:List ε:=[.type "ValueError",.type "Exception",.type "BaseException",.type "object"]
def θ(mg:Str->Option ε)(x:Str):δ:=match mg x with
 |some (.ref C)=>C
 |_=>0
theorem cA{mg:Str->Option ε}{x:Str}{C:δ}(h:mg x=some (.ref C)):θ mg x=C:=by unfold θ;rw[h]
structure Mw(K:ϩ)(mg:Str->Option ε)(x:Str):Prop where
 at_:mg x=some (.ref (θ mg x))
 ex:W.excIn K (θ mg x) eY "ValueError.__new__"=true
theorem ai3{K:ϩ}{mg:Str->Option ε}{x:Str}{C:δ}(h:mg x=some (.ref C))(e:W.excIn K C eY "ValueError.__new__"=true):Mw K mg x:=by
 let z:θ mg x=C:=by unfold θ;rw[h]
 show#[by rw[z];show h,by rw[z];show e]
theorem ahX{K:ϩ}{h:ϫ}{N:δ}{mg:Str->Option ε}{n:Str}{v:ε}(X:K.In h)(G:h.Ns N mg)(e:ap5 K N n=some (some v)):mg n=some v:=by
 let#[o,es,ep,a,hd,_,f]:=G;unfold ap5 at e;split at e
 .rename_i c d g j sl q;have:=X _ _ q;rw[a]at this;cases this;cases hd;split at e
  .rename_i l i;cases e;rw[<-f];unfold nsFind findBy;rw[<-apk,i];rfl
  .split at e<;>cases e
 .cases e
def Gj(K:ϩ)(C:δ)(i:Option ε):Bool:=match K.lookup C with
 |some ⟨.type "type",_,.cls cd,sl⟩=>(match cd.mro,sl.toList with
  |.ref a::bm,[_,_,_,_,some (.builtin n),_]=>a==C&&n=="ValueError.__new__"&& !cd.hasDel&&W.tailIn K eY bm&&W.nsOkIn K cd.ns&&ap5 K cd.ns "__init__"==some i
  |_,_=>false)
 |_=>false
theorem ajQ{K:ϩ}{C:δ}{h:ϫ}{i:Option ε}(kin:K.In h)(e:Gj K C i=true):∃bm N nm q bs hdct sn sub ab col dd k0 k1 k2 k3 k5 mN,h.get? C=some (excClassObj nm q C N bs bm hdct sn sub ab col dd k0 k1 k2 k3 k5 "ValueError.__new__")/\h.Ns N mN/\mN "__init__"=i/\OwnTail h eY bm:=by
 unfold Gj at e;split at e
 .rename_i dd cd sl m;split at e
  .rename_i z bm k0 k1 k2 k3 n k5 f hs;simp only[aaW,beq_iff_eq,Bool.not_eq_true']at e;let#[#[#[#[#[e1,o],g],p],a],c]:=e;subst e1 o;let#[nm,bs,s,ns,u,hd,sn,sub,ab,col,x]:=cd;dsimp only at f g a c;subst f g;let y:sl= #v[k0,k1,k2,k3,some (.builtin "ValueError.__new__"),k5]:=by
    let#[l]:=sl;simp only at hs;rw[hs]
   subst y;let j:h.Ns ns (h.nsMap ns):=.of_isNs (W.isNs_of_in kin a);show#[bm,ns,nm,u,bs,hd,sn,sub,ab,col,dd,k0,k1,k2,k3,k5,_,kin _ _ m,j,?_,W.tail_of_in kin p];cases i with
   |none=>show W.nsMap_none_of_in kin a c
   |some v=>show ahX kin j c
  .cases e
 .cases e
section
variable{X:Cx}{Kx:St->XK}{D:Ends}{σ:St}{H:Hp}{x:Str}{np cpos pos:Pos}{e:ϧ}{es:List ϧ}
end
abbrev Cx.gF(X:Cx)(e:ε)(F:ε->μ->Prop)(pn:List (δ×Obj)):Cx:={X with A:=X.A.mark (some e),calm:=false,xe:=F,pn:=pn}
section
variable{X:Cx}{ϵ pins':List (δ×Obj)}{σ:St}{H:Hp}{s:μ}{F:ε->μ->Prop}{e:ε}
theorem Cx.Ok.gF(ok:X.Ok)(pn:List (δ×Obj)):(X.gF e F pn).Ok:=
 #[ok.mod,ok.kind,ok.glob,ok.blt,ok.above,ok.inj,ok.has,ok.cab,(λz=>nomatch z),ok.frames,ok.stk,ok.exf,ok.bs,ok.bsz,ok.noex,ok.exfs,ok.funs,ok.frf]
theorem Inv.gF(I:Inv X ϵ σ H s):Inv (X.gF e F (X.pn++ϵ)) [] σ H s:=
 #[I.ok.gF _,I.os,I.bare,I.base,I.loc,I.cell,I.free,I.freeC,λp a=>I.pin p (by simpa using a),I.hok,I.len]
theorem Inv.vq(ok:X.Ok)(I:Inv (X.gF e F (X.pn++ϵ)) pins' σ H s):Inv X ϵ σ H s:=
 #[ok,I.os,I.bare,I.base,I.loc,I.cell,I.free,I.freeC,λp a=>I.pin p (aj9 _ a),I.hok,I.len]
theorem Ch.jU{b:δ}(c:Ch (X.tri F (X.pn++ϵ)) pins' b):Ch X ϵ b:=#[c.1,c.2.1,c.2.2.1,λp a=>c.2.2.2 p (aj9 _ a)]
end
def EH(X:Cx)(hs:List amy)(D:Ends)(σ:St)(cls:ε)(d:Option δ×Bool)(H:Hp):Prop:=
 ∀(ϵ:List (δ×Obj))(s:μ)(e T:δ),Inv X ϵ σ H s->bz s.heap e cls d (some T) .none->(∀b∈[e,T],H b=none/\Ch X ϵ b)->
  π (Ϧ X.prog X.w) X.A (handleBy (.ref e) X.env hs) (SP X ϵ D) X.xe s
section
variable{X:Cx}{D:Ends}{σ:St}{H:Hp}{h₀:amy}{hs rest:List amy}{body orelse suite:List Ϩ}{b₀:Ϩ}{pos np:Pos}{x n:Str}{cls c:ε}{d:Option δ×Bool}
theorem Az(Kx:St->XK)(c:X.stack=X.env::X.outer)(l:X.env.frame=some X.env.locals)(a:∀F pn,bO (X.tri F pn) Kx->alP (Ϧ X.prog X.w) X.A X.env F->Ρ (X.tri F pn) body {D with nx:=λσ' H'=>Ρ X orelse D σ' H'} σ H)(m:∀σ' cls d H',Kx σ' cls d H'->EH X (h₀::hs) D σ' cls d H'):SX X (.Try body (h₀::hs) orelse [] pos) D σ H:=by
 intro ϵ s I;show wpAny_Try_except ?_;show adk (a (λe g=>π (Ϧ X.prog X.w) X.A (noteFrame e X.env) (λ_ j=>π (Ϧ X.prog X.w) X.A (setFlight e none) (λ_ n=>π (Ϧ X.prog X.w) X.A (handleBy e X.env (h₀::hs)) (SP X ϵ D) X.xe n) X.xe j) X.xe g)
  (X.pn++ϵ) ?_ PassesOwn.looking [] s I.tri) (λf g q=>?_) λ_ _ q=>q
 .intro pins' σ' H' s' e cls d o q;let#[p,tb,x,y,i,ch]:=o;let z:=Inv.jU I.ok p;show qQ.note (X:=X) (ϵ:=ϵ) #[z,tb,x,y,i,λb a=>#[(ch b a).1,(ch b a).2.jU]] c l λj T B F3 c3=>?_
  show B.off F3 c3 λC E G=>m σ' cls d H' q ϵ C e T E G c3
 .cases f with
  |next=>
   let#[σ',H',J,q]:=q;show q ϵ g (Inv.jU I.ok J)
  |brk=>
   let#[σ',H',J,q]:=q;show#[σ',H',Inv.jU I.ok J,q]
  |cont=>
   let#[σ',H',J,q]:=q;show#[σ',H',Inv.jU I.ok J,q]
  |ret u=>
   let#[v,σ',H',J,r,q]:=q;show#[v,σ',H',Inv.jU I.ok J,r,q]
theorem bz.ty{M:Model}{h:ϫ}{e:δ}{tb:Option δ}{a:ε}(F:bz h e cls d tb a):ap8 M h (typeOf (.ref e)) cls:=by
 let#[g,vs,c,f,_]:=F;subst f;show(W.Looks.ld c).andThen .now
theorem agq{X:Cx}{ϵ:List (δ×Obj)}{s:μ}{e:δ}{tb:Option δ}{a:ε}{k:Bool}{R:Result->μ->Prop}(I:Inv X ϵ σ H s)(F:bz s.heap e cls d tb a)(f:Gl X x)(g:X.mg x=some c)(hd:(x==("__debug__":Str))=false)(ex:apo X.K cls c=some k)(h:R (.ok (if k then .brk else .next)) s):codeAny (Ϧ X.prog X.w) (X.A.mark (some (.ref e))) (.handlers (.ref e) [.ExceptHandler (some (.Name x np)) none [] pos] X.env) R s:=by
 show codeAny_handlers_test ?_;let J:Inv (X.gF (.ref e) X.xe (X.pn++ϵ)) [] σ H s:=I.gF;show nO (X:=X.gF (.ref e) X.xe (X.pn++ϵ)) J f g ((W.exm_one I.kIn F.ty ex).here h) hd
end
mutual
inductive RD (K:ϩ) (H:Hp):V->anq->Prop
 |non:RD K H .non .none
 |bl (b:Bool):RD K H (.bl b) (.bool b)
 |int (i:Int):RD K H (.int i) (.int i)
 |str (x:Str):RD K H (.str x) (.str x)
 |lst {a:δ} {xs:List V} {ds:List anq} (h:η K H a xs) (r:di K H xs ds):RD K H (.ref a) (.list ds)
 |tup {a:δ} {xs:List V} {ds:List anq} (h:ρ K H a xs) (r:di K H xs ds):RD K H (.ref a) (.tuple ds)
inductive di (K:ϩ) (H:Hp):List V->List anq->Prop
 |nil:di K H [] []
 |cons {x:V} {d:anq} {xs:List V} {ds:List anq} (h:RD K H x d) (r:di K H xs ds):di K H (x::xs) (d::ds)
end
mutual
theorem RD.reads{X:Cx}{ϵ:List (δ×Obj)}{σ:St}{H:Hp}{s:μ}(I:Inv X ϵ σ H s):∀{v:V}{d:anq}{u:ε},RD X.K H v d->RelV v u->∃as,Reads s.heap u d as
 |_,_,_,.non,e=>by cases(show _=Value.none from e);show#[_,.none]
 |_,_,_,.bl b,e=>by cases(show _=Value.bool b from e);show#[_,.bool b]
 |_,_,_,.int i,e=>by let#[t,rfl]:=e;show#[_,.int i t]
 |_,_,_,.str x,e=>by let#[t,rfl]:=e;show#[_,.str x t]
 |_,_,_,.lst h r,e=>by
  cases(show _=Value.ref _ from e);let#[g,a,pl,_]:=I.list h;let#[as,q]:=di.reads I r a;let#[o,c,f,n,hd]:=pl.isList;show#[_,.list c f hd (by simpa using q)]
 |_,_,_,.tup h r,e=>by
  cases(show _=Value.ref _ from e);let#[g,a,tp,_]:=I.tuple h;let#[as,q]:=di.reads I r a;let#[o,c,f,n,hd]:=tp;show#[_,.tuple c f hd (by simpa using q)]
theorem di.reads{X:Cx}{ϵ:List (δ×Obj)}{σ:St}{H:Hp}{s:μ}(I:Inv X ϵ σ H s):∀{vs:List V}{ds:List anq}{us:List ε},di X.K H vs ds->Vals vs us->∃as,ReadsAll s.heap us ds as
 |_,_,_,.nil,.nil=>#[_,.nil]
 |_,_,_,.cons h r,.cons e t=>by
  let#[as,q]:=RD.reads I h e;let#[bs,a]:=di.reads I r t;show#[_,.cons q a]
end
section
variable{X:Cx}{H:Hp}{Q:VK}{x y:V}{d d':anq}
theorem Mi(f:X.A.units+64<cLine)(a:RD X.K H x d)(c:RD X.K H y d')(h1:d.canLay0=true)(h2:d'.canLay0=true)(hd:d.depth<=60)(q:Q (.bl (PyData.eqv d d')) H):OP X (adC .Eq) x y H Q:=by
 show#[λx y H Q=>RD X.K H x d/\RD X.K H y d'/\Q (.bl (PyData.eqv d d')) H,?_,a,c,q];intro ϵ s σ H x y v u Q I rx ry ⟨a,c,q⟩;let#[as,r1]:=RD.reads I a rx;let#[bs,e]:=RD.reads I c ry;show SeqAt.rcAt_reads r1 e h1 h2 (by have:=ao3 d.depth d'.depth;omega) X.prog X.w X.xe _ #[.bl _,H,I,rfl,q]
theorem aai(f:X.A.units+64<cLine)(a:RD X.K H x d)(c:RD X.K H y d')(h1:d.canLay0=true)(h2:d'.canLay0=true)(hd:d.depth<=60)(q:Q (.bl (!PyData.eqv d d')) H):OP X (adC .NotEq) x y H Q:=by
 show#[λx y H Q=>RD X.K H x d/\RD X.K H y d'/\Q (.bl (!PyData.eqv d d')) H,?_,a,c,q];intro ϵ s σ H x y v u Q I rx ry ⟨a,c,q⟩;let#[as,r1]:=RD.reads I a rx;let#[bs,e]:=RD.reads I c ry;show SeqAt.rcNeAt_reads r1 e h1 h2 (by have:=ao3 d.depth d'.depth;omega) X.prog X.w X.xe _ #[.bl _,H,I,rfl,q]
end
def acy(l:List Ϩ)(i:Nat):Ϩ:=l.getD i (.Pass #[0,0,0,0])
theorem aae{A B:Prop}(h:A):if decide (V.non=V.non)=true then A else B:=by rw[if_pos (by decide)];show h
theorem afk{A B:Prop}{i:Int}(h:B):if decide (V.int i=V.non)=true then A else B:=by rw[if_neg (by simp)];show h
theorem ac7{A B:Prop}{i:Str}(h:B):if decide (V.str i=V.non)=true then A else B:=by rw[if_neg (by simp)];show h
theorem agn{A B:Prop}{i:δ}(h:B):if decide (V.ref i=V.non)=true then A else B:=by rw[if_neg (by simp)];show h
theorem abk{A B:Prop}(h:B):if(!decide (V.non=V.non))=true then A else B:=by rw[if_neg (by decide)];show h
theorem abJ{A B:Prop}{i:Int}(h:A):if(!decide (V.int i=V.non))=true then A else B:=by rw[if_pos (by simp)];show h
theorem aeB{A B:Prop}{i:Str}(h:A):if(!decide (V.str i=V.non))=true then A else B:=by rw[if_pos (by simp)];show h
theorem Zj{X:Cx}{H:Hp}{Q:VK}{z:Str}{n:Int}(a:intText? z=some n)(c:z.length<=640)(q:Q (.int n) H):CL X (.type "int") [.str z] H Q:=by
 show cO (r:=λxs H Q=>∃z n,xs=[.str z]/\intText? z=some n/\z.length<=640/\Q (.int n) H) ?_ #[z,n,rfl,a,c,q];intro ϵ s σ H xs us Q I r h;let#[z,n,rfl,a,c,q]:=h;let#[u,rfl,e]:=vals1 r;let#[t,rfl]:=e;show W.KIN.call_text a c #[.int n,H,I.tok _,#[_,rfl],q]
section
variable{X:Cx}{e:ϧ}{es:List ϧ}{σ:St}{H:Hp}{Q:VK}{pos p:Pos}
def zV:List (Str×String):=[("len","len"),("isinstance","isinstance"),("all","all"),("any","any"),("min","min"),("max","max"),("abs","abs"),("sum","sum"),("sorted","sorted"),("ord","ord"),("divmod","divmod")]
def xT:List (Str×String):=[("str","str"),("list","list"),("tuple","tuple"),("int","int"),("set","set"),("bool","bool"),("dict","dict")]
theorem uI{x:Str}{i:String}{P:Str×String->Prop}:∀{l:List (Str×String)},l.lookup x=some i->(∀p∈l,P p)->P (x,i)
 |[],e,_=>by cases e
 |(y,k)::l,e,h=>by
  rw[afo]at e;split at e
  .next q=>cases e;rw[beq_iff_eq.mp q];show h _ (by simp)
  .show uI e λp a=>h p (by simp[a])
theorem ajo:∀p∈zV,bootBuiltins p.1=some (.builtin p.2)/\p.1≠"__name__"/\(p.1==("__debug__":Str))=false:=by
 simp only[zV,apd];show#[#[PySem.boot_len,by decide,by decide],#[PyProof.Rows.boot_isinstance,by decide,by decide],#[PyProof.Rows.boot_all,by decide,by decide],#[PyProof.Rows.boot_any,by decide,by decide],#[PyProof.Rows.boot_min,by decide,by decide],#[PyProof.Rows.boot_max,by decide,by decide],#[PyProof.Rows.boot_abs,by decide,by decide],#[PyProof.Rows.boot_sum,by decide,by decide],#[PyProof.Rows.boot_sorted,by decide,by decide],#[PyProof.Rows.boot_ord,by decide,by decide],#[PyProof.Rows.boot_divmod,by decide,by decide],(λ_ h=>by cases h)]
theorem JC:∀p∈xT,bootBuiltins p.1=some (.type p.2)/\p.1≠"__name__"/\(p.1==("__debug__":Str))=false:=by
 simp only[xT,apd];show#[#[PyProof.Rows.boot_str,by decide,by decide],#[PyProof.Rows.boot_list,by decide,by decide],#[PyProof.Rows.boot_tuple,by decide,by decide],#[PyProof.Rows.boot_int,by decide,by decide],#[PyProof.Rows.boot_set,by decide,by decide],#[PyProof.Rows.boot_bool,by decide,by decide],#[PyProof.Rows.boot_dict,by decide,by decide],(λ_ h=>by cases h)]
variable{x:Str}{i:String}
theorem ah3(g:zV.lookup x=some i)(j:Gl X x)(l:X.mg x=none)(m:ϴ (e::es) X.env=(false,eval e X.env)::ϴ es X.env)(f:(backTo pos (ϴ es X.env)).any (·.1)=false)(h:EA X (e::es) σ H λvs H1=>CL X (.builtin i) vs H1 Q):EV X (.Call (.Name x p) (e::es) [] pos) σ H Q:=by
 let#[a,b,c]:=uI g ajo;show aiO j l a b c m f h
theorem aag(g:xT.lookup x=some i)(j:Gl X x)(l:X.mg x=none)(m:ϴ (e::es) X.env=(false,eval e X.env)::ϴ es X.env)(f:(backTo pos (ϴ es X.env)).any (·.1)=false)(h:EA X (e::es) σ H λvs H1=>CL X (.type i) vs H1 Q):EV X (.Call (.Name x p) (e::es) [] pos) σ H Q:=by
 let#[a,b,c]:=uI g JC;show aiG j l a b c m f h
theorem abb(e:xT.lookup x=some i)(f:Gl X x)(g:X.mg x=none)(q:Q (.ty i) H):EV X (.Name x pos) σ H Q:=by
 let#[a,b,c]:=uI e JC;show aiC f g a q b c
def RC:V->Option ε
 |.non=>some (.type "NoneType")|.bl _=>some (.type "bool")|.int _=>some (.type "int")|.str _=>some (.type "str")|_=>none
theorem ahC{K:ϩ}{y:V}{t:ε}(h:RC y=some t):cU K H y t:=by
 cases y<;>cases h
 .show .non
 .show .bl _
 .show .int _
 .show .str _
theorem O4{y:V}{t:ε}{T:String}{k:Bool}(q:Q (.bl k) H)(h:RC y=some t:=by rfl)(e:aoy X.K t (.type T)=some k:=by rfl):CL X (.builtin "isinstance") [y,.ty T] H Q:=ain (ahC h) e q
def MP(X:Cx)(x:Str)(σ:St):Option V:=match X.env.scope.names.lookup x with
 |some .local=>if(x==("__debug__":Str))||(x==("__classdict__":Str))then none else eV X.N σ x
 |some .cell=>if(x==("__debug__":Str))||(x==("__classdict__":Str))then none else eV X.N σ x
 |some .free=>if(x==("__debug__":Str))||(x==("__classdict__":Str))then none else eV X.N σ x
 |_=>none
theorem acj{v:V}(h:MP X x σ=some v)(q:Q v H):EV X (.Name x pos) σ H Q:=by
 let a:pK X.env.scope x->(if(x==("__debug__":Str))||(x==("__classdict__":Str))then none else eV X.N σ x)=some v->EV X (.Name x pos) σ H Q:=λe h=>by
  split at h
  .cases h
  .next c=>
   rw[anW,not_or,apI,apI]at c;show ajZ h e q c.1 c.2
 unfold MP at h;split at h
 .show a (.inl ‹_›) h
 .show a (.inr (.inl ‹_›)) h
 .show a (.inr (.inr ‹_›)) h
 .cases h
end
section
variable{X:Cx}{ϵ:List (δ×Obj)}{σ:St}{H:Hp}{s:μ}
theorem Inv.Ao{ch:List δ}{T:δ}{xs:List V}{us:List ε}{h':ϫ}{tk:Nat}(I:Inv X ϵ σ H s)(g:∀b∈ch,bA X ϵ H b)(l:s.heap.objs.size<=T)(k:∀b o,b∉ch->s.heap.get? b=some o->h'.get? b=some o)(hz:xs.length<=ϰ)(m:Vals xs us)(tp:IsTup h' T us.toArray):Inv X ϵ σ (upd H T (.tup xs)) {s with heap:=h',toks:=tk}:=by
 let f:=I.hok.fresh l;let neT:∀b o,s.heap.get? b=some o->b≠T:=λb o e z=>ajM _ (abX (abV e) (z▸l))
 let i:∀b u,H b=some u->b∉ch:=λb u e z=>by rw[(g b z).1]at e;cases e
 show I.call (g':=s.gens) (d':=s.drawn) (t':=tk) (ch:=ch) (h':=h') #[λb o e _ _ j=>k b o j e,λb o e _ _ j=>#[o.slots,k b o j e],λb o e n _=>?_,λb o e j=>#[o,k b o j e],λb ys e=>?_,λb o u e=>?_,λb ps e=>#[#v[],?_]] ?_ I.bare
  λb a=>#[(g b a).2.2.2.1,(g b a).2.1,(g b a).2.2.2.2.1,(g b a).2.2.2.2.2]
 .rw[ο (neT b o e)];show n
 .rw[ο (Ψ e f)];show e
 .rw[ο (Ψ e f)];show e
 .rw[ο (Ψ e f),e];simp
 .intro b u e;by_cases a:b=T
  .subst a;rw[υ]at e;cases e;show#[hz,us,m,tp]
  .rw[ο a]at e;show(I.hok b u e).stay (λc v p q=>k c v ?_ q) (λc q=>by rw[ο (Ψ q f)];show q) (λc ys q=>by rw[ο (Ψ q f)];show q) λc x v q=>by rw[ο (Ψ q f)];show q
   obtain z|z:=p
   .subst z;show i c u e
   .show i c _ z
end
def Cm(K:ϩ)(l:δ):It:=
 #[λi H=>∃xs x,η K H l xs/\xs[i]?=some x,λi H v H'=>∃T x,v=.ref T/\H T=none/\H'=upd H T (.tup [.int i,x])/\∀xs,η K H l xs->xs[i]?=some x,λi H=>∃xs,η K H l xs/\xs.length<=i]
theorem ab9{P:ϯ}{w:ϭ}{K:PySem.W.Frag}{elts:List ϧ}{k:Nat}{pos:Pos}(l e it:δ)(F:e≠it)(G:l≠e)(J:l≠it):Turn P w K (.Tuple elts k pos) (Cm K l) [e,it] e (λi h=>(∃old,IsEnum h e it i old)/\h.IsListIter it l i)where
 mem:=by simp
 obj:=λi h st b c=>by
  let#[#[old,a],o,f,_,hd]:=st;obtain z|z:=aaG.mp c
  .subst z;show#[_,a,λv z=>by cases z]
  .let z':b=it:=by simpa using z
   subst z';show#[o,f,λv z=>by rw[hd]at z;cases z]
 keep:=λi h h' st kk=>by
  let#[#[old,a],o,f,r]:=st;show#[#[old,kk e (by simp) _ a],o,kk it (by simp) _ f,r]
 item:=by
  intro X L M O R i ϵ s σ H E I B st S;subst L M O;let#[#[old,a],g]:=st;let#[xs,x,C,j]:=S;let#[m,D,pl,hz]:=I.list C;let W:=WalksT.enumerate (prog:=X.prog) (w:=X.w) (A:=X.A) (I.ok.hd R) e it l F G J m.toArray;let hi:i<m.toArray.size:=by
   rw[aaH, <-D.length];show(aap.mp j).1
  let#[u,hu,ru]:=D.get j;show W.item i s _ _ hi #[#[old,a],g,pl.isList] λT vals h1 tk hp U tup n keep=>#[.ref T,rfl,?_]
  let#[t,y,ey,rfl]:=hp;let Y:y=u:=by
   have:m[i]?=some y:=by simpa using ey
   rw[hu]at this;show(Option.some.inj this).symm
  subst Y;show W.go elts k pos i T {s with heap:=h1,toks:=tk} _ _ n λh2 Z mZ=>?_
  let#[#[ab,ac],p,_]:=Z;let sX:IsTup h2 T [Value.int i t,y].toArray:=by
   let#[o,f,r]:=tup;show#[o,mZ T o (W.apart i T h1 n) f,r]
  show#[.ref T,upd H T (.tup [.int i,x]),I.Ao (ch:=[e,it]) (tk:=tk) B U (λb o c q=>mZ b o c (keep b o c q)) Δ (.cons #[t,rfl] (.cons ru .nil)) sX,rfl,?_,?_,λb c=>?_]
  .show#[T,x,rfl,I.hok.fresh U,rfl,λys hy=>?_];rw[<-I.list_inj C hy];show j
  .show#[#[ab,by simpa using ac],p]
  .have :b≠T:=λz=>by
    obtain⟨o,f,_⟩:∃o,s.heap.get? b=some o/\True:=by
     obtain z|z:=aaG.mp c
     .subst z;show#[_,a,trivial]
     .let z':b=it:=by simpa using z
      subst z';let#[o,f,_]:=g;show#[o,f,trivial]
    show ajM _ (abX (abV f) (z▸U))
   rw[ο this];show(B b c).1
 done:=by
  intro X L M O R i ϵ s σ H E I B st S;subst L M O;let#[#[old,a],g]:=st;let#[xs,C,j]:=S;let#[m,D,pl,hz]:=I.list C;let hn:m.toArray[i]?=none:=akP (by rw[aaH, <-D.length];show j);show wpAny_pyNext_enum_end (I.ok.hd R) a g pl.isList hn λh' hk=>#[rfl,?_]
  let#[f0,f1,f2,f3,f4,f5]:=B it (by simp);show I.turned (t':=s.toks) (it:=it) (λb o c q=>hk b o c q) f0 f1 f3 f4 f5
 self:=λA i s Q E st h=>by
  let#[#[old,a],_]:=st;show wpAny_pyIter_enum a h
section
variable{X:Cx}{σ:St}{H:Hp}{a b:ϧ}{elts:List ϧ}{k:Nat}{tp p pos:Pos}{R:It->Hp->Prop}
theorem aiV(x:Gl X "enumerate")(y:X.mg "enumerate"=none)(hs:ϴ [a] X.env=[(false,eval a X.env)])(h:EV X a σ H λv H1=>∃l xs,v=.ref l/\H1 l=some (.lst xs)/\R (Cm X.K l) H1):EI X (.Tuple elts k tp) (.Call (.Name "enumerate" p) [a] [] pos) σ H R:=by
 intro ϵ s I;show Call_ (il I x y boot_enumerate (PyProof.Rows.callWith_type1 (χ (d8 (es:=[]) (QA:=λvs H1=>∃l xs,vs=[.ref l]/\H1 l=some (.lst xs)/\R (Cm X.K l) H1) hs (aq h λv H1 ⟨l,xs,e,B,C⟩=>iZ #[l,xs,by rw[e],B,C]) pos ϵ s I) λus c D=>?_) hs rfl));let#[vs,H1,f,r1,l,xs,e,E,q]:=D;subst e;let#[u,rfl,F]:=vals1 r1;cases(show u=Value.ref l from F);let#[hz,L,n,M,m]:=f.hok l _ E;show call_enumerate_1 m λh' o i hsz G=>?_
 show wpAny_pyIter_enum o ?_;let g:l<c.heap.objs.size:=abV m;show#[c.heap.objs.size+1,[c.heap.objs.size+1,c.heap.objs.size],_,_,H1,rfl,f.kept (t':=c.toks) G,ab9 l _ _ (Nat.succ_ne_self _) (ab7 (an8 g)) (ab7 g),#[#[_,o],i],λb J=>?_,q];let j:b=c.heap.objs.size+1\/b=c.heap.objs.size:=by simpa using J
 obtain z|z:=j<;>subst z
 .show f.fpOk (anO _) (f.hok.fresh (anO _))
 .show f.fpOk (Ϭ _) (f.hok.fresh (Ϭ _))
end
section
variable{X:Cx}{ϵ:List (δ×Obj)}{σ:St}{H:Hp}{s:μ}
theorem Inv.Lp{ch:List δ}{h':ϫ}{tk:Nat}(I:Inv X ϵ σ H s)(a:∀b∈ch,bA X ϵ H b)(k:∀b o,b∉ch->s.heap.get? b=some o->h'.get? b=some o):Inv X ϵ σ H {s with heap:=h',toks:=tk}:=by
 let f:∀b u,H b=some u->b∉ch:=λb u e z=>by rw[(a b z).1]at e;cases e
 show I.call (g':=s.gens) (d':=s.drawn) (t':=tk) (ch:=ch) (h':=h') #[λb o e _ _ g=>k b o g e,λb o e _ _ g=>#[o.slots,k b o g e],λb o e n _=>n,λb o e g=>#[o,k b o g e],λb ys e=>e,λb o u e=>e,λb ps e=>#[#v[],?_]] ?_ I.bare
  λb i=>#[(a b i).2.2.2.1,(a b i).2.1,(a b i).2.2.2.2.1,(a b i).2.2.2.2.2]
 .rw[e];simp
 .intro b u e;show(I.hok b u e).stay (λc v j q=>k c v ?_ q) (λc q=>q) λc ys q=>q
  obtain z|z:=j
  .subst z;show f c u e
  .show f c _ z
end
def Fq(K:ϩ)(l m:δ):It:=
 #[λi H=>∃xs ys x y,η K H l xs/\η K H m ys/\xs[i]?=some x/\ys[i]?=some y,
  λi H v H'=>∃T x y,v=.ref T/\H T=none/\H'=upd H T (.tup [x,y])/\(∀xs,η K H l xs->xs[i]?=some x)/\∀ys,η K H m ys->ys[i]?=some y,
  λi H=>∃xs ys,η K H l xs/\η K H m ys/\min xs.length ys.length<=i]
theorem agP{P:ϯ}{w:ϭ}{K:PySem.W.Frag}{elts:List ϧ}{k:Nat}{pos:Pos}(z TI TO j n l m:δ)(D:ZipApart z TI TO j n l m):Turn P w K (.Tuple elts k pos) (Fq K l m) [z,TI,TO,j,n] z (λi h=>IsZip h z TI TO .none/\IsPair h TI (.ref j) (.ref n)/\(∃a b,IsPair h TO a b)/\h.IsListIter j l i/\h.IsListIter n m i)where
 mem:=by simp
 obj:=λi h st b g=>by
  let#[hz,f,#[a,Y,c],#[Z,h1,_,d1],#[o2,h2,_,d2]]:=st;simp only[aaG,afT,or_false]at g;obtain e|e|e|e|e:=g<;>subst e
  .show#[_,hz,λv z=>by cases z]
  .show#[_,f,λv z=>by cases z]
  .show#[_,c,λv z=>by cases z]
  .show#[_,h1,λv z=>by rw[d1]at z;cases z]
  .show#[_,h2,λv z=>by rw[d2]at z;cases z]
 keep:=λi h h' st kk=>by
  let#[hz,f,#[a,Y,c],#[Z,h1,r1],#[o2,h2,r2]]:=st;show#[kk z (by simp) _ hz,kk TI (by simp) _ f,#[a,Y,kk TO (by simp) _ c],#[Z,kk j (by simp) _ h1,r1],#[o2,kk n (by simp) _ h2,r2]]
 item:=by
  intro X hP hw hK hc i ϵ s σ H E I O st hg;subst hP hw hK;let#[hz,f,c,h1,h2]:=st;let#[xs,ys,x,y,R,p,S,hy]:=hg;let#[C,U,pl,hsz]:=I.list R;let#[its',B,Gu,F]:=I.list p;let W:=WalksT.zip2 (prog:=X.prog) (w:=X.w) (A:=X.A) (I.ok.hd hc) z TI TO j n l m D C.toArray its'.toArray;let hi:i<min C.toArray.size its'.toArray.size:=by
   rw[aaH, <-U.length,aaH, <-B.length];show Nat.lt_min.mpr #[(aap.mp S).1,(aap.mp hy).1]
  let#[u,hu,ru]:=U.get S;let#[u',ab,BZ]:=B.get hy;show W.item i s _ _ hi #[hz,f,c,h1,h2,pl.isList,Gu.isList] λT vals hh tk hp hT tup G keep=>#[.ref T,rfl,?_]
  let#[v,v',ev,ac,rfl]:=hp;let e1:v=u:=by
   have:C[i]?=some v:=by simpa using ev
   rw[hu]at this;show(Option.some.inj this).symm
  let e2:v'=u':=by
   have:its'[i]?=some v':=by simpa using ac
   rw[ab]at this;show(Option.some.inj this).symm
  subst e1 e2;show W.go elts k pos i T {s with heap:=hh,toks:=tk} _ _ G λh3 ae mZ=>?_
  let#[gz,af,ag,g1,g2,_]:=ae;let J:∀b,b∉[z,TI,TO,j,n]->b∉[z,TO,j,n]:=λb g L=>g (by simp at L⊢;obtain e|e|e|e:=L<;>simp[e])
  let sX:IsTup h3 T [v,v'].toArray:=by
   let#[o,ho,r]:=tup;show#[o,mZ T o (W.apart i T hh G) ho,r]
  show#[.ref T,upd H T (.tup [x,y]),I.Ao (ch:=[z,TI,TO,j,n]) (tk:=tk) O hT (λb o g q=>mZ b o (J b g) (keep b o (J b g) q)) Δ (.cons ru (.cons BZ .nil)) sX,rfl,?_,#[gz,af,ag,g1,g2],λb g=>?_]
  .show#[T,x,y,rfl,I.hok.fresh hT,rfl,λa ha=>?_,λa ha=>?_]
   .rw[<-I.list_inj R ha];show S
   .rw[<-I.list_inj p ha];show hy
  .have :b≠T:=λq=>by
    obtain⟨o,ho⟩:∃o,s.heap.get? b=some o:=by
     let#[a,Y,c]:=c;let#[Z,h1,_]:=h1;let#[o2,h2,_]:=h2;simp only[aaG,afT,or_false]at g;obtain e|e|e|e|e:=g<;>subst e
     .show#[_,hz]
     .show#[_,f]
     .show#[_,c]
     .show#[_,h1]
     .show#[_,h2]
    show ajM _ (abX (abV ho) (q▸hT))
   rw[ο this];show(O b g).1
 done:=by
  intro X hP hw hK hc i ϵ s σ H E I O st hg;subst hP hw hK;let#[hz,f,#[a,b,c],h1,h2]:=st;let#[xs,ys,R,p,S]:=hg;let#[C,U,pl,hsz]:=I.list R;let#[its',B,Gu,F]:=I.list p;let M:C.toArray[i]?=none\/its'.toArray[i]?=none:=by
   by_cases q:xs.length<=i
   .show .inl (akP (by rw[aaH, <-U.length];show q))
   .show .inr (akP (by rw[aaH, <-B.length];omega))
  show wpAny_pyNext_zip_end (I.ok.hd hc) D hz f c h1 h2 pl.isList Gu.isList M λh' hk=>#[rfl,?_]
  show I.Lp (tk:=s.toks) O λb o g q=>hk b o (λe=>g (by simp[e])) (λe=>g (by simp[e])) (λe=>g (by simp[e])) (λe=>g (by simp[e])) q
 self:=λA i s Q E st h=>wpAny_pyIter_zip st.1 h
theorem aed(n l m:Nat)(h1:l<n)(h2:m<n):ZipApart (n+4) (n+2) (n+3) n (n+1) l m:=by
 constructor<;>(intro e;let a:(_:Nat)=_:=e;omega)
section
variable{X:Cx}{σ:St}{H:Hp}{a b:ϧ}{elts:List ϧ}{k:Nat}{tp p pos:Pos}{R:It->Hp->Prop}
theorem ad7(B:Gl X "zip")(C:X.mg "zip"=none)(hs:ϴ [a,b] X.env=[(false,eval a X.env),(false,eval b X.env)])(c:ϴ [b] X.env=[(false,eval b X.env)])(h:EV X a σ H λv H1=>EV X b σ H1 λx H2=>∃l m xs ys,v=.ref l/\x=.ref m/\H2 l=some (.lst xs)/\H2 m=some (.lst ys)/\R (Fq X.K l m) H2):EI X (.Tuple elts k tp) (.Call (.Name "zip" p) [a,b] [] pos) σ H R:=by
 intro ϵ s I;show Call_ (il I B C boot_zip (PyProof.Rows.callWith_type1 (χ (d8 (es:=[b]) (QA:=λvs H1=>∃l m xs ys,vs=[.ref l,.ref m]/\H1 l=some (.lst xs)/\H1 m=some (.lst ys)/\R (Fq X.K l m) H1) (by rw[hs,c]) (aq h λv H1 q=>d8 (es:=[]) c (aq q λx H2 ⟨l,m,xs,ys,e,D,E,F,G⟩=>iZ #[l,m,xs,ys,by rw[e,D],E,F,G])) pos ϵ s I) λus f J=>?_) (by rw[hs,c]) (by rw[c];rfl)));let#[vs,H1,g,r1,l,m,xs,ys,e,L,o,q]:=J;subst e;let#[u,M,rfl,O,P]:=vals2 r1;cases(show u=Value.ref l from O);cases(show M=Value.ref m from P);let#[hz,Q,n,rv,y]:=g.hok l _ L;let#[S,its',n',T,i]:=g.hok m _ o;show call_zip_2 (xs:=Q.toArray) (ys:=its'.toArray) #[_,y,rfl,_,rfl] #[_,i,rfl,_,rfl] λh' h1 h2 U W Y hsz Z=>?_
 show wpAny_pyIter_zip h1 ?_;show#[f.heap.objs.size+4,[f.heap.objs.size+4,f.heap.objs.size+2,f.heap.objs.size+3,f.heap.objs.size,f.heap.objs.size+1],_,_,H1,rfl,g.kept (t':=f.toks) Z,agP _ _ _ _ _ l m (aed _ _ _ (abV y) (abV i)),#[h1,h2,#[_,_,U],W,Y],λb z=>?_,q];let j:f.heap.objs.size<=b:=by
  simp only[aaG,afT,or_false]at z;obtain e|e|e|e|e:=z<;>subst e
  .show akV _ _
  .show akV _ _
  .show akV _ _
  .show Ϭ _
  .show akV _ _
 show g.fpOk j (g.hok.fresh j)
end
section
variable{X:Cx}{a e:ϧ}{σ:St}{H:Hp}{Q:VK}{D:Ends}{pos p p':Pos}
theorem M9{Y:Cx}{tg elt:ϧ}{J:It}{E:δ}{z:St}{Q:Hp->Prop}(n:Nat)(hn:n<=ϰ)(B:St->Prop)(W:B z)(f:Nat->V->Hp->Prop)(U:H E=none)(mono:∀i v H1 H2 ys,H1 E=some (.lst ys)->(∀b o,b≠E->H1 b=some o->H2 b=some o)->f i v H1->f i v H2)(go:∀i H1,ζ H H1->i<n->J.go i H1)(stop:∀H1,ζ H H1->J.stop n H1)(step:∀i l x H1 H2,i<n->B l->ζ H H1->(∃ys,H1 E=some (.lst ys)/\ys.length=i/\∀k v,ys[k]?=some v->f k v H1)->J.yld i H1 x H2->EG Y tg x l H2 λg O=>EV Y elt g O λv p=>B g/\f i v p/\ζ H1 p)(fin:∀H1 xs,xs.length=n->(∀i v,xs[i]?=some v->f i v H1)->H1 E=some (.lst xs)->ζ H H1->Q H1):jD X Y tg elt [] J E z H Q:=by
 show#[λi m l H1=>m=n-i/\i<=n/\ζ H H1/\B l/\∃xs,H1 E=some (.lst xs)/\xs.length=i/\∀k v,xs[k]?=some v->f k v H1,#[n,by simp,agz _,ζ.upd U,W,[],υ,rfl,λk v e=>by simp at e],?_]
 rintro i m l H1 ⟨rfl,hi,C,P,xs,D,G,R⟩
 by_cases j:i<n
 .show .inr #[go i H1 C j,λF H'=>ζ H H'/\B F/\∃xs,H' E=some (.lst xs)/\xs.length=i+1/\∀k v,xs[k]?=some v->f k v H',λF H' ⟨a,b,c⟩=>#[n-(i+1),(),rfl,j,a,b,c],λx H2 y=>?_];intro ϵ s u I r;show χ (step i l x H1 H2 j P C #[xs,D,G,R] y ϵ s u I r) λ_ s' ⟨g,O,Z,q3⟩=>#[g,O,Z,Mu ?_]
  rw[if_pos rfl];show aq q3 λv p ⟨t2,pv,L⟩=>#[xs,L _ _ D,(),?_]
  let mm:∀k M,f k M p->f k M (upd p E (.lst (xs++[v]))):=λk M q=>mono k M p _ xs (L _ _ D) (λb o S e=>by rw[ο S];show e) q
  show#[λb o e=>?_,t2,xs++[v],υ,by simp[G],λk u e=>?_]
  .rw[ο (Ψ e U)];show L _ _ (C _ _ e)
  .by_cases hk:k<xs.length
   .rw[ajS hk]at e;show mono k u H1 _ xs D (λb o S e=>?_) (R k u e);rw[ο S];show L _ _ e
   .let T:k=i:=by
     have:=(aap.mp e).1;rw[abu,ael]at this;omega
    subst T;rw[<-G,amX]at e;cases e;show mm _ _ pv
 .let e:i=n:=()
  subst e;show .inl #[stop H1 C,fin H1 xs G R D C]
variable{tg elt iter:ϧ}{scope:ah9}{σ':St}
def xg(X:Cx)(N':List Str)(scope:ah9)(tg elt:ϧ)(σ':St)(H1:Hp)(Q:VK)(n:Nat)(G:Nat->Hp->V->Hp->Prop):Prop:=
 ∃(f:St->Prop)(e:δ->Nat->V->Hp->Prop),f σ'/\
  (∀E i v H2 a ys,H2 E=some (.lst ys)->(∀b o,b≠E->H2 b=some o->a b=some o)->e E i v H2->e E i v a)/\
  (∀(fp:List δ)(E C:δ)(g:μ)(H0:Hp)(i:Nat)(j:St)(x:V)(H2 a:Hp),H1 E=none->i<n->f j->ζ H1 H2->(∃ys,H2 E=some (.lst ys))->G i H2 x a->
   EG (bR X N' scope (ϓ scope X.env) C g H0 fp) tg x j a λc m=>EV (bR X N' scope (ϓ scope X.env) C g H0 fp) elt c m λv l=>f c/\e E i v l/\ζ H2 l)/\
  ∀(E:δ)(H2:Hp)(xs:List V),H1 E=none->xs.length=n->(∀i v,xs[i]?=some v->e E i v H2)->H2 E=some (.lst xs)->ζ H1 H2->Q (.ref E) H2
theorem Ib{N':List Str}{J:It}{n:Nat}{G:Nat->Hp->V->Hp->Prop}(f:n<=ϰ)(go:∀i H2,ζ H H2->i<n->J.go i H2)(stop:∀H2,ζ H H2->J.stop n H2)(g:∀i H2 x e,i<n->ζ H H2->J.yld i H2 x e->G i H2 x e)(h:xg X N' scope tg elt σ' H Q n G):∀(fp:List δ)(D C:δ)(a:μ),H D=none->jD X (bR X N' scope (ϓ scope X.env) C a (upd H D (.lst [])) fp) tg elt [] J D σ' H (λH'=>Q (.ref D) H'):=by
 intro fp E C a c;let#[j,m,t0,mono,step,fin]:=h;show M9 n f j t0 (m E) c (λi v H1 H2 ys=>mono E i v H1 H2 ys) go stop (λi o x H1 H2 hi p hs q y=>step fp E C a _ i o x H1 H2 c hi p hs (q.imp λ_ z=>z.1) (g i H1 x H2 hi hs y)) λH1 xs l u B s=>fin E H1 xs c l u B s
theorem lN(N':List Str)(S:cu X.env scope)(h:EV X e σ H λv H1=>∃l xs,v=.ref l/\η X.K H1 l xs/\xs.length<=ϰ/\xg X N' scope tg elt σ' H1 Q xs.length λi H2 x f=>xs[i]?=some x/\H2=f)(c:cF N' X.N σ scope=σ':=by rfl)(g:X.calm=true:=by rfl)(hs:∀x,foldedSetIterable e X.env x=pure x:=by intro _;rfl):EV X (.ListComp elt [#[tg,e,[],0]] scope pos) σ H Q:=by
 show vM (N':=N') g S hs (oE (aq h λv H1 q=>?_));let#[l,xs,rfl,a,hz,j]:=q;show#[l,rfl,#[xs,a],?_];rw[c];show Ib hz (λi H2 s hi=>#[xs,xs[i],ζ.seq s a,aab hi]) (λH2 s=>#[xs,ζ.seq s a,Ϭ _]) (λi H2 x f hi s y=>#[y.2 xs (ζ.seq s a),y.1.symm]) j
theorem SM{b:ϧ}{elts:List ϧ}{k:Nat}{tp:Pos}(N':List Str)(S:cu X.env scope)(D:X.mg "zip"=none)(h:EV X a σ H λv H1=>EV X b σ H1 λo H2=>∃l m xs ys,v=.ref l/\o=.ref m/\H2 l=some (.lst xs)/\H2 m=some (.lst ys)/\min xs.length ys.length<=ϰ/\
   xg X N' scope (.Tuple elts k tp) elt σ' H2 Q (min xs.length ys.length) λi c x B=>∃T y z,x=.ref T/\c T=none/\B=upd c T (.tup [y,z])/\xs[i]?=some y/\ys[i]?=some z)(f:cF N' X.N σ scope=σ':=by rfl)(E:X.calm=true:=by rfl)(F:Gl X "zip":=by rfl)(hs:ϴ [a,b] X.env=[(false,eval a X.env),(false,eval b X.env)]:=by rfl)(g:ϴ [b] X.env=[(false,eval b X.env)]:=by rfl):EV X (.ListComp elt [#[.Tuple elts k tp,.Call (.Name "zip" p) [a,b] [] p',[],0]] scope pos) σ H Q:=by
 show vM (N':=N') E S (by intro _;rfl) (ad7 F D hs g (aq h λv H1 q=>aq q λo H2 q=>?_));let#[l,m,xs,ys,e1,G,C,e,h2,I]:=q;show#[l,m,xs,ys,e1,G,C,e,?_];rw[f];let j:η X.K H2 l xs:=.inl (.inl C);let n:η X.K H2 m ys:=.inl (.inl e);show Ib h2 (λi c s hi=>#[xs,ys,xs[i]'(),ys[i]'(),ζ.seq s j,ζ.seq s n,aab _,aab _]) (λc s=>#[xs,ys,ζ.seq s j,ζ.seq s n,Ϭ _]) (λi c x B hi s y=>?_) I;let#[T,u,J,L,M,O,P,R]:=y;show#[T,u,J,L,M,O,P xs (ζ.seq s j),R ys (ζ.seq s n)]
theorem agY{elts:List ϧ}{k:Nat}{tp:Pos}{body:List Ϩ}(o:alP (Ϧ X.prog X.w) X.A X.env X.xe)(s:X.calm=true)(z:Gl X "enumerate")(B:X.mg "enumerate"=none)(hs:ϴ [a] X.env=[(false,eval a X.env)])(h:EV X a σ H λv H1=>∃l xs,v=.ref l/\H1 l=some (.lst xs)/\∃c:Nat->St->Hp->Prop,c 0 σ H1/\(∀i σ' H',i<=xs.length->c i σ' H'->η X.K H' l xs)/\
   (∀i x T σ' H',xs[i]?=some x->c i σ' H'->H' T=none->EG X (.Tuple elts k tp) (.ref T) σ' (upd H' T (.tup [.int i,x])) λf H2=>Ρ X body {D with nx:=c (i+1),ct:=c (i+1),bk:=D.nx} f H2)/\∀σ' H',c xs.length σ' H'->D.nx σ' H'):SX X (.For (.Tuple elts k tp) (.Call (.Name "enumerate" p) [a] [] p') body [] pos) D σ H:=by
 show lF o s (by intro _;rfl) (aiV z B hs (aq h λv H1 q=>?_));let#[l,xs,rfl,C,c,E,F,j,hd]:=q;show#[l,xs,rfl,C,λi m σ H=>m=xs.length-i/\i<=xs.length/\c i σ H,#[xs.length,by simp,agz _,E],?_]
 rintro i m σ' H' ⟨rfl,hi,p⟩
 let n:=F i σ' H' hi p;by_cases g:i<xs.length
 .show .inr #[#[xs,xs[i],n,aab g],c (i+1),λf H2 p2=>#[xs.length-(i+1),(),rfl,g,p2],λx H2 y=>?_];let#[T,u,e1,G,I,J]:=y;subst e1 I;show j i u T σ' H' (J xs n) p G
 .let e:i=xs.length:=()
  subst e;show .inl #[#[xs,n,Ϭ _],hd σ' H' p]
end
section
variable{Kt:Type} [DecidableEq Kt] [BEq Kt] [LawfulBEq Kt]
def dB(ks:List Kt):List Kt:=ks.foldl (λa k=>if k∈a then a else a++[k]) []
theorem tO(ks:List Kt)(k:Kt):dB (ks++[k])=if k∈dB ks then dB ks else dB ks++[k]:=by
 unfold dB;rw[aoI];rfl
theorem xq:∀n (ks:List Kt),ks.length=n->(dB ks).length<=ks.length
 |0,ks,h=>by rw[anY.mp h];show Ϭ _
 |n+1,ks,h=>by
  obtain⟨l,k,rfl⟩:∃l k,ks=l++[k]:=#[_,_,(amD (alh h)).symm];let a:l.length=n:=by simpa using h
  let c:=xq n l a;rw[tO];split <;>simp <;>omega
theorem Jc:∀n (ks:List Kt),ks.length=n->∀k,k∈dB ks↔k∈ks
 |0,ks,h=>by rw[anY.mp h];intro k;show Iff.rfl
 |n+1,ks,h=>by
  obtain⟨l,x,rfl⟩:∃l k,ks=l++[k]:=#[_,_,(amD (alh h)).symm];let c:l.length=n:=by simpa using h
  let a:=Jc n l c;intro k;rw[tO,afH,abx];split
  .rename_i f;rw[a];constructor
   .show .inl
   .rintro(e|e)
    .show e
    .rw[e];show(a x).mp f
  .rw[afH,abx,a]
theorem Hg:∀n (ks:List Kt),ks.length=n->((dB ks).length=ks.length↔ks.Nodup)
 |0,ks,h=>by rw[anY.mp h];simp[dB]
 |n+1,ks,h=>by
  obtain⟨l,x,rfl⟩:∃l k,ks=l++[k]:=#[_,_,(amD (alh h)).symm];let c:l.length=n:=by simpa using h
  let g:=Hg n l c;let le:=xq n l c;let i:=Jc n l c x;rw[tO,apu];split
  .rename_i f;constructor
   .intro e;simp at e;omega
   .intro e;show absurd rfl (e.2.2 x (i.mp f) x (by simp))
  .rename_i f;rw[abu,abu,ael];constructor
   .intro e;show#[g.mp (),by simp,λa j b m=>?_];rw[abx.mp m];intro o;show f (i.mpr (o▸j))
   .intro e;rw[g.mpr e.1]
end
section
variable{prog:ϯ}{w:ϭ}{A:ϳ}{E:ε->μ->Prop}{s:μ}{zs:List Str}{us:Array ε}
def strAt(us:Array ε)(zs:List Str):=∀(i:Nat)(v:ε),us[i]?=some v->∃t z,v=.str z t/\zs[i]?=some z
def iy(prog:ϯ)(w:ϭ)(h:ϫ)(S:δ)(zs:List Str):Prop:=h.SetOf (strKind prog w) S (λk=>decide (k∈dB zs)) (dB zs).length
theorem iy.stay{h h':ϫ}{S:δ}(x:iy prog w h S zs)(k:∀o,h.get? S=some o->h'.get? S=some o):iy prog w h' S zs:=by
 let#[o,es,ep,t,a,rest]:=x;show#[o,es,ep,t,k _ a,rest]
theorem aaa{R:Result->μ->Prop}{it:δ}{fp wr:List δ}{G:Array GenState->Array GenState->Prop}{St:Nat->μ->Prop}(W:WalksS prog w A.in1 it fp wr G us.size (λi v=>us[i]?=some v) St)(S:δ)(C:S∉fp)(hz:strAt us zs)(H:us.size=zs.length)(a:us.size+1<scanBound)(d:Nat):∀(i:Nat)(s:μ),d+i=us.size->St i s->iy prog w s.heap S (zs.take i)->
   (∀s',Moved (S::wr) G s s'->iy prog w s'.heap S zs->R (.ok (.ret .none)) s')->codeAny (Ϧ prog w) A (.builtin "set.update.loop" #[[.ref S,.ref it],[]]) R s:=by
 let c:S∉wr:=λh=>C (W.sub _ h)
 let up:∀b∈wr,b∈S::wr:=λb a=>acY _ a
 induction d with
 |zero=>
  intro i s hi st j n;let e:i=us.size:=()
  subst e;show ak4 F.entry_set_update_loop ?_;rw[Around.under_plainId F.plain_set_update_loop _];show ν (m:=pyNext (.ref it)) (W.done s _ _ st λs' f=>?_);show Ϯ (n s' (f.mono up) ?_);rw[H,anL]at j;show j.stay λo p=>f.heap S o c p
 |succ d I=>
  intro i s hi st j n;show ak4 F.entry_set_update_loop ?_;rw[Around.under_plainId F.plain_set_update_loop _];show ν (m:=pyNext (.ref it)) (W.item i s _ _ () st λv s' J q f=>?_);let#[t,z,rfl,L]:=hz i v J;let u:=j.stay (h':=s'.heap) λo p=>f.heap S o c p
  show π _ A.in1 (holding [Value.str z t] (setAdd S (.str z t))>>=_) _ _ s';show ν (afm ?_);unfold setAdd;show afm (ν ((strKind prog w).pyHash (k:=z) (strKind_is _ _ _ _) ?_));let D:zs.take (i+1)=zs.take i++[z]:=by rw[List.take_add_one,L];rfl
  let g:(dB (zs.take i)).length+1<scanBound:=by
   have:=xq _ (zs.take i) rfl;have:(zs.take i).length<=zs.length:=by simp;omega
   omega
  show wpAny_setAddHashed_of (knd:=strKind prog w) (s:={s' with toks:=s'.toks+1}) (strKind_is _ _ _ _) rfl u g λh' E x=>?_
  let y:iy prog w h' S (zs.take (i+1)):=by
   show SetOf_congr x (λk=>?_) ?_
   .rw[D,tO];split
    .rename_i l;by_cases e:k=z
     .subst e;simp[l]
     .simp[e]
    .by_cases e:k=z
     .subst e;simp
     .simp[e]
   .rw[D,tO];by_cases l:z∈dB (zs.take i)
    .simp[l]
    .simp[l]
  show Ϯ #[plainId_quiet F.plain_set_update_loop _,I (i+1) _ () (W.frame _ s' _ _ q (anO _) λb a o e=>?_) y λM B O=>?_]
  .rw[E.2 b (λh:b=S=>C (h▸a))];show e
  .show n M (Moved.trans W.gtrans ((f.mono up).then_heap (anO _) λb o a e=>?_) B) O;rw[E.2 b (λh:b=S=>a (h▸adV))];show e
abbrev newSet(h:ϫ)(led:Bool):ϫ:=h.push {cls:=.type "set",dict:=none,data:=.set #v[] 0 (.fresh 0 0 led)}
set_option maxRecDepth 100000 in
theorem agy{l S:δ}{Q:ε->μ->Prop}(y:A.handled=none)(v:s.heap.IsList l us)(f:∃a,s.heap.get? S=some {cls:=.type "set",dict:=none,data:=.set #v[] 0 (.fresh 0 0 a)})(hz:strAt us zs)(z:us.size=zs.length)(j:us.size+1<scanBound)(h:∀(h':ϫ)(tk:Nat),iy prog w h' S zs->(∀b o,b≠S->s.heap.get? b=some o->h'.get? b=some o)->Q .none {s with heap:=h',toks:=tk}):codeAny (Ϧ prog w) A (.call (.builtin "set.__init__") #[[.ref S,.ref l],[]]) (wants Q E) s:=by
 let#[a,f]:=f;let B:s.TypeIs (.ref S) "set":=#[_,f,rfl];show anw F.called_set.init.plain F.entry_set_init (check_set_init_1 B ?_);let g:=v;let#[#[oc,od,m,os],c,x,nl,hd]:=v;simp only at x hd;subst x hd;let M:=F.sub_list_set;let O:=F.sub_list_frozenset;let P:(Value.type "list"==Value.type "dict")=false:=by decide
 unfold alA.«set.__init__» noKeywords Builtin.Frozenset.updateFrom;generalize n:pyIter=PI
 wp_walk
 subst n;show alc g (ν (wpAny_runValue ?_));let C:S<s.heap.objs.size:=abV f;let D:l<s.heap.objs.size:=abV c;let G:A.in1.in1.handled=none:=by simp[y]
 let p:S≠l:=λe=>by subst e;rw[f]at c;simp at c
 show aaa (us:=us) ((Walks.list G _ l (ab7 D) us).toS) S (by simp only[aaG,afT,or_false,not_or];show#[ab7 C,p]) hz z j us.size 0 {s with heap:=s.heap.push {cls:=.type "list_iterator",data:=.fields #v[.ref l,.int 0 0]}} ()
  #[#[_,abi _ rfl,rfl,rfl],(g.push _)] ?_ ?_
 .let hget:=ϲ {cls:=.type "list_iterator",data:=.fields #v[.ref l,.int 0 0]} f;show SetOf_congr ((setObjOf_fresh (knd:=strKind prog w) a).setOf hget (by unfold scanBound;omega)) (λ_=>rfl) rfl
 .intro s' i H;let#[h',g',d',q,u]:=s';let I:g'=s.gens:=i.gens;let J:d'=s.drawn:=i.drawn;let L:u=s.os:=i.os;subst I J L;show Ϯ ?_;show π _ _ (ret Value.none) _ _ _;show Ϯ (h h' q H λb o j e=>?_);show i.heap b o ?_ (ϲ _ e);simp only[aaG,afT,or_false,not_or];show#[j,ab7 (abV e)]
set_option maxRecDepth 100000 in
theorem aiJ{l:δ}{Q:ε->μ->Prop}(x:A.handled=none)(y:s.heap.IsList l us)(hz:strAt us zs)(z:us.size=zs.length)(B:us.size+1<scanBound)(h:∀(h':ϫ)(tk:Nat),iy prog w h' s.heap.objs.size zs->(∀b o,s.heap.get? b=some o->h'.get? b=some o)->Q (.ref s.heap.objs.size) {s with heap:=h',toks:=tk}):π (Ϧ prog w) A (call (.type "set") [.ref l]) Q E s:=by
 let#[c,tl,q]:=F.called_set.mro;let m:=F.called_set.made;let u:=F.called_set.sub;let h1:=F.called_set.notType;let h2:=F.called_set.canCreate;let C:=F.typeCall_set_1 (.ref l);show anm (codeAny_of_tree ?_);show π _ _ (callAny (.type "set") _) _ _ _;show Ϯ #[Code.quiet_builtin _ (by fin2),ak4 F.entry_type_call ?_];rw[Around.under_plain (weight_type_call_type "set" [.ref l] []) rfl]
 repeat (any_goals (first|with_reducible assumption|wp_step))
 show akc (code_set_new_1 (.ref l) (E:=E) (Q₁:=λobj g=>∃a:Bool,obj=.ref s.heap.objs.size/\g={s with heap:=newSet s.heap a}) λa=>#[a,rfl,rfl]) λr g n=>?_
 rcases r with e|(_|_|_|obj)
 all_goals first|show n|show n.elim|skip
 let#[a,rfl,rfl]:=n;let v:(newSet s.heap a).get? s.heap.objs.size=some {cls:=.type "set",dict:=none,data:=.set #v[] 0 (.fresh 0 0 a)}:=abi _ rfl;let H:Shared.TypeIs {s with heap:=newSet s.heap a} (.ref s.heap.objs.size) "set":=#[_,v,rfl];let D:=F.called_set.init.lookup;let G:=F.called_set.init.bind (.ref s.heap.objs.size)
 repeat (any_goals (first|with_reducible assumption|wp_step))
 show akc (agy (E:=E) (s:={s with heap:=newSet s.heap a}) (Q:=λr i=>r=.none/\∃h' tk,i={s with heap:=h',toks:=tk}/\iy prog w h' s.heap.objs.size zs/\∀b o,s.heap.get? b=some o->h'.get? b=some o) (by simp[x]) (y.push _) #[a,v] hz z B λh' tk p k=>#[rfl,h',tk,rfl,p,λb o e=>k b o (ab7 (abV e)) (ϲ _ e)]) λj i f=>?_
 rcases j with e|(_|_|_|r)
 all_goals first|show f|show f.elim|skip
 let#[rfl,h',tk,rfl,p,k]:=f
 repeat (any_goals (first|with_reducible assumption|wp_step))
 show h _ _ p k
end
section
variable{X:Cx}{H:Hp}{Q:VK}{v:V}
def lM(X:Cx)(S:δ)(zs:List Str):HO:=.ext λh=>iy X.prog X.w h S zs
theorem Ol{q:δ}{zs:List Str}(n:X.calm=true)(h:η X.K H q (zs.map V.str))(hz:zs.length<=4000)(g:∀S,H S=none->Q (.ref S) (upd H S (lM X S zs))):CL X (.type "set") [.ref q] H Q:=by
 show cO (r:=λxs H Q=>∃q zs,xs=[.ref q]/\η X.K H q (zs.map V.str)/\zs.length<=4000/\∀S,H S=none->Q (.ref S) (upd H S (lM X S zs))) ?_ #[q,zs,rfl,h,hz,g];intro ϵ s σ H xs us Q I r h;let#[q,zs,rfl,h,hz,g]:=h;let#[u,rfl,p]:=vals1 r;cases(show u=Value.ref q from p);let#[c,j,pl,_]:=I.list h;let l:c.length=zs.length:=by have:=j.length;rw[aaz]at this;show this.symm
 let f:strAt c.toArray zs:=λi v e=>by
  let m:c[i]?=some v:=by simpa using e
  let hi:i<zs.length:=by rw[<-l];show(aap.mp m).1
  let#[u,e1,y]:=j.get (i:=i) (x:=V.str zs[i]) (by simp[hi]);rw[m]at e1;cases e1;let#[t,rfl]:=y;show#[t,zs[i],rfl,aab hi]
 show aiJ (I.ok.hd n) pl.isList f (by simpa using l) (by show _<4096;simp;omega) λh' tk a k=>?_
 show#[.ref s.heap.objs.size,_,I.laid (t':=tk) (o:=lM X s.heap.objs.size zs) k (Ϭ _) #[a,?_,λh1 h2 a z=>a.stay z],rfl,g _ (I.hok.fresh (Ϭ _))];let#[o,es,ep,t,B,_]:=a;show#[o,B]
theorem Mr{S:δ}{zs:List Str}(h:H S=some (lM X S zs))(hz:zs.length<=4000)(g:Q (.int (dB zs).length) H):CL X (.builtin "len") [.ref S] H Q:=by
 show cO (r:=λxs H Q=>∃S zs,xs=[.ref S]/\H S=some (lM X S zs)/\zs.length<=4000/\Q (.int (dB zs).length) H) ?_ #[S,zs,rfl,h,hz,g];intro ϵ s σ H xs us Q I r h;let#[S,zs,rfl,h,hz,g]:=h;let#[u,rfl,c]:=vals1 r;cases(show u=Value.ref S from c);let#[#[o,es,ep,t,e,a,hd,f,l,m,i,j],_]:=I.hok S _ h;let le:=xq _ zs rfl;show call_len_set e a hd i () #[.int es.size,H,I.tok _,#[_,rfl],?_];rw[j];show g
theorem K6{x:V}{p:δ}{xs:List V}(h:ρ X.K H p xs)(q:Q (.bl (!gJ x xs)) H)(f:fV x=true:=by rfl)(fs:xs.all fV=true:=by rfl):OP X (adC .NotIn) x (.ref p) H Q:=bh ajC #[p,xs,rfl,.inr h,f,fs,q]
theorem pQ{x:V}{p:δ}{xs:List V}(h:ρ X.K H p xs)(q:Q (.bl (gJ x xs)) H)(f:fV x=true:=by rfl)(fs:xs.all fV=true:=by rfl):OP X (adC .In) x (.ref p) H Q:=bh adh #[p,xs,rfl,.inr h,f,fs,q]
theorem Y8{l b:δ}{xs zs:List V}(h1:H l=some (.lst xs))(h2:H b=some (.lst zs))(hz:xs.length+zs.length<=ϰ)(q:∀p,H p=none->Q (.ref p) (upd H p (.lst (xs++zs)))):OP X (binaryOp .Add) (.ref l) (.ref b) H Q:=bh ahw #[l,b,xs,zs,rfl,rfl,h1,h2,hz,q]
end
section
variable{X:Cx}{H:Hp}{D:Ends}{σ σ':St}{e a elt tg:ϧ}{scope:ah9}{pos spos py p p':Pos}{y:Str}{j:Nat}
theorem uB(N':List Str)(S:cu X.env scope)(m:X.N.Nodup)(h:EV X e σ H λv H1=>∃l xs,v=.ref l/\η X.K H1 l xs/\xs.length<=ϰ/\xg X N' scope tg elt σ' H1 (λv H'=>D.nx (σ.set j (some v)) H') xs.length λi H2 x g=>xs[i]?=some x/\H2=g)(c:cF N' X.N σ scope=σ':=by rfl)(f:amu (.ListComp elt [#[tg,e,[],0]] scope pos) (some (.Name y py)) spos.line X.env=pure true:=by rfl)(n:X.calm=true:=by rfl)(hs:∀x,foldedSetIterable e X.env x=pure x:=by intro _;rfl)(hi:nameAt X.N y=some j:=by rfl)(o:X.env.scope.names.lookup y=some .local:=by rfl):SX X (.Assign [.Name y py] (.ListComp elt [#[tg,e,[],0]] scope pos) spos) D σ H:=by
 show Kr (N':=N') f n S hs m hi o (oE (aq h λv H1 q=>?_));let#[l,xs,rfl,a,hz,p]:=q;show#[l,rfl,#[xs,a],?_];rw[c];show Ib (J:=jz X.K l) hz (λi H2 s hi=>#[xs,xs[i],ζ.seq s a,aab hi]) (λH2 s=>#[xs,ζ.seq s a,Ϭ _]) (λi H2 x g hi s y=>#[y.2 xs (ζ.seq s a),y.1.symm]) p
end
def cutAt(c:Nat):List Nat->List (List Nat)
 |[]=>[[]]
 |x::r=>if x=c then[]::cutAt c r else match cutAt c r with
  |[]=>[[x]]
  |h::t=>(x::h)::t
def eQ(c:Nat):List (List Nat)->List Nat
 |[]=>[]
 |[p]=>p
 |p::q::r=>p++c::eQ c (q::r)
theorem Tn(c:Nat):∀l,cutAt c l≠[]
 |[]=>by simp[cutAt]
 |x::r=>by
  unfold cutAt;split
  .simp
  .split <;>simp
theorem Wl{c:Nat}:∀{p:List Nat},c∉p->cutAt c p=[p]
 |[],_=>rfl
 |x::r,h=>by
  let a:=Wl (c:=c) (p:=r) λz=>h (by simp[z])
  unfold cutAt;rw[if_neg (λz=>h (by simp[z])),a]
theorem Vb{c:Nat}{l:List Nat}:∀{p:List Nat},c∉p->cutAt c (p++c::l)=p::cutAt c l
 |[],_=>by
  show cutAt c (c::l)=_;rw[cutAt,if_pos rfl]
 |x::r,h=>by
  let a:=Vb (c:=c) (l:=l) (p:=r) λz=>h (by simp[z])
  show cutAt c (x::(r++c::l))=_;rw[cutAt,if_neg (λz=>h (by simp[z])),a]
theorem uJ{c:Nat}:∀{ps:List (List Nat)},ps≠[]->(∀p∈ps,c∉p)->cutAt c (eQ c ps)=ps
 |[],h,_=>absurd rfl h
 |[p],_,h=>Wl (h p (by simp))
 |p::q::r,_,h=>by
  show cutAt c (p++c::eQ c (q::r))=_;rw[Vb (h p (by simp)),uJ (by simp) λx a=>h x (acY _ a)]
theorem Hl(c:Nat):∀l,(cutAt c l).length<=l.length+1
 |[]=>by simp[cutAt]
 |x::r=>by
  let a:=Hl c r;unfold cutAt;split
  .simp;show a
  .split
   .simp
   .rename_i h t e;rw[e]at a;simp at a⊢;omega
theorem Nm(c:Nat):∀l,eQ c (cutAt c l)=l
 |[]=>rfl
 |x::r=>by
  let a:=Nm c r;unfold cutAt;split
  .rename_i h;cases e:cutAt c r with
   |nil=>show absurd e (Tn c r)
   |cons p q=>
    rw[e]at a;show[]++c::eQ c (p::q)=_;rw[a,h];rfl
  .cases e:cutAt c r with
   |nil=>show absurd e (Tn c r)
   |cons p q=>
    rw[e]at a;simp only;cases q with
    |nil=>
     show x::p=_;rw[show p=r from a]
    |cons y q=>
     show(x::p)++c::eQ c (y::q)=_;rw[<-a];rfl
theorem qw(c:Nat):∀ps:List Str,(ae5 #[#v[c]] ps).cps.toList=eQ c (ps.map λp=>p.cps.toList)
 |[]=>rfl
 |[p]=>rfl
 |p::q::r=>by
  let a:=qw c (q::r);let e:ae5 #[#v[c]] (p::q::r)=p++#[#v[c]]++ae5 #[#v[c]] (q::r):=rfl;rw[e];show((p.cps++ #v[c])++(ae5 #[#v[c]] (q::r)).cps).toList=_;simp only[aos];rw[a];simp[eQ]
theorem adW(x:Str)(c:Nat):Txt.split x #[#v[c]]≠[]:=by
 unfold Txt.split;split
 .simp
 .split
  .simp
  .unfold Builtin.Str.partsBetween;simp
theorem split_list(x:Str)(c:Nat):(Txt.split x #[#v[c]]).map (λp=>p.cps.toList)=cutAt c x.cps.toList:=by
 let h1:(ae5 #[#v[c]] (Txt.split x #[#v[c]])).cps.toList=x.cps.toList:=by rw[StrLaws.join_split]
 rw[qw]at h1;rw[<-h1];show(uJ (by simpa using adW x c) λp a=>?_).symm;let#[q,e,rfl]:=ada.mp a;show StrLaws.split_free x c q e
def ϊ(c:Nat)(x:Str):List Str:=(cutAt c x.cps.toList).map λl=>#[l.toArray]
theorem vK(x:Str)(c:Nat):Txt.split x #[#v[c]]=ϊ c x:=by
 unfold ϊ;rw[<-split_list,agr];have:((λl:List Nat=>(#[l.toArray]:Str))∘λp:Str=>p.cps.toList)=id:=by
  funext p;rfl
 rw[this,aoT]
section
variable{X:Cx}{H:Hp}{Q:VK}{z y:Str}{v:V}
theorem Og:∀l:List (Str×Tok),Vals ((l.map (·.1)).map V.str) (strValues l)
 |[]=>.nil
 |p::l=>.cons #[p.2,rfl] (Og l)
theorem m_split{c:Nat}(g:∀p,H p=none->Q (.ref p) (upd H p (.lst ((ϊ c z).map V.str))))(hz:z.length<=100000:=by omega):MT X "str.split" (.str z) [.str #[#v[c]]] H Q:=by
 show je (r:=λx xs H Q=>∃z c,x=.str z/\xs=[.str #[#v[c]]]/\z.length<=100000/\∀p,H p=none->Q (.ref p) (upd H p (.lst ((ϊ c z).map V.str)))) ?_ #[z,c,rfl,rfl,hz,g];intro ϵ s σ H x xs v us Q I rx rs h;let#[z,c,rfl,rfl,hz,g]:=h;let#[t,rfl]:=rx;let#[u,rfl,f]:=vals1 rs;let#[t',rfl]:=f;let i:(ϊ c z).length<=z.length+1:=by
  let h1:=Hl c z.cps.toList;unfold ϊ;rw[aaz];let h2:z.cps.toList.length=z.length:=rfl;omega
 let hsz:=ϱ;let fin:∀(l:List (Str×Tok))(tk:Nat),l.map (·.1)=ϊ c z->EP X ϵ σ Q (.ref s.heap.objs.size) {s with toks:=tk,heap:=s.heap.push {cls:=.type "list",data:=.seq (strValues l).toArray}}:=λl tk e=>
  #[.ref s.heap.objs.size,_,I.laid (t':=tk) (o:=.lst ((ϊ c z).map V.str)) (λb o q=>ϲ _ q) (Ϭ _) #[by rw[aaz];omega,strValues l,_,by rw[<-e];show Og l,abi _ rfl],rfl,g _ (I.hok.fresh (Ϭ _))]
 cases h1:(decide (z.length<(#[#v[c]]:Str).length)||decide (Builtin.Str.strKind z<Builtin.Str.strKind #[#v[c]]))
 .cases hf:(Builtin.Str.occurrences z #[#v[c]] 0 z.length (z.length+1)).isEmpty
  .let e:Txt.split z #[#v[c]]=Builtin.Str.partsBetween z (Builtin.Str.occurrences z #[#v[c]] 0 z.length (z.length+1)) (#[#v[c]]:Str).length:=by
    unfold Txt.split;rw[if_neg (by rw[h1];decide),if_neg (by rw[hf];decide)]
   let a:=i;rw[<-vK,e]at a;show anR F.slot_str_split (typeIs_str _ _ _) F.entry_str_split (F.args_str_split_2 _ _) (meets_str_split_sep z #[#v[c]] t t' h1 rfl hf () ()) ?_;have:=fin (numbered s.toks (Txt.split z #[#v[c]])) (s.toks+(Builtin.Str.partsBetween z (Builtin.Str.occurrences z #[#v[c]] 0 z.length (z.length+1)) (#[#v[c]]:Str).length).length) (by rw[numbered_texts,vK]);rw[<-strsFrom_eq,e]at this;show this
  .let e:Txt.split z #[#v[c]]=[z]:=by
    unfold Txt.split;rw[if_neg (by rw[h1];decide),if_pos hf]
   show anR F.slot_str_split (typeIs_str _ _ _) F.entry_str_split (F.args_str_split_2 _ _) (meets_str_split_not_found z #[#v[c]] t t' h1 rfl hf) (fin [(z,t)] s.toks (by rw[<-vK,e];rfl))
 .let e:Txt.split z #[#v[c]]=[z]:=by
   unfold Txt.split;rw[if_pos h1]
  show anR F.slot_str_split (typeIs_str _ _ _) F.entry_str_split (F.args_str_split_2 _ _) (meets_str_split_cannot_occur z #[#v[c]] t t' h1) (fin [(z,t)] s.toks (by rw[<-vK,e];rfl))
theorem Zz{c:Nat}(q:Q (.int c) H):CL X (.builtin "ord") [.str #[#v[c]]] H Q:=by
 show cO (r:=λxs H Q=>∃c:Nat,xs=[.str #[#v[c]]]/\Q (.int c) H) ?_ #[c,rfl,q];intro ϵ s σ H xs us Q I r h;let#[c,rfl,q]:=h;let#[u,rfl,a]:=vals1 r;let#[t,rfl]:=a;show P.ord_of_char #[.int c,H,I.tok _,#[_,rfl],q]
theorem acH{i:Int}(hi:0<=i)(a:i<1000)(g:Q (.str (Txt.zfill z i)) H):MT X "str.zfill" (.str z) [.int i] H Q:=by
 show je (r:=λx xs H Q=>∃z i,x=.str z/\xs=[.int i]/\0<=i/\i<1000/\Q (.str (Txt.zfill z i)) H) ?_ #[z,i,rfl,rfl,hi,a,g];intro ϵ s σ H x xs v us Q I rx rs h;let#[z,i,rfl,rfl,hi,a,g]:=h;let#[t,rfl]:=rx;let#[u,rfl,c]:=vals1 rs;let#[t',rfl]:=c;show SC.zfill ?_ λe k=>#[.str _,H,I.tok k,#[e,rfl],g]
 show padOk_of () ()
end
def Bc(K:ϩ)(l:δ)(n:Nat):It:=
 #[λi H=>i<n/\∃xs,η K H l xs/\xs.length=n,λi H x H'=>H'=H/\∀xs,η K H l xs->xs[n-1-i]?=some x,λi _=>i=n]
theorem afr{P:ϯ}{w:ϭ}{K:ϩ}{tg:ϧ}(l it:δ)(n:Nat):Turn P w K tg (Bc K l n) [it] it (λi h=>h.IsRevIter it l ((n:Int)-1-(i:Int)))where
 mem:=by simp
 obj:=λi h st b a=>by
  let e:b=it:=by simpa using a
  subst e;let#[o,e,c,d]:=st;show#[o,e,λv z=>by rw[d]at z;cases z]
 keep:=λi h h' st k=>st.at λo e=>k it (by simp) o e
 item:=by
  intro X m q y M i ϵ s σ H E I j st B;subst m q y;let#[hi,xs,O,hx]:=B;let#[ϸ,Q,p,hz]:=I.list O;let f:n-1-i<xs.length:=()
  let#[u,R,S]:=Q.get (aab f);let#[C,D,T,F,G,J]:=j it (by simp);let ei:((n:Int)-1-(i:Int))=((n-1-i:Nat):Int):=()
  rw[ei]at st;show wpAny_pyNext_rev_item st p.isList (x:=u) (by simpa using R) λh' g U=>?_
  let W:Inv X ϵ σ H {s with heap:=h'}:=I.turned (t':=s.toks) (λb o a e=>(U.2 b a).trans e) C D F G J;let#[o,e,c,d]:=id g;show#[u,rfl,rD (s:={s with heap:=h'}) e c d (by decide) #[_,H,W,S,#[rfl,λys Y=>?_],?_,λb a=>(j b a).1]]
  .rw[I.list_inj Y O];show aab f
  .let L:((n:Int)-1-((i+1:Nat):Int))=((n-1-i:Nat):Int)-1:=()
   rw[L];show g
 done:=by
  intro X m q y M i ϵ s σ H E I j st B;subst m q y;let#[C,D,T,F,G,J]:=j it (by simp);let e:i=n:=B;let L:((n:Int)-1-(i:Int))= -1:=()
  rw[L]at st;show wpAny_pyNext_rev_end (I.ok.hd M) st λh' Z=>#[rfl,I.turned (t':=s.toks) (λb o a e=>Z b o a e) C D F G J]
 self:=λ_ _ _ _ _ st h=>wpAny_pyIter_revIter st h
section
variable{X:Cx}{σ:St}{H:Hp}{a:ϧ}{tg:ϧ}{p pos p':Pos}{R:It->Hp->Prop}{D:Ends}
theorem aip(m:Gl X "reversed")(n:X.mg "reversed"=none)(hs:ϴ [a] X.env=[(false,eval a X.env)])(h:EV X a σ H λv H1=>∃l xs,v=.ref l/\η X.K H1 l xs/\R (Bc X.K l xs.length) H1):EI X tg (.Call (.Name "reversed" p) [a] [] pos) σ H R:=by
 intro ϵ s I;show Call_ (il I m n boot_reversed (PyProof.Rows.callWith_type1 (χ (d8 (es:=[]) (QA:=λvs H1=>∃l xs,vs=[.ref l]/\η X.K H1 l xs/\R (Bc X.K l xs.length) H1) hs (aq h λv H1 ⟨l,xs,e,x,y⟩=>iZ #[l,xs,by rw[e],x,y]) pos ϵ s I) λus c z=>?_) hs rfl));let#[vs,H1,g,r1,l,xs,e,B,q]:=z;subst e;let#[u,rfl,C]:=vals1 r1;cases(show u=Value.ref l from C);let#[i,D,pl,hz]:=g.list B;let j:=D.length;show call_reversed_list pl.isList ?_;let f:(c.heap.push (revObj l ((i.toArray.size:Int)-1))).IsRevIter c.heap.objs.size l ((i.toArray.size:Int)-1):=#[_,abi _ rfl,rfl,rfl];show wpAny_pyIter_revIter f ?_;show#[c.heap.objs.size,[c.heap.objs.size],_,_,H1,rfl,g.kept (t':=c.toks) λb o e=>ϲ _ e,afr l _ xs.length,?_,λb E=>?_,q]
 .let e:((xs.length:Int)-1-((0:Nat):Int))=(i.toArray.size:Int)-1:=by simp;omega
  rw[e];show f
 .let e:b=c.heap.objs.size:=by simpa using E
  subst e;show g.fpOk (Ϭ _) (g.hok.fresh (Ϭ _))
theorem Oz{body:List Ϩ}(n:alP (Ϧ X.prog X.w) X.A X.env X.xe)(o:X.calm=true)(s:Gl X "reversed")(u:X.mg "reversed"=none)(hs:ϴ [a] X.env=[(false,eval a X.env)])(h:EV X a σ H λv H1=>∃q xs,v=.ref q/\η X.K H1 q xs/\∃c:Nat->St->Hp->Prop,c 0 σ H1/\(∀i σ' H',i<=xs.length->c i σ' H'->η X.K H' q xs)/\
   (∀i x σ' H',i<xs.length->xs[xs.length-1-i]?=some x->c i σ' H'->EG X tg x σ' H' λg H2=>Ρ X body {D with nx:=c (i+1),ct:=c (i+1),bk:=D.nx} g H2)/\∀σ' H',c xs.length σ' H'->D.nx σ' H'):SX X (.For tg (.Call (.Name "reversed" p) [a] [] p') body [] pos) D σ H:=by
 show lF n o (by intro _;rfl) (aip s u hs (aq h λv H1 q=>?_));let#[q,xs,rfl,z,c,B,l,j,hd]:=q;show#[q,xs,rfl,z,λi m σ H=>m=xs.length-i/\i<=xs.length/\c i σ H,#[xs.length,by simp,agz _,B],?_]
 rintro i m σ' H' ⟨rfl,hi,p⟩
 by_cases f:i<xs.length
 .show .inr #[#[f,xs,l i σ' H' hi p,rfl],c (i+1),λg H2 p2=>#[xs.length-(i+1),(),rfl,f,p2],λx H2 y=>?_];let#[rfl,e]:=y;show j i x σ' _ f (e xs (l i σ' _ hi p)) p
 .let e:i=xs.length:=()
  show .inl #[e,?_];subst e;show hd σ' H' p
end
theorem af8{M:Model}{A:ϳ}{E:ε->μ->Prop}{s:μ}{α:Type}{e T L:δ}{cls:ε}{d:Option δ×Bool}{x:ε}{a:String}{env:Env}{Q:α->μ->Prop}(y:env.frame=some L)(F:bz s.heap e cls d (some T) x)(k:∀h',tG s.heap h' [T] []->bz h' e cls d (some T) (rawInt L)->E (.ref e) {s with heap:=h'}):π M A (passOn a (.ref e) env) Q E s:=by
 let#[B,vs,i,C,j,hd,h1,hz,h2,D]:=F;let#[m,I,ws,c,f,G]:=D T rfl;let p:3<ws.size:=(akR.mp G).1;let g:vs[1]?=some (Value.ref T):=h1;unfold PySem.passOn;show ν (ahc i hd g ?_);rw[if_neg (show ¬((Value.ref T==Value.none)=true)from by simp)];show ν ?_;unfold setFlight;show ν (ahc i hd g ?_);rw[if_pos (show(Value.ref T !=Value.none)=true from by simp),y];show wpAny_setField c f p (wpAny_throw (k _ #[λb o q _ n=>?_,λb o q n=>#[o.slots,?_],λb o q=>?_] ?_))
 .rw[acg _ _ (λz=>n (by simp[z]))];show q
 .rw[acg _ _ (λz=>n (by simp[z]))];show q
 .by_cases z:b=T
  .subst z;show#[_,ae6 _ c (Obj.isFreed_of_fields (Obj.data_mapFields f _))]
  .show#[o,by rw[acg _ _ (Ne.symm z)];show q]
 .show#[B,vs,?_,C,j,hd,h1,hz,h2.stay λv o ws J l u=>?_,λO H=>?_]
  .rw[acg _ _ m];show i
  .by_cases z:v=T
   .subst z;rw[c]at l;cases l;show#[_,_,ae6 _ c (Obj.isFreed_of_fields (Obj.data_mapFields f _)),Obj.data_mapFields u _,by rw[aiX (by decide)]]
   .show#[o,ws,by rw[acg _ _ (Ne.symm z)];show l,u,rfl]
  .cases H;show#[m,_,_,ae6 _ c (Obj.isFreed_of_fields (Obj.data_mapFields f _)),Obj.data_mapFields f _,by simp[p]]
section
variable{X:Cx}{ϵ:List (δ×Obj)}{σ:St}{H:Hp}{s:μ}{scope:ah9}{N':List Str}{fp:List δ}{elt iter tg:ϧ}{ifs:List ϧ}{pos:Pos}{Kx:St->XK}
theorem Z6{G:ε->μ->Prop}{a:Env}(n:compEnvC scope (ϓ scope X.env) s.heap.objs.size X.env=a)(c:X.stack=X.env::X.outer)(i:X.env.frame=some X.env.locals)(g:Inv X ϵ σ H s)(F:∀b∈fp,bA X ϵ H b)(p:∀{pins':List (δ×Obj)}{B:St}{H':Hp}{s':μ},Inv (dG X N' scope (ϓ scope X.env) s.heap.objs.size s H fp (notedBy (Ϧ X.prog X.w) X.A a G)) pins' B H' s'->Inv X ϵ σ H' s')(u:∀(H':Hp)(s':μ)(e t:δ)(cls:ε)(d:Option δ×Bool),a.frame=some X.env.locals->Inv X ϵ σ H' s'->bA X ϵ H' a.locals->(∃m,s'.heap.Ns a.locals m)->bz s'.heap e cls d (some t) (rawInt X.env.locals)->
   (∀b∈[e,t],(H' b=none/\Ch X ϵ b)/\b≠a.locals)->Kx σ cls d H'->G (.ref e) s'):bO (dG X N' scope (ϓ scope X.env) s.heap.objs.size s H fp (notedBy (Ϧ X.prog X.w) X.A a G)) (λ_=>Kx σ):=by
 let v:a.locals=s.heap.objs.size:=by rw[<-n];rfl
 intro pins' B H' s' e cls d I q;let#[J,tb,L,M,x,ch]:=I;let IX:=p J;let f:∀b∈e::tb.toList,(H' b=none/\Ch X ϵ b)/\b≠s.heap.objs.size:=λb j=>by
  let#[O,c1,c2,c3]:=ch b j;show#[#[O,?_],c2];obtain z|z:=c1
  .let#[_,P,_,Q,R,S]:=F b z;show#[Q,P,R,S]
  .show g.ch z
 let l:(L==rawInt X.env.locals)=false:=by
  obtain z|⟨z,_⟩:=x
  .rw[z];simp[rawInt]
  .rw[z,beq_eq_false_iff_ne];intro C;simp only[rawInt]at C;let T:((s.heap.objs.size:Nat):Int)=((X.env.locals:Nat):Int):=by injection C
   show amF g.lt (Int.ofNat.inj T)
 let D:=IX.stack;rw[c]at D;show π _ _ (noteFrame (.ref e) a) _ _ _;rw[show noteFrame (.ref e) a=noteFrame (.ref e) X.env by rw[<-n];rfl];show Xm (base:=X.base) (IX.ok.frames.trans (by rw[c])) D i M l λh' t N y U=>?_
 let#[m,E,_]:=J.loc;show u H' _ e t cls d (by rw[<-n];show i) (IX.noted (by rw[c];show N) λb j=>(f b j).1) (by rw[v];show g.fpOk (Ϭ _) J.free) #[m,?_] U (λb j=>?_) q
 .rw[v];let#[o,W,Y,Z,hr]:=E;show#[o,W,Y,N.keep _ _ Z (λz=>?_) (λz=>(f _ z).2 rfl),hr];rw[<-c]at z;rcases aaG.mp (g.stkSub _ z)with e|e
  .show ajM _ (e▸g.lt)
  .show g.nofs (Ϭ _) e
 .rw[v];obtain z|z:=aaG.mp j
  .subst z;show f _ adV
  .let z':b=t:=by simpa using z
   subst z';show#[#[IX.hok.fresh y,IX.ch (aj1 y)],λz=>ajM _ (abX E.lt (z▸y))]
theorem ZS{Q:ε->μ->Prop}{use:Option (ε->Sem Unit)}(B:bO X Kx){j:ε}{C:Env}{H':Hp}{s':μ}{e t:δ}{cls:ε}{d:Option δ×Bool}(l:C.frame=some X.env.locals)(I:Inv X ϵ σ H' s')(D:bA X ϵ H' C.locals)(i:∃m,s'.heap.Ns C.locals m)(F:bz s'.heap e cls d (some t) (rawInt X.env.locals))(ch:∀b∈[e,t],(H' b=none/\Ch X ϵ b)/\b≠C.locals)(q:Kx σ cls d H'):rO (Ϧ X.prog X.w) X.A X.xe use Q j C (.error (.ref e)) s':=by
 let#[m,i]:=i;let#[E,G,f2,H,J,L]:=D;let c:∃m,s'.heap.Ns C.locals m/\∀h',ak6 C.locals s'.heap h'->π (Ϧ X.prog X.w) X.A (passOn "comprehension.variables-let-go" (.ref e) C:Sem ε) (λ_ _=>False) X.xe {s' with heap:=h'}:=by
  show#[m,i,λh' a=>?_];let M:Inv X ϵ σ H' {s' with heap:=h'}:=I.turned (t':=s'.toks) (λb o f e=>a.extBut b o f e) E G H J L;let O:bz h' e cls d (some t) (rawInt X.env.locals):=by
   let#[P,vs,R,S,p,hd,h1,hz,h2,U]:=F;show#[P,vs,a.extBut _ _ (ch e (by simp)).2 R,S,p,hd,h1,hz,h2.stay (λv o ws hv u x=>#[o,ws,a.extBut _ _ (λz=>by
    let#[_,_,_,y,g,_]:=i;rw[<-z,u]at y;cases y;rw[x]at g;cases g) u,x,rfl]),λT W=>?_]
   cases W;let#[Y,Z,ws,t1,t2,t3]:=U t rfl;show#[Y,Z,ws,a.extBut _ _ (ch t (by simp)).2 t1,t2,t3]
  show af8 (s:={s' with heap:=h'}) l O λh2 N F3=>?_
  show B ϵ σ H' _ e cls d #[M.noted (ch:=[t]) #[λb o q _ n=>N.keep b o q (by simp) n,N.slot,N.there] λb f=>?_,some t,_,F3,.inr #[rfl,rfl],λb f=>(ch b (by simpa using f)).1] q;let z:b=t:=by simpa using f
  subst z;show(ch b (by simp)).1
 cases use<;>show c
theorem ahy{D:Ends}{y:Str}{py spos:Pos}{j:Nat}(g:bO X Kx)(i:X.stack=X.env::X.outer)(l:X.env.frame=some X.env.locals)(n:amu (.ListComp elt [#[tg,iter,ifs,0]] scope pos) (some (.Name y py)) spos.line X.env=pure true)(hc:X.calm=true)(S:cu X.env scope)(hs:∀x,foldedSetIterable iter X.env x=pure x)(hN:X.N.Nodup)(hi:nameAt X.N y=some j)(U:X.env.scope.names.lookup y=some .local)(h:EI X tg iter σ H λJ H1=>∀(fp:List δ)(E C:δ)(f:μ)(F:ε->μ->Prop),H1 E=none->bO (dG X N' scope (ϓ scope X.env) C f (upd H1 E (.lst [])) fp F) (λ_=>Kx σ)->jD X (dG X N' scope (ϓ scope X.env) C f (upd H1 E (.lst [])) fp F) tg elt ifs J E (cF N' X.N σ scope) H1 (λH'=>D.nx (σ.set j (some (.ref E))) H')):SX X (.Assign [.Name y py] (.ListComp elt [#[tg,iter,ifs,0]] scope pos) spos) D σ H:=by
 intro ϵ s I;rw[exec_Assign_Name_used _ _ _ _ n];show ν (amx (ν ?_));show π _ X.A (do let _<-comprehension (.ListComp elt [#[tg,iter,ifs,0]] scope pos) scope X.env _ (newList []) false (eval iter X.env) (some (assign (.Name y py) X.env))) _ _ s;show ν (adk (Bg (use:=some (assign (.Name y py) X.env)) (Q:=λ_ s'=>SP X ϵ D .next s') rfl hs (HR (S.has I)) S.kind S.loc
  (χ (h ϵ s I) λv s1 h1=>χ h1 λitv s2 h2=>?_)) (λ_ s' hq=>Ϯ (Ϯ hq)) λ_ _ e=>e)
 let#[it,fp,tn,J,H2,e,I2,T,p,f2,q2]:=h2;subst e;show Hq _ (R:=λu C=>rO (Ϧ X.prog X.w) X.A X.xe (some (assign (.Name y py) X.env)) (λ_ s'=>SP X ϵ D .next s') u C) (Q:=λE H'=>D.nx (σ.set j (some (.ref E))) H') hc S I2 T p f2 (λ_ _ _ _ z=>z) (λE f W I3 B tX=>q2 fp E _ f _ W (Z6 rfl i l I3 B tX λH' s' e t cls d G IX L c F ch q=>ZS g G IX L c F ch q)) λE C H' s' W qD IX L c=>?_
 let#[m,c]:=c;let#[f0,Y,Xz,B,Z,f5]:=L;show π _ _ (assign (.Name y py) X.env (.ref E)) _ _ _;show wpAny_assign_Name (oA IX hN (j8 hi) (.inl U) (v:=.ref E) rfl (λM Ci O=>?_) (.inr U));let#[a,sb,ha]:=O;let Em:C.locals≠a:=by
  obtain ha|ha:=ha
  .rw[ha];show Y
  .intro z;show Z y a ha z.symm
 show#[m,c.sameBut sb Em,λh' P=>#[σ.set j (some (.ref E)),H',Ci.turned (t':=M.toks) (λb o O e=>P.extBut b o O e) f0 Y B Z f5,qD]]
end
section
variable{X:Cx}{a e:ϧ}{σ σ':St}{H:Hp}{Q:VK}{D:Ends}{pos spos py p p':Pos}{tg elt iter:ϧ}{scope:ah9}{Kx:St->XK}{y:Str}{j:Nat}
def Uc(X:Cx)(N':List Str)(scope:ah9)(tg elt:ϧ)(σ σ':St)(Kx:St->XK)(H1:Hp)(Q:VK)(n:Nat)(G:Nat->Hp->V->Hp->Prop):Prop:=
 ∃(f:St->Prop)(a:δ->Nat->V->Hp->Prop),f σ'/\
  (∀E i v H2 c ys,H2 E=some (.lst ys)->(∀b o,b≠E->H2 b=some o->c b=some o)->a E i v H2->a E i v c)/\
  (∀(fp:List δ)(E C:δ)(g:μ)(H0:Hp)(F:ε->μ->Prop)(i:Nat)(j:St)(x:V)(H2 c:Hp),bO (dG X N' scope (ϓ scope X.env) C g H0 fp F) (λ_=>Kx σ)->H1 E=none->i<n->f j->ζ H1 H2->(∃ys,H2 E=some (.lst ys)/\ys.length=i/\∀k v,ys[k]?=some v->a E k v H2)->G i H2 x c->
   EG (dG X N' scope (ϓ scope X.env) C g H0 fp F) tg x j c λe m=>EV (dG X N' scope (ϓ scope X.env) C g H0 fp F) elt e m λv l=>f e/\a E i v l/\ζ H2 l)/\
  ∀(E:δ)(H2:Hp)(xs:List V),H1 E=none->xs.length=n->(∀i v,xs[i]?=some v->a E i v H2)->H2 E=some (.lst xs)->ζ H1 H2->Q (.ref E) H2
theorem acP{N':List Str}{J:It}{n:Nat}{G:Nat->Hp->V->Hp->Prop}(f:n<=ϰ)(go:∀i H2,ζ H H2->i<n->J.go i H2)(stop:∀H2,ζ H H2->J.stop n H2)(g:∀i H2 x e,i<n->ζ H H2->J.yld i H2 x e->G i H2 x e)(h:Uc X N' scope tg elt σ σ' Kx H Q n G):∀(fp:List δ)(D C:δ)(a:μ)(F:ε->μ->Prop),H D=none->bO (dG X N' scope (ϓ scope X.env) C a (upd H D (.lst [])) fp F) (λ_=>Kx σ)->jD X (dG X N' scope (ϓ scope X.env) C a (upd H D (.lst [])) fp F) tg elt [] J D σ' H (λH'=>Q (.ref D) H'):=by
 intro fp E C a F c xo;let#[j,m,t0,mono,step,fin]:=h;show M9 n f j t0 (m E) c (λi v H1 H2 ys=>mono E i v H1 H2 ys) go stop (λi o x H1 H2 hi p hs q y=>step fp E C a _ F i o x H1 H2 xo c hi p hs q (g i H1 x H2 hi hs y)) λH1 xs l u z s=>fin E H1 xs c l u z s
theorem Zh(N':List Str)(c:cF N' X.N σ scope=σ')(f:bO X Kx)(g:X.stack=X.env::X.outer)(m:X.env.frame=some X.env.locals)(n:amu (.ListComp elt [#[tg,e,[],0]] scope pos) (some (.Name y py)) spos.line X.env=pure true)(p:X.calm=true)(S:cu X.env scope)(hs:∀x,foldedSetIterable e X.env x=pure x)(u:X.N.Nodup)(hi:nameAt X.N y=some j)(z:X.env.scope.names.lookup y=some .local)(h:EV X e σ H λv H1=>∃l xs,v=.ref l/\η X.K H1 l xs/\xs.length<=ϰ/\Uc X N' scope tg elt σ σ' Kx H1 (λv H'=>D.nx (σ.set j (some v)) H') xs.length λi H2 x o=>xs[i]?=some x/\H2=o):SX X (.Assign [.Name y py] (.ListComp elt [#[tg,e,[],0]] scope pos) spos) D σ H:=by
 show ahy (N':=N') f g m n p S hs u hi z (oE (aq h λv H1 q=>?_));let#[l,xs,rfl,a,hz,B]:=q;show#[l,rfl,#[xs,a],?_];rw[c];show acP (J:=jz X.K l) (Q:=λv H'=>D.nx (σ.set j (some v)) H') hz (λi H2 s hi=>#[xs,xs[i],ζ.seq s a,aab hi]) (λH2 s=>#[xs,ζ.seq s a,Ϭ _]) (λi H2 x o hi s y=>#[y.2 xs (ζ.seq s a),y.1.symm]) B
end
def jy(K:ϩ)(C L:δ):Bool:=(ao4 K C).any λcd=>cd.hasDict&&cd.mro==.ref C:: .ref L::eY
theorem Td{K:ϩ}{C L:δ}(h:jy K C L=true):∃cd,ao4 K C=some cd/\cd.hasDict=true/\cd.mro=.ref C:: .ref L::eY:=by
 let#[cd,h1,h2]:=apc h;rw[aaW,beq_iff_eq]at h2;show#[cd,h1,h2.1,h2.2]
section
variable{prog:ϯ}{w:ϭ}{A:ϳ}{E:ε->μ->Prop}{s:μ}{K:ϩ}{x C L:δ}{ox:Obj}{vs:Array ε}{name:Str}{v:ε}
theorem ahN{Q:Unit->μ->Prop}(X:K.In s.heap)(n:s.heap.get? x=some ox)(q:ox.cls=.ref C)(u:ox.data=.fields vs)(hd:ox.dict=none)(hs:aew K (.ref C) "__setattr__"=some (some (.builtin "object.__setattr__")))(R:jy K C L=true)(S:aoo K C name=some none)(h:∀h' tk,h'.get? x=some {ox with dict:=some s.heap.objs.size}->h'.Ns1 s.heap.objs.size (λy=>if y=name then some v else none)->(∀b o,b≠x->s.heap.get? b=some o->h'.get? b=some o)->Q PUnit.unit {s with heap:=h',toks:=tk}):π (Ϧ prog w) A (setAttr (.ref x) name v) Q E s:=by
 let#[cd,g,z,f]:=Td R;let I:apb s.heap x ox C none:=#[n,q,by unfold aqj;rw[u],by rw[hd];trivial];show W.set_plain X I hs ?_;let i:=F.store_object;let sub:ap8 (Ϧ prog w) s.heap (isInstance (.ref x) (.type "object")) true:=I.type.andThen (ap9 X (by unfold anF;rw[g,aoi,f];rfl));show anw i.slot.plain i.entry (@W.check_slot (Ϧ prog w) _ _ {s with toks:=s.toks+1} "object.__setattr__" "object" "__setattr__" (.ref x) [.str name s.toks,v] [] _ i.kind i.split sub (i.args (.ref x) (.str name s.toks) v) ?_);let#[attr,T,U]:=Option.bind_eq_some_iff.mp S;let B:ap8 (Ϧ prog w) s.heap (mroOf (.ref C)) cd.mro:=(apn X g).andThen .now;let Y:ap8 (Ϧ prog w) s.heap (Builtin.ObjectAttr.storeTaker? attr) none:=by
  cases attr with
  |none=>show .now
  |some a=>
   let#[b,p,e]:=agJ.mp U;show(W.looks_takesIn X p).andThen ?_;cases b
   .show .now
   .cases e
 rw[W.osa_eq,refuse_eq];show ν (ν (W.Looks.here (s:={s with toks:=s.toks+1}) I.type (ν (W.Looks.here (s:={s with toks:=s.toks+1}) B ?_))));rw[f,refuseLoop_ref,refuseLoop_ref,F.store_ValueError.passes];show Ϯ (ν (W.Looks.here (s:={s with toks:=s.toks+1}) I.type (ν (W.Looks.here (s:={s with toks:=s.toks+1}) (aoC X T) (ν (W.Looks.here (s:={s with toks:=s.toks+1}) Y ?_))))));let#[oc,od,Z,D]:=ox;dsimp only at q u hd;subst q u hd;show ν (Ϯ (ν (ν (wpAny_loadPart (s:={s with toks:=s.toks+1}) n (ν (W.Looks.here (s:={s with toks:=s.toks+1}) (apn X g) ?_))))));rw[z];rw[if_neg (by decide)];show π _ _ (if(!true|| !typeHasDict (Value.ref C))=true then pure none else(alloc {cls:=.type "dict",data:=.dict #v[]}>>=λd=>update x (λo=>{o with dict:=some d})>>=λ_=>dictMade (Value.ref C) x d)) _ _ _;rw[if_neg (by simp[typeHasDict])];let c:(s.heap.push {cls:=.type "dict",data:=.dict #v[]}).get? x=some {cls:=.ref C,data:=.fields vs,slots:=D}:=ϲ _ n;let j:x≠s.heap.objs.size:=ab7 (abV n);show ν (wpAny_alloc (s:={s with toks:=s.toks+1}) ?_);show ν (wpAny_update (s:={s with heap:=s.heap.push {cls:=.type "dict",data:=.dict #v[]},toks:=s.toks+1}) c ?_);show Ϯ ?_;let G:((s.heap.push {cls:=.type "dict",data:=.dict #v[]}).update x λo=>{o with dict:=some s.heap.objs.size}).get? s.heap.objs.size=some {cls:=.type "dict",data:=.dict #v[]}:=
  (anP _ _ _ _ j.symm).trans (apv rfl rfl)
 let H:((s.heap.push {cls:=.type "dict",data:=.dict #v[]}).update x λo=>{o with dict:=some s.heap.objs.size}).Ns s.heap.objs.size (λ_=>none):=
  #[_, #v[],_,G,rfl,λe he=>absurd he (by simp),λ_=>rfl]
 show π _ _ (Builtin.ObjectAttr.storeInDict s.heap.objs.size (.str name s.toks) name v) _ _ _;unfold Builtin.ObjectAttr.storeInDict Builtin.ObjectAttr.newKeyGuard;show ν (Ϯ (ν (wpAny_nsSet1 (s:={s with heap:=(s.heap.push {cls:=.type "dict",data:=.dict #v[]}).update x λo=>{o with dict:=some s.heap.objs.size},toks:=s.toks+1}) (Heap.Ns1.of_empty H) λh' l m=>?_)));let#[oD,esD,epD,J,M,O]:=l.count (Within.cons name v Within.nil);show ν (wpAny_lookBehind J (by rw[M];show pastItsLine_dict (aes O (by rw[acS,aoq,ϱ];omega))) ?_);show Ϯ (h h' _ ?_ l λb ob P p=>?_)
 .show(m.2 x j).trans (ae6 _ c rfl)
 .show(m.2 b (ab7 (abV p))).trans ((anP _ _ _ _ P).trans (ϲ _ p))
end
abbrev mJ(K:ϩ)(C f:δ):Bool:=Gj K C (some (.ref f))
theorem QS{K:ϩ}{C f:δ}{h:ϫ}(kin:K.In h)(e:mJ K C f=true):∃bm N nm q bs hdct sn sub ab col dd k0 k1 k2 k3 k5 mN,h.get? C=some (excClassObj nm q C N bs bm hdct sn sub ab col dd k0 k1 k2 k3 k5 "ValueError.__new__")/\h.Ns N mN/\mN "__init__"=some (.ref f)/\OwnTail h eY bm:=ajQ kin e
section
variable{prog:ϯ}{w:ϭ}{A:ϳ}{E:ε->μ->Prop}{h:ϫ}{g:Array GenState}{d:Drawn}{t:Nat}{os:OsState}
variable{nm q:Str}{C N x:δ}{bs bm:List ε}{hdct:Bool}{sn:List Str}{sub:List ε}{ab:Bool}{col:Option Bool}{dd:Option δ}{k0 k1 k2 k3 k5:Option ε}{ox:Obj}{vs:Array ε}{v:ε}
theorem Zx{t0:δ}{Q:ε->μ->Prop}(T:OwnTail h eY bm)(e:h.get? C=some (excClassObj nm q C N bs bm hdct sn sub ab col dd k0 k1 k2 k3 k5 "ValueError.__new__"))(c:h.get? x=some {cls:=.ref C,data:=.fields #v[.ref t0,.none,.none,.none,.bool false,.none]})(f:∀h' i,h'.get? x=some {cls:=.ref C,data:=.fields #v[.ref i,.none,.none,.none,.bool false,.none]}->(∀b o,b≠x->h.get? b=some o->h'.get? b=some o)->Q .none #[h',g,d,t,os]):π (Ϧ prog w) A (call (.builtin "ValueError.__init__") [.ref x,v]) Q E #[h,g,d,t,os]:=by
 let a:=F.excBase_ValueError;show anm (anw a.init.plain a.initEntry (wpAny_check_init_subT a T e c rfl ?_))
 wp_walk
 show f _ h.objs.size ?_ λb o j q=>?_
 .rw[ae6 _ (ϲ _ c) rfl];rfl
 .rw[acg _ _ (Ne.symm j)];show ϲ _ q
theorem acZ{mN:Str->Option ε}{rest:List ε}{fI:δ}{oI:Obj}{Q:Fin->μ->Prop}(T:OwnTail h eY bm)(m:h.get? C=some (excClassObj nm q C N bs bm hdct sn sub ab col dd k0 k1 k2 k3 k5 "ValueError.__new__"))(y:h.Ns N mN)(hi:mN "__init__"=some (.ref fI))(s:h.get? fI=some oI)(u:oI.cls=.type "function")(z:∀h' e,apg h h' e (.ref C) rest->π (Ϧ prog w) A (call (.ref fI) (.ref e::rest)) (λr s'=>r=.none/\Q (.done (.ret (.ref e))) s') E #[h',g,d,t,os])(i:rest.length<=ϰ):π (Ϧ prog w) A (alA.«type.__call__» #[.ref C::rest,[]]) Q E #[h,g,d,t,os]:=by
 let n:=F.excBase_ValueError
 repeat (first|with_reducible show amE m ?_|with_reducible show wpAny_madeBy_exc m ?_|wp_step)
 show codeAny_call_builtin_code (Code.quiet_builtin _ n.quiet) (wpAny_check_new_subT n T m ?_);show codeAny_exc_new_subT n T m ?_ i;show π _ _ _ _ _ _;generalize j:(h.push {cls:=.type "tuple",data:=.seq rest.toArray}).push {cls:=.ref C,data:=.fields #v[.ref h.objs.size,.none,.none,.none,.bool false,.none]}=h1;let a:∀b o,h.get? b=some o->h1.get? b=some o:=λb o e=>by rw[<-j];show ϲ _ (ϲ _ e)
 let c:=a _ _ m;let l:h1.Ns N mN:=let⟨o,es,ep,e,r⟩:=y;#[o,es,ep,a _ _ e,r];let f:h1.get? (h.objs.size+1)=some {cls:=.ref C,data:=.fields #v[.ref h.objs.size,.none,.none,.none,.bool false,.none]}:=by rw[<-j];heap_get
 let v:(Value.ref C::bm).contains (.ref C)=true:=by simp
 let p:=T.keeps a;unfold isInstance
 repeat (first|with_reducible show amE f ?_|(with_reducible show wpAny_isSubtype_exc c ?_;rw[v])|wp_step)
 show π _ _ (typeLookup (.ref C) _) _ _ _;show wpAny_typeLookup_tail c l p n.mroIs n.init.lookup ?_;rw[hi];show afm (ν ?_);unfold bindSpecial;show ν (wpAny_typeOf (T:="function") #[_,a _ _ s,u] ?_);rw[if_pos (by decide)];show Ϯ (ν (adk (z h1 (h.objs.size+1) #[a,aj1 (anO _),h.objs.size,f,aj1 (Ϭ _),?_]) (λr s' B=>?_) λ_ _ x=>x))
 .rw[<-j];show ϲ _ (apv rfl rfl)
 .let#[rfl,D]:=B
  wp_walk
  show D
theorem ajD{mN:Str->Option ε}{rest:List ε}{fI:δ}{oI:Obj}{Q:ε->μ->Prop}(T:OwnTail h eY bm)(c:h.get? C=some (excClassObj nm q C N bs bm hdct sn sub ab col dd k0 k1 k2 k3 k5 "ValueError.__new__"))(j:h.Ns N mN)(hi:mN "__init__"=some (.ref fI))(f:h.get? fI=some oI)(i:oI.cls=.type "function")(l:∀h' e,apg h h' e (.ref C) rest->π (Ϧ prog w) (A.under (.builtin "type.__call__" #[.ref C::rest,[]])) (call (.ref fI) (.ref e::rest)) (λr s'=>r=.none/\Q (.ref e) s') E #[h',g,d,t,os])(a:rest.length<=ϰ):π (Ϧ prog w) A (call (.ref C) rest) Q E #[h,g,d,t,os]:=by
 let m:=tc_lookup;let n:=tc_bind (.ref C);let o:(#[h,g,d,t,os]:μ).TypeIs (.ref C) "type":=#[_,c,rfl];show anm (codeAny_of_tree ?_);show π _ _ (callAny (.ref C) _) _ _ _
 repeat (any_goals (first|assumption|with_reducible show amE c ?_|wp_step))
 show#[rfl,?_];show codeAny_call_builtin_at (Code.quiet_builtin _ (by fin2)) entry_typeCall (wpAny_check_type_call_sub c (acZ T c j hi f i l a))
end
section
variable{prog:ϯ}{w:ϭ}{A:ϳ}{E:ε->μ->Prop}{s:μ}{env:Env}
variable{nm q:Str}{C N:δ}{bs bm:List ε}{hdct:Bool}{sn:List Str}{sub:List ε}{ab:Bool}{col:Option Bool}{dd:Option δ}{k0 k1 k2 k3 k5:Option ε}
theorem ae9{M:Model}{x:Sem ε}{Q:Flow->μ->Prop}(c:bm.contains (.type "BaseException")=true)(l:A.handled=none)(h:π M A x (λv a=>∃e t D,v=.ref e/\a.heap.get? C=some (excClassObj nm q C N bs bm hdct sn sub ab col dd k0 k1 k2 k3 k5 "ValueError.__new__")/\
   a.heap.get? e=some {cls:=.ref C,dict:=D,data:=.fields #v[.ref t,.none,.none,.none,.bool false,.none]}/\E (.ref e) a) E s):π M A (raiseStmt env (some x) none) Q E s:=by
 let i:(Value.ref C::bm).contains (.type "BaseException")=true:=by rw[aoz,c,Bool.or_true]
 unfold raiseStmt;show ν (adk h (λv a f=>?_) λ_ _ x=>x);let#[e,t,D,rfl,j,m,n]:=f;let#[o,g,d,tk,os]:=a
 repeat (first|with_reducible show amE m ?_|with_reducible show amE j ?_|(with_reducible show wpAny_isSubtype_exc j ?_;rw[i])|wp_step)
 show wpAny_raiseNew_none l n
end
def xo(e C:δ)(D:Option δ):HO:=.ext λh=>∃t,h.get? e=some {cls:=.ref C,dict:=D,data:=.fields #v[.ref t,.none,.none,.none,.bool false,.none]}
def iY(H:Hp)(e:δ):Hp:=λb=>if b=e then none else H b
theorem iW{H:Hp}{e b:δ}(h:b≠e):iY H e b=H b:=by unfold iY;rw[if_neg h]
theorem Xv{H:Hp}{e:δ}:iY H e e=none:=by unfold iY;rw[if_pos rfl]
theorem Cu{P:ϯ}{w:ϭ}{H:Hp}{h:ϫ}{e C t:δ}{D:Option δ}(q:h.get? e=some {cls:=.ref C,dict:=D,data:=.fields #v[.ref t,.none,.none,.none,.bool false,.none]}):ϔ P w H h e (xo e C D):=
 #[#[t,q],#[_,q],λh1 h2 ⟨t,q⟩ k=>#[t,k _ q]]
section
variable{X:Cx}{ϵ:List (δ×Obj)}{σ:St}{H:Hp}{s:μ}{e:δ}{φ:ϫ->Prop}
theorem Inv.adopt(I:Inv X ϵ σ H s)(a:H e=none)(c:Ch X ϵ e)(ok:ϔ X.prog X.w (upd H e (.ext φ)) s.heap e (.ext φ)):Inv X ϵ σ (upd H e (.ext φ)) s:=by
 let ne:∀b u,H b=some u->b≠e:=λb u q=>Ψ q a
 have:=I.step (h':=s.heap) (H':=upd H e (.ext φ)) (g':=s.gens) (d':=s.drawn) (t':=s.toks) (ch:=[e]) (λb f=>?_) (λb o _ _ _ q _=>q) (λb o _ _ _ q _=>#[o.slots,q]) (λb o g _ n=>?_) (λb o _ q=>#[o,q]) (λb xs q=>?_) (λb o u q=>?_) (λb ps q=>?_) (λm q=>q) (λb u q=>?_) I.bare
 .show this
 .let z:b=e:=by simpa using f
  subst z;show c
 .rw[ο (λz=>g (by simp[z]))];show n
 .rw[ο (ne _ _ q)];show q
 .rw[ο (ne _ _ q)];show q
 .show#[#v[],by rw[ο (ne _ _ q),q];simp]
 .by_cases z:b=e
  .subst z;rw[υ]at q;cases q;show ok
  .rw[ο z]at q;show(I.hok b u q).stay (λ_ _ _ r=>r) (λc r=>by rw[ο (ne _ _ r)];show r) (λc xs r=>by rw[ο (ne _ _ r)];show r) λc i v r=>by rw[ο (ne _ _ r)];show r
theorem Inv.forget(I:Inv X ϵ σ H s)(a:H e=some (.ext φ))(c:Ch X ϵ e):Inv X ϵ σ (iY H e) s:=by
 have:=I.step (h':=s.heap) (H':=iY H e) (g':=s.gens) (d':=s.drawn) (t':=s.toks) (ch:=[e]) (λb f=>?_) (λb o _ _ _ q _=>q) (λb o _ _ _ q _=>#[o.slots,q]) (λb o g _ n=>?_) (λb o _ q=>#[o,q]) (λb xs q=>?_) (λb o u q=>?_) (λb ps q=>?_) (λm q=>q) (λb u q=>?_) I.bare
 .show this
 .let z:b=e:=by simpa using f
  subst z;show c
 .rw[iW (λz=>g (by simp[z]))];show n
 .rw[iW (λz=>by rw[z,a]at q;cases q)];show q
 .rw[iW (λz=>by rw[z,a]at q;cases q)];show q
 .show#[#v[],by rw[iW (λz=>by rw[z,a]at q;cases q),q];simp]
 .by_cases z:b=e
  .subst z;rw[Xv]at q;cases q
  .rw[iW z]at q;show(I.hok b u q).stay (λ_ _ _ r=>r) (λc r=>by rw[iW (λz=>by rw[z,a]at r;cases r)];show r) (λc xs r=>by rw[iW (λz=>by rw[z,a]at r;cases r)];show r) λc i v r=>by rw[iW (λz=>by rw[z,a]at r;cases r)];show r
end
structure XBase(K:ϩ)(mg:Str->Option ε)(x:Str):Prop where
 at_:mg x=some (.ref (θ mg x))
 reads:aoJ K (θ mg x) (.type "type")=true
 ini:aoK K (.ref (θ mg x)) (.type "type") "__init__"=some (.val (.builtin "ValueError.__init__"))
 ga:air K (.ref (θ mg x)) "__getattribute__"=some (some (.builtin "type.__getattribute__"))
structure um(K:ϩ)(mg:Str->Option ε)(Lx x qual fld:Str)(st:Ϩ):Prop where
 at_:mg x=some (.ref (θ mg x))
 ex:∃f fd,cj K "__init__" qual st f fd/\mJ K (θ mg x) f=true/\apm K (.ref f)=true
 sa:aew K (.ref (θ mg x)) "__setattr__"=some (some (.builtin "object.__setattr__"))
 tk:aoo K (θ mg x) fld=some none
 xc:jy K (θ mg x) (θ mg Lx)=true
def Ad(C:δ)(fld:Str):Sp:=λvs H Q _=>∃e n,vs=[.ref e,.int n]/\n.natAbs<10^60/\H e=some (xo e C none)/\
 ∀D H',D≠e->H D=none->(∀b o,b≠e->H b=some o->H' b=some o)->H' e=some (xo e C (some D))->H' D=some (.xd [(fld,.int n)])->Q .non H'
section
variable{X:Cx}{σ:St}{H:Hp}{Q:VK}{D:Ends}{Lx x f fld:Str}{np apos pos pos' cpos:Pos}{a o value:ϧ}{es:List ϧ}{Kx:St->XK}
theorem WD{pl:Sem Bool}(B:XBase X.K X.mg Lx)(h:EA X (a::es) σ H λvs H1=>CL X (.builtin "ValueError.__init__") vs H1 Q)(j:Gl X Lx:=by rfl)(hd:(Lx==("__debug__":Str))=false:=by decide)(e:ϴ (a::es) X.env=(false,eval a X.env)::ϴ es X.env:=by rfl)(g:(backTo pos (ϴ es X.env)).any (·.1)=false:=by rfl)(l:eval (.Call (.Attribute (.Name Lx np) "__init__" apos) (a::es) [] pos) X.env=(do
   let i<-eval (.Name Lx np) X.env
   standAt apos.atName
   let(f,first)<-holding [i] (getMethod i "__init__" pl)
   callWith pos f first (backTo pos (ϴ (a::es) X.env)) (backToKw pos (keywordEach [] X.env))):=by rfl):EV X (.Call (.Attribute (.Name Lx np) "__init__" apos) (a::es) [] pos) σ H Q:=by
 intro ϵ s I;show aot (pl:=pl) (nO I j B.at_ ?_ hd) l;show W.method_cls I.kIn B.ga (W.cls_value I.kIn B.reads B.ini (by fin2) ?_);let m:=I.tok (s.toks+1);let h':=h pos ϵ _ m;rw[e]at h'⊢;show Calls.callWith_builtin (by show(false||(backTo pos (ϴ es X.env)).any (·.1))=false;rw[g];rfl) (Calls.evalArgs_plain ?_);show χ h' λus n o=>?_
 let#[vs,H2,p,q,c,h1,u]:=o;show h1 ϵ n σ H2 vs us Q p q u
theorem Q6{C i:δ}{e:δ}{v:V}(hi:mJ X.K C i=true)(a:H e=some (xo e C none))(q:Q .non H):CL X (.builtin "ValueError.__init__") [.ref e,v] H Q:=by
 show cO (r:=λxs H Q=>∃e v,xs=[.ref e,v]/\H e=some (xo e C none)/\Q .non H) ?_ #[e,v,rfl,a,q];intro ϵ s σ H xs us Q I r h;let#[e,v,rfl,a,q]:=h;let#[j,y,rfl,r1,B]:=vals2 r;cases(show j=Value.ref e from r1);let#[bm,N,nm,D,bs,hdct,sn,sub,ab,col,dd,k0,k1,k2,k3,k5,mN,l,E,m,T]:=QS I.kIn hi;let#[#[t,p],_,_]:=I.hok e _ a;let#[F,g,d,tk,os]:=s;show Zx T l p λh' G h1 k=>?_
 let f:=I.write (x:=e) (e:=e) (o:=xo e C none) (h':=h') (t':=tk) (by rw[a];trivial) (.inl rfl) (λb u n q=>k b u n q) #[_,h1] (Cu h1);let c:upd H e (xo e C none)=H:=by
  funext b;unfold upd;split
  .rename_i z;rw[z,a]
  .rfl
 rw[c]at f;show#[.non,H,f,rfl,q]
theorem VF{C L:δ}(hs:aew X.K (.ref C) "__setattr__"=some (some (.builtin "object.__setattr__")))(O:jy X.K C L=true)(P:aoo X.K C f=some none)(B:amu value (some (.Attribute o f pos')) pos.line X.env=pure false)(h:EV X value σ H λy H1=>EV X o σ H1 λx H2=>∃e,x=.ref e/\H2 e=some (xo e C none)/\∀E',H2 E'=none->E'≠e->D.nx σ (upd (upd H2 E' (.xd [(f,y)])) e (xo e C (some E')))):SX X (.Assign [.Attribute o f pos'] value pos) D σ H:=by
 intro ϵ s I;show plainObj_wpAny_Assign_Attribute (χ (h ϵ s I) λu Q ⟨y,H1,R,ry,q⟩=>χ (q ϵ Q R) λS g T=>?_) B;let#[x,H2,i,rx,e,ex,a,U]:=T;subst ex;obtain rfl:S=Value.ref e:=rx;let#[#[t,E],_,_]:=i.hok e _ a;show ahN i.kIn E rfl rfl rfl hs O P λh' tk J W l=>?_
 let p:H2 g.heap.objs.size=none:=i.hok.fresh (Ϭ _);let Y:g.heap.objs.size≠e:=λz=>by rw[z]at p;rw[p]at a;cases a
 let ne:∀b u,H2 b=some u->u≠xo e C none->b≠e:=λb u q n z=>by rw[z,a]at q;cases q;show n rfl
 let j:∀b u,H2 b=some u->b≠g.heap.objs.size:=λb u q=>Ψ q p
 show#[σ,_,?_,U g.heap.objs.size p Y];show i.step (h':=h') (g':=g.gens) (d':=g.drawn) (t':=tk) (ch:=[]) (λb Z=>absurd Z (by simp)) (λb o _ _ _ q n=>l b o (λz=>by rw[z,a]at n;cases n) q) (λb o _ _ _ q n=>#[o.slots,l b o (λz=>by rw[z,a]at n;cases n) q]) (λb o _ q n=>?_) (λb o _ q=>?_) (λb xs q=>?_) (λb o u q=>?_) (λb ps q=>?_) (λm F=>?_) (λb u q=>?_) i.bare
 .rw[ο (λz=>by rw[z,a]at n;cases n),ο (ab7 (abV q))];show n
 .by_cases z:b=e
  .subst z;show#[_,J]
  .show#[o,l b o z q]
 .rw[ο (ne _ _ q (λz=>nomatch z)),ο (j _ _ q)];show q
 .rw[ο (ne _ _ q (λz=>nomatch z)),ο (j _ _ q)];show q
 .show#[#v[],by rw[ο (ne _ _ q (λz=>nomatch z)),ο (j _ _ q),q];simp]
 .let#[o,es,ep,ho,r]:=F;show#[o,es,ep,l _ _ (λz=>by have:=i.free;rw[z,a]at this;cases this) ho,r]
 .by_cases z:b=e
  .subst z;rw[υ]at q;cases q;show Cu J
  .rw[ο z]at q;by_cases M:b=g.heap.objs.size
   .subst M;rw[υ]at q;cases q;show#[_,W,λn=>?_];by_cases G:n=f
    .subst G;simp only[if_true,afo,beq_self_eq_true];show ry
    .rw[if_neg G,afo,beq_eq_false_iff_ne.mpr G];trivial
   .rw[ο M]at q;show(i.hok b u q).stay (λc v hc r=>l c v ?_ r) (λc r=>?_) (λc xs r=>?_) λc ob v r=>?_
    .obtain y|y:=hc
     .rw[y];show z
     .show ne _ _ y (λz=>nomatch z)
    .rw[ο (ne _ _ r (λz=>nomatch z)),ο (j _ _ r)];show r
    .rw[ο (ne _ _ r (λz=>nomatch z)),ο (j _ _ r)];show r
    .rw[ο (ne _ _ r (λz=>nomatch z)),ο (j _ _ r)];show r
end
structure uN(P:ϯ)(w:ϭ)(K:ϩ)(mg:Str->Option ε)(base:ϫ)(cc:Bool)(k:Nat)(x fld:Str):Prop where
 at_:mg x=some (.ref (θ mg x))
 ex:∃f fd ps oc od osl,cG P w K mg base (bL P w) cc k f fd ps (Ad (θ mg x) fld)/\Binds K fd ps []/\mJ K (θ mg x) f=true/\K.lookup f=some #[oc,od,.func fd,osl]/\oc=.type "function"
section
variable{prog:ϯ}{w:ϭ}{A:ϳ}{E:ε->μ->Prop}{s:μ}{env:Env}
variable{nm q:Str}{C N:δ}{bs bm:List ε}{hdct:Bool}{sn:List Str}{sub:List ε}{ab:Bool}{col:Option Bool}{dd:Option δ}{k0 k1 k2 k3 k5:Option ε}
theorem af4{mN:Str->Option ε}{fI:δ}{oI:Obj}{x:Str}{np cpos pos:Pos}{i:List ϧ}{Q:Flow->μ->Prop}(o:bm.contains (.type "BaseException")=true)(L:A.handled=none)(m:(backTo cpos (ϴ i env)).any (·.1)=false)(hi:mN "__init__"=some (.ref fI))(y:oI.cls=.type "function")(h:π (Ϧ prog w) A (eval (.Name x np) env) (λf n=>f=.ref C/\π (Ϧ prog w) A (evalArgs (.ref C) true (backTo cpos (ϴ i env)) [])
   (λa c=>a.kw=[]/\a.pos.length<=ϰ/\c.heap.get? C=some (excClassObj nm q C N bs bm hdct sn sub ab col dd k0 k1 k2 k3 k5 "ValueError.__new__")/\c.heap.Ns N mN/\OwnTail c.heap eY bm/\c.heap.get? fI=some oI/\
    ∀h' e,apg c.heap h' e (.ref C) a.pos->π (Ϧ prog w) (A.under (.builtin "type.__call__" #[.ref C::a.pos,[]])) (call (.ref fI) (.ref e::a.pos))
     (λr s'=>r=.none/\∃t D,s'.heap.get? C=some (excClassObj nm q C N bs bm hdct sn sub ab col dd k0 k1 k2 k3 k5 "ValueError.__new__")/\
      s'.heap.get? e=some {cls:=.ref C,dict:=D,data:=.fields #v[.ref t,.none,.none,.none,.bool false,.none]}/\E (.ref e) s') E {c with heap:=h'}) E n) E s):π (Ϧ prog w) A (exec (.Raise (some (.Call (.Name x np) i [] cpos)) none pos) env) Q E s:=by
 rw[arm_exec_Raise];show ν (amx (ae9 (C:=C) (nm:=nm) (q:=q) (N:=N) (bs:=bs) (bm:=bm) (hdct:=hdct) (sn:=sn) (sub:=sub) (ab:=ab) (col:=col) (dd:=dd) (k0:=k0) (k1:=k1) (k2:=k2) (k3:=k3) (k5:=k5) o L ?_));show ν (adk (wpAny_Call_ofName (adk h (λf n j=>?_) λ_ _ x=>x)) (λv H p=>ν (amx (Ϯ p))) λ_ _ x=>x);let#[rfl,j]:=j;unfold callWith;show ν (afm (adk j (λa c l=>ν (amx ?_)) λ_ _ x=>x));let#[apos,B]:=a;let#[F,u,I,M,T,G,l]:=l;obtain rfl:B=[]:=F;let#[U,g,d,tk,os]:=c;simp only[m];show ν (wpAny_keeperOf_exc I ?_);show ν (ajD T I M hi G y (λh' e O=>?_) u);show adk (l h' e O) (λr s' J=>#[J.1,?_]) λ_ _ z=>z
 let#[t,D,P,R,S]:=J.2;show ν (afm (wpAny_point (Ϯ #[e,t,D,rfl,P,R,S])))
end
section
variable{X:Cx}{Kx:St->XK}{D:Ends}{σ:St}{H:Hp}{x fld:Str}{np cpos pos:Pos}{e:ϧ}{es:List ϧ}{cc bc:Bool}{k k':Nat}
theorem K8(O:uN X.prog X.w X.K X.mg X.base bc k x fld)(hr:ϒ cc k' X.A)(G:bc=true->cc=true)(hx:bO X Kx)(h:EA X (e::es) σ H λvs H1=>∃n,vs=[.int n]/\n.natAbs<10^60/\∀E' H',ζ H1 H'->H' E'=some (.xd [(fld,.int n)])->Kx σ (.ref (θ X.mg x)) (some E',true) H')(hk:k+1<=k':=by decide)(hc:X.calm=true:=by rfl)(hg:Gl X x:=by rfl)(hd:(x==("__debug__":Str))=false:=by decide)(he:ϴ (e::es) X.env=(false,eval e X.env)::ϴ es X.env:=by rfl)(J:(backTo cpos (ϴ es X.env)).any (·.1)=false:=by rfl):SX X (.Raise (some (.Call (.Name x np) (e::es) [] cpos)) none pos) D σ H:=by
 intro ϵ s I;let#[f,fd,ps,oc,od,L,Fn,j,hi,P,Q]:=O.ex;let#[bm,N,nm,q,bs,hdct,sn,sub,ab,col,dd,k0,k1,k2,k3,k5,mN,hC,hN,R,T]:=QS I.ok.mod.kin hi;let S:ϒ bc (k+1) X.A:=(hr.mono hk).pR G;show af4 (C:=θ X.mg x) (nm:=nm) (q:=q) (N:=N) (bs:=bs) (bm:=bm) (hdct:=hdct) (sn:=sn) (sub:=sub) (ab:=ab) (col:=col) (dd:=dd) (k0:=k0) (k1:=k1) (k2:=k2) (k3:=k3) (k5:=k5) (mN:=mN) (fI:=f) (oI:=#[oc,od,.func fd,L])
  (T.hasType (by fin2)) (I.ok.hd hc) ?_ R Q (nO I hg O.at_ #[rfl,?_] hd)
 .rw[he];show(false||(backTo cpos (ϴ es X.env)).any (·.1))=false;rw[J];rfl
 .let h':=h cpos ϵ s I;rw[he]at h'⊢;show Calls.evalArgs_plain (χ h' λus l hZ=>?_);let#[vs,H1,g,r,n,U,hn,kq]:=hZ;subst U;let#[u,rfl,ru]:=vals1 r;show#[rfl,Δ,g.bk _ _ hC,hN.keeps g.bk,T.keeps g.bk,g.kIn _ _ P,λF a M=>?_];let#[t,m1,m2,m3]:=M.there;let c:H1 a=none:=g.hok.free M.new;let i:Ch X ϵ a:=g.ch M.new;let I3:Inv X ϵ σ H1 {l with heap:=F}:=g.kept (t':=l.toks) M.keeps;let W:Inv X ϵ σ (upd H1 a (xo a (θ X.mg x) none)) {l with heap:=F}:=I3.adopt c i (Cu m1);let rv:Vals [V.ref a,.int n] [Value.ref a,u]:=.cons rfl (.cons ru .nil);let m:Ad (θ X.mg x) fld [V.ref a,.int n] (upd H1 a (xo a (θ X.mg x) none)) (λv H'=>v=.non/\∃E',H' a=some (xo a (θ X.mg x) (some E'))/\H' E'=some (.xd [(fld,.int n)])/\E'≠a/\∀b o,b≠a->H1 b=some o->H' b=some o) (λ_ _ _=>False):=
   #[a,n,rfl,hn,υ,λE' H' h1 h2 Y h4 h5=>#[rfl,E',h4,h5,h1,λb o j q=>Y b o j (by rw[ο j];show q)]]
  let hl:([Value.ref a,u]:List ε).length=ps.length:=by rw[<-rv.length];show Fn.len _ _ _ _ m
  let p:=j {l with heap:=F} [Value.ref a,u] W.kIn (by simpa using hl);rw[ag5]at p;show anm (akc (Fn.run (X.A.under (.builtin "type.__call__" #[.ref (θ X.mg x)::[u],[]])) X.stack {l with heap:=F} _ #[[Value.ref a,u],[]] [Value.ref a,u] [V.ref a,.int n] _ (λ_ _ _=>False) (S.make (θ X.mg x) [u] [])
   (W.env0.make (θ X.mg x) [u] []) p rv m) λr s' y=>?_)
  cases r with
  |error e=>show(bL.never y).elim
  |ok fl=>
   cases fl with
   |ret v=>
    let#[v',H',Z,rr,U,E',g1,g2,g3,g4]:=W.after y;subst U;let#[#[t',B],_,_]:=Z.hok a _ g1;let I6:=Z.forget g1 i;show#[rr,t',some E',Z.bk _ _ hC,B,?_];show hx ϵ σ _ s' a _ (some E',true) #[I6,none,.none,#[_,_,B,rfl,rfl,rfl,rfl,by simp,Ctx.yes rfl,λT z=>nomatch z],.inl rfl,λb j=>?_] (kq E' _ (λb o q=>?_) ?_)
    .let z:b=a:=by simpa using j
     subst z;show#[Xv,i]
    .let E:b≠a:=Ψ q c;rw[iW E];show g4 b o E q
    .rw[iW g3];show g2
   |next=>show False.elim y
   |brk=>show False.elim y
   |cont=>show False.elim y
end
structure pM(K:ϩ)(C:δ):Prop where
 hd:amH K C=true
 ga:aew K (.ref C) "__getattribute__"=some (some (.builtin "BaseException.__getattribute__"))
 gt:aew K (.ref C) "__getattr__"=some none
 cl:aew K (.ref C) "__class__"=some (some (.builtin "object.__class__"))
 cg:air K (.builtin "object.__class__") "__get__"=some (some (.builtin "getset_descriptor.__get__"))
 ct:aoD K (.builtin "object.__class__")=some true
 mo:anF K C (.type "object")=some true
 mb:anF K C (.type "BaseException")=some true
section
variable{prog:ϯ}{w:ϭ}{A:ϳ}{E:ε->μ->Prop}{s:μ}{K:ϩ}{x C:δ}{ox:Obj}{od:Option Obj}{name:Str}{v:ε}
theorem O9{tk:Tok}{fill a:Bool}{Q:ε->μ->Prop}(X:K.In s.heap)(I:apb s.heap x ox C od)(c:pM K C)(h:π (Ϧ prog w) A.in1 (alA.«object.__getattribute__» #[[.ref x,.str name tk],[]]) (λfin s'=>match fin with
   |.done (.ret v)=>π (Ϧ prog w) A (handedOut v) Q E s'
   |_=>False) (λ_ _=>False) s):π (Ϧ prog w) A (getAttrBy (.ref x) (.str name tk) fill a) Q E s:=by
 let FB:=F.attrBase_ValueError;let sub:ap8 (Ϧ prog w) s.heap (isInstance (.ref x) (.type "BaseException")) true:=I.type.andThen (ap9 X c.mb);unfold getAttrBy;show afm (ν (I.type.here (ν ((aoC X c.ga).here ?_))));dsimp only;let e:(Value.builtin "BaseException.__getattribute__"==Value.builtin "object.__getattribute__")=false:=by fin2
 rw[if_neg (by rw[e,Bool.and_false];show aaA)];unfold getAttrByItsOwn hookBefore;rw[if_pos (show onTheHeap (Value.ref C)=true from rfl)];show ν ((aoC X c.gt).here ?_);show ν (anI (afm ?_));unfold callGetattribute;rw[if_neg (by cases a<;>show aaA)];unfold boundAndCalled;rw[FB.ga.bind];show ν (Ϯ (anm (anw FB.ga.plain F.entry_bexc_ga (@W.check_slot (Ϧ prog w) _ _ s "BaseException.__getattribute__" "BaseException" "__getattribute__" (.ref x) [.str name tk] [] _ (by fin2) (by fin2) sub (F.args_bexc_ga _ _) ?_))));show adk h (λfin s' z=>?_) λ_ _ z=>z.elim
 rcases fin with(_|_|_|_)|_<;>first|show z|show z.elim
theorem aiE{tk:Tok}{Q:Fin->μ->Prop}(X:K.In s.heap)(I:apb s.heap x ox C od)(a:apU K C od name=some (.value v))(h:Q (.done (.ret v)) s):π (Ϧ prog w) A (alA.«object.__getattribute__» #[[.ref x,.str name tk],[]]) Q E s:=by
 let c:=W.looks_find (M:=Ϧ prog w) X I a;unfold alA.«object.__getattribute__»;show ν (Ϯ ?_);dsimp only;show ν (Ϯ (ν (I.type.here (ν (c.here ?_)))));show Ϯ h
theorem abB{a g:ε}(c:(ao4 K C).isSome=true)(e:aew K (.ref C) name=some (some a))(f:air K a "__get__"=some (some g))(i:aoD K a=some true):apU K C od name=some (.bind g a):=by
 let#[cd,c]:=alC.mp c;unfold apU;rw[c,aoi,e,aoi];simp[f,i]
theorem afW{Q:Option ε->μ->Prop}(X:K.In s.heap)(I:apb s.heap x ox C od)(c:pM K C)(h:Q (some (.ref C)) {s with toks:=s.toks+1}):π (Ϧ prog w) A (getAttr? (.ref x) "__class__") Q E s:=by
 let a:apU K C od "__class__"=some (.bind (.builtin "getset_descriptor.__get__") (.builtin "object.__class__")):=abB (by let#[cd,e,_]:=apc c.hd;rw[e];rfl) c.cl c.cg c.ct;let f:=W.looks_find (M:=Ϧ prog w) X I a;unfold getAttr? getAttrBy?;show ν (wpAny_mkText (ν (anI (O9 (s:={s with toks:=s.toks+1}) X I c ?_))));unfold alA.«object.__getattribute__»;show ν (Ϯ ?_);dsimp only;show ν (Ϯ (ν (W.Looks.here (s:={s with toks:=s.toks+1}) I.type (ν (W.Looks.here (s:={s with toks:=s.toks+1}) f ?_)))));show π _ _ (holding [.builtin "object.__class__"] (call (.builtin "getset_descriptor.__get__") [.builtin "object.__class__",.ref x,.ref C])>>=ret) _ _ _;show ν (afm (anm (W.class_get (s:={s with toks:=s.toks+1}) X I c.mo (Ϯ ?_))));show W.handed_on rfl (Ϯ h)
theorem aaD(c:pM K C):W.KitX K (.ref x) (.ref C) (λh=>∃ox od,apb h x ox C od)where
 ty:=λ_ _ _ ⟨_,_,I⟩=>I.type
 it:=λ_ _ X _=>by
  let#[f,a,_]:=apc c.hd;unfold ao4 at a;split at a
  .rename_i m d' g i j;intro o p E' s' k q;unfold isType loadHead;show ν (wpAny_loadPart (k _ _ (X _ _ j)) (Ϯ q))
  .cases a
 ne:=λh tp dd s n sl X l=>by
  let#[f,a,_]:=apc c.hd;show aks.mpr λq=>?_
  let e:C=tp:=Value.ref.inj (beq_iff_eq.mp q);subst e;unfold ao4 at a;split at a
  .rename_i m d' g i j;let z:=(X _ _ j).symm.trans l;cases z
  .cases a
 ca:=λX ⟨_,_,I⟩ k=>afW X I c k
end
def xw(e C:δ)(D:Option δ):HO:=.ext λh=>∃a vs,h.get? e=some a/\a.cls=.ref C/\a.dict=D/\a.data=.fields vs
theorem agD{P:ϯ}{w:ϭ}{H:Hp}{h:ϫ}{e C:δ}{D:Option δ}{a:Obj}{vs:Array ε}(q:h.get? e=some a)(c:a.cls=.ref C)(hd:a.dict=D)(f:a.data=.fields vs):ϔ P w H h e (xw e C D):=
 #[#[a,vs,q,c,hd,f],#[_,q],λh1 h2 ⟨a,vs,q,r⟩ k=>#[a,vs,k _ q,r]]
section
variable{X:Cx}{σ:St}{H:Hp}{Q:VK}{e C:δ}{D:Option δ}{k:Bool}
theorem Inv.inst{ϵ:List (δ×Obj)}{s:μ}(I:Inv X ϵ σ H s)(m:H e=some (xw e C D))(hd:∀E',D=some E'->∃fs,H E'=some (.xd fs)):∃ox od,apb s.heap e ox C od/\∀E' fs,D=some E'->H E'=some (.xd fs)->∃o,od=some o/\∃mA:Str->Option ε,(∀f,bM (fs.lookup f) (mA f))/\∀n,apR n o=some (mA n):=by
 let#[#[g,vs,q,i,a,j],_,_]:=I.hok e _ m;cases D with
 |none=>show#[g,none,#[q,i,by unfold aqj;rw[j],by rw[a];trivial],λE' fs z=>nomatch z]
 |some E'=>
  let#[fs,h1]:=hd E' rfl;let#[mA,c,p]:=I.hok E' _ h1;let#[o,u,v]:=Jk c;show#[g,some o,#[q,i,by unfold aqj;rw[j],by rw[a];show u],λy x z l=>?_];cases z;rw[h1]at l;cases l;show#[o,rfl,mA,p,v]
theorem agu{c:V}{u:ε}(g:pM X.K C)(a:H e=some (xw e C D))(hd:∀E',D=some E'->∃fs,H E'=some (.xd fs))(i:∀f,RelV c f->f=u)(j:aoy X.K (.ref C) u=some k)(q:Q (.bl k) H):CL X (.builtin "isinstance") [.ref e,c] H Q:=by
 show cO (r:=λxs H Q=>xs=[.ref e,c]/\H e=some (xw e C D)/\(∀E',D=some E'->∃fs,H E'=some (.xd fs))/\Q (.bl k) H) ?_ #[rfl,a,hd,q];intro ϵ s σ H xs us Q I r h;let#[rfl,a,hd,q]:=h;let#[l,m,rfl,r1,n]:=vals2 r;cases(show l=Value.ref e from r1);rw[i m n];let#[ox,od,J,_]:=I.inst a hd;show amN (aaD g) I.kIn #[ox,od,J] j (λz=>nomatch z) λtk=>#[.bl k,H,I.tok tk,rfl,q]
theorem aj5{o:ϧ}{f:Str}{pos:Pos}{E':δ}{v:V}{fs:List (Str×V)}(x:attributeBase o f X.env (eval o X.env)=eval o X.env)(n:pM X.K C)(B:aew X.K (.ref C) f=some none)(D:∀u,RelV v u->ap4 u=true)(h:EV X o σ H λy H1=>y=.ref e/\H1 e=some (xw e C (some E'))/\H1 E'=some (.xd fs)/\fs.lookup f=some v/\Q v H1):EV X (.Attribute o f pos) σ H Q:=by
 intro ϵ s I;show Kw x (χ (h ϵ s I) λu i E=>?_);let#[y,H1,j,ry,F,G,p,L,q]:=E;subst F;obtain rfl:u=Value.ref e:=ry;let#[ox,od,J,g]:=j.inst G λO z=>#[fs,by cases z;show p]
 let#[o',rfl,mA,M,l]:=g E' fs rfl p;let a:=M f;rw[L]at a;cases m:mA f with
 |none=>rw[m]at a;cases a
 |some v'=>
  rw[m]at a;let c:RelV v v':=a;unfold getAttr;show ν (wpAny_mkText (O9 (s:={i with toks:=i.toks+1}) j.kIn J n (aiE (s:={i with toks:=i.toks+1}) j.kIn J (ap7 n.hd B rfl (by rw[l,m])) ?_)));show W.handed_on (D v' c) #[v,H1,j.tok _,c,q]
end
section
variable{X:Cx}{ϵ:List (δ×Obj)}{σ:St}{H:Hp}{s:μ}{h':ϫ}
theorem Inv.agH{n:Str}{i:Nat}{m m':Str->Option ε}{t':Nat}(I:Inv X ϵ σ H s)(E:X.N.Nodup)(hi:X.N[i]?=some n)(B:σ[i]?=some none)(F:∀(i:Nat)(x:Str)(v:V),X.N[i]?=some x->σ[i]?=some (some v)->pK X.env.scope x->∃u,RelV v u/\Look X.env s.heap m x u)(G:h'.Ns X.env.locals m')(J:∀x,x≠n->m' x=m x)(g:∀b o,b≠X.env.locals->s.heap.get? b=some o->h'.get? b=some o)(S:∃o,h'.get? X.env.locals=some o):Inv X ϵ σ H {s with heap:=h',toks:=t'}:=by
 let f:∀b o,X.s₀.heap.get? b=some o->b≠X.env.locals:=λb o e=>ab7 (abX (abV e) I.ok.above)
 let a:∀x c,X.env.cells.lookup x=some c->∀v,s.heap.IsCell c v->h'.IsCell c v:=λx c e v ⟨o,L,hd⟩=>#[o,g c o (I.cne x c e) L,hd]
 show#[I.ok,I.os,I.bare,#[λb o e n C y=>g b o (f b o e) (I.base.keep b o e n C y),λb o e n C y=>?_,I.base.free,λb o e y=>?_,I.base.tups,I.base.frzs,I.base.tbls],#[m',G,λj x v e1 D M=>?_],λx c e=>?_,I.free,I.freeC,λp O=>?_,λb u e=>?_,I.len]
 .let#[sl,e1]:=I.base.slot b o e n C y;show#[sl,g b _ (f b o e) e1]
 .let#[o',e1]:=I.base.there b o e y;show#[o',g b o' (f b o e) e1]
 .let#[u,r,l]:=F j x v e1 D M;show#[u,r,?_];let P:x≠n:=λz=>by
   subst z;have:=HX E e1 hi;subst this;rw[B]at D;cases D
  obtain l|⟨k,c,e,z⟩:=l
  .show .inl #[l.1,by rw[J x P];show l.2]
  .show .inr #[k,c,e,a x c e _ z]
 .let#[v,z]:=I.cell x c e;show#[v,a x c e v z]
 .let#[e,n,ne,Q,d]:=I.pin p O;show#[g _ _ ne e,n,ne,Q,d]
 .show(I.hok b u e).stay (λc v R q=>g c v ?_ q) (λ_ q=>q) λ_ _ q=>q
  obtain z|z:=R
  .rw[z];show Ψ e I.free
  .show Ψ z I.free
end
section
variable{X:Cx}{D:Ends}{σ:St}{H:Hp}{rest:List amy}{suite:List Ϩ}{b₀:Ϩ}{pos np:Pos}{x n:Str}{c:ε}{C:δ}{d:Option δ×Bool}{i:Nat}
end
structure ou(K:ϩ)(mg:Str->Option ε)(x:Str):Prop extends XBase K mg x where
 ty:aol K (.ref (θ mg x))=some (.type "type")
 mb:anF K (θ mg x) (.type "BaseException")=some true
structure XC(K:ϩ)(mg:Str->Option ε)(Lx x:Str):Prop where
 at_:mg x=some (.ref (θ mg x))
 xc:jy K (θ mg x) (θ mg Lx)=true
 ty:aol K (.ref (θ mg x))=some (.type "type")
 attr:pM K (θ mg x)
section
variable{K:ϩ}{mg:Str->Option ε}{Lx x y:Str}
theorem aiH(h:XC K mg Lx x)(v:ε):anF K (θ mg x) v=some ((Value.ref (θ mg x):: .ref (θ mg Lx)::eY).contains v):=by
 let#[cd,h1,_,h2]:=Td h.xc;unfold anF;rw[h1,aoi,h2];rfl
theorem ou.cls(h:ou K mg x):(ao4 K (θ mg x)).isSome=true:=by
 have:=h.mb;unfold anF at this;cases e:ao4 K (θ mg x)with
 |none=>rw[e]at this;cases this
 |some cd=>rfl
theorem acT{C:δ}(t:ε)(h1:(ao4 K C).isSome=true)(h2:aol K (.ref C)=some (.type "type")):W.kitCls K t (.ref C)=aqh K t (.ref C):=by
 show(if((ao4 K C).isSome&&aol K (.ref C)==some (.type "type"))=true then aqh K t (.ref C)else none)=_;rw[if_pos];rw[h1,h2];rfl
theorem Ym(h:XC K mg Lx x):aqh K (.ref (θ mg x)) (.ref (θ mg Lx))=some true:=by
 show anF K (θ mg x) (.ref (θ mg Lx))=some true;rw[aiH h,aoz,aoz,beq_self_eq_true];cases(Value.ref (θ mg Lx)==Value.ref (θ mg x))<;>rfl
theorem adv(h:XC K mg Lx x):aoy K (.ref (θ mg x)) (.ref (θ mg x))=some true:=by
 unfold aoy;rw[if_pos (beq_self_eq_true _)]
theorem aeL(h:XC K mg Lx x)(b:ou K mg Lx):apo K (.ref (θ mg x)) (.ref (θ mg Lx))=some true:=by
 unfold apo;let e:aqh K (.ref (θ mg Lx)) (.type "BaseException")=some true:=b.mb;rw[e,if_pos (by decide),acT _ b.cls b.ty];show Ym h
end
theorem Q3{P:ϯ}{w:ϭ}{K:ϩ}{mg:Str->Option ε}{base:ϫ}{cc:Bool}{k:Nat}{Lx x qual fld:Str}{st:Ϩ}{ps N:List Str}(O:um K mg Lx x qual fld st)(S:Ο N ps (ψ st))(l:∀(kV g pm:ε)(an:Option δ)(c ct:ε)(us:List ε),us.length=ps.length->bindArgs (apf "__init__" qual (jt st) (aA st) (ψ st) .none kV g pm an c ct) #[us,[]]=pure (ps.zip us))(len:ps.length=2)(body:∀(f:δ)(c:ε)(A:ϳ)(outer:List Env)(s:μ)(H:Hp)(vs:List V)(Q:VK)(E:XK),mJ K (θ mg x) f=true->ϒ cc k (A.deeper (envOfC qual (ψ st) s.heap.objs.size f c))->Ad (θ mg x) fld vs H Q E->
   Ρ (gq cc P w K mg base N qual (ψ st) f c A outer s H E) (aA st) {nx:=λ_ H'=>Q .non H',rt:=Q} (start N vs) H):uN P w K mg base cc (k+1) x fld:=by
 let#[f,fd,F,h1,h2]:=O.ex;let#[oc,od,kV,g,pm,an,c,ct,i,e,lk,m]:=id F.ex;show#[O.at_,f,fd,ps,oc,od,i,zf F S (λvs H Q E h=>by let#[a,n,rfl,_]:=h;show len.symm) λc A outer s H vs Q E o h=>body f c A outer s H vs Q E h1 o h,F.binds l,h1,lk,?_];let p:aol K (.ref f)=some (.type "function"):=beq_iff_eq.mp h2;let j:Option.map (λx:Obj=>x.cls) (aij f K)=some (.type "function"):=p;rw[lk]at j;show Option.some.inj j
section
variable{K:ϩ}{mg:Str->Option ε}{Lx x qual fld:Str}{C L f:δ}{st:Ϩ}{fd:aiF}
theorem ab5(h:mg x=some (.ref C))(a:aoJ K C (.type "type")=true)(c:aoK K (.ref C) (.type "type") "__init__"=some (.val (.builtin "ValueError.__init__")))(f:air K (.ref C) "__getattribute__"=some (some (.builtin "type.__getattribute__")))(g:aol K (.ref C)=some (.type "type"))(i:anF K C (.type "BaseException")=some true):ou K mg x:=by
 let e:=cA h;show{at_:=by rw[e];show h,reads:=by rw[e];show a,ini:=by rw[e];show c,ga:=by rw[e];show f,ty:=by rw[e];show g,mb:=by rw[e];show i}
theorem afK(h:mg x=some (.ref C))(c:mg Lx=some (.ref L))(f:jy K C L=true)(g:aol K (.ref C)=some (.type "type"))(i:amH K C=true)(j:aew K (.ref C) "__getattribute__"=some (some (.builtin "BaseException.__getattribute__")))(l:aew K (.ref C) "__getattr__"=some none)(m:aew K (.ref C) "__class__"=some (some (.builtin "object.__class__")))(n:air K (.builtin "object.__class__") "__get__"=some (some (.builtin "getset_descriptor.__get__")))(o:aoD K (.builtin "object.__class__")=some true)(p:anF K C (.type "object")=some true)(a:anF K C (.type "BaseException")=some true):XC K mg Lx x:=by
 let e:=cA h;let q:=cA c;show#[by rw[e];show h,by rw[e,q];show f,by rw[e];show g,by rw[e];show#[i,j,l,m,n,o,p,a]]
theorem ade(h:mg x=some (.ref C))(a:mg Lx=some (.ref L))(F:cj K "__init__" qual st f fd)(c:mJ K C f=true)(g:apm K (.ref f)=true)(i:aew K (.ref C) "__setattr__"=some (some (.builtin "object.__setattr__")))(j:aoo K C fld=some none)(l:jy K C L=true):um K mg Lx x qual fld st:=by
 let e:=cA h;let m:=cA a;show#[by rw[e];show h,#[f,fd,F,by rw[e];show c,g],by rw[e];show i,by rw[e];show j,by rw[e,m];show l]
end
abbrev cH(h:ϫ)(T:δ)(a b c:ε):Prop:=h.get? T=some {cls:=.type "tuple",data:=.seq #v[a,b,c]}
theorem an{n a b:Nat}(h:a≠b:=by decide):(n+a:δ)≠n+b:=λe=>h (Nat.add_left_cancel e)
theorem ln{n l:Nat}(h:l<n)(k:Nat):(l:δ)≠n+k:=ab7 (Nat.lt_add_right k h)
theorem afA(a b c:ε):checkTypeCall "zip" #[[a,b,c],[]]=pure PUnit.unit:=by kernel_rfl
theorem Zr(a b c:ε):checkBuiltinCall "zip.__new__" #[[.type "zip",a,b,c],[]]=pure PUnit.unit:=by kernel_rfl
theorem akr(a b c d:ε):argsOk "object.__init__" #[[a,b,c,d],[]]:=by
 unfold argsOk;rw[signature?_of (id:="object.__init__") (n:=['_', '_', 't', 'i', 'n', 'i', '_', '_']) (o:=['t', 'c', 'e', 'j', 'b', 'o']) (by kernel_rfl) F.owner_object];kernel_rfl
section
variable{prog:ϯ}{w:ϭ}{A:ϳ}{E:ε->μ->Prop}{s:μ}
theorem Ia{T:δ}{a b c x:ε}{k:Nat}{Q:Unit->μ->Prop}(e:cH s.heap T a b c)(h:∀h',h'.get? T=some {cls:=.type "tuple",data:=.seq ((#v[a,b,c]:Array ε).setIfInBounds k x)}->ak6 T s.heap h'->Q PUnit.unit {s with heap:=h'}):π (Ϧ prog w) A (updateSeq T (·.setIfInBounds k x)) Q E s:=by
 show wpAny_updateSeq e rfl (h _ ?_ (Heap.SameBut.update ..));rw[ae6 _ e rfl];simp[Obj.mapSeq]
theorem adK{n C D F:Nat}{k:Nat}{xs ys zs:Array ε}{x y u a b c:ε}{Q:ε->μ->Prop}(g1:C<n)(T:D<n)(G:F<n)(hz:IsZip s.heap (n+5) (n+3) (n+4) .none)(U:cH s.heap (n+3) (.ref n) (.ref (n+1)) (.ref (n+2)))(W:cH s.heap (n+4) a b c)(h1:s.heap.IsListIter n C k)(h2:s.heap.IsListIter (n+1) D k)(h3:s.heap.IsListIter (n+2) F k)(X:s.heap.IsList C xs)(Y:s.heap.IsList D ys)(Z:s.heap.IsList F zs)(hx:xs[k]?=some x)(hy:ys[k]?=some y)(hu:zs[k]?=some u)(hQ:∀h',IsZip h' (n+5) (n+3) (n+4) (rawInt s.heap.objs.size)->cH h' (n+4) x y u->h'.IsListIter n C (k+1)->h'.IsListIter (n+1) D (k+1)->h'.IsListIter (n+2) F (k+1)->cH h' s.heap.objs.size x y u->
   (∀c o,c≠n+5->c≠n+4->c≠n->c≠n+1->c≠n+2->s.heap.get? c=some o->h'.get? c=some o)->Q (.ref s.heap.objs.size) {s with heap:=h'}):π (Ϧ prog w) A (alA.«zip.__next__» #[[.ref (n+5)],[]]) (λfin s'=>∃v,fin=.done (.ret v)/\Q v s') E s:=by
 let qt:n+5≠n:=an (b:=0);let Dw:n+5≠n+1:=an;let Dl:n+5≠n+2:=an;let H:n+5≠n+4:=an;let L:n+4≠n:=an (b:=0);let M:n+4≠n+1:=an;let O:n+4≠n+2:=an;let I:n+1≠n:=an (b:=0);let Ue:n+2≠n:=an (b:=0);let RK:n+2≠n+1:=an;show π _ _ (field (.ref (n+5)) 2>>=_) _ _ _;show ν (ahc hz rfl (x:=.bool false) rfl ?_);show π _ _ (field (.ref (n+5)) 3>>=_) _ _ _;show ν (ahc hz rfl (x:=.ref (n+3)) rfl ?_);show ν (anC U rfl ?_);show π _ _ (Builtin.SmallTypes.ownedTupleIsFree (.ref (n+5))>>=_) _ _ _;show ν ?_;unfold Builtin.SmallTypes.ownedTupleIsFree;show ν (ahc hz rfl (x:=.none) rfl (Ϯ ?_));simp only[if_true];show ν (wpAny_rule ?_);show ν (ahc hz rfl (x:=.ref (n+4)) rfl ?_);show ν (amc hz (by simp) λm1 m g=>?_)
 replace m:IsZip m1 (n+5) (n+3) (n+4) .ellipsis:=m
 show ν ?_;simp only[apJ,apV,amU,an9];show ν (ν (wpAny_onRaise ?_));show π _ _ (Builtin.SmallTypes.nextOf (.ref n)>>=_) _ _ _;show ν (an6 (h1.extBut g.extBut qt.symm) (X.extBut g.extBut (ln g1 5)) hx λm2 ab i=>Ϯ ?_);let t2:cH m2 (n+4) a b c:=i.extBut _ _ L (g.extBut _ _ H.symm W);show ν (anC t2 rfl ?_);show ν (Ia t2 λm3 t3 j=>?_)
 replace t3:cH m3 (n+4) x b c:=t3
 show ν (wpAny_letGo (Ϯ ?_));show ν (ν (wpAny_onRaise ?_));show π _ _ (Builtin.SmallTypes.nextOf (.ref (n+1))>>=_) _ _ _;show ν (an6 (((h2.extBut g.extBut Dw.symm).extBut i.extBut I).extBut j.extBut M.symm) (((Y.extBut g.extBut (ln T 5)).extBut i.extBut (ln T 0)).extBut j.extBut (ln T 4)) hy λm4 ac p=>Ϯ ?_);let t4:cH m4 (n+4) x b c:=p.extBut _ _ M t3;show ν (anC t4 rfl ?_);show ν (Ia t4 λm5 t5 q=>?_)
 replace t5:cH m5 (n+4) x y c:=t5
 show ν (wpAny_letGo (Ϯ ?_));show ν (ν (wpAny_onRaise ?_));show π _ _ (Builtin.SmallTypes.nextOf (.ref (n+2))>>=_) _ _ _;show ν (an6 (((((h3.extBut g.extBut Dl.symm).extBut i.extBut Ue).extBut j.extBut O.symm).extBut p.extBut RK).extBut q.extBut O.symm) (((((Z.extBut g.extBut (ln G 5)).extBut i.extBut (ln G 0)).extBut j.extBut (ln G 4)).extBut p.extBut (ln G 1)).extBut q.extBut (ln G 4)) hu λm6 ae z=>Ϯ ?_);let t6:cH m6 (n+4) x y c:=z.extBut _ _ O t5;show ν (anC t6 rfl ?_);show ν (Ia t6 λf P B=>?_)
 replace P:cH f (n+4) x y u:=P
 show ν (wpAny_letGo (Ϯ (Ϯ ?_)));show ν (anC P rfl ?_);show ν (wpAny_newTuple ?_);let hsz:f.objs.size=s.heap.objs.size:=by rw[B.1,z.1,q.1,p.1,j.1,i.1,g.1]
 let Np:IsZip f (n+5) (n+3) (n+4) .ellipsis:=B.extBut _ _ H (z.extBut _ _ Dl (q.extBut _ _ H (p.extBut _ _ Dw (j.extBut _ _ H (i.extBut _ _ qt m)))));let af:∀c o,c≠n+5->c≠n+4->c≠n->c≠n+1->c≠n+2->s.heap.get? c=some o->f.get? c=some o:=λc o c1 c2 c3 c4 c5 e=>
  B.extBut _ _ c2 (z.extBut _ _ c5 (q.extBut _ _ c2 (p.extBut _ _ c4 (j.extBut _ _ c2 (i.extBut _ _ c3 (g.extBut _ _ c1 e))))))
 let i1:f.IsListIter n C (k+1):=((((ab.extBut j.extBut L.symm).extBut p.extBut I.symm).extBut q.extBut L.symm).extBut z.extBut Ue.symm).extBut B.extBut L.symm;let i2:f.IsListIter (n+1) D (k+1):=((ac.extBut q.extBut M.symm).extBut z.extBut RK.symm).extBut B.extBut M.symm;let i3:f.IsListIter (n+2) F (k+1):=ae.extBut B.extBut O.symm;let l:n+5<f.objs.size:=abV Np;show π _ _ (Builtin.SmallTypes.ownedTupleHandOut (.ref (n+5)) (.ref f.objs.size)>>=_) _ _ _;show ν ?_;unfold Builtin.SmallTypes.ownedTupleHandOut;let ag:IsZip (f.push {cls:=.type "tuple",data:=.seq #v[x,y,u]}) (n+5) (n+3) (n+4) .ellipsis:=ϲ _ Np;show ν (amc ag (by simp) λm8 Cj s8=>?_)
 replace Cj:IsZip m8 (n+5) (n+3) (n+4) (rawInt f.objs.size):=Cj
 show amc Cj (by simp) λR S s9=>?_
 replace S:IsZip R (n+5) (n+3) (n+4) (rawInt f.objs.size):=S
 let up:∀c o,c≠n+5->f.get? c=some o->R.get? c=some o:=λc o c1 e=>s9.extBut _ _ c1 (s8.extBut _ _ c1 (ϲ _ e))
 let J:cH R f.objs.size x y u:=s9.extBut _ _ (amF l) (s8.extBut _ _ (amF l) (abi _ rfl));rw[hsz]at S J;show Ϯ #[_,rfl,?_];show Q (.ref f.objs.size) _;rw[hsz];show hQ R S (up _ _ H.symm P) (i1.at λo e=>up _ o qt.symm e) (i2.at λo e=>up _ o Dw.symm e) (i3.at λo e=>up _ o Dl.symm e) J λc o c1 c2 c3 c4 c5 e=>up c o c1 (af c o c1 c2 c3 c4 c5 e)
theorem aeY{n j:Nat}{k:Nat}{xs:Array ε}{b c:ε}{Q:Fin->μ->Prop}(z:A.handled=none)(B:j<n)(hz:IsZip s.heap (n+5) (n+3) (n+4) .none)(l:cH s.heap (n+3) (.ref n) b c)(h1:s.heap.IsListIter n j k)(m:s.heap.IsList j xs)(C:xs[k]?=none)(D:∀h' e,(∀c o,c≠n+5->c≠n->s.heap.get? c=some o->h'.get? c=some o)->(∃o,h'.get? e=some o/\o.cls=.type "StopIteration")->E (.ref e) {s with heap:=h'}):π (Ϧ prog w) A (alA.«zip.__next__» #[[.ref (n+5)],[]]) Q E s:=by
 let u:n+5≠n:=an (b:=0);show π _ _ (field (.ref (n+5)) 2>>=_) _ _ _;show ν (ahc hz rfl (x:=.bool false) rfl ?_);show π _ _ (field (.ref (n+5)) 3>>=_) _ _ _;show ν (ahc hz rfl (x:=.ref (n+3)) rfl ?_);show ν (anC l rfl ?_);show π _ _ (Builtin.SmallTypes.ownedTupleIsFree (.ref (n+5))>>=_) _ _ _;show ν ?_;unfold Builtin.SmallTypes.ownedTupleIsFree;show ν (ahc hz rfl (x:=.none) rfl (Ϯ ?_));simp only[if_true];show ν (wpAny_rule ?_);show ν (ahc hz rfl (x:=.ref (n+4)) rfl ?_);show ν (amc hz (by simp) λF a p=>?_)
 replace a:IsZip F (n+5) (n+3) (n+4) .ellipsis:=a
 show ν ?_;simp only[apJ,apV,amU,an9];show ν (ν (wpAny_onRaise ?_));show π _ _ (Builtin.SmallTypes.nextOf (.ref n)>>=_) _ _ _;show ν (wpAny_nextOf_list_end z (h1.extBut p.extBut u.symm) (m.extBut p.extBut (ln B 5)) C λG e v H=>?_);let#[I,f,g]:=H;let i:IsZip G (n+5) (n+3) (n+4) .ellipsis:=v _ _ u a;let q:e≠n+5:=λx=>by subst x;rw[i]at f;cases f;simp at g
 show amc i (by simp) λJ _ y=>D J e (λc o c1 c3 x=>y.extBut _ _ c1 (v _ _ c3 (p.extBut _ _ c1 x))) #[I,y.extBut _ _ q f,g]
end
abbrev wX(h:ϫ)(l1:δ):ϫ:=h.push {cls:=.type "list_iterator",data:=.fields #v[.ref l1,.int 0 0]}
abbrev yQ(h:ϫ)(l1 l2:δ):ϫ:=(wX h l1).push {cls:=.type "list_iterator",data:=.fields #v[.ref l2,.int 0 0]}
abbrev vR(h:ϫ)(l1 l2 l3:δ):ϫ:=(yQ h l1 l2).push {cls:=.type "list_iterator",data:=.fields #v[.ref l3,.int 0 0]}
abbrev uH(h:ϫ)(l1 l2 l3:δ):ϫ:=(vR h l1 l2 l3).push {cls:=.type "tuple",data:=.seq #v[.ref h.objs.size,.ref (wX h l1).objs.size,.ref (yQ h l1 l2).objs.size]}
abbrev wO(h:ϫ)(l1 l2 l3:δ):ϫ:=(uH h l1 l2 l3).push {cls:=.type "tuple",data:=.seq #v[.none,.none,.none]}
abbrev lB(h:ϫ)(l1 l2 l3:δ):ϫ:=(wO h l1 l2 l3).push {cls:=.type "zip",data:=.fields #v[.none,.bool false,.bool false,.ref (vR h l1 l2 l3).objs.size,.ref (uH h l1 l2 l3).objs.size]}
theorem af9(a c e:δ)(xs ys zs:Array ε):Meets (alA.«zip.__new__» #[[.type "zip",.ref a,.ref c,.ref e],[]]) (λ_ R s=>s.heap.IsList a xs/\s.heap.IsList c ys/\s.heap.IsList e zs/\R (.ok (.ret (.ref (wO s.heap a c e).objs.size))) {s with heap:=lB s.heap a c e}):=
 .of_wp λprog w A R s h=>by
  let#[f,g,d,tk,os]:=s;let#[i,j,l,h]:=h;let o:=sub_zip;let m:apW (Shared.heap #[f,g,d,tk,os]) a xs:=i;let n:apW (Shared.heap #[f.push {cls:=.type "list_iterator",data:=.fields #v[.ref a,.int 0 0]},g,d,tk,os]) c ys:=Heap.IsList.push j _;let p:apW (Shared.heap #[(f.push {cls:=.type "list_iterator",data:=.fields #v[.ref a,.int 0 0]}).push {cls:=.type "list_iterator",data:=.fields #v[.ref c,.int 0 0]},g,d,tk,os]) e zs:=Heap.IsList.push (Heap.IsList.push l _) _
  wp_walk using alc m,alc n,alc p
  show#[_,rfl,h]
section
variable{prog:ϯ}{w:ϭ}{A:ϳ}{E:ε->μ->Prop}{s:μ}
theorem aih{a e f:δ}{xs ys zs:Array ε}{Q:ε->μ->Prop}(g:s.heap.IsList a xs)(i:s.heap.IsList e ys)(j:s.heap.IsList f zs)(h:∀h',IsZip h' (s.heap.objs.size+5) (s.heap.objs.size+3) (s.heap.objs.size+4) .none->cH h' (s.heap.objs.size+3) (.ref s.heap.objs.size) (.ref (s.heap.objs.size+1)) (.ref (s.heap.objs.size+2))->
   cH h' (s.heap.objs.size+4) .none .none .none->h'.IsListIter s.heap.objs.size a 0->h'.IsListIter (s.heap.objs.size+1) e 0->h'.IsListIter (s.heap.objs.size+2) f 0->
   (∀c o,s.heap.get? c=some o->h'.get? c=some o)->Q (.ref (s.heap.objs.size+5)) {s with heap:=h'}):π (Ϧ prog w) A (call (.type "zip") [.ref a,.ref e,.ref f]) Q E s:=by
 show callType_new F.called_zip (by decide) (afA _ _ _) (Zr _ _ _) (λobj=>akr obj _ _ _) F.entry_zip_new (af9 a e f xs ys zs) #[g,i,j,?_];let l:(wX s.heap a).objs.size=s.heap.objs.size+1:=akj ..;let m:(yQ s.heap a e).objs.size=s.heap.objs.size+2:=by rw[akj,l]
 let n:(vR s.heap a e f).objs.size=s.heap.objs.size+3:=by rw[akj,m]
 let p:(uH s.heap a e f).objs.size=s.heap.objs.size+4:=by rw[akj,n]
 let u:(wO s.heap a e f).objs.size=s.heap.objs.size+5:=by rw[akj,p]
 let q:(lB s.heap a e f).get? (wO s.heap a e f).objs.size=some _:=abi _ rfl;let v:(lB s.heap a e f).get? (uH s.heap a e f).objs.size=some _:=ϲ _ (abi _ rfl);let y:(lB s.heap a e f).get? (vR s.heap a e f).objs.size=some _:=ϲ _ (ϲ _ (abi _ rfl));let z:(lB s.heap a e f).get? (yQ s.heap a e).objs.size=some _:=ϲ _ (ϲ _ (ϲ _ (abi _ rfl)));let B:(lB s.heap a e f).get? (wX s.heap a).objs.size=some _:=ϲ _ (ϲ _ (ϲ _ (ϲ _ (abi _ rfl))));let C:(lB s.heap a e f).get? s.heap.objs.size=some _:=ϲ _ (ϲ _ (ϲ _ (ϲ _ (ϲ _ (abi _ rfl)))));show _/\_;rw[n,p,u]at q;rw[l,m,n]at y;rw[p]at v;rw[m]at z;rw[l]at B;rw[u];show#[#[_,q,rfl],h _ q y v #[_,C,rfl,rfl] #[_,B,rfl,rfl] #[_,z,rfl,rfl] λc o x=>
  ϲ _ (ϲ _ (ϲ _ (ϲ _ (ϲ _ (ϲ _ x)))))]
end
def Ay(K:ϩ)(l m q:δ):It:=
 #[λi H=>∃xs ys zs x y z,(η K H l xs/\η K H m ys/\η K H q zs)/\xs[i]?=some x/\ys[i]?=some y/\zs[i]?=some z,
  λi H v H'=>∃T x y z,v=.ref T/\H T=none/\H'=upd H T (.tup [x,y,z])/\(∀xs,η K H l xs->xs[i]?=some x)/\(∀ys,η K H m ys->ys[i]?=some y)/\∀zs,η K H q zs->zs[i]?=some z,
  λi H=>∃xs,η K H l xs/\xs.length<=i]
theorem aey{P:ϯ}{w:ϭ}{K:ϩ}{elts:List ϧ}{k:Nat}{pos:Pos}(n l m q:Nat)(g1:l<n)(g2:m<n)(g3:q<n):Turn P w K (.Tuple elts k pos) (Ay K l m q) [n+5,n+3,n+4,n,n+1,n+2] (n+5) (λi h=>IsZip h (n+5) (n+3) (n+4) .none/\cH h (n+3) (.ref n) (.ref (n+1)) (.ref (n+2))/\(∃a b c,cH h (n+4) a b c)/\h.IsListIter n l i/\h.IsListIter (n+1) m i/\h.IsListIter (n+2) q i)where
 mem:=by simp
 obj:=λi h st b g=>by
  let#[hz,f,#[a,a',M,j],#[U,h1,_,d1],#[W,h2,_,d2],#[Y,p,_,d3]]:=st;simp only[aaG,afT,or_false]at g;obtain e|e|e|e|e|e:=g<;>subst e
  .show#[_,hz,λv z=>by cases z]
  .show#[_,f,λv z=>by cases z]
  .show#[_,j,λv z=>by cases z]
  .show#[_,h1,λv z=>by rw[d1]at z;cases z]
  .show#[_,h2,λv z=>by rw[d2]at z;cases z]
  .show#[_,p,λv z=>by rw[d3]at z;cases z]
 keep:=λi h h' st kk=>by
  let#[hz,f,#[a,a',M,j],#[U,h1,r1],#[W,h2,r2],#[Y,p,r3]]:=st;show#[kk _ (by simp) _ hz,kk _ (by simp) _ f,#[a,a',M,kk _ (by simp) _ j],#[U,kk _ (by simp) _ h1,r1],#[W,kk _ (by simp) _ h2,r2],#[Y,kk _ (by simp) _ p,r3]]
 item:=by
  intro X Z hw hK hc i ϵ s σ H E I O st hg;subst Z hw hK;let#[hz,f,#[a,b,c,j],h1,h2,p]:=id st;let#[xs,ys,zs,x,y,z,#[u,C,Kl],R,hy,hu]:=hg;let#[Hf,wy,Ht,_]:=I.list u;let#[Vc,X6,ab,_]:=I.list C;let#[Ms,Wz,ac,_]:=I.list Kl;let#[u1,ae,Al]:=wy.get R;let#[u2,af,zN]:=X6.get hy;let#[u3,Y7,Df]:=Wz.get hu;let D:s.TypeIs (.ref (n+5)) "zip":=#[_,hz,rfl];unfold pyNext;show ν (anI (anT (name:=Ϫ "__next__") D F.slot_zip_next (wpAny_call_entry F.slot_zip_next D F.entry_zip_next
   (adK g1 g2 g3 hz f j h1 h2 p Ht.isList ab.isList ac.isList (by simpa using ae) (by simpa using af) (by simpa using Y7) λh' a1 M a3 a4 a5 a6 S=>Ϯ ?_) (F.args_zip_next_1 _))))
  show#[_,rfl,?_];show wpAny_letOwnedTupleGo_zip (s:={s with heap:=h'}) a1 λG ag B=>?_
  let J:s.heap.objs.size<=s.heap.objs.size:=Ϭ _;let ah:s.heap.objs.size≠n+5:=amF (abV hz);let sX:IsTup G s.heap.objs.size [u1,u2,u3].toArray:=#[_,B.extBut _ _ ah a6,rfl,_,rfl];let ai:∀b o,b∉[n+5,n+3,n+4,n,n+1,n+2]->s.heap.get? b=some o->G.get? b=some o:=λb o g q=>by
   simp only[aaG,afT,or_false,not_or]at g;show B.extBut _ _ g.1 (S b o g.1 g.2.2.1 g.2.2.2.1 g.2.2.2.2.1 g.2.2.2.2.2 q)
  show#[.ref s.heap.objs.size,upd H s.heap.objs.size (.tup [x,y,z]),I.Ao (ch:=[n+5,n+3,n+4,n,n+1,n+2]) (tk:=s.toks) O J ai Δ (.cons Al (.cons zN (.cons Df .nil))) sX,rfl,?_,?_,λb g=>?_]
  .show#[_,x,y,z,rfl,I.hok.fresh J,rfl,λa L=>?_,λa L=>?_,λa L=>?_]
   .rw[<-I.list_inj u L];show R
   .rw[<-I.list_inj C L];show hy
   .rw[<-I.list_inj Kl L];show hu
  .show#[ag,B.extBut _ _ an (S _ _ an an (an (b:=0)) an an f),#[_,_,_,B.extBut _ _ an M],a3.extBut B.extBut (an (a:=0)),a4.extBut B.extBut an,a5.extBut B.extBut an]
  .have :b≠s.heap.objs.size:=λq=>by
    obtain⟨o,ho⟩:∃o,s.heap.get? b=some o:=by
     let#[U,h1,_]:=h1;let#[W,h2,_]:=h2;let#[Y,p,_]:=p;simp only[aaG,afT,or_false]at g;obtain e|e|e|e|e|e:=g<;>subst e
     .show#[_,hz]
     .show#[_,f]
     .show#[_,j]
     .show#[_,h1]
     .show#[_,h2]
     .show#[_,p]
    show ajM _ (q▸abV ho)
   rw[ο this];show(O b g).1
 done:=by
  intro X Z hw hK hc i ϵ s σ H E I O st hg;subst Z hw hK;let#[hz,f,#[a,b,c,j],h1,h2,p]:=st;let#[xs,u,R]:=hg;let#[Hf,wy,Ht,_]:=I.list u;let D:s.TypeIs (.ref (n+5)) "zip":=#[_,hz,rfl];unfold pyNext;show ν (anI (anT (name:=Ϫ "__next__") D F.slot_zip_next
   (wpAny_call_entry F.slot_zip_next D F.entry_zip_next (aeY (I.ok.hd hc) g1 hz f h1 Ht.isList (akP (by rw[aaH, <-wy.length];show R)) λh' e S he=>?_) (F.args_zip_next_1 _))))
  let#[o,ho,am]:=he;show ν (wpAny_isInstance (T:="StopIteration") (b:=true) #[o,ho,am] isSubtype_stop ?_);show Ϯ #[rfl,I.Lp (tk:=s.toks) O λb o g q=>?_];simp only[aaG,afT,or_false,not_or]at g;show S b o g.1 g.2.2.2.1 q
 self:=λA i s Q E st h=>wpAny_pyIter_zip st.1 h
theorem vals3{x y z:V}{us:List ε}(r:Vals [x,y,z] us):∃u v w,us=[u,v,w]/\RelV x u/\RelV y v/\RelV z w:=by
 cases r with
 |cons a r=>
  cases r with
  |cons b r=>
   cases r with
   |cons c r=>
    cases r;show#[_,_,_,rfl,a,b,c]
section
variable{X:Cx}{σ:St}{H:Hp}{a b c:ϧ}{elts:List ϧ}{k:Nat}{tp p pos p':Pos}{R:It->Hp->Prop}{D:Ends}
theorem ag9(D:Gl X "zip")(E:X.mg "zip"=none)(hs:ϴ [a,b,c] X.env=(false,eval a X.env)::ϴ [b,c] X.env)(g:ϴ [b,c] X.env=(false,eval b X.env)::ϴ [c] X.env)(i:ϴ [c] X.env=[(false,eval c X.env)])(h:EV X a σ H λx H1=>EV X b σ H1 λy H2=>EV X c σ H2 λz H3=>∃l m q xs ys zs,(x=.ref l/\y=.ref m/\z=.ref q)/\H3 l=some (.lst xs)/\H3 m=some (.lst ys)/\H3 q=some (.lst zs)/\R (Ay X.K l m q) H3):EI X (.Tuple elts k tp) (.Call (.Name "zip" p) [a,b,c] [] pos) σ H R:=by
 intro ϵ s I;let F:EA X [a,b,c] σ H λvs H3=>∃l m q xs ys zs,vs=[.ref l,.ref m,.ref q]/\H3 l=some (.lst xs)/\H3 m=some (.lst ys)/\H3 q=some (.lst zs)/\R (Ay X.K l m q) H3:=
  d8 hs (aq h λx H1 h1=>d8 g (aq h1 λy H2 h2=>d8 (es:=[]) (by rw[i];rfl) (aq h2 λz H3 ⟨l,m,q,xs,ys,zs,⟨e1,G,J⟩,r⟩=>iZ #[l,m,q,xs,ys,zs,by rw[e1,G,J],r])))
 show Call_ (il I D E boot_zip (PyProof.Rows.callWith_type1 (χ (F pos ϵ s I) λus u L=>?_) hs (by rw[g,i];rfl)));let#[vs,H1,f,r1,l,m,q,xs,ys,zs,e,M,v,O,P]:=L;subst e;let#[Q,S,T,rfl,U,W,Y]:=vals3 r1;cases(show Q=Value.ref l from U);cases(show S=Value.ref m from W);cases(show T=Value.ref q from Y);let#[_,Z,n1,wy,j]:=f.hok l _ M;let#[_,Vc,n2,X6,n]:=f.hok m _ v;let#[_,Ms,n3,Wz,B]:=f.hok q _ O;show aih (xs:=Z.toArray) (ys:=Vc.toArray) (zs:=Ms.toArray) #[_,j,rfl,_,rfl] #[_,n,rfl,_,rfl] #[_,B,rfl,_,rfl] λh' h1 h2 h3 h4 h5 h6 hk=>?_
 show wpAny_pyIter_zip h1 ?_;show#[u.heap.objs.size+5,_,_,_,H1,rfl,f.kept (t':=u.toks) hk,aey _ l m q (abV j) (abV n) (abV B),#[h1,h2,#[_,_,_,h3],h4,h5,h6],λb C=>?_,P];let o:u.heap.objs.size<=b:=by
  simp only[aaG,afT,or_false]at C;obtain e|e|e|e|e|e:=C<;>subst e<;>first|show akV _ _|show Ϭ _
 show f.fpOk o (f.hok.fresh o)
theorem YS{body:List Ϩ}(J:alP (Ϧ X.prog X.w) X.A X.env X.xe)(L:X.calm=true)(M:Gl X "zip")(O:X.mg "zip"=none)(hs:ϴ [a,b,c] X.env=(false,eval a X.env)::ϴ [b,c] X.env)(s:ϴ [b,c] X.env=(false,eval b X.env)::ϴ [c] X.env)(u:ϴ [c] X.env=[(false,eval c X.env)])(h:EV X a σ H λF H1=>EV X b σ H1 λG H2=>EV X c σ H2 λI j=>∃l m q xs ys zs,(F=.ref l/\G=.ref m/\I=.ref q)/\j l=some (.lst xs)/\j m=some (.lst ys)/\j q=some (.lst zs)/\ys.length=xs.length/\zs.length=xs.length/\
   ∃g:Nat->St->Hp->Prop,g 0 σ j/\(∀i σ' H',g i σ' H'->η X.K H' l xs/\η X.K H' m ys/\η X.K H' q zs)/\
   (∀i x y z T σ' H',xs[i]?=some x->ys[i]?=some y->zs[i]?=some z->g i σ' H'->H' T=none->EG X (.Tuple elts k tp) (.ref T) σ' (upd H' T (.tup [x,y,z])) λn H2=>Ρ X body {D with nx:=g (i+1),ct:=g (i+1),bk:=D.nx} n H2)/\∀σ' H',g xs.length σ' H'->D.nx σ' H'):SX X (.For (.Tuple elts k tp) (.Call (.Name "zip" p) [a,b,c] [] p') body [] pos) D σ H:=by
 show lF J L (by intro _;rfl) (ag9 M O hs s u (aq h λF H1 h1=>aq h1 λG H2 h2=>aq h2 λI j P=>?_));let#[l,m,q,xs,ys,zs,e,Q,B,R,ly,lz,g,S,U,C,hd]:=P;show#[l,m,q,xs,ys,zs,e,Q,B,R,λi m σ H=>m=xs.length-i/\i<=xs.length/\g i σ H,#[xs.length,by simp,agz _,S],?_]
 rintro i m' σ' H' ⟨rfl,hi,E⟩
 let f:=U i σ' H' E;by_cases o:i<xs.length
 .let W:ys[i]?=some ys[i]:=aab ();let Y:zs[i]?=some zs[i]:=aab ();show .inr #[#[xs,ys,zs,xs[i],ys[i],zs[i],f,aab o,W,Y],g (i+1),λn H2 p2=>#[xs.length-(i+1),(),rfl,o,p2],λv H2 y=>?_];let#[T,x,y,z,e1,Z,e3,e4,e5,e6]:=y;subst e1 e3;show C i x y z T σ' H' (e4 xs f.1) (e5 ys f.2.1) (e6 zs f.2.2) E Z
 .let e:i=xs.length:=()
  show .inl #[#[xs,f.1,()],?_];subst e;show hd σ' H' E
end
theorem Eo:∀{us:List ε}{ys:List Str}{m:Nat}{u:ε},StrsAre us ys->us[m]?=some u->∃y t,ys[m]?=some y/\u=.str y t
 |_,_,_,_,.nil,e=>by simp at e
 |_,_,0,u,.cons y t h,e=>by
  simp at e;show#[y,t,rfl,e.symm]
 |_,_,m+1,u,.cons y t h,e=>by
  let#[a,t',e1,c]:=Eo h (by simpa using e);show#[a,t',by simpa using e1,c]
section
variable{X:Cx}{H:Hp}{Q:VK}
theorem aaZ{a:δ}{zs:List Str}{z:Str}{j:Nat}(h:η X.K H a (zs.map V.str))(f:zs[j]?=some z)(c:∀m y,m<j->zs[m]?=some y->¬y=z)(g:Q (.int j) H):MT X "list.index" (.ref a) [.str z] H Q:=by
 show je (r:=λx xs H Q=>∃a zs z j,x=.ref a/\xs=[.str z]/\η X.K H a (zs.map V.str)/\zs[j]?=some z/\(∀m y,m<j->zs[m]?=some y->¬y=z)/\Q (.int (j:Nat)) H) ?_ #[a,zs,z,j,rfl,rfl,h,f,c,g];intro ϵ s σ H x xs v us Q I rx rs h;let#[a,zs,z,j,rfl,rfl,h,f,c,g]:=h;cases rx;let#[u,rfl,D]:=vals1 rs;let#[t,rfl]:=D;let#[i,r,#[#[cls,dd,B,sl],n,e,C,hd,hs],hz]:=I.list h;simp only at C hd hs;subst C hd hs;let o:=PL r;let l:i.length=zs.length:=by have:=r.length;rw[aaz]at this;show this.symm
 let p:j<i.toArray.size:=by
  rw[aaH,l];show(aap.mp f).1
 rw[aaz]at hz;let hsz:=ϱ;let E:j<zs.length:=(aap.mp f).1;show anR F.slot_list_index #[_,e,rfl] F.entry_list_index (F.args_list_index_2 _ _) (SeqAt.list_indexAt a i.toArray n _ sl (.str z t) (isStrOf z) j p () ?_ ?_) #[e,λy G=>(eq_isStrOf z t o y (by simpa using G)).at _ _,?_]
 .let#[y,t',e1,q]:=Eo (m:=j) (u:=i.toArray[j]) o (by simp);rw[q];rw[f]at e1;cases e1;show(z==z)=true;show beq_self_eq_true z
 .intro m L J;let#[y,t',e1,q]:=Eo (m:=m) (u:=i.toArray[m]) o (by simp);rw[q];show(y==z)=false;show beq_eq_false_iff_ne.mpr (c m y J e1)
 .show#[.int j,H,I.tok _,#[_,rfl],g]
def ltV:V->V->Bool
 |.int i,.int j=>decide (i<j)
 |.str x,.str y=>decide (x.cps.toList<y.cps.toList)
 |_,_=>false
end
structure Ϟ(P:ϯ)(w:ϭ)(K:ϩ)(mg:Str->Option ε)(base:ϫ)(cc:Bool)(k:Nat)(C:δ)(m:Str)(ps:List Str)(sp:Sp):Prop where
 cls:ϗ K C
 ex:∃f fd,Meth K C m f/\Binds K fd ps []/\cG P w K mg base (bL P w) cc k f fd ps sp
structure jJ(P:ϯ)(w:ϭ)(K:ϩ)(mg:Str->Option ε)(base:ϫ)(cc:Bool)(k:Nat)(x:Str)(C:δ)(ps:List Str)(sp:Sp):Prop where
 at_:mg x=some (.ref C)
 ex:∃f fd,Mk K C f/\Binds K fd ps []/\cG P w K mg base (bL P w) cc k f fd ps sp
structure nW(P:ϯ)(w:ϭ)(K:ϩ)(mg:Str->Option ε)(base:ϫ)(cc:Bool)(k:Nat)(x m:Str)(ps:List Str)(sp:Sp):Prop where
 ex:∃C f fd,mg x=some (.ref C)/\aoJ K C (.type "type")=true/\aoK K (.ref C) (.type "type") m=some (.val (.ref f))/\
  air K (.ref C) "__getattribute__"=some (some (.builtin "type.__getattribute__"))/\anJ K (.ref f)=true/\Binds K fd ps []/\cG P w K mg base (bL P w) cc k f fd ps sp
section
variable{X:Cx}{σ:St}{H:Hp}{Q:VK}{D:Ends}{x f m:Str}{p np apos pos pos' tpos:Pos}{a e o value:ϧ}{es:List ϧ}{Kx:St->XK}{cc:Bool}{k':Nat}
theorem Ϥ(h:EV X e σ H λx H1=>∃a C dx fs v,x=.ref a/\H1 a=some (.ins C dx fs)/\ϗ X.K C/\ Φ X.K C f/\fs.lookup f=some v/\Q v H1)(g:attributeBase e f X.env (eval e X.env)=eval e X.env:=by rfl):EV X (.Attribute e f pos) σ H Q:=by
 intro ϵ s I;show Kw g (χ (h ϵ s I) λu p i=>?_);let#[x,H1,j,rx,a,C,dx,fs,v,ex,ea,c,n,l,q]:=i;subst ex;obtain rfl:u=Value.ref a:=rx;show U8 j ea c n l λy z m o=>#[v,H1,m,o,q]
theorem dj(h:EV X value σ H λy H1=>EV X o σ H1 λx H2=>∃a C dx fs,x=.ref a/\H2 a=some (.ins C dx fs)/\ϗ X.K C/\ Φ X.K C f/\fs.length<1000/\D.nx σ (upd H2 a (.ins C dx (ϛ f y fs))))(hs:amu value (some (.Attribute o f pos')) pos.line X.env=pure false:=by rfl):SX X (.Assign [.Attribute o f pos'] value pos) D σ H:=
 λϵ s I=>afz gH gH hs ϵ s σ H D I h
theorem Yj(h:EV X o σ H λx H1=>∃a C dx fs v,x=.ref a/\H1 a=some (.ins C dx fs)/\ϗ X.K C/\ Φ X.K C f/\fs.lookup f=some v/\
   EV X value σ H1 λy H2=>VG v y H2 λz e=>∃c fs',e a=some (.ins C c fs')/\fs'.length<1000/\D.nx σ (upd e a (.ins C c (ϛ f z fs')))):SX X (.AugAssign (.Attribute o f tpos) .Add value pos) D σ H:=
 λϵ s I=>agA gH gH akn ϵ s σ H D I h
theorem bZ{pl:Sem Bool}(v:ϒ cc k' X.A)(y:bO X Kx)(c:ϴ (e::es) X.env=(false,eval e X.env)::ϴ es X.env:=by rfl)(g:(backTo pos (ϴ es X.env)).any (·.1)=false:=by rfl)(z:eval (.Call (.Attribute o m apos) (e::es) [] pos) X.env=(do
   let j<-eval o X.env
   standAt apos.atName
   let(f,first)<-holding [j] (getMethod j m pl)
   callWith pos f first (backTo pos (ϴ (e::es) X.env)) (backToKw pos (keywordEach [] X.env))):=by rfl)(h:EV X o σ H λx H1=>∃a C dx fs bc k ps sp,x=.ref a/\H1 a=some (.ins C dx fs)/\fs.lookup m=none/\Ϟ X.prog X.w X.K X.mg X.base bc k C m ps sp/\k<=k'/\(bc=true->cc=true)/\EA X (e::es) σ H1 λvs H2=>sp (x::vs) H2 Q (Kx σ)):EV X (.Call (.Attribute o m apos) (e::es) [] pos) σ H Q:=by
 intro ϵ s I;show aot (pl:=pl) (χ (h ϵ s I) λu B D=>?_) z;let#[x,H1,l,rx,a,C,dx,fs,bc,k,ps,sp,ex,ea,E,M,G,i,q]:=D;subst ex;cases(show u=Value.ref a from rx);let#[f,fd,n,J,F]:=M.ex;show Vi l ea M.cls n E ?_;show ao2 (first:=[.ref a]) (h₀:=X.base) I.ok.mod.kin n.kp (χ (q pos ϵ B l) λus O ⟨vs,H2,p,r,L⟩=>#[p.kIn,?_]) c g;show qM (us:=.ref a::us) (vs:=.ref a::vs) F ((v.mono G).pR i) J y p (.cons rfl r) L
theorem fL{pl:Sem Bool}(j:ϒ cc k' X.A)(l:bO X Kx)(h:EV X o σ H λx H1=>∃a C dx fs bc k ps sp,x=.ref a/\H1 a=some (.ins C dx fs)/\fs.lookup m=none/\Ϟ X.prog X.w X.K X.mg X.base bc k C m ps sp/\k<=k'/\(bc=true->cc=true)/\sp [x] H1 Q (Kx σ))(n:eval (.Call (.Attribute o m apos) [] [] pos) X.env=(do
   let g<-eval o X.env
   standAt apos.atName
   let(f,first)<-holding [g] (getMethod g m pl)
   callWith pos f first (backTo pos (ϴ [] X.env)) (backToKw pos (keywordEach [] X.env))):=by rfl):EV X (.Call (.Attribute o m apos) [] [] pos) σ H Q:=by
 intro ϵ s I;show aot (pl:=pl) (χ (h ϵ s I) λu B p=>?_) n;let#[x,H1,c,rx,a,C,dx,fs,bc,k,ps,sp,ex,ea,v,M,y,e,q]:=p;subst ex;cases(show u=Value.ref a from rx);let#[f,fd,i,z,F]:=M.ex;show Vi c ea M.cls i v ?_;show W.callWith_K0 (first:=[.ref a]) c.kIn i.kp (qM (us:=[.ref a]) (vs:=[.ref a]) F ((j.mono y).pR e) z l c (.cons rfl .nil) q)
theorem vW{pl:Sem Bool}{bc:Bool}{k:Nat}{ps:List Str}{sp:Sp}(B:nW X.prog X.w X.K X.mg X.base bc k x m ps sp)(p:ϒ cc k' X.A)(a:bc=true->cc=true)(q:bO X Kx)(h:EA X (e::es) σ H λvs H1=>sp vs H1 Q (Kx σ))(u:k<=k':=by decide)(v:Gl X x:=by rfl)(hd:(x==("__debug__":Str))=false:=by decide)(c:ϴ (e::es) X.env=(false,eval e X.env)::ϴ es X.env:=by rfl)(g:(backTo pos (ϴ es X.env)).any (·.1)=false:=by rfl)(y:eval (.Call (.Attribute (.Name x np) m apos) (e::es) [] pos) X.env=(do
   let n<-eval (.Name x np) X.env
   standAt apos.atName
   let(f,first)<-holding [n] (getMethod n m pl)
   callWith pos f first (backTo pos (ϴ (e::es) X.env)) (backToKw pos (keywordEach [] X.env))):=by rfl):EV X (.Call (.Attribute (.Name x np) m apos) (e::es) [] pos) σ H Q:=by
 let#[C,f,fd,z,i,D,j,l,E,F]:=B.ex;intro ϵ s I;show aot (pl:=pl) (nO I v z ?_ hd) y;show W.method_cls I.kIn j (W.cls_value I.kIn i D (by rfl) ?_);let G:=I.tok (s.toks+1);show ao2 (first:=[]) (h₀:=X.base) I.ok.mod.kin l (χ (h pos ϵ _ G) λus L ⟨vs,H2,o,r,J⟩=>#[o.kIn,?_]) c g;show qM F ((p.mono u).pR a) E q o r J
theorem afF{cc:Bool}{k:Nat}{C g:δ}{fd:aiF}{ps:List Str}{sp:Sp}{ϵ:List (δ×Obj)}{s:μ}{us:List ε}{vs:List V}(M:Mk X.K C g)(F:cG X.prog X.w X.K X.mg X.base (bL X.prog X.w) cc k g fd ps sp)(m:ϒ cc (k+1) X.A)(n:Binds X.K fd ps [])(o:bO X Kx)(I:Inv X ϵ σ H s)(r:Vals vs us)(h:∀y dx,H y=none->H dx=none->dx≠y->sp (.ref y::vs) (upd (upd H dx (.own y)) y (.ins C dx [])) (λv H2=>v=.non/\Q (.ref y) H2) (Kx σ)):π (Ϧ X.prog X.w) X.A (call (.ref C) us) (EP X ϵ σ Q) X.xe s:=by
 let p:H (s.heap.objs.size+1)=none:=I.hok.fresh (anO _);let i:H s.heap.objs.size=none:=I.hok.fresh (Ϭ _);let q:=h _ _ p i (ab7 (apE _));let e:=Inv.made (C:=C) I;let l:Vals (V.ref (s.heap.objs.size+1)::vs) (Value.ref (s.heap.objs.size+1)::us):=.cons rfl r;let x:(Value.ref (s.heap.objs.size+1)::us).length=ps.length:=by rw[<-l.length];show F.len _ _ _ _ q
 let c:=n {s with heap:=(s.heap.push alY).push (aoc C s.heap.objs.size)} (Value.ref (s.heap.objs.size+1)::us) e.kIn (by simpa using x);rw[ag5]at c;show anm (ahO (f:=g) I.kIn M.makes M.init (beq_iff_eq.mp M.fn) (akc (F.run _ X.stack _ _ #[Value.ref (s.heap.objs.size+1)::us,[]] _ _ _ (Kx σ) (m.make C us []) (e.env0.make C us []) c l q) λj s' a=>?_))
 match j,a with
 |.error z,a=>
   let#[b,cls,d,H',rfl,B,w]:=e.flown a;show o ϵ σ H' s' b cls d B w
 |.ok (.ret u),a=>
   let#[v,H',D,E,G,J]:=e.after a;subst G;show#[E,#[V.ref (s.heap.objs.size+1),H',D,rfl,J]]
 |.ok .next,a=>show False.elim a
 |.ok .brk,a=>show False.elim a
 |.ok .cont,a=>show False.elim a
theorem j7{bc:Bool}{k:Nat}{C:δ}{ps:List Str}{sp:Sp}(M:jJ X.prog X.w X.K X.mg X.base bc k x C ps sp)(l:ϒ cc k' X.A)(m:k+1<=k')(a:bc=true->cc=true)(n:bO X Kx)(h:EA X (e::es) σ H λvs H1=>∀y dx,H1 y=none->H1 dx=none->dx≠y->sp (.ref y::vs) (upd (upd H1 dx (.own y)) y (.ins C dx [])) (λv H2=>v=.non/\Q (.ref y) H2) (Kx σ))(o:Gl X x:=by rfl)(hd:(x==("__debug__":Str))=false:=by decide)(c:ϴ (e::es) X.env=(false,eval e X.env)::ϴ es X.env:=by rfl)(g:(backTo pos (ϴ es X.env)).any (·.1)=false:=by rfl):EV X (.Call (.Name x p) (e::es) [] pos) σ H Q:=by
 let#[f,fd,i,u,F]:=M.ex;intro ϵ s I;show akK (nO I o M.at_ ?_ hd);show ao2 (h₀:=X.base) I.ok.mod.kin i.kp (χ (h pos ϵ s I) λus z ⟨vs,H1,j,r,q⟩=>#[j.kIn,?_]) c g;show afF i F ((l.mono m).pR a) u n j r q
end
structure OM(K:ϩ)(C:δ)(m qual:Str)(st:Ϩ):Prop where
 ex:∃f fd,cj K m qual st f fd/\Meth K C m f
structure OI(K:ϩ)(C:δ)(qual:Str)(st:Ϩ):Prop where
 ex:∃f fd,cj K "__init__" qual st f fd/\Mk K C f
structure OB(K:ϩ)(C:δ)(m qual:Str)(st:Ϩ):Prop where
 rd:aoJ K C (.type "type")=true
 ga:air K (.ref C) "__getattribute__"=some (some (.builtin "type.__getattribute__"))
 ex:∃f fd,cj K m qual st f fd/\aoK K (.ref C) (.type "type") m=some (.val (.ref f))
def FD(P:ϯ)(w:ϭ)(K:ϩ)(mg:Str->Option ε)(base:ϫ)(cc:Bool)(k:Nat)(m qual:Str)(st:Ϩ)(ps:List Str)(sp:Sp):Prop:=
 ∀f fd,cj K m qual st f fd->Binds K fd ps []/\cG P w K mg base (bL P w) cc k f fd ps sp
section
variable{P:ϯ}{w:ϭ}{K:ϩ}{mg:Str->Option ε}{base:ϫ}{cc:Bool}{k:Nat}{x m qual:Str}{C:δ}{st:Ϩ}{ps N:List Str}{sp:Sp}
theorem aN(body:∀(f:δ)(a:ε)(A:ϳ)(outer:List Env)(s:μ)(H:Hp)(vs:List V)(Q:VK)(E:XK),ϒ cc k (A.deeper (envOfC qual (ψ st) s.heap.objs.size f a))->sp vs H Q E->
   let X:=gq cc P w K mg base N qual (ψ st) f a A outer s H E;let D:Ends:={nx:=λ_ H'=>Q .non H',rt:=Q};Ρ X (aA st) D (start N vs) H)(S:Ο N ps (ψ st):=by show#[rfl,rfl,rfl,by fin2,rfl,by fin2,by fin2])(e:∀(kV c pm:ε)(an:Option δ)(a ct:ε)(us:List ε),us.length=ps.length->bindArgs (apf m qual (jt st) (aA st) (ψ st) .none kV c pm an a ct) #[us,[]]=pure (ps.zip us):=by walk_at"bb")(len:∀vs H Q E,sp vs H Q E->vs.length=ps.length:=by walk_at"ln"):FD P w K mg base cc (k+1) m qual st ps sp:=
 λf fd F=>#[F.binds e,zf F S len λa A outer s H vs Q E g h=>body f a A outer s H vs Q E g h]
theorem FD.meth(F:FD P w K mg base cc k m qual st ps sp)(c:ϗ K C)(O:OM K C m qual st):Ϟ P w K mg base cc k C m ps sp:=by
 let#[f,fd,h1,h2]:=O.ex;show#[c,f,fd,h2,F f fd h1]
theorem FD.make(F:FD P w K mg base cc k "__init__" qual st ps sp)(a:mg x=some (.ref C))(O:OI K C qual st):jJ P w K mg base cc k x C ps sp:=by
 let#[f,fd,h1,h2]:=O.ex;show#[a,f,fd,h2,F f fd h1]
theorem FD.asked(F:FD P w K mg base cc k m qual st ps sp)(a:mg x=some (.ref C))(O:OB K C m qual st):nW P w K mg base cc k x m ps sp:=by
 let#[f,fd,h1,h2]:=O.ex;let#[c,e]:=F f fd h1;show#[C,f,fd,a,O.rd,h2,O.ga,h1.kp,c,e]
theorem ahR{f:δ}{fd:aiF}(h:mg x=some (.ref C))(F:cj K m qual st f fd)(a:aew K (.ref C) m=some (some (.ref f)))(b:apm K (.ref f)=true):OM K (θ mg x) m qual st:=by
 rw[cA h];show#[f,fd,F,a,b,F.kp]
theorem acs{f:δ}{fd:aiF}(h:mg x=some (.ref C))(F:cj K "__init__" qual st f fd)(a:aew K (.ref C) "__init__"=some (some (.ref f)))(b:apm K (.ref f)=true)(c:apT K C=true)(d:anJ K (.ref C)=true):OI K (θ mg x) qual st:=by
 rw[cA h];show#[f,fd,F,c,a,b,d]
theorem agw{f:δ}{fd:aiF}(h:mg x=some (.ref C))(F:cj K m qual st f fd)(a:aoK K (.ref C) (.type "type") m=some (.val (.ref f)))(b:aoJ K C (.type "type")=true)(c:air K (.ref C) "__getattribute__"=some (some (.builtin "type.__getattribute__"))):OB K (θ mg x) m qual st:=by
 rw[cA h];show#[b,c,f,fd,F,a]
theorem X4(h:mg x=some (.ref C))(a:aom K C aop=true)(b:amH K C=true)(c:aoN K C=true)(d:aew K (.ref C) "__setattr__"=some (some (.builtin "object.__setattr__"))):ϗ K (θ mg x):=by
 rw[cA h];show#[a,b,c,d]
end
theorem d9{X:Cx}{σ:St}{H:Hp}{D:Ends}{elts:List ϧ}{k:Nat}{tp pos:Pos}{value:ϧ}(h:EV X value σ H λv H1=>EG X (.Tuple elts k tp) v σ H1 λσ' H'=>D.nx σ' H')(hs:swapsWithSole [.Tuple elts k tp] value pos.line X.env=pure false:=by rfl)(a:swappedStores [.Tuple elts k tp] value X.env=pure none:=by rfl):SX X (.Assign [.Tuple elts k tp] value pos) D σ H:=by
 intro ϵ s I;show Assign_Tuple (χ (h ϵ s I) λu c e=>?_) hs a;let#[v,H1,f,r1,g]:=e;show χ (g ϵ c u f r1) λ_ l ⟨σ',H',i,j⟩=>#[σ',H',i,j]
structure OT(K:ϩ)(C:δ):Prop where
 ty:∀(H:Hp)(a dx:δ)(fs:List (Str×V)),H a=some (.ins C dx fs)->cU K H (.ref a) (.ref C)
theorem agb{K:ϩ}{mg:Str->Option ε}{x:Str}{C:δ}(h:mg x=some (.ref C))(c:ϗ K (θ mg x))(f:aew K (.ref C) "__class__"=some (some (.builtin "object.__class__")))(g:air K (.builtin "object.__class__") "__get__"=some (some (.builtin "getset_descriptor.__get__")))(i:aoD K (.builtin "object.__class__")=some true)(j:anF K C (.type "object")=some true):OT K (θ mg x):=by
 rw[cA h]at c⊢;show#[λH a dx fs e=>.ins e c f g i j]
section
variable{X:Cx}{σ:St}{H:Hp}{Q:VK}{D:Ends}{pos tpos:Pos}{o i value:ϧ}
end
section
variable{prog:ϯ}{w:ϭ}{A:ϳ}{E:ε->μ->Prop}{s:μ}
end
section
variable{X:Cx}{H:Hp}{Q:VK}{D:Ends}{σ σ':St}{e a b c elt tg:ϧ}{scope:ah9}{pos spos py p p':Pos}{x y:Str}{j:Nat}
theorem Rg{body:List Ϩ}(e:alP (Ϧ X.prog X.w) X.A X.env X.xe)(W:Nat->St->Hp->Prop)(a:Nat)(f:W a σ H)(turn:∀m σ H,W m σ H->ET X c σ H λk H1=>if k=true then ∃N:St->Hp->Prop,(∀σ' H',N σ' H'->∃m',m'<m/\W m' σ' H')/\ Ρ X body {D with nx:=N,ct:=N,bk:=D.nx} σ H1 else D.nx σ H1):SX X (.While c body [] pos) D σ H:=
 λϵ s I=>abG (X:=X) e acF Cv ϵ s σ H D I #[W,#[a,f],turn]
end
section
variable{X:Cx}{σ:St}{H:Hp}{Q:VK}{D:Ends}{pos pos' tpos apos cpos:Pos}{o i e f value:ϧ}{y v:V}{a:δ}{r:Option V}
theorem Hi(h:∀p,H p=none->Q (.ref p) (upd H p (.dK []))):EV X (.Dict [] [] pos) σ H Q:=wj ae8 h
theorem ae1(c:X.A.units+1<cLine)(g:aG H a y r)(q:Q (.bl r.isSome) H):OP X (adC .In) y (.ref a) H Q:=by
 show bh (r:=λx z H Q=>∃a o,z=.ref a/\aG H a x o/\Q (.bl o.isSome) H) ?_ #[a,r,rfl,g,q];intro ϵ s σ H x z v u Q I rx e h;let#[a,o,rfl,g,q]:=h;cases(show u=Value.ref a from e);show agi c I g rx λs' f=>#[.bl o.isSome,H,f,rfl,q]
theorem V9(c:X.A.units+1<cLine)(g:aG H a y r)(q:Q (.bl (!r.isSome)) H):OP X (adC .NotIn) y (.ref a) H Q:=by
 show bh (r:=λx z H Q=>∃a o,z=.ref a/\aG H a x o/\Q (.bl (!o.isSome)) H) ?_ #[a,r,rfl,g,q];intro ϵ s σ H x z v u Q I rx e h;let#[a,o,rfl,g,q]:=h;cases(show u=Value.ref a from e);show Ze c I g rx λs' f=>#[.bl (!o.isSome),H,f,rfl,q]
theorem wN(f:X.A.units+1<cLine)(h:EV X value σ H λv H1=>EV X o σ H1 λx H2=>EV X i σ H2 λy e=>∃a c,x=.ref a/\iz e a y v c/\D.nx σ c)(hs:amu value (some (.Subscript o i pos')) pos.line X.env=pure false:=by rfl):SX X (.Assign [.Subscript o i pos'] value pos) D σ H:=by
 intro ϵ s I;show wpAny_Assign_Subscript (χ (h ϵ s I) λr j ⟨v,H1,l,m,n⟩=>χ (n ϵ j l) λu p ⟨x,H2,q,rx,z⟩=>χ (z ϵ p q) λG J B=>?_) hs;let#[y,e,C,ry,a,c,ex,g,E]:=B;subst ex;obtain rfl:u=Value.ref a:=rx;show ag0 f C g ry m λL F=>#[σ,c,F,E]
theorem Zi(i:X.A.units+1<cLine)(m:M1 X o "get" apos e cpos)(h:EV X o σ H λx H1=>∃a,x=.ref a/\lC H1 a/\EV X e σ H1 λy H2=>∃o,aG H2 a y o/\Q (o.getD .non) H2):EV X (.Call (.Attribute o "get" apos) [e] [] cpos) σ H Q:=by
 intro ϵ s I;show wpAny_Call_method m.base m.few m.line F.plainAttrs_dict F.slot_dict_get F.type_dict_get (χ (h ϵ s I) λu j l=>?_);let#[x,H1,f,rx,a,ex,d,n]:=l;subst ex;obtain rfl:u=Value.ref a:=rx;let#[p,q,_]:=Qn f d;show#[p,q,?_];rw[m.trees];show Calls.callWith_builtin rfl (Calls.evalArgs_plain (Calls.spliced_cons (χ (n ϵ j f) λC D ⟨y,H2,v,ry,E,g,z⟩=>Calls.spliced_nil ?_)));show agV i v g ry λG J B c=>#[_,H2,B,c,z]
theorem yx(h:EV X o σ H λx H1=>∃a,x=.ref a/\lC H1 a/\EV X e σ H1 λy H2=>∃Ϸ k v,H2 a=some (.dK Ϸ)/\y=kV k/\au Ϸ k=some v/\Q v (upd H2 a (.dK (fX Ϸ k))))(m:M1 X o "pop" apos e cpos:=by constructor<;>rfl):EV X (.Call (.Attribute o "pop" apos) [e] [] cpos) σ H Q:=by
 intro ϵ s I;show wpAny_Call_method m.base m.few m.line F.plainAttrs_dict F.slot_dict_pop F.type_dict_pop (χ (h ϵ s I) λu g i=>?_);let#[x,H1,f,rx,a,ex,d,j]:=i;subst ex;obtain rfl:u=Value.ref a:=rx;let#[n,p,_]:=Qn f d;show#[n,p,?_];rw[m.trees];show Calls.callWith_builtin rfl (Calls.evalArgs_plain (Calls.spliced_cons (χ (j ϵ g f) λD E ⟨y,H2,q,ry,Ϸ,k,v,ea,z,l,B⟩=>Calls.spliced_nil ?_)));subst z;show ahI q ea ry l (.inl rfl) λG J C c=>#[v,_,C,c,B]
theorem aac{Ϸ:List (Key×V)}(e:H a=some (.dK Ϸ))(q:∀p,H p=none->Q (.ref p) (upd H p (.dK Ϸ))):CL X (.type "dict") [.ref a] H Q:=by
 show cO (r:=λxs H Q=>∃a Ϸ,xs=[V.ref a]/\H a=some (.dK Ϸ)/\∀p,H p=none->Q (.ref p) (upd H p (.dK Ϸ))) ?_ #[a,Ϸ,rfl,e,q];intro ϵ s σ H xs us Q I r h;let#[a,Ϸ,rfl,e,q]:=h;let#[u,rfl,c]:=vals1 r;cases(show u=Value.ref a from c);show ajc I (.inl e) λp s' f g=>#[.ref p,_,g,rfl,q p f]
theorem TY{Ϸ:List (Key×V)}(e:H a=some (.dK Ϸ))(q:Q (.int Ϸ.length) H):CL X (.builtin "len") [.ref a] H Q:=cO aeC #[a,Ϸ,rfl,e,q]
end
end _L
namespace _M
open PySem
abbrev SGs:Str:=Ϫ "-0123456789abcdefghijklmnopqrstuvwxyz"
abbrev tY:Str:=Ϫ "abcdefghijklmnopqrstuvwxyz0123456789-"
def SG:List Nat:=SGs.cps.toList
def TS:List Nat:=tY.cps.toList
theorem CT:∀c∈SG,c∈TS:=by fin2
def tb:List Nat->List Nat->Bool
 |[],[]=>false
 |[],_::_=>true
 |_::_,[]=>false
 |x::xs,y::ys=>if x=y then tb xs ys else decide (SG.idxOf x<SG.idxOf y)
end _M
namespace _L
open PySem PySem.Spec PyProof.Rows
theorem YJ{α:Type}{xs:List α}{f:α->V}{i:Int}(d:α)(c:0<=i)(h1:i<xs.length):Ω (xs.map f) i=some (f (xs.getD i.toNat d)):=by
 let e:i=((i.toNat:Nat):Int):=()
 let a:i.toNat<xs.length:=()
 let h2:(xs.map f)[i.toNat]?=some (f (xs.getD i.toNat d)):=by
  rw[abh,aab a];simp[a]
 have:=aY h2;rw[<-e]at this;show this
theorem fK{x y:Str}(h:x.cps.toList=y.cps.toList):x=y:=by
 let#[#[a]]:=x;let#[#[b]]:=y;simp only at h;rw[h]
theorem bU(x y:Str):(x++y).cps.toList=x.cps.toList++y.cps.toList:=by
 show(x.cps++y.cps).toList=_;simp
theorem len_list(z:Str):z.length=z.cps.toList.length:=by simp[aoF]
theorem len_app(x y:Str):(x++y).length=x.length+y.length:=by rw[len_list,bU,abu,len_list,len_list]
theorem Dc(z:Str)(lo hi:Option Int):(ϐ z lo hi).length<=z.length:=by
 unfold ϐ aoF;simp;omega
theorem J5(z:Str)(lo hi:Option Int):(ϐ z lo hi).cps.toList=(z.cps.toList.drop (_H.Α z.length 0 lo)).take (_H.Α z.length z.length hi-_H.Α z.length 0 lo):=by
 unfold ϐ;simp
theorem ym(z:Str)(k:Nat):(ϐ z (some (k:Int)) none).cps.toList=z.cps.toList.drop k:=by
 rw[J5,_H.pO,_H.tu];let a:=len_list z;by_cases h:k<=z.length
 .rw[am7 h,aiK (by rw[adH];omega)]
 .let h':z.length<=k:=()
  rw[aoW h',aoY (),aoY ()];simp
theorem Jl(z:Str)(k:Nat):(ϐ z none (some (k:Int))).cps.toList=z.cps.toList.take k:=by
 rw[J5,_H.pO,_H.tu,amm,aoe];let a:=len_list z;by_cases h:k<=z.length
 .rw[am7 h]
 .let h':z.length<=k:=()
  rw[aoW h',aiK (),aiK ()]
theorem VR(z:Str)(c:Nat):Txt.startswith z #[#v[c]]=decide (z.cps.toList[0]?=some c):=by
 rw[ahB,decide_eq_true_eq, <-StrLaws.subAt_one];unfold Txt.startswith
 rw[aaW,decide_eq_true_eq]
end _L
namespace _V
open PySem _L PyProof.Rows _M NumText
def scalar:V->Bool
 |.non|.int _|.str _=>true
 |_=>false
def pq:V->Bool
 |.int _=>true
 |_=>false
def isNum:V->Bool
 |.int i=>decide (-1000000000000000000<=i/\i<=1000000000000000000)
 |_=>false
def dM(z g:Str):Bool:=z.cps.toList.all λc=>decide (c∈g.cps.toList)
def gM:V->Bool
 |.str z=>decide (z.length<=20)&&dM z tY
 |_=>false
def isVal(kind:Str):V->Bool
 |.non=>true
 |v=>if kind="number" then isNum v else gM v
def before:V->V->Bool
 |_,.non=>false
 |.non,_=>true
 |.int i,.int j=>decide (i<j)
 |.str x,.str y=>decide (x.cps.toList<y.cps.toList)
 |_,_=>false
def short:V->Prop
 |.str z=>z.length<=4000
 |_=>True
inductive Q0 (vs:List V) (H:Hp) (Q:VK) (E:XK):Prop
 |mk (v):vs=[v]->scalar v=true->Q (.bl (pq v)) H->Q0 vs H Q E
inductive J1 (vs:List V) (H:Hp) (Q:VK) (E:XK):Prop
 |mk (z g:Str):vs=[.str z,.str g]->z.length<=4000->(∀H',ζ H H'->Q (.bl (dM z g)) H')->J1 vs H Q E
inductive Kg (vs:List V) (H:Hp) (Q:VK) (E:XK):Prop
 |mk (v):vs=[v]->scalar v=true->Q (.bl (isNum v)) H->Kg vs H Q E
inductive WQ (vs:List V) (H:Hp) (Q:VK) (E:XK):Prop
 |mk (v):vs=[v]->scalar v=true->short v->(∀H',ζ H H'->Q (.bl (gM v)) H')->WQ vs H Q E
inductive PQ (vs:List V) (H:Hp) (Q:VK) (E:XK):Prop
 |mk (k:Str) (v:V):vs=[.str k,v]->scalar v=true->short v->(∀H',ζ H H'->Q (.bl (isVal k v)) H')->PQ vs H Q E
inductive We (vs:List V) (H:Hp) (Q:VK) (E:XK):Prop
 |mk (x y:V):vs=[x,y]->(x=.non\/y=.non\/(∃i j,x=.int i/\y=.int j)\/∃i j,x=.str i/\y=.str j)->Q (.bl (before x y)) H->We vs H Q E
def uD(c:Nat):Bool:=decide (48<=c/\c<=57)
abbrev zG:Str:=Ϫ "0123456789"
theorem aaf:∀c:Nat,c∈zG.cps.toList↔(48<=c/\c<=57):=by
 intro c;let e:zG.cps.toList=[48,49,50,51,52,53,54,55,56,57]:=by fin2
 rw[e];simp only[aaG,afT,or_false];omega
theorem aj2(z:Str):dM z zG=z.cps.toList.all uD:=by
 unfold dM uD
 congr 1
 funext c;rw[decide_eq_decide];show aaf c
def cZ(l:List Nat):Bool:=decide (l=[48])||(decide (l≠[])&&(decide (l[0]? ≠some 48)&&l.all uD))
def pZ(l:List Nat):Bool:=if l[0]?=some 45 then decide (l.drop 1≠[48])&&cZ (l.drop 1)else cZ l
def my(l:List Nat):Int:=if l[0]?=some 45 then -((digitsVal (l.drop 1):Nat):Int)else((digitsVal l:Nat):Int)
theorem IW{l:List Nat}(h:cZ l=true):AllDigits l/\l≠[]:=by
 unfold cZ at h;rw[anW,aaW,aaW,decide_eq_true_eq,decide_eq_true_eq]at h;obtain h|⟨h1,_,h2⟩:=h
 .subst h;show#[λc a=>by simp at a;omega,by simp]
 .show#[λc a=>of_decide_eq_true (acN.mp h2 c a),h1]
def gm(l:List Nat):Option Int:=if pZ l=true/\l.length<=20/\ -1000000000000000000<=my l/\my l<=1000000000000000000 then some (my l)else none
def iD(z:Str):Option Str:=if z.cps.toList[0]?=some 39/\gM (.str (ϐ z (some 1) none))=true then some (ϐ z (some 1) none)else none
def tE:Option Int->Option V
 |some i=>some (.int i)
 |none=>none
def vV:Option Str->Option V
 |some i=>some (.str i)
 |none=>none
def dw(kind word:Str):Option V:=if word="?" then some .non else if kind="number" then tE (gm word.cps.toList)else vV (iD word)
def wordOf:V->Str
 |.non=>"?"
 |.str z=>Ϫ "'"++z
 |.int i=>Ϫ (toString i)
 |_=>""
inductive Th (vs:List V) (H:Hp) (Q:VK) (E:XK):Prop
 |mk (v):vs=[v]->scalar v=true->short v->(∀i,v=.int i->i.natAbs.log2<1920)->Q (.str (wordOf v)) H->Th vs H Q E
inductive Xq (vs:List V) (H:Hp) (Q:VK) (E:XK):Prop
 |mk (z):vs=[.str z]->z.length<=4000->(∀H',ζ H H'->Q (.bl (cZ z.cps.toList)) H')->Xq vs H Q E
def lQ(c:ε)(r:Option V)(H:Hp)(Q:VK)(E:XK):=∀H',ζ H H'->match r with
 |some v=>Q v H'
 |none=>E c (none,true) H'
inductive yf (c:ε) (vs:List V) (H:Hp) (Q:VK) (E:XK):Prop
 |mk (z):vs=[.str z]->z.length<=4000->lQ c (tE (gm z.cps.toList)) H Q E->yf c vs H Q E
inductive uZ (c:ε) (vs:List V) (H:Hp) (Q:VK) (E:XK):Prop
 |mk (z):vs=[.str z]->z.length<=4000->lQ c (vV (iD z)) H Q E->uZ c vs H Q E
inductive vp (c:ε) (vs:List V) (H:Hp) (Q:VK) (E:XK):Prop
 |mk (k) (z):vs=[.str k,.str z]->z.length<=4000->lQ c (dw k z) H Q E->vp c vs H Q E
def gA(n:Nat)(z:Str):Prop:=z.length<=n/\∀c∈z.cps.toList,c<1114112
theorem gA.lay{n:Nat}{z:Str}(h:gA n z):(PyData.str z).canLay0=true:=by
 show PyData.strOk z=true;unfold PyData.strOk;rw[Array.all_eq_true_iff_forall_mem];intro c a;show decide_eq_true (h.2 c (by simpa using a))
theorem gA.sg{n:Nat}{z:Str}(a:z.length<=n)(h:∀c∈z.cps.toList,c∈SG):gA n z:=#[a,λc e=>by
 have:∀c∈SG,c<1114112:=by fin2
 show this c (h c e)]
def dV:V->anq
 |.bl b=>.bool b
 |.int i=>.int i
 |.str x=>.str x
 |_=>.none
def j5:V->Bool
 |.non|.int _|.str _|.bl _=>true
 |_=>false
theorem ajT{K:PySem.W.Frag}{H:Hp}{v:V}(h:j5 v=true):RD K H v (dV v):=by
 cases v with
 |non=>show .non
 |bl b=>show .bl b
 |int i=>show .int i
 |str x=>show .str x
 |_=>cases h
theorem wz{K:PySem.W.Frag}{H:Hp}:∀{xs:List V},xs.all j5=true->di K H xs (xs.map dV)
 |[],_=>.nil
 |x::xs,h=>by
  rw[aoR,aaW]at h;show .cons (ajT h.1) (wz h.2)
theorem nq{i:Int}(h:i.natAbs<10^60):i.natAbs.log2<1920:=by
 by_cases a:i.natAbs=0
 .rw[a];decide
 .rw[Nat.log2_lt a];show abX h ?_;fin2
theorem nF(m:Nat):(Ϫ (toString ((m:Nat):Int))).cps.toList=(aqg 10 m).map Char.toNat:=PySem.W.KIN.signs_num m
theorem qy(m:Nat):∀c∈(Ϫ (toString ((m:Nat):Int))).cps.toList,48<=c/\c<=57:=by
 rw[nF];intro c a;let#[d,hd,rfl]:=ada.mp a;have:=Nat.isDigit_of_mem_toDigits (b:=10) (n:=m) (by decide) (by decide) hd;simp only[Char.isDigit,aaW,decide_eq_true_eq]at this;let h1:(48:UInt32).toNat<=d.val.toNat:=this.1;let h2:d.val.toNat<=(57:UInt32).toNat:=this.2;show#[h1,h2]
theorem nJ{m k:Nat}(a:1<=k)(h:m<10^k):(Ϫ (toString ((m:Nat):Int))).length<=k:=by
 rw[_L.len_list,nF,aaz];show PyProof.Rows.digits10_le a h
theorem wI(m:Nat)(h:0<m):Ϫ (toString (-((m:Nat):Int)))=Ϫ "-"++Ϫ (toString ((m:Nat):Int)):=by
 obtain⟨k,rfl⟩:∃k,m=k+1:=#[m-1,()];let e:(-((k+1:Nat):Int))=Int.negSucc k:=rfl;rw[e];apply fK;rw[bU];rw[PyProof.Rows.signs_ofString,PyProof.Rows.signs_ofString,PyProof.Rows.signs_ofString];show(("-"++Nat.repr (k+1)).toList.map Char.toNat)="-".toList.map Char.toNat++(Nat.repr (k+1)).toList.map Char.toNat;rw[String.toList_append,apY]
end _V
namespace _W
open PySem _L PyProof.Rows _M NumText
def yU(ns:List Int)(k:Int):Int:=if 0<ns.length then ns.getD (k % (ns.length:Int)).toNat 0 else 0
def bF(ns:List Int)(k m:Int):Int:=(yU ns k % 1000003+31*k*k+1)*48271 % 999983*7919 % 524287 % m
theorem gG(ns:List Int)(k:Int){m:Int}(h:0<m):0<=bF ns k m:=ani _ ()
theorem gB(ns:List Int)(k:Int){m:Int}(h:0<m):bF ns k m<m:=ak9 _ h
inductive WY (K:PySem.W.Frag) (vs:List V) (H:Hp) (Q:VK) (E:XK):Prop
 |mk (a:δ) (ns:List Int) (k m:Int):vs=[.ref a,.int k,.int m]->η K H a (ns.map V.int)->ns.length<=63->0<=k->k<=100000->0<m->Q (.int (bF ns k m)) H->WY K vs H Q E
end _W
namespace _V
open PySem _L PyProof.Rows _M NumText
inductive ς {α β:Type} (R:α->β->Prop):List α->List β->Prop
 |nil:ς R [] []
 |cons {a:α} {b:β} {l:List α} {m:List β}:R a b->ς R l m->ς R (a::l) (b::m)
section
variable{α β:Type}{R S:α->β->Prop}{l l':List α}{m m':List β}
theorem ς.len(h:ς R l m):l.length=m.length:=by
 induction h with
 |nil=>rfl
 |cons _ _ a=>rw[acS,acS,a]
theorem ς.imp(f:∀a b,R a b->S a b)(h:ς R l m):ς S l m:=by
 induction h with
 |nil=>show .nil
 |cons r _ c=>show .cons (f _ _ r) c
theorem ς.get(h:ς R l m){i:Nat}{a:α}(e:l[i]?=some a):∃b,m[i]?=some b/\R a b:=by
 induction h generalizing i with
 |nil=>cases e
 |cons r _ c=>
  cases i with
  |zero=>cases e;show#[_,rfl,r]
  |succ i=>show c e
theorem ς.get'(h:ς R l m){i:Nat}{b:β}(e:m[i]?=some b):∃a,l[i]?=some a/\R a b:=by
 induction h generalizing i with
 |nil=>cases e
 |cons r _ c=>
  cases i with
  |zero=>cases e;show#[_,rfl,r]
  |succ i=>show c e
theorem ς.app(h:ς R l m)(g:ς R l' m'):ς R (l++l') (m++m'):=by
 induction h with
 |nil=>show g
 |cons r _ a=>show .cons r a
theorem ς.drop(n:Nat)(h:ς R l m):ς R (l.drop n) (m.drop n):=by
 induction h generalizing n with
 |nil=>cases n<;>show .nil
 |cons r t a=>
  cases n with
  |zero=>show .cons r t
  |succ n=>show a n
theorem ς.take(n:Nat)(h:ς R l m):ς R (l.take n) (m.take n):=by
 induction h generalizing n with
 |nil=>cases n<;>show .nil
 |cons r _ a=>
  cases n with
  |zero=>show .nil
  |succ n=>show .cons r (a n)
end
abbrev ξ:=Str×Str
def yN(H:Hp)(v:V)(c:ξ):=∃t,v=.ref t/\H t=some (.tup [.str c.1,.str c.2])
theorem yN.same{H H':Hp}{v:V}{c:ξ}(h:yN H v c)(s:ζ H H'):yN H' v c:=by
 let#[t,e,q]:=h;show#[t,e,s _ _ q]
def ϝ(H:Hp)(a:δ)(cs:List ξ):=∃vs:List V,H a=some (.lst vs)/\ς (yN H) vs cs
theorem ϝ.same{H H':Hp}{a:δ}{cs:List ξ}(h:ϝ H a cs)(s:ζ H H'):ϝ H' a cs:=by
 let#[vs,e,q]:=h;show#[vs,s _ _ e,q.imp λa b r=>r.same s]
abbrev Rq:Str:=Ϫ "abcdefghijklmnopqrstuvwxyz"
def isName(z:Str):Bool:=decide (1<=z.length/\z.length<=8)&&dM z Rq
def pA(k:Str):Bool:=decide (k="number"\/k="text")
def ώ(cs:List ξ):Bool:=decide (1<=cs.length/\cs.length<=6)&&(cs.all λc=>isName c.1&&pA c.2)&&decide ((cs.map Prod.fst).Nodup)
inductive Qc (vs:List V) (H:Hp) (Q:VK) (E:XK):Prop
 |mk (z):vs=[.str z]->z.length<=4000->(∀H',ζ H H'->Q (.bl (isName z)) H')->Qc vs H Q E
def Eg(cs:List ξ):=∀c∈cs,c.1.length<=4000/\c.2.length<=4000
inductive wQ (c:ε) (vs:List V) (H:Hp) (Q:VK) (E:XK):Prop
 |mk (a) (cs):vs=[.ref a]->ϝ H a cs->cs.length<=4000->Eg cs->(∀H',ζ H H'->if ώ cs=true then Q .non H' else E c (none,true) H')->wQ c vs H Q E
def fH:List ξ->Str->Nat->V
 |[],_,_=>.non
 |c::r,z,i=>if c.1=z then .int i else fH r z (i+1)
inductive S7 (vs:List V) (H:Hp) (Q:VK) (E:XK):Prop
 |mk (a) (cs) (z):vs=[.ref a,.str z]->ϝ H a cs->(∀H',ζ H H'->Q (fH cs z 0) H')->S7 vs H Q E
def Py:V->Bool
 |.int i=>decide (0<=i/\i<=1000000000)
 |_=>false
inductive QD (vs:List V) (H:Hp) (Q:VK) (E:XK):Prop
 |mk (v):vs=[v]->scalar v=true->Q (.bl (Py v)) H->QD vs H Q E
def lZ:List ξ->List V->Bool
 |c::cs,v::vs=>isVal c.2 v&&lZ cs vs
 |_,_=>true
def xK(cs:List ξ)(v:V)(xs:List V):Bool:=Py v&&decide (xs.length=cs.length)&&lZ cs xs
inductive Wo (vs:List V) (H:Hp) (Q:VK) (E:XK):Prop
 |mk (a) (cs) (v) (b) (xs):vs=[.ref a,v,.ref b]->ϝ H a cs->cs.length<=4000->scalar v=true->H b=some (.lst xs)->(∀x∈xs,scalar x=true/\short x)->(∀H',ζ H H'->Q (.bl (xK cs v xs)) H')->Wo vs H Q E
theorem Cq:∀{xs:List V},(∀x∈xs,j5 x=true/\∀z,x=.str z->gA 4000 z)->(PyData.list (xs.map dV)).canLay0=true
 |[],_=>rfl
 |x::xs,h=>by
  let a:=Cq (xs:=xs) λd hd=>h d (by simp[hd])
  let h1:(dV x).canLay0=true:=by
   let#[hs,hz]:=h x (by simp);cases x with
   |str z=>show(hz z rfl).lay
   |_=>rfl
  show((dV x).canLay0&&PyData.canLayAll0 (xs.map dV))=true;rw[h1];show a
theorem BR:∀xs:List V,PyData.depthAll (xs.map dV)<=1
 |[]=>by show(0:Nat)<=1;omega
 |x::xs=>by
  let a:=BR xs;let h1:(dV x).depth<=1:=by cases x<;>(show(_:Nat)<=1;show aob rfl)
  show max (dV x).depth (PyData.depthAll (xs.map dV))<=1;omega
theorem acL(xs:List V)(k:Nat):bH xs none (some (k:Int))=xs.take k:=by
 unfold bH;rw[_H.tu,_H.pO];show((xs.drop 0).take (min k xs.length-0))=_;rw[amm,aoe,List.take_eq_take_iff];omega
theorem Ca(xs:List V)(k:Nat):bH xs (some (k:Int)) none=xs.drop k:=by
 unfold bH;rw[_H.tu,_H.pO];by_cases h:k<=xs.length
 .rw[show min k xs.length=k from am7 h];show aiK (by rw[adH];show Ϭ _)
 .rw[show min k xs.length=xs.length from aoW (),an7 (Ϭ _),an7 ()];simp
end _V
namespace _V
open PySem _L PyProof.Rows _M NumText
def bw:List Nat->Int
 |[]=>0
 |c::r=>((c:Int)+137*bw r) % 9973
theorem sI:∀l,0<=bw l/\bw l<9973
 |[]=>by decide
 |c::r=>#[ani _ (by decide),ak9 _ (by decide)]
theorem ae0(t p y m:Int):(t+p*(y % m)) % m=(t+p*y) % m:=by
 rw[ao5,ao6,apq, <-ao6, <-ao5]
theorem acn(a b r m:Int):(a % m+b % m*r) % m=(a+b*r) % m:=by
 rw[ao5,ao6,apq,apq, <-ao6, <-ao5]
theorem YX{t p v:Int}{c:Nat}{r:List Nat}(h:(t+p*bw (c::r)) % 9973=v):((t+(c:Int)*p) % 9973+p*137 % 9973*bw r) % 9973=v:=by
 rw[acn, <-h];show _=(t+p*(((c:Int)+137*bw r) % 9973)) % 9973;rw[ae0]
 congr 1
 rw[Int.mul_add,Int.mul_comm (c:Int) p,Int.mul_assoc,Int.add_assoc]
def du(n:Int):Str:=Txt.zfill (Ϫ (toString n)) 4
def CV(l:List Nat):Nat:=l.foldl (λa c=>a*10+(c-48)) 0
def Gh(n:Nat):Bool:=decide ((du n).length=4)&&((du n).cps.toList.all uD&&decide (CV (du n).cps.toList=n))
theorem Mj(l:List Nat):∀k:Nat,CV (aml k 48++l)=CV l
 |0=>rfl
 |k+1=>by
  rw[List.replicate_succ];show Mj l k
theorem aa6{n:Nat}(h:n<10000):(du n).cps.toList=aml (4-(Ϫ (toString (n:Int))).length) 48++(Ϫ (toString (n:Int))).cps.toList:=by
 let hd:=qy n;let g:=nJ (m:=n) (k:=4) (by decide) h;let f:(Ϫ (toString (n:Int))).cps.toList≠[]:=by
  rw[nF];simp[aph]
 unfold du Txt.zfill;generalize Ϫ (toString (n:Int))=x at hd g f⊢;let j:=_L.len_list x;split
 .rename_i l;have:4-x.length=0:=()
  rw[this];rfl
 .unfold zfilled;let#[c,r,e]:=aow f;let i:x.cps[0]?=some c:=by rw[<-aog,e];rfl
  let o:=hd c (by rw[e];simp);let p:((4:Int).toNat-x.length)=4-x.length:=rfl;rw[i];split
  .rename_i a;cases a;omega
  .rename_i a;cases a;omega
  .unfold Builtin.Str.padded;simp
theorem ahd(n:Nat)(h:n<9973):Gh n=true:=by
 let hd:=qy n;let f:=nJ (m:=n) (k:=4) (by decide) ();let e:=aa6 (n:=n) ();let g:=_L.len_list (Ϫ (toString (n:Int)));unfold Gh;rw[_L.len_list,e,Mj,abu,ao1,decide_eq_true (),al4,aaW,acN,decide_eq_true_eq];show#[λc a=>?_,?_]
 .obtain z|z:=afH.mp a
  .have :=List.eq_of_mem_replicate z;subst this;rfl
  .show decide_eq_true (hd c z)
 .rw[nF];show PySem.W.KIN.val_back n
inductive W9 (vs:List V) (H:Hp) (Q:VK) (E:XK):Prop
 |mk (z):vs=[.str z]->z.length<=100000->(∀c∈z.cps.toList,c<1114112)->Q (.int (bw z.cps.toList)) H->W9 vs H Q E
inductive Jg (vs:List V) (H:Hp) (Q:VK) (E:XK):Prop
 |mk (z):vs=[.str z]->z.length<=100000->(∀c∈z.cps.toList,c<1114112)->Q (.str (du (bw z.cps.toList))) H->Jg vs H Q E
theorem Qa:∀(r:List Nat)(a:Nat),a*10^r.length<=r.foldl (λe c=>e*10+(c-48)) a
 |[],a=>by simp
 |c::r,a=>by
  let f:=Qa r (a*10+(c-48));rw[alN,acS,Nat.pow_succ];show aes ?_ f;let h1:a*(10^r.length*10)=a*10*10^r.length:=by rw[Nat.mul_comm (10^r.length) 10,Nat.mul_assoc]
  rw[h1];show ape _ (akV _ _)
theorem WT{l:List Nat}(h:cZ l=true)(h1:l≠[48]):10^(l.length-1)<=digitsVal l:=by
 let#[hd,a]:=IW h;cases l with
 |nil=>show absurd rfl a
 |cons c r=>
  let g:=hd c adV;let f:c≠48:=by
   intro e;subst e;unfold cZ at h;rw[decide_eq_false h1,aoS]at h;simp at h
  have:=Qa r (0*10+(c-48));let i:1*10^r.length<=(0*10+(c-48))*10^r.length:=ape _ ();unfold digitsVal;rw[alN];show 10^r.length<=_;omega
theorem HF{l:List Nat}{m:Int}{k:Nat}(h:cZ l=true)(f:((digitsVal l:Nat):Int)<=m)(g:m<((10^k:Nat):Int))(h1:1<=k):l.length<=k:=by
 by_cases e:l=[48]
 .subst e;show h1
 .let h2:=WT h e;let c:10^(l.length-1)<10^k:=()
  let i:=(Nat.pow_lt_pow_iff_right (a:=10) (by decide)).mp c;omega
theorem NK{l:List Nat}(h:cZ l=true):digitsVal l=0↔l=[48]:=by
 constructor
 .intro e;show Classical.byContradiction λn=>?_
  let h2:=WT h n;let a:0<10^(l.length-1):=Nat.pow_pos (by decide);omega
 .intro e;subst e;rfl
def fD(l:List Nat)(m:Int):Option Int:=if cZ l=true/\((digitsVal l:Nat):Int)<=m then some ((digitsVal l:Nat):Int)else none
def zK:Option Int->V
 |none=>.non
 |some i=>.int i
inductive RZ (vs:List V) (H:Hp) (Q:VK) (E:XK):Prop
 |mk (z:Str) (m:Int) (k:Nat):vs=[.str z,.int m]->z.length<=4000->0<=m->m.natAbs<10^60->(Ϫ (toString m)).length=k->m<((10^k:Nat):Int)->1<=k->k<=600->(∀H',ζ H H'->Q (zK (fD z.cps.toList m)) H')->RZ vs H Q E
theorem Wb{l:List Nat}(a:¬l[0]?=some 45):gm l=fD l 1000000000000000000:=by
 unfold gm fD pZ my;rw[if_neg a,if_neg a];by_cases h:cZ l=true/\((digitsVal l:Nat):Int)<=1000000000000000000
 .have :=HF (k:=19) h.1 h.2 (by decide) (by decide);rw[if_pos h,if_pos #[h.1,(),(),h.2]]
 .rw[if_neg h,if_neg λx=>h #[x.1,x.2.2.2]]
theorem aba{l:List Nat}(a:l[0]?=some 45):gm l=match fD (l.drop 1) 1000000000000000000 with
  |some i=>if i=0 then none else some (-i)
  |none=>none:=by
 unfold gm fD pZ my;rw[if_pos a,if_pos a];let g:l.length=(l.drop 1).length+1:=by
  cases l with
  |nil=>simp at a
  |cons c r=>simp
 rw[g];generalize l.drop 1=r;by_cases h:cZ r=true/\((digitsVal r:Nat):Int)<=1000000000000000000
 .let h2:=HF (k:=19) h.1 h.2 (by decide) (by decide);let f:=NK h.1;rw[if_pos h];show _=if((digitsVal r:Nat):Int)=0 then none else some (-((digitsVal r:Nat):Int));by_cases e:r=[48]
  .let hz:((digitsVal r:Nat):Int)=0:=by have:=f.mpr e;omega
   rw[if_pos hz];show if_neg λx=>?_
   rw[aaW,decide_eq_true_eq]at x;show x.1.1 e
  .let hz:¬((digitsVal r:Nat):Int)=0:=λz=>e (f.mp ())
   rw[if_neg hz];show if_pos #[by rw[decide_eq_true e,h.1];rfl,(),(),()]
 .rw[if_neg h];show if_neg λx=>?_
  rw[aaW]at x;show h #[x.1.2,()]
end _V
namespace _V
open PySem _L PyProof.Rows _M NumText
theorem Rw{n:Int}(h:n.natAbs<10^60):(Ϫ (toString n)).length<=70:=by
 by_cases a:0<=n
 .let#[m,rfl]:=adi a;have:=nJ (m:=m) (k:=60) (by decide) (by simpa using h);omega
 .let e:n= -((n.natAbs:Nat):Int):=()
  rw[e,wI n.natAbs (),len_app];have:=nJ (m:=n.natAbs) (k:=60) (by decide) h;let c:("-":Str).length=1:=by fin2
  omega
end _V
namespace _V
open PySem _L PyProof.Rows _M NumText
abbrev Ord:=Str×Bool
def uq(H:Hp)(v:V)(o:Ord):=∃t,v=.ref t/\H t=some (.tup [.str o.1,.bl o.2])
theorem uq.same{H H':Hp}{v:V}{o:Ord}(h:uq H v o)(s:ζ H H'):uq H' v o:=by
 let#[t,e,q]:=h;show#[t,e,s _ _ q]
def bu(H:Hp)(a:δ)(os:List Ord):=∃vs:List V,H a=some (.lst vs)/\ς (uq H) vs os
theorem bu.same{H H':Hp}{a:δ}{os:List Ord}(h:bu H a os)(s:ζ H H'):bu H' a os:=by
 let#[vs,e,q]:=h;show#[vs,s _ _ e,q.imp λa b r=>r.same s]
def ji{α β:Type}(f:α->Option β):List α->Option (List β)
 |[]=>some []
 |x::r=>match f x,ji f r with
  |some y,some ys=>some (y::ys)
  |_,_=>none
theorem Ma{α β:Type}{f:α->Option β}:∀{l:List α}{x:α},x∈l->f x=none->ji f l=none
 |y::r,x,h,e=>by
  unfold ji;obtain z|z:=aaG.mp h
  .subst z;rw[e]
  .rw[Ma z e];cases f y<;>rfl
 |[],x,h,_=>by simp at h
theorem VL{α β:Type}{f:α->Option β}:∀{l:List α}{m:List β},l.length=m.length->(∀(i:Nat) x y,l[i]?=some x->m[i]?=some y->f x=some y)->ji f l=some m
 |[],[],_,_=>rfl
 |x::l,y::m,a,h=>by
  let h1:=h 0 x y rfl rfl;let h2:=VL (l:=l) (m:=m) (by simpa using a) λi x y e1 c=>h (i+1) x y (by simpa using e1) (by simpa using c)
  unfold ji;rw[h1,h2]
 |[],_::_,a,_=>by simp at a
 |_::_,[],a,_=>by simp at a
theorem Jy{α β:Type}{f:α->Option β}{R:V->β->Prop}:∀{ws:List α}{xs:List V},xs.length=ws.length->(∀(i:Nat) v,xs[i]?=some v->∃z,ws[i]?=some z/\∃b,f z=some b/\R v b)->∃bs,ji f ws=some bs/\ς R xs bs
 |[],[],_,_=>#[[],rfl,.nil]
 |w::ws,x::xs,a,h=>by
  let#[z,e1,b,g,r]:=h 0 x rfl;let c:w=z:=by simpa using e1
  subst c;let#[bs,j,t]:=Jy (ws:=ws) (xs:=xs) (by simpa using a) λi v e=>by simpa using h (i+1) v (by simpa using e)
  show#[b::bs,?_,.cons r t];unfold ji;rw[g,j]
 |[],_::_,a,_=>by simp at a
 |_::_,[],a,_=>by simp at a
def gP(cs:List ξ)(z:Str):Option Ord:=
 if(z.cps.toList[0]?=some 43\/z.cps.toList[0]?=some 45)/\fH cs (ϐ z (some 1) none) 0≠.non then some (ϐ z (some 1) none,decide (z.cps.toList[0]?=some 43))else none
def fB(cs:List ξ)(z:Str):Option (List Ord):=
 if z="" then some []else if 4<(ϊ 32 z).length then none else match ji (gP cs) (ϊ 32 z)with
  |none=>none
  |some os=>if(os.map Prod.fst).Nodup then some os else none
inductive vH (c:ε) (vs:List V) (H:Hp) (Q:VK) (E:XK):Prop
 |mk (a) (cs) (z):vs=[.ref a,.str z]->ϝ H a cs->z.length<=4000->(∀H',ζ H H'->gP cs z=none->E c (none,true) H')->(∀p o H',ζ H H'->gP cs z=some o->H' p=some (.tup [.str o.1,.bl o.2])->Q (.ref p) H')->vH c vs H Q E
inductive vX (c:ε) (vs:List V) (H:Hp) (Q:VK) (E:XK):Prop
 |mk (a) (cs) (z):vs=[.ref a,.str z]->ϝ H a cs->z.length<=4000->(∀H',ζ H H'->fB cs z=none->E c (none,true) H')->(∀p os H',ζ H H'->fB cs z=some os->H p=none->bu H' p os->Q (.ref p) H')->vX c vs H Q E
def ϖ(o:Ord):Str:=(if o.2=true then Ϫ "+" else Ϫ "-")++o.1
def bf(os:List Ord):Str:=ae5 " " (os.map ϖ)
inductive Gw (vs:List V) (H:Hp) (Q:VK) (E:XK):Prop
 |mk (a) (os):vs=[.ref a]->bu H a os->os.length<=4000->(∀o∈os,o.1.length<=1000)->(∀H',ζ H H'->Q (.str (bf os)) H')->Gw vs H Q E
theorem QJ(c:Nat)(z:Str):(ϊ c z).length<=z.length+1:=by
 let h1:=Hl c z.cps.toList;unfold ϊ;rw[aaz];let h2:z.cps.toList.length=z.length:=rfl;omega
theorem Y4{c:Nat}{z y:Str}(h:y∈ϊ c z):y.length<=z.length:=by
 let i:∀(l:List Nat) p,p∈cutAt c l->p.length<=l.length:=by
  intro l;induction l with
  |nil=>intro p f;have:p=[]:=by simpa [cutAt]using f
        subst this;simp
  |cons x r g=>
   intro p f;unfold cutAt at f;split at f
   .obtain z|z:=aaG.mp f
    .subst z;simp
    .have :=g p z;simp;omega
   .split at f
    .have :p=[x]:=by simpa using f
     subst this;simp
    .rename_i a t e;rw[e]at g;obtain z|z:=aaG.mp f
     .subst z;have:=g a (by simp);simp;omega
     .have :=g p (by simp[z]);simp;omega
 unfold ϊ at h;let#[l,j,rfl]:=ada.mp h;have:=i _ l j;let h2:z.cps.toList.length=z.length:=rfl;show l.toArray.size<=_;simp;omega
end _V
namespace _V
open PySem _L PyProof.Rows _M NumText
def Υ:List ξ->Str->Nat
 |[],_=>0
 |c::r,z=>if c.1=z then 0 else Υ r z+1
theorem qd:∀{cs:List ξ}{z:Str},(∃c∈cs,c.1=z)->Υ cs z<cs.length
 |[],_,h=>by let#[c,a,_]:=h;simp at a
 |d::r,z,h=>by
  unfold Υ;split
  .simp
  .rename_i hd;have:=qd (cs:=r) (z:=z) (by
    let#[c,a,e]:=h;obtain x|x:=aaG.mp a
    .subst x;show absurd e hd
    .show#[c,x,e])
   simp;omega
theorem qP:∀{cs:List ξ}{z:Str}(i:Nat),(∃c∈cs,c.1=z)->fH cs z i=.int ((i+ Υ cs z:Nat):Int)
 |[],_,_,h=>by let#[c,a,_]:=h;simp at a
 |d::r,z,i,h=>by
  unfold fH Υ;split
  .rfl
  .rename_i hd;rw[qP (i+1) (by
    let#[c,a,e]:=h;obtain x|x:=aaG.mp a
    .subst x;show absurd e hd
    .show#[c,x,e])]
   congr 2
   omega
theorem Dr:∀{cs:List ξ}{z:Str},(∃c∈cs,c.1=z)->∃c,cs[Υ cs z]?=some c/\c.1=z
 |[],_,h=>by let#[c,a,_]:=h;simp at a
 |d::r,z,h=>by
  unfold Υ;split
  .rename_i e;show#[d,rfl,e]
  .rename_i hd;let#[c,h1,h2]:=Dr (cs:=r) (z:=z) (by
    let#[c,a,e]:=h;obtain x|x:=aaG.mp a
    .subst x;show absurd e hd
    .show#[c,x,e])
   show#[c,by simpa using h1,h2]
def aR(cs:List ξ)(xs:List V)(z:Str):V:=(xs[Υ cs z]?).getD .non
def ao(cs:List ξ)(os:List Ord)(xs:List V):List V:=os.map λo=>aR cs xs o.1
theorem ahS(cs:List ξ)(os:List Ord)(xs:List V):(ao cs os xs).length=os.length:=aaz ..
def aB(cs:List ξ)(os:List Ord):=∀o∈os,∃c∈cs,c.1=o.1
inductive IV (vs:List V) (H:Hp) (Q:VK) (E:XK):Prop
 |mk (a) (b) (n) (c) (cs) (os) (xs):vs=[.ref a,.ref b,.int n,.ref c]->ϝ H a cs->bu H b os->H c=some (.lst xs)->xs.length=cs.length->cs.length<=4000->os.length<=4000->aB cs os->(∀p l H',ζ H H'->H p=none->H l=none->H' l=some (.lst (ao cs os xs))->H' p=some (.tup [.ref l,.int n])->Q (.ref p) H')->IV vs H Q E
def aH(x y:V):Prop:=x=.non\/y=.non\/(∃i j,x=.int i/\y=.int j)\/∃i j,x=.str i/\y=.str j
theorem vG{x y:V}(a:scalar x=true)(c:scalar y=true):sE x y=true:=by
 cases x<;>cases y<;>first|rfl|(show absurd a aaA)|(show absurd c aaA)
def aa:List Ord->List V->List V->Int->Int->Bool
 |o::os,x::xs,y::ys,n,k=>if x=y then aa os xs ys n k else decide (before x y=o.2)
 |_,_,_,n,k=>decide (n<k)
def lX(H:Hp)(p:δ)(xs:List V)(n:Int):=∃l,H p=some (.tup [.ref l,.int n])/\H l=some (.lst xs)
theorem lX.same{H H':Hp}{p:δ}{xs:List V}{n:Int}(h:lX H p xs n)(s:ζ H H'):lX H' p xs n:=by
 let#[l,h1,h2]:=h;show#[l,s _ _ h1,s _ _ h2]
inductive Tv (vs:List V) (H:Hp) (Q:VK) (E:XK):Prop
 |mk (b) (p) (q) (os) (xs) (ys) (n) (k):vs=[.ref b,.ref p,.ref q]->bu H b os->lX H p xs n->lX H q ys k->xs.length=os.length->ys.length=os.length->(∀(i:Nat) x y,xs[i]?=some x->ys[i]?=some y->scalar x=true/\scalar y=true/\aH x y)->(∀H',ζ H H'->Q (.bl (aa os xs ys n k)) H')->Tv vs H Q E
theorem zR:∀{i:Nat}{os:List Ord}{xs ys:List V}{n k:Int},xs.length=os.length->ys.length=os.length->i<=os.length->(∀j x y,j<i->xs[j]?=some x->ys[j]?=some y->x=y)->aa os xs ys n k=aa (os.drop i) (xs.drop i) (ys.drop i) n k
 |0,_,_,_,_,_,_,_,_,_=>rfl
 |i+1,[],[],[],_,_,_,_,hi,_=>by simp at hi
 |i+1,o::os,x::xs,y::ys,n,k,h1,h2,hi,h=>by
  show(if x=y then aa os xs ys n k else decide (before x y=o.2))=_;rw[if_pos (h 0 x y () rfl rfl)];show zR (by simpa using h1) (by simpa using h2) (by simpa using hi) λj x y c e1 a=>h (j+1) x y () (by simpa using e1) (by simpa using a)
 |i+1,[],_::_,_,_,_,h1,_,_,_=>by simp at h1
 |i+1,[],[],_::_,_,_,_,h2,_,_=>by simp at h2
 |i+1,_::_,[],_,_,_,h1,_,_,_=>by simp at h1
 |i+1,_::_,_::_,[],_,_,_,h2,_,_=>by simp at h2
theorem tZ{α:Type}{l:List α}{i:Nat}{x:α}(h:l[i]?=some x):l.drop i=x::l.drop (i+1):=by
 let#[hi,e]:=aap.mp h;rw[<-e];show afy hi
theorem Jx{i:Nat}{os:List Ord}{xs ys:List V}{n k:Int}{o:Ord}{x y:V}(h1:xs.length=os.length)(h2:ys.length=os.length)(a:os[i]?=some o)(c:xs[i]?=some x)(e:ys[i]?=some y)(h:∀j x y,j<i->xs[j]?=some x->ys[j]?=some y->x=y)(f:¬x=y):aa os xs ys n k=decide (before x y=o.2):=by
 let hi:=(aap.mp a).1;rw[zR h1 h2 () h,tZ a,tZ c,tZ e];show(if x=y then _ else _)=_;rw[if_neg f]
theorem O1{os:List Ord}{xs ys:List V}{n k:Int}(h1:xs.length=os.length)(h2:ys.length=os.length)(h:∀j x y,j<os.length->xs[j]?=some x->ys[j]?=some y->x=y):aa os xs ys n k=decide (n<k):=by
 rw[zR h1 h2 (Ϭ _) h,anM];rfl
end _V
namespace _V
open PySem _L PyProof.Rows _M NumText
theorem zY(m:Nat):cZ (Ϫ (toString ((m:Nat):Int))).cps.toList=true/\digitsVal (Ϫ (toString ((m:Nat):Int))).cps.toList=m:=by
 let hd:AllDigits (Ϫ (toString ((m:Nat):Int))).cps.toList:=qy m;let g:digitsVal (Ϫ (toString ((m:Nat):Int))).cps.toList=m:=by rw[nF];show PySem.W.KIN.val_back m
 show#[?_,g];let j:(Ϫ (toString ((m:Nat):Int))).cps.toList≠[]:=by rw[nF];simp[aph]
 let a:=toDigits_all _ hd;rw[g]at a;let e:=nF m;generalize(Ϫ (toString ((m:Nat):Int))).cps.toList=l at *;let f:l.length=(aqg 10 m).length:=by rw[e,aaz]
 unfold cZ;rw[anW,aaW,aaW,decide_eq_true_eq,decide_eq_true_eq,decide_eq_true_eq];cases l with
 |nil=>show absurd rfl j
 |cons c r=>
  by_cases i:c=48
  .subst i;left;rw[List.dropWhile_cons,if_pos (by decide)]at a;cases q:r.dropWhile (· ==48)with
   |nil=>
    rw[q]at a;rw[a]at f;have:r=[]:=by cases r with
     |nil=>rfl
     |cons _ _=>simp at f
    rw[this]
   |cons d t=>
    rw[q]at a;rw[a,aaz, <-q]at f;have:=(List.dropWhile_sublist (p:=λx:Nat=>x==48) (l:=r)).length_le;rw[acS]at f;omega
  .right;show#[by simp,by simpa using i,?_];rw[acN];show λx n=>decide_eq_true (hd x n)
theorem ahF{i:Int}(h1: -1000000000000000000<=i)(h2:i<=1000000000000000000):gm (Ϫ (toString i)).cps.toList=some i:=by
 by_cases f:0<=i
 .let#[m,rfl]:=adi f;let#[a,b]:=zY m;let hd:=qy m;let g:¬(Ϫ (toString ((m:Nat):Int))).cps.toList[0]?=some 45:=λe=>by
   have:=hd 45 (aaq e);omega
  let e:=Wb g;unfold fD at e;rw[a,b,if_pos #[rfl,()]]at e;show e
 .obtain⟨m,j,rfl⟩:∃m:Nat,0<m/\i= -((m:Nat):Int):=#[i.natAbs,(),()];let#[a,b]:=zY m;let c:=nJ (m:=m) (k:=19) (by decide) ();let e:(Ϫ (toString (-((m:Nat):Int)))).cps.toList=45::(Ϫ (toString ((m:Nat):Int))).cps.toList:=by
   rw[wI m j,bU];have:("-":Str).cps.toList=[45]:=by fin2
   rw[this];rfl
  let hz:=NK a;rw[b]at hz;rw[_L.len_list]at c;rw[e];generalize(Ϫ (toString ((m:Nat):Int))).cps.toList=l at a b hz c⊢;let n:l≠[48]:=λq=>by have:=hz.mpr q;omega
  let o:pZ (45::l)=true:=by
   unfold pZ;rw[if_pos (show(45::l)[0]?=some 45 from rfl)];show(decide (l≠[48])&&cZ l)=true;rw[a,decide_eq_true n];rfl
  let p:my (45::l)= -((m:Nat):Int):=by
   unfold my;rw[if_pos (show(45::l)[0]?=some 45 from rfl)];show -((digitsVal l:Nat):Int)=_;rw[b]
  unfold gm;rw[o,p,if_pos #[rfl,by rw[acS];omega,h1,h2]]
theorem yw(i:Int):∀c∈(Ϫ (toString i)).cps.toList,c=45\/(48<=c/\c<=57):=by
 intro c a;by_cases e:0<=i
 .let#[m,rfl]:=adi e;show .inr (qy m c a)
 .obtain⟨m,f,rfl⟩:∃m:Nat,0<m/\i= -((m:Nat):Int):=#[i.natAbs,(),()];rw[wI m f,bU]at a;obtain h|h:=afH.mp a
  .left;have:("-":Str).cps.toList=[45]:=by fin2
   rw[this]at h;simpa using h
  .show .inr (qy m c h)
theorem yJ{i:Int}{k:Nat}(h:i.natAbs<10^k)(a:1<=k:=by decide):(Ϫ (toString i)).length<=k+1:=by
 by_cases c:0<=i
 .let#[m,rfl]:=adi c;have:=nJ (m:=m) (k:=k) a (by simpa using h);omega
 .obtain⟨m,f,rfl⟩:∃m:Nat,0<m/\i= -((m:Nat):Int):=#[i.natAbs,(),()];have:=nJ (m:=m) (k:=k) a (by simpa using h);let e:("-":Str).length=1:=by fin2
  rw[wI m f,len_app,e];omega
theorem Ke:("?":Str).cps.toList=[63]:=by fin2
theorem v7:("'":Str).cps.toList=[39]:=by fin2
theorem adY{i:Int}(h1: -1000000000000000000<=i)(h2:i<=1000000000000000000):dw "number" (wordOf (.int i))=some (.int i):=by
 let a:¬wordOf (.int i)="?":=λe=>by
  let h:63∈(Ϫ (toString i)).cps.toList:=by
   let c:Ϫ (toString i)=Ϫ "?":=e;rw[c,Ke];simp
  have:=yw i 63 h;omega
 unfold dw;rw[if_neg a,if_pos rfl];show tE (gm (Ϫ (toString i)).cps.toList)=_;rw[ahF h1 h2];rfl
theorem acv{z:Str}(a:z.length<=20)(h:∀c∈z.cps.toList,c∈SG):gM (.str z)=true:=by
 show(decide (z.length<=20)&&dM z tY)=true;rw[decide_eq_true a,al4];unfold dM;rw[acN];show λc e=>decide_eq_true (CT c (h c e))
theorem ahz(z:Str):ϐ (Ϫ "'"++z) (some 1) none=z:=by
 apply fK;have:=ym (Ϫ "'"++z) 1;rw[show((1:Nat):Int)=1 from rfl]at this;rw[this,bU,v7];rfl
theorem aie:¬(("text":Str)="number"):=by fin2
theorem ahm{z:Str}(f:z.length<=20)(h:∀c∈z.cps.toList,c∈SG):dw "text" (wordOf (.str z))=some (.str z):=by
 let e:wordOf (.str z)=Ϫ "'"++z:=rfl;let a:(Ϫ "'"++z).cps.toList[0]?=some 39:=by rw[bU,v7];rfl
 let g:¬Ϫ "'"++z="?":=λe=>by
  let i:Ϫ "'"++z=Ϫ "?":=e;rw[i,Ke]at a;simp at a
 rw[e];unfold dw;rw[if_neg g,if_neg aie];unfold iD;rw[ahz,if_pos #[a,acv f h]];rfl
theorem xG{ps:List Str}(h:ps≠[])(a:∀p∈ps,32∉p.cps.toList):ϊ 32 (ae5 " " ps)=ps:=by
 unfold ϊ;let e:(ae5 " " ps).cps.toList=eQ 32 (ps.map λp=>p.cps.toList):=qw 32 ps;rw[e,uJ (by simpa using h) λp c=>?_,agr]
 .have :((λl:List Nat=>(#[l.toArray]:Str))∘λp:Str=>p.cps.toList)=id:=by
   funext p;rfl
  rw[this,aoT]
 .let#[q,f,rfl]:=ada.mp c;show a q f
theorem abr(z:Str):ae5 " " (ϊ 32 z)=z:=by
 apply fK;let e:(ae5 " " (ϊ 32 z)).cps.toList=eQ 32 ((ϊ 32 z).map λp=>p.cps.toList):=qw 32 _;rw[e];unfold ϊ;rw[agr];have:((λp:Str=>p.cps.toList)∘λl:List Nat=>(#[l.toArray]:Str))=id:=by
  funext p;rfl
 rw[this,aoT,Nm]
end _V
namespace _L
open PySem PySem.Spec PyProof.Rows PySem.W
section
variable{X:Cx}{σ:St}{H:Hp}{Q:VK}{a:δ}
theorem ajr{h:ϫ}{d b:δ}{vs:List ε}{out:Array ε}(a:b≠d){o:Obj}(e:h.get? b=some o):(sortedHeap h d vs out).get? b=some o:=by
 unfold sortedHeap;rw[acg _ _ (Ne.symm a)];show ϲ _ (ϲ _ ((acg _ _ (Ne.symm a)).trans e))
theorem aej{h:ϫ}{d:δ}{us vs:List ε}{out:Array ε}{n:Nat}(e:h.get? d=some (seqObj "list" us.toArray n)):∃c,(sortedHeap h d vs out).get? d=some (seqObj "list" out c):=by
 unfold sortedHeap;let h1:=get?_update_seq e (λ_=>(#v[]:Array ε));let h2:=ϲ (seqObj "tuple" vs.toArray 0) h1;let a:=ϲ (seqObj "list" #v[] 0) h2;show#[_,get?_update_seq a (λ_=>out)]
theorem agX{vs:List ε}{ns:List Int}(h:IntsAre vs ns):Vals (ns.map V.int) vs:=by
 induction h with
 |nil=>show .nil
 |cons n t _ a=>show .cons #[t,rfl] a
theorem ac1{ks:List Int}:∀{vs:List ε},vs.length=ks.length->(∀(j:Nat) v,vs[j]?=some v->∃i t,ks[j]?=some i/\v=Value.int i t)->IntsAre vs ks:=by
 induction ks with
 |nil=>intro vs h _;have:vs=[]:=by simpa using h
       subst this;show .nil
 |cons k ks a=>
  intro vs h g;cases vs with
  |nil=>simp at h
  |cons v vs=>
   let#[i,t,e,rfl]:=g 0 v rfl;have:k=i:=by simpa using e
   subst this;show .cons k t (a (by simpa using h) λj v e=>by simpa using g (j+1) v (by simpa using e))
theorem aic{prog:ϯ}{w:ϭ}{A:ϳ}{E:ε->μ->Prop}{s:μ}{ty:String}{q d:δ}{n:Nat}{j:Nat->ε->Prop}{Ok:ϫ->Prop}{R:List ε->μ->Prop}(l:KdlSrc prog w ty q d n j Ok)(z:A.handled=none)(x:Ok s.heap)(hz:n<=ϰ)(g:∀(h2:ϫ)(k:Nat)(xs:Array ε),s.heap.objs.size<h2.objs.size->(∀b o,s.heap.get? b=some o->h2.get? b=some o)->ItemsOf j xs n->R xs.toList {s with heap:=h2,toks:=k}):π (Ϧ prog w) A (collect (.ref q)) R E s:=by
 let#[B,C]:=l.there _ x
 let' N:δ:=s.heap.objs.size
 let' Rz:Result->μ->Prop:=λr s2=>∃(h2:ϫ)(k:Nat)(xs:Array ε)(c:Nat),r=.ok (.ret (.ref N))/\s2={s with heap:=h2,toks:=k}/\(∀b o,s.heap.get? b=some o->h2.get? b=some o)/\h2.get? N=some {cls:=.type "list",dict:=none,data:=.seq xs c,slots:= #v[]}/\ItemsOf j xs n
 let fin:∀s2:μ,Rz (.ok (.ret (.ref N))) s2->π (Ϧ prog w) A (do
   let o<-load N
   match o.data with
   |.seq xs _=>pure xs.toList
   |_=>unsupported "internal:collect") R E s2:=by
  rintro s2 ⟨h2,k,xs,c, -,rfl,p,i,u⟩
  show ν (wpAny_load i (Ϯ (g h2 k xs (abV i) p u)))
 let D:(s.heap.push {cls:=.type "list",data:=.seq ([]:List ε).toArray}).get? N=some {cls:=.type "list",data:=.seq #v[]}:=abi _ rfl;let v:Ok (s.heap.push {cls:=.type "list",data:=.seq ([]:List ε).toArray}):=l.keep _ _ x λ_ _ _ e=>ϲ _ e
 let run:=kdl_extend (A:=A) (s:={s with heap:=s.heap.push {cls:=.type "list",data:=.seq ([]:List ε).toArray}}) (R:=Rz) l z v N (amF B) (amF C) (.ref N) 0 D
  (λh2 k xs c p i u=>#[h2,k,xs,c,rfl,rfl,λb o e=>p b o (ab7 (abV e)) (ϲ _ e),i,u]) hz
 unfold collect;show ν (wpAny_runValue (ak4 entry_proto_collect' ?_));rw[Around.under_plainId F.plain_proto_collect];show ν (m:=newList []) (ajY (Ϯ #[plainId_quiet F.plain_list_iadd _,ak4 entry_list_iadd' ?_]));rw[Around.under_plainId F.plain_list_iadd];show adk (t:=Builtin.List.listExtendWith (.ref N) (.ref q) (.ref N)) run (λr s2 a=>?_) λe s2 a=>?_
 .cases r with
  |done f=>
   let#[h2,k,xs,c,e,rest]:=id a;cases e;show fin s2 a
  |again c=>
   show#[a.1,akc a.2 λI G y=>?_];let#[h2,k,xs,c2,e,rest]:=id y;subst e;show fin G y
 .let#[_,_,_,_,H,_]:=a;cases H
theorem BX{Ϸ:List (Key×V)}{ks:List Int}(e:H a=some (.dK Ϸ))(G:Ϸ.map (·.1)=ks.map Sum.inl)(D:ks.length<64)(g:∀(p:δ)(f:List Int),H p=none->f.Perm ks->f.Pairwise (· <= ·)->Q (.ref p) (upd H p (.lst (f.map V.int))))(U:X.calm=true:=by rfl):CL X (.builtin "sorted") [.ref a] H Q:=by
 show cO (r:=λxs H Q=>∃(a:δ)(Ϸ:List (Key×V))(ks:List Int),xs=[.ref a]/\H a=some (.dK Ϸ)/\Ϸ.map (·.1)=ks.map Sum.inl/\ks.length<64/\∀(p:δ)(f:List Int),H p=none->f.Perm ks->f.Pairwise (· <= ·)->Q (.ref p) (upd H p (.lst (f.map V.int)))) ?_ #[a,Ϸ,ks,rfl,e,G,D,g];intro ϵ s σ H xs us Q I r h;let#[a,Ϸ,ks,rfl,e,G,D,g]:=h;let#[u,rfl,W]:=vals1 r;cases W;let hsz:=ϱ;let#[z,lo,vs,R,hd]:=Ea I.hok e;let#[ep,Y]:=hd.dictAt;let Z:Ϸ.length=ks.length:=by have:=congrArg aoO G;simpa using this
 let hvl:=R.length;let L:vs.map (·.1)=ks.map Sum.inl:=by rw[<-R.keys];show G
 show Calls.call_function_entry kind_sorted plain_sorted entry_sorted (args_sorted1 _) ?_;unfold alA.«sorted»;show ν (m:=checkCount "sorted" 1 1 _) (Ϯ ?_);show ν (aic (A:=X.A.in1) (kdl_dict lo) (I.ok.hd U) Y () λh' tk l M q n=>?_);let hal:l.toList.length=vs.length:=by rw[akt];show n.1
 let hI:IntsAre l.toList ks:=by
  show ac1 () λj v ev=>?_
  let#[k,x,e1,e2]:=n.2 j v (by rw[<-aog];show ev);let E:(vs.map (·.1))[j]?=some k:=by rw[abh,e1];rfl
  rw[L,abh]at E;cases e4:ks[j]? with
  |none=>rw[e4]at E;cases E
  |some i=>
   rw[e4]at E;let J:Sum.inl i=k:=by simpa using E
   obtain⟨i',t,O,rfl⟩|⟨y,t,O,_⟩:=jb (k:=k) (v:=v) e2
   .rw[O]at J;cases J;show#[i,t,rfl,rfl]
   .rw[O]at J;cases J
 show ν (wpAny_newList ?_ ());let B:(h'.push (seqObj "list" l.toList.toArray 0)).get? h'.objs.size=some (seqObj "list" l.toList.toArray 0):=abi _ rfl;let C:s.heap.objs.size<=h'.objs.size:=aod M;show ν (afm (wpAny_call_entry slot_list_sort #[_,B,rfl] entry_list_sort (list_sort_tree B hI () λout F a1 S a3=>#[_,rfl,?_]) (args_list_sort _)));show Ϯ #[_,rfl,?_];let#[c,P]:=aej (vs:=l.toList) (out:=out) B;show#[.ref h'.objs.size,_,I.laid (t':=tk) (o:=.lst (F.map V.int)) (λb o T=>ajr (ab7 (abX (abV T) C)) (ϲ _ (q _ _ T))) C #[by rw[aaz,S.length_eq];omega,out.toList,c,agX a1,by simpa using P],rfl,g _ F (I.hok.fresh C) S a3]
theorem Ie{y v:V}(f:X.A.units+1<cLine)(g:aG H a y (some v))(q:Q v H):IX X (.ref a) y H Q:=by
 show yu (r:=λx y H Q=>∃a v,x=.ref a/\aG H a y (some v)/\Q v H) ?_ #[a,v,rfl,g,q];intro value c ϵ s σ H x y w u Q I rx ry h hs;let#[a,v,rfl,g,q]:=h;obtain rfl:w=Value.ref a:=rx;let ty:=ajG I g;let run:π (Ϧ X.prog X.w) X.A (subscripted c false (Value.ref a) u) (λr e=>π (Ϧ X.prog X.w) X.A (letTemporaryGo value (Value.ref a) r>>=λ_=>pure r) (EP X ϵ σ Q) X.xe e) X.xe s:=by
  rw[hs];show wpAny_operating (ajI f I g ry λr e i j=>ν (wpAny_letTemporaryGo (Ϯ #[v,H,i,j,q])))
 unfold subscriptTail;show ν ?_;rw[getitemInPython_of_ne ty.not_modules];show ν (wpAny_specialOf ty F.slot_dict_getitem.lookup ?_)
 first
  |show Ϯ (ν run)
  |show ν (Ϯ (ν run))
  |show ν run
end
end _L
namespace _V
open PySem _L PyProof.Rows _M
section
variable{α β:Type}
def Η(m:List (Int×α))(i:Int):Option α:=(m.find? λp=>decide (p.1=i)).map (·.2)
def aZ(m:List (Int×α))(i:Int)(x:α):List (Int×α):=if(m.any λp=>decide (p.1=i))=true then m.map (λp=>if p.1=i then(p.1,x)else p)else m++[(i,x)]
def cD(m:List (Int×α))(i:Int):List (Int×α):=m.filter λp=>decide (p.1≠i)
abbrev PR(R:V->α->Prop)(kv:Key×V)(p:Int×α):Prop:=kv.1=Sum.inl p.1/\R kv.2 p.2
def DictAt(R:V->α->Prop)(H:Hp)(a:δ)(m:List (Int×α)):=∃Ϸ,H a=some (.dK Ϸ)/\ς (PR R) Ϸ m
theorem Jr(i j:Int):decide ((Sum.inl i:Key)=Sum.inl j)=decide (i=j):=by
 by_cases h:i=j
 .subst h;simp
 .have :¬(Sum.inl i:Key)=Sum.inl j:=λe=>h (Sum.inl.inj e)
  rw[decide_eq_false this,decide_eq_false h]
theorem Cp{R:V->α->Prop}{Ϸ:List (Key×V)}{m:List (Int×α)}(h:ς (PR R) Ϸ m):Ϸ.map (·.1)=(m.map (·.1)).map Sum.inl:=by
 induction h with
 |nil=>rfl
 |cons h _ a=>rw[adF,adF,adF,a,h.1]
theorem iw{R:V->α->Prop}{Ϸ:List (Key×V)}{m:List (Int×α)}(h:ς (PR R) Ϸ m)(i:Int):(au Ϸ (Sum.inl i)=none/\ Η m i=none)\/∃v x,au Ϸ (Sum.inl i)=some v/\ Η m i=some x/\R v x:=by
 induction h with
 |nil=>show .inl #[rfl,rfl]
 | @cons f p l m h _ c=>
   let#[k,v]:=f;let#[j,x]:=p;let#[g,n]:=h;let a:k=Sum.inl j:=g;subst a;unfold au Η at c⊢;rw[adZ,adZ];show((match decide ((Sum.inl j:Key)=Sum.inl i)with|true=>_|false=>_:Option (Key×V)).map _=_/\_)\/_;rw[Jr];by_cases e:j=i
   .rw[decide_eq_true e];show .inr #[v,x,rfl,rfl,n]
   .rw[decide_eq_false e];show c
theorem Yk{R:V->α->Prop}{Ϸ:List (Key×V)}{m:List (Int×α)}(h:ς (PR R) Ϸ m)(i:Int):(Ϸ.any λa=>decide (a.1=Sum.inl i))=m.any λp=>decide (p.1=i):=by
 induction h with
 |nil=>rfl
 | @cons a p l m h _ c=>rw[alZ,alZ,c,h.1,Jr]
theorem vh{R:V->α->Prop}{Ϸ:List (Key×V)}{m:List (Int×α)}(h:ς (PR R) Ϸ m)(i:Int){v:V}{x:α}(r:R v x):ς (PR R) (putK Ϸ (Sum.inl i) v) (aZ m i x):=by
 unfold putK aZ;rw[Yk h i];by_cases e:(m.any λp=>decide (p.1=i))=true
 .rw[if_pos e,if_pos e];clear e;induction h with
  |nil=>show .nil
  | @cons c p l m h _ f=>
    show .cons ?_ f;let#[a,g]:=h;show PR R (if c.1=Sum.inl i then(c.1,v)else c) (if p.1=i then(p.1,x)else p);by_cases e:p.1=i
    .rw[if_pos e,if_pos (by rw[a,e])];show#[a,r]
    .rw[if_neg e,if_neg (by rw[a];show λz=>e (Sum.inl.inj z))];show#[a,g]
 .rw[if_neg e,if_neg e];show ς.app h (.cons #[rfl,r] .nil)
theorem wk{R:V->α->Prop}{Ϸ:List (Key×V)}{m:List (Int×α)}(h:ς (PR R) Ϸ m)(i:Int):ς (PR R) (fX Ϸ (Sum.inl i)) (cD m i):=by
 unfold fX cD;induction h with
 |nil=>show .nil
 | @cons g p l m h _ c=>
   let#[a,f]:=h;rw[anK,anK];by_cases e:p.1=i
   .rw[if_neg (by rw[a,e];simp),if_neg (by rw[e];simp)];show c
   .rw[if_pos (by rw[a];simp[e]),if_pos (by simp[e])];show .cons #[a,f] c
theorem dU{R S:V->α->Prop}{Ϸ:List (Key×V)}{m:List (Int×α)}(h:ς (PR R) Ϸ m)(f:∀v x,R v x->S v x):ς (PR S) Ϸ m:=ς.imp (λ_ _ h=>#[h.1,f _ _ h.2]) h
theorem qF{m:List (Int×α)}{i j:Int}{x:α}:Η (aZ m i x) j=if j=i then some x else Η m j:=by
 unfold Η aZ;induction m with
 |nil=>
  rw[List.any_nil,if_neg (by decide),ao7,adZ];by_cases e:j=i
  .subst e;simp
  .let f:¬i=j:=λz=>e z.symm
   simp[e,f]
 |cons p r a=>
  let#[k,y]:=p;rw[alZ];by_cases c:k=i
  .subst c;simp only[decide_true,aqd,if_true,adF,adZ];by_cases e:j=k
   .subst e;simp
   .let f:¬k=j:=λz=>e z.symm
    simp only[e,f,decide_false,if_false];clear a
    congr 1
    induction r with
    |nil=>rfl
    |cons q r g=>
     let#[k2,n]:=q;rw[adF,adZ,adZ,g];by_cases h2:k2=k
     .subst h2;simp[f]
     .simp[h2]
  .simp only[c,decide_false,aoS];by_cases l:(r.any λp=>decide (p.1=i))=true
   .rw[if_pos l]at a⊢;rw[adF,if_neg c,adZ,adZ];by_cases e:k=j
    .subst e;simp[c]
    .simp only[e,decide_false];show a
   .rw[if_neg l]at a⊢;rw[apK,adZ,adZ];by_cases e:k=j
    .subst e;simp[c]
    .simp only[e,decide_false];show a
theorem tM{m:List (Int×α)}{i j:Int}:Η (cD m i) j=if j=i then none else Η m j:=by
 unfold Η cD;induction m with
 |nil=>simp
 |cons p r c=>
  let#[k,y]:=p;rw[anK];by_cases a:k=i
  .subst a;simp only[ne_eq,not_true,decide_false,anV,if_false,adZ];rw[c];by_cases e:j=k
   .subst e;simp
   .let f:¬k=j:=λz=>e z.symm
    simp[e,f]
  .simp only[ne_eq,a,not_false_eq_true,decide_true,if_true,adZ];by_cases e:k=j
   .subst e;simp[a]
   .simp only[e,decide_false];show c
theorem Wx{m:List (Int×α)}{i:Int}{x:α}(h:(m.map (·.1)).Nodup):((aZ m i x).map (·.1)).Nodup:=by
 unfold aZ;by_cases c:(m.any λp=>decide (p.1=i))=true
 .rw[if_pos c];have:(m.map λp=>if p.1=i then(p.1,x)else p).map (·.1)=m.map (·.1):=by
   rw[agr];show anQ λp _=>?_
   show(if p.1=i then(p.1,x)else p).1=p.1;split <;>rfl
  rw[this];show h
 .rw[if_neg c,apY];show apu.mpr #[h,by simp,λa h1 b h2 e=>c ?_];let f:b=i:=by simpa using h2
  subst e;subst f;let#[p,g,e]:=ada.mp h1;show anN.mpr #[p,g,decide_eq_true e]
theorem Ve{m:List (Int×α)}{i:Int}(h:(m.map (·.1)).Nodup):((cD m i).map (·.1)).Nodup:=h.sublist (List.Sublist.map _ aou)
theorem Yl{m:List (Int×α)}{i:Int}{x:α}(h:Η m i=some x):(i,x)∈m:=by
 unfold Η at h;cases e:m.find? λp=>decide (p.1=i)with
 |none=>rw[e]at h;cases h
 |some p=>
  rw[e]at h;let h1:=List.find?_some e;let h2:=List.mem_of_find?_eq_some e;let#[k,y]:=p;let e1:k=i:=of_decide_eq_true h1;let a:y=x:=by simpa using h
  subst e1;subst a;show h2
theorem yI{m:List (Int×α)}{i:Int}:Η m i=none↔i∉m.map (·.1):=by
 unfold Η;rw[Option.map_eq_none_iff,List.find?_eq_none];constructor
 .intro h c;let#[p,a,e]:=ada.mp c;show h p a (decide_eq_true e)
 .intro h p a e;show h (ada.mpr #[p,a,of_decide_eq_true e])
def Out(S:List δ)(H H':Hp):=∀b o,b∉S->H b=some o->H' b=some o
theorem Out.refl(S:List δ)(H:Hp):Out S H H:=λ_ _ _ h=>h
theorem Out.trans{S:List δ}{H H1 H2:Hp}(a:Out S H H1)(b:Out S H1 H2):Out S H H2:=λc o e h=>b c o e (a c o e h)
theorem Out.of{S:List δ}{H H':Hp}(h:ζ H H'):Out S H H':=λb o _ e=>h b o e
theorem Out.upd{S:List δ}{H:Hp}{a:δ}{o:HO}(h:a∈S):Out S H (upd H a o):=λb u c e=>by
 rw[ο (λz=>c (by rw[z];show h))];show e
theorem Out.mono{S T:List δ}{H H':Hp}(h:Out S H H')(s:∀x∈S,x∈T):Out T H H':=λb o a e=>h b o (λz=>a (s b z)) e
def TupAt(H:Hp)(v:V)(xs:List V):=∃t,v=.ref t/\H t=some (.tup xs)
def jX(H:Hp)(v:V):Option (List V)->Prop
 |none=>v=.non
 |some xs=>TupAt H v xs
structure ϕ where
 at_:Int
 row:Int
 was:Option (List V)
 is:Option (List V)
def jr(H:Hp)(v:V)(d:ϕ):=∃t w u,v=.ref t/\H t=some (.tup [.int d.at_,.int d.row,w,u])/\jX H w d.was/\jX H u d.is
structure Bk where
 heads:List ξ
 rows:List (Int×List V)
 touched:List (Int×Int)
 done:List ϕ
 known:Int
 now:Int
structure BA where
 b:δ
 dx:δ
 h:δ
 r:δ
 t:δ
 d:δ
def Xa(v:V)(i:Int):Prop:=v=.int i
structure Ν(C:δ)(H:Hp)(A:BA)(B:Bk):Prop where
 ins:H A.b=some (.ins C A.dx [("heads",.ref A.h),("rows",.ref A.r),("touched",.ref A.t),("done",.ref A.d),("known",.int B.known),("now",.int B.now)])
 own:H A.dx=some (.own A.b)
 heads:ϝ H A.h B.heads
 rows:DictAt (TupAt H) H A.r B.rows
 touched:DictAt Xa H A.t B.touched
 done:∃xs,H A.d=some (.lst xs)/\ς (jr H) xs B.done
 rt:A.r≠A.t
 hd:A.h≠A.d
def BA.fp(A:BA):List δ:=[A.b,A.r,A.t,A.d]
theorem TupAt.stay{H H':Hp}{v:V}{xs:List V}(h:TupAt H v xs)(s:∀b ys,H b=some (.tup ys)->H' b=some (.tup ys)):TupAt H' v xs:=by
 let#[t,e,h]:=h;show#[t,e,s _ _ h]
theorem jX.stay{H H':Hp}{v:V}{o:Option (List V)}(h:jX H v o)(s:∀b ys,H b=some (.tup ys)->H' b=some (.tup ys)):jX H' v o:=by
 cases o with
 |none=>show h
 |some xs=>show TupAt.stay h s
theorem jr.stay{H H':Hp}{v:V}{d:ϕ}(h:jr H v d)(s:∀b ys,H b=some (.tup ys)->H' b=some (.tup ys)):jr H' v d:=by
 let#[t,w,u,e,h1,h2,a]:=h;show#[t,w,u,e,s _ _ h1,h2.stay s,a.stay s]
theorem ϝ.stay{H H':Hp}{a:δ}{cs:List ξ}(h:ϝ H a cs)(h1:∀xs,H a=some (.lst xs)->H' a=some (.lst xs))(s:∀b ys,H b=some (.tup ys)->H' b=some (.tup ys)):ϝ H' a cs:=by
 let#[vs,e,h2]:=h;show#[vs,h1 _ e,ς.imp (λv c ⟨t,e,h⟩=>#[t,e,s _ _ h]) h2]
theorem Ν.stay{C:δ}{H H':Hp}{A:BA}{B:Bk}(k:Ν C H A B)(s:∀b ys,H b=some (.tup ys)->H' b=some (.tup ys))(f:∀x o,x∈[A.b,A.dx,A.h,A.r,A.t,A.d]->H x=some o->H' x=some o):Ν C H' A B where
 ins:=f _ _ (by simp) k.ins
 own:=f _ _ (by simp) k.own
 heads:=k.heads.stay (λxs e=>f _ _ (by simp) e) s
 rows:=by
  let#[Ϸ,e,h]:=k.rows;show#[Ϸ,f _ _ (by simp) e,dU h λv x h=>h.stay s]
 touched:=by
  let#[Ϸ,e,h]:=k.touched;show#[Ϸ,f _ _ (by simp) e,h]
 done:=by
  let#[xs,e,h]:=k.done;show#[xs,f _ _ (by simp) e,ς.imp (λv d h=>h.stay s) h]
 rt:=k.rt
 hd:=k.hd
theorem Ν.same{C:δ}{H H':Hp}{A:BA}{B:Bk}(k:Ν C H A B)(s:ζ H H'):Ν C H' A B:=k.stay (λ_ _ e=>s _ _ e) λ_ _ _ e=>s _ _ e
section
variable{C:δ}{H H':Hp}{A:BA}{B:Bk}
theorem Ν.Lb(k:Ν C H A B){b:δ}(c:b∈A.fp):(∃fs,H b=some (.ins C A.dx fs))\/(∃Ϸ,H b=some (.dK Ϸ))\/∃xs,H b=some (.lst xs):=by
 let a:b=A.b\/b=A.r\/b=A.t\/b=A.d:=by simpa [BA.fp]using c
 obtain rfl|rfl|rfl|rfl:=a
 .show .inl #[_,k.ins]
 .let#[Ϸ,e,_]:=k.rows;show .inr (.inl #[_,e])
 .let#[Ϸ,e,_]:=k.touched;show .inr (.inl #[_,e])
 .let#[xs,e,_]:=k.done;show .inr (.inr #[_,e])
theorem Ν.tup(k:Ν C H A B)(o:Out A.fp H H'):∀b ys,H b=some (.tup ys)->H' b=some (.tup ys):=λb ys e=>o b _ (λa=>by
 obtain⟨fs,z⟩|⟨Ϸ,z⟩|⟨xs,z⟩:=k.Lb a<;>rw[e]at z<;>cases z) e
theorem Ν.ne(k:Ν C H A B):A.b≠A.dx/\A.b≠A.h/\A.b≠A.r/\A.b≠A.t/\A.b≠A.d/\A.r≠A.dx/\A.r≠A.h/\A.r≠A.d/\A.t≠A.dx/\A.t≠A.h/\A.t≠A.d/\A.d≠A.dx:=by
 let h1:=k.ins;let h2:=k.own;let#[_,g,_]:=k.heads;let#[_,a,_]:=k.rows;let#[_,c,_]:=k.touched;let#[_,f,_]:=k.done;show#[?_,?_,?_,?_,?_,?_,?_,?_,?_,?_,?_,?_]<;>intro e
 .rw[e,h2]at h1;cases h1
 .rw[e,g]at h1;cases h1
 .rw[e,a]at h1;cases h1
 .rw[e,c]at h1;cases h1
 .rw[e,f]at h1;cases h1
 .rw[e,h2]at a;cases a
 .rw[e,g]at a;cases a
 .rw[e,f]at a;cases a
 .rw[e,h2]at c;cases c
 .rw[e,g]at c;cases c
 .rw[e,f]at c;cases c
 .rw[e,h2]at f;cases f
theorem Ν.Hr(k:Ν C H A B)(kn a:Int):Ν C (upd H A.b (.ins C A.dx [("heads",.ref A.h),("rows",.ref A.r),("touched",.ref A.t),("done",.ref A.d),("known",.int kn),("now",.int a)])) A {B with known:=kn,now:=a}:=by
 let#[n1,n2,c,f,g,_]:=k.ne;let st:∀b ys,H b=some (.tup ys)->(upd H A.b (.ins C A.dx [("heads",.ref A.h),("rows",.ref A.r),("touched",.ref A.t),("done",.ref A.d),("known",.int kn),("now",.int a)])) b=some (.tup ys):=k.tup (Out.upd (by simp[BA.fp]));show#[υ,?_,k.heads.stay (λxs e=>?_) st,?_,?_,?_,k.rt,k.hd]
 .rw[ο (Ne.symm n1)];show k.own
 .rw[ο (Ne.symm n2)];show e
 .let#[Ϸ,e,h]:=k.rows;show#[Ϸ,by rw[ο (Ne.symm c)];show e,dU h λv x h=>h.stay st]
 .let#[Ϸ,e,h]:=k.touched;show#[Ϸ,by rw[ο (Ne.symm f)];show e,h]
 .let#[xs,e,h]:=k.done;show#[xs,by rw[ο (Ne.symm g)];show e,ς.imp (λv d h=>h.stay st) h]
theorem Ν.rG{Ϸ:List (Key×V)}{m:List (Int×List V)}(k:Ν C H A B)(h:ς (PR (TupAt H)) Ϸ m):Ν C (upd H A.r (.dK Ϸ)) A {B with rows:=m}:=by
 let#[n1,n2,a,i,j,c,f,g,_]:=k.ne;let st:∀b ys,H b=some (.tup ys)->(upd H A.r (.dK Ϸ)) b=some (.tup ys):=k.tup (Out.upd (by simp[BA.fp]));show#[?_,?_,k.heads.stay (λxs e=>?_) st,#[Ϸ,υ,dU h λv x h=>h.stay st],?_,?_,k.rt,k.hd]
 .rw[ο a];show k.ins
 .rw[ο (Ne.symm c)];show k.own
 .rw[ο (Ne.symm f)];show e
 .let#[Ϸ,e,h]:=k.touched;show#[Ϸ,by rw[ο (Ne.symm k.rt)];show e,h]
 .let#[xs,e,h]:=k.done;show#[xs,by rw[ο (Ne.symm g)];show e,ς.imp (λv d h=>h.stay st) h]
theorem Ν.JM{Ϸ:List (Key×V)}{m:List (Int×Int)}(k:Ν C H A B)(h:ς (PR Xa) Ϸ m):Ν C (upd H A.t (.dK Ϸ)) A {B with touched:=m}:=by
 let#[n1,n2,i,c,j,l,n,o,f,a,g,_]:=k.ne;let st:∀b ys,H b=some (.tup ys)->(upd H A.t (.dK Ϸ)) b=some (.tup ys):=k.tup (Out.upd (by simp[BA.fp]));show#[?_,?_,k.heads.stay (λxs e=>?_) st,?_,#[Ϸ,υ,h],?_,k.rt,k.hd]
 .rw[ο c];show k.ins
 .rw[ο (Ne.symm f)];show k.own
 .rw[ο (Ne.symm a)];show e
 .let#[Ϸ,e,h]:=k.rows;show#[Ϸ,by rw[ο k.rt];show e,dU h λv x h=>h.stay st]
 .let#[xs,e,h]:=k.done;show#[xs,by rw[ο (Ne.symm g)];show e,ς.imp (λv d h=>h.stay st) h]
theorem Ν.aeg{xs:List V}{ds:List ϕ}(k:Ν C H A B)(h:ς (jr H) xs ds):Ν C (upd H A.d (.lst xs)) A {B with done:=ds}:=by
 let#[n1,n2,j,l,c,m,n,f,o,g,i,a]:=k.ne;let st:∀b ys,H b=some (.tup ys)->(upd H A.d (.lst xs)) b=some (.tup ys):=k.tup (Out.upd (by simp[BA.fp]));show#[?_,?_,k.heads.stay (λxs e=>?_) st,?_,?_,#[xs,υ,ς.imp (λv d h=>h.stay st) h],k.rt,k.hd]
 .rw[ο c];show k.ins
 .rw[ο (Ne.symm a)];show k.own
 .rw[ο k.hd];show e
 .let#[Ϸ,e,h]:=k.rows;show#[Ϸ,by rw[ο f];show e,dU h λv x h=>h.stay st]
 .let#[Ϸ,e,h]:=k.touched;show#[Ϸ,by rw[ο i];show e,h]
end
end
end _V
namespace _L
open PySem PySem.Spec PyProof.Rows PySem.W
section
variable{prog:ϯ}{w:ϭ}{A:ϳ}{E:ε->μ->Prop}{s:μ}
variable{I:δ}{fp wr:List δ}{G:Array GenState->Array GenState->Prop}{n:Nat}{P:Nat->ε->Prop}{St:Nat->μ->Prop}
end
section
variable{X:Cx}{σ:St}{H:Hp}{Q:VK}{a:ϧ}{p pos p' pos':Pos}
end
section
variable{X:Cx}{σ:St}{H:Hp}{Q:VK}{D:Ends}{o e f:ϧ}{apos cpos pos:Pos}
theorem afL{tg:ϧ}{body:List Ϩ}(j:alP (Ϧ X.prog X.w) X.A X.env X.xe)(l:X.calm=true)(hs:∀x,foldedSetIterable e X.env x=pure x)(h:EV X e σ H λv H1=>∃q xs,v=.ref q/\ρ X.K H1 q xs/\∃a:Nat->St->Hp->Prop,a 0 σ H1/\(∀i σ' H',i<=xs.length->a i σ' H'->ρ X.K H' q xs)/\
   (∀i x σ' H',xs[i]?=some x->a i σ' H'->EG X tg x σ' H' λc H2=>Ρ X body {D with nx:=a (i+1),ct:=a (i+1),bk:=D.nx} c H2)/\∀σ' H',a xs.length σ' H'->D.nx σ' H'):SX X (.For tg e body [] pos) D σ H:=by
 show lF j l hs (YH (aq h λv H1 q=>?_));let#[q,xs,rfl,m,a,n,o,f,hd]:=q;show#[q,rfl,#[xs,m],ajJ (g:=EG X tg) (tb:=Ρ X body) a n o f hd]
end
section
variable{X:Cx}{ϵ:List (δ×Obj)}{σ:St}{H:Hp}{s:μ}{d:δ}
end
section
variable{X:Cx}{σ:St}{H:Hp}{a e:ϧ}{tg:ϧ}{pos:Pos}{R:It->Hp->Prop}{D:Ends}
end
section
variable{X:Cx}{H:Hp}{Q:VK}{e C:δ}{D:Option δ}{k:Bool}
end
section
variable{X:Cx}{σ σ':St}{H:Hp}{Q:VK}{a b tg elt:ϧ}{scope:ah9}{p p' pos:Pos}
end
section
variable{X:Cx}{H:Hp}{Q:VK}
end
section
variable{X:Cx}{H:Hp}{Q:VK}
theorem aga{a b:Bool}(q:Q (.bl (!(a==b))) H):OP X (adC .IsNot) (.bl a) (.bl b) H Q:=by
 show bh (r:=λx y H Q=>∃a b,x=.bl a/\y=.bl b/\Q (.bl (!(a==b))) H) ?_ #[a,b,rfl,rfl,q];intro ϵ s σ H x y v u Q I rx ry h;let#[a,b,rfl,rfl,q]:=h;cases rx;cases ry;cases a<;>cases b<;>show Ϯ #[.bl _,H,I,rfl,q]
variable{σ:St}{a b tg:ϧ}{p p' pos:Pos}{D:Ends}
end
section
variable{X:Cx}{σ:St}{H:Hp}{Q:VK}{pos:Pos}
end
end _L
namespace _L
open PySem PySem.Spec PyProof.Rows
section
variable{prog:ϯ}{w:ϭ}{A:ϳ}{E:ε->μ->Prop}{s:μ}{env:Env}
end
section
variable{prog:ϯ}{w:ϭ}{A:ϳ}{E:ε->μ->Prop}{s:μ}{env:Env}
variable{nm q:Str}{C N:δ}{bs bm:List ε}{hdct:Bool}{sn:List Str}{sub:List ε}{ab:Bool}{col:Option Bool}{dd:Option δ}{k0 k1 k2 k3 k5:Option ε}
end
section
variable{X:Cx}{Kx:St->XK}{D:Ends}{σ:St}{H:Hp}{rest:List amy}{pos np ynp cpos rpos p0:Pos}{x y fld:Str}{cls c:ε}{d:Option δ×Bool}{a:ϧ}{as:List ϧ}{cc:Bool}{k k' j0:Nat}
end
end _L
namespace _L
open PySem PySem.Spec PyProof.Rows PySem.Builtin PySem.Builtin.Str
def yr(p:Nat->Bool):Nat->Option Nat
 |0=>none
 |n+1=>if p n=true then some n else yr p n
theorem Yd(p:Nat->Bool):∀n,(aeJ n).foldl (λa i=>if p i=true then some i else a) none=yr p n
 |0=>rfl
 |n+1=>by
  rw[apZ,aoI,Yd p n];rfl
theorem Xw(p:Nat->Prop)[DecidablePred p]:∀(l:List Nat)(b:Option Nat),(forIn (m:=Id) l b λi s=>if p i then pure (ForInStep.yield (some i))else pure (ForInStep.yield s)).run=l.foldl (λc i=>if p i then some i else c) b
 |[],b=>rfl
 |a::l,b=>by
  rw[amU,alN, <-Xw p l];by_cases h:p a
  .simp only[if_pos h];rfl
  .simp only[if_neg h];rfl
theorem acf(x y:Str):lastOccurrence x y 0 x.length=yr (λi=>decide (i+y.length<=x.length)&&subAt x y i) (x.length+1):=by
 unfold lastOccurrence;rw[<-Yd];simp[List.range_eq_range'];show Xw (λi=>i+y.length<=x.length/\subAt x y i=true) _ none
theorem QQ{p:Nat->Bool}{k:Nat}:∀{n:Nat},k<n->p k=true->(∀i,k<i->i<n->p i=false)->yr p n=some k
 |n+1,c,a,h=>by
  show(if p n=true then _ else _)=_;by_cases e:k=n
  .subst e;rw[if_pos a]
  .rw[if_neg (by rw[h n () ()];decide)];show QQ () a λi h1 h2=>h i h1 ()
theorem R8(x:Str)(c i:Nat):(decide (i+(#[#v[c]]:Str).length<=x.length)&&subAt x #[#v[c]] i)=decide (x.cps.toList[i]?=some c):=by
 rw[ahB,aaW,decide_eq_true_iff,decide_eq_true_iff];show StrLaws.subAt_one x c i
theorem aiy{z:Str}{c:Nat}{b w:List Nat}(h:z.cps.toList=b++c::w)(g:c∉w):Txt.rpartition z #[#v[c]]=(#[b.toArray],#[#v[c]],#[w.toArray]):=by
 let a:z.length=b.length+1+w.length:=by
  have:z.cps.toList.length=z.length:=rfl;rw[<-this,h,abu,acS];omega
 let m:lastOccurrence z #[#v[c]] 0 z.length=some b.length:=by
  rw[acf];show QQ () ?_ λi h1 h2=>?_
  .rw[R8,h,decide_eq_true_iff,akQ (Ϭ _),ao8];rfl
  .rw[R8,h,decide_eq_false_iff_not,akQ ()];intro e;obtain⟨j,n⟩:∃j,i-b.length=j+1:=#[i-b.length-1,()];rw[n,List.getElem?_cons_succ]at e;show g (aaq e)
 let f:z=#[(b++c::w).toArray]:=by
  let#[#[l]]:=z;have:l=b++c::w:=h;rw[this]
 let e1:strSub z 0 b.length=#[b.toArray]:=by
  unfold strSub;rw[f];simp
 let o:strSub z (b.length+(#[#v[c]]:Str).length) z.length=#[w.toArray]:=by
  let p:(#[#v[c]]:Str).length=1:=rfl;rw[p,a];unfold strSub;rw[f];simp[List.extract_eq_take_drop,List.drop_append];rw[an7 (),ao7,anL]
 let un:Txt.rpartition z #[#v[c]]=(match lastOccurrence z #[#v[c]] 0 z.length with
  |some i=>(strSub z 0 i,#[#v[c]],strSub z (i+(#[#v[c]]:Str).length) z.length)
  |none=>(aop,aop,z)):=rfl
 rw[un,m];show(strSub z 0 b.length,_,strSub z (b.length+(#[#v[c]]:Str).length) z.length)=_;rw[e1,o]
section
variable{X:Cx}{H:Hp}{Q:VK}{z:Str}
theorem ajU{c:Nat}(hz:z.length<=100000)(g:∀p,H p=none->Q (.ref p) (upd H p (.tup [.str (Txt.rpartition z #[#v[c]]).1,.str (Txt.rpartition z #[#v[c]]).2.1,.str (Txt.rpartition z #[#v[c]]).2.2]))):MT X "str.rpartition" (.str z) [.str #[#v[c]]] H Q:=by
 show je (r:=λx xs H Q=>∃z c,x=.str z/\xs=[.str #[#v[c]]]/\z.length<=100000/\∀p,H p=none->Q (.ref p) (upd H p (.tup [.str (Txt.rpartition z #[#v[c]]).1,.str (Txt.rpartition z #[#v[c]]).2.1,.str (Txt.rpartition z #[#v[c]]).2.2]))) ?_ #[z,c,rfl,rfl,hz,g];intro ϵ s σ H x xs v us Q I rx rs h;let#[z,c,rfl,rfl,hz,g]:=h;let#[t,rfl]:=rx;let#[u,rfl,f]:=vals1 rs;let#[t',rfl]:=f;let hsz:=ϱ;let fin:∀(a b e:Str)(ta tb tc:Tok)(tk:Nat),a=(Txt.rpartition z #[#v[c]]).1->b=(Txt.rpartition z #[#v[c]]).2.1->e=(Txt.rpartition z #[#v[c]]).2.2->EP X ϵ σ Q (.ref s.heap.objs.size) {s with toks:=tk,heap:=s.heap.push {cls:=.type "tuple",data:=.seq [Value.str a ta,.str b tb,.str e tc].toArray}}:=λa b e ta tb tc tk ea j l=>by
  subst ea j l;show#[.ref s.heap.objs.size,_,I.laid (t':=tk) (o:=.tup [.str (Txt.rpartition z #[#v[c]]).1,.str (Txt.rpartition z #[#v[c]]).2.1,.str (Txt.rpartition z #[#v[c]]).2.2]) (λb o q=>ϲ _ q) (Ϭ _) ?_,rfl,g _ (I.hok.fresh (Ϭ _))];show#[Δ,_,.cons #[ta,rfl] (.cons #[tb,rfl] (.cons #[tc,rfl] .nil)),IsTup.new _ _]
 show anR F.slot_str_rpartition (typeIs_str _ _ _) F.entry_str_rpartition (F.args_str_rpartition_2 _ _) (meets_str_rpartition z #[#v[c]] t t' rfl ()) ?_;let h':=fin;unfold Txt.rpartition at h';revert h';cases lastOccurrence z #[#v[c]] 0 z.length with
 |none=>intro h';show h' _ _ _ _ _ _ _ rfl rfl rfl
 |some i=>intro h';show h' _ _ _ _ _ _ _ rfl rfl rfl
end
end _L
namespace _L
open PySem PySem.Spec PyProof.Rows
section
variable{X:Cx}{e c:ϧ}{σ σ':St}{H:Hp}{Q:VK}{D:Ends}{pos spos py:Pos}{tg elt:ϧ}{scope:ah9}{y:Str}{j:Nat}
end
section
variable{X:Cx}{e c:ϧ}{es:List ϧ}{σ σ':St}{H:Hp}{Q:VK}{D:Ends}{p pos spos py:Pos}{tg elt:ϧ}{scope:ah9}{y:Str}{j:Nat}
end
section
variable{X:Cx}{Kx:St->XK}{D:Ends}{σ:St}{H:Hp}{rest:List amy}{pos ynp cpos rpos p0 p1 p2 p3 tpos zp:Pos}{x1 x2 x3 y z:Str}{cls c1 c2 c3:ε}{d:Option δ×Bool}{kk j0 j1:Nat}{name:Option Str}{body:List Ϩ}
end
section
variable{X:Cx}{a e:ϧ}{σ σ':St}{H:Hp}{Q:VK}{D:Ends}{pos spos py p p':Pos}{tg elt iter:ϧ}{scope:ah9}{Kx:St->XK}{y:Str}{j:Nat}
end
section
variable{X:Cx}{Kx:St->XK}{D:Ends}{σ:St}{H:Hp}{cls:ε}{d:Option δ×Bool}
end
section
variable{X:Cx}{H:Hp}{Q:VK}{z:Str}
end
end _L
namespace _L
open PySem PySem.Spec PyProof.Rows PySem.W
section
variable{X:Cx}{ϵ:List (δ×Obj)}{σ:St}{H:Hp}{s:μ}{d:δ}
end
section
variable{X:Cx}{σ:St}{H:Hp}{a e:ϧ}{tg:ϧ}{pos:Pos}{R:It->Hp->Prop}{D:Ends}
end
def pw{α:Type}(lt:Nat->Nat->Bool)(n:Nat):KasT α->(α->Prop)->Prop
 |.ret a,Q=>Q a
 |.ask i j k,Q=>i<n/\j<n/\pw lt n (k (lt i j)) Q
theorem qb{α β:Type}{lt:Nat->Nat->Bool}{n:Nat}{f:α->KasT β}{Q:β->Prop}:∀(t:KasT α),pw lt n t (λa=>pw lt n (f a) Q)->pw lt n (t.bind f) Q
 |.ret a,h=>h
 |.ask i j k,h=>#[h.1,h.2.1,qb (k (lt i j)) h.2.2]
theorem gQ{α:Type}{lt:Nat->Nat->Bool}{n:Nat}{Q c:α->Prop}(e:∀a,Q a->c a):∀(t:KasT α),pw lt n t Q->pw lt n t c
 |.ret a,h=>e a h
 |.ask i j k,h=>#[h.1,h.2.1,gQ e (k (lt i j)) h.2.2]
theorem Lg{α:Type}{lt:Nat->Nat->Bool}{n:Nat}{c:Nat->Nat->(Bool->μ->Prop)->μ->Prop}{I:μ->Prop}{G:α->μ->Prop}(f:∀i j C s,i<n->j<n->I s->(∀s',I s'->C (lt i j) s')->c i j C s):∀(t:KasT α)(s:μ),I s->pw lt n t (λa=>∀s,I s->G a s)->t.kasWp c G s
 |.ret a,s,hs,h=>h s hs
 |.ask i j k,s,hs,h=>f i j _ s h.1 h.2.1 hs λs' e=>Lg f (k (lt i j)) s' e h.2.2
structure aL(lt:Nat->Nat->Bool):Prop where
 ir:∀i,lt i i=false
 tr:∀i j k,lt i j=true->lt j k=true->lt i k=true
 nt:∀i j k,lt i k=true->lt i j=true\/lt j k=true
section
variable{lt:Nat->Nat->Bool}{n:Nat}(W:aL lt)
theorem aL.as(W:aL lt){i j:Nat}(h:lt i j=true):lt j i=false:=by
 rw[aks];intro h2;have:=W.tr i j i h h2;rw[W.ir]at this;cases this
def Rk(lt:Nat->Nat->Bool)(i j:Nat):Prop:=lt i j=true\/(lt j i=false/\i<j)
theorem aL.pL(W:aL lt){a b c:Nat}(h:lt a b=true)(h2:lt c b=false):lt a c=true:=by
 obtain h|h:=W.nt a c b h
 .show h
 .rw[h2]at h;cases h
theorem aL.Vm(W:aL lt){a b c:Nat}(h:lt b c=true)(h2:lt b a=false):lt a c=true:=by
 obtain h|h:=W.nt b a c h
 .rw[h2]at h;cases h
 .show h
theorem aL.rtr(W:aL lt){i j k:Nat}(h:Rk lt i j)(h2:Rk lt j k):Rk lt i k:=by
 obtain h|⟨h,h'⟩:=h
 .obtain h2|⟨h2,a⟩:=h2
  .show .inl (W.tr _ _ _ h h2)
  .show .inl (W.pL h h2)
 .obtain h2|⟨h2,a⟩:=h2
  .show .inl (W.Vm h2 h)
  .show .inr #[?_,()];rw[aks];intro c;obtain h4|h4:=W.nt k j i c
   .rw[h2]at h4;cases h4
   .rw[h]at h4;cases h4
abbrev gt(p:Array Nat)(k:Nat):Nat:=p.getD k 0
theorem zc{p:Array Nat}{k v:Nat}(h:p[k]?=some v):gt p k=v:=by
 let#[a,e]:=akR.mp h;show p.getD k 0=v;simp[ap6,a,e]
theorem qY{p:Array Nat}{k:Nat}(h:k<p.size):p[k]?=some (gt p k):=by
 show p[k]?=some (p.getD k 0);simp[ap6,h]
theorem fJ{p:Array Nat}{i j k:Nat}(a:j<=p.size)(c:k<p.size:=by omega):gt (kas_rev p i j) k=if i<=k/\k<j then gt p (i+j-1-k)else gt p k:=by
 apply zc;unfold kas_rev;rw[getElem?_mirror_all a];by_cases h:i<=k/\k<j
 .rw[if_pos h,if_pos h];show qY ()
 .rw[if_neg h,if_neg h];show qY c
theorem aaE{p:Array Nat}{i j:Nat}:(kas_rev p i j).size=p.size:=mirror_size _ _ _ _
theorem ai6{p:Array Nat}{k d j:Nat}(a:k<p.size)(hd:d<=k)(c:j<p.size):gt (bubble p k d) j=if j=k-d then gt p k else if k-d<j/\j<=k then gt p (j-1)else gt p j:=by
 apply zc;rw[getElem?_bubble a d hd];by_cases h1:j=k-d
 .rw[if_pos h1,if_pos h1];show qY a
 .rw[if_neg h1,if_neg h1];by_cases h2:k-d<j/\j<=k
  .rw[if_pos h2,if_pos h2];show qY ()
  .rw[if_neg h2,if_neg h2];show qY c
structure Pl(n:Nat)(p:Array Nat)(m:Nat):Prop where
 size:p.size=n
 low:∀i,i<m->gt p i<m
 tail:∀k,m<=k->k<n->gt p k=k
 pm:p.toList.Perm (aeJ n)
theorem Pl.all{p:Array Nat}{m:Nat}(h:Pl n p m)(a:m<=n){i:Nat}(hi:i<n):gt p i<n:=by
 by_cases h1:i<m
 .have :=h.low i h1;omega
 .rw[h.tail i () hi];show hi
theorem Pl.up{p:Array Nat}{m:Nat}(h:Pl n p m)(a:m<n):Pl n p (m+1):=by
 show#[h.size,λi hi=>?_,λk h1 h2=>h.tail k () h2,h.pm];by_cases h1:i<m
 .have :=h.low i h1;omega
 .let e:i=m:=()
  subst e;rw[h.tail i (Ϭ _) a];omega
theorem Pl.rev{p:Array Nat}{m i j:Nat}(h:Pl n p m)(c:m<=n)(e:j<=m):Pl n (kas_rev p i j) m:=by
 let hs:=h.size;show#[by rw[aaE];show hs,λk a=>?_,λk h1 h2=>?_,(aox.mp (mirror_perm p i j ((j-i) / 2))).trans h.pm]
 .rw[fJ ()];split
  .show h.low _ ()
  .show h.low _ a
 .rw[fJ (),if_neg ()];show h.tail k h1 h2
def eO(lt:Nat->Nat->Bool)(p:Array Nat)(m:Nat):=∀i j,i<j->j<m->Rk lt (gt p i) (gt p j)
def iT(lt:Nat->Nat->Bool)(p:Array Nat)(m:Nat):=∀i j,i<j->j<m->Rk lt (gt p j) (gt p i)
theorem iT.rev{p:Array Nat}{m:Nat}(h:iT lt p m)(a:m<=p.size):eO lt (kas_rev p 0 m) m:=by
 intro i j c e;rw[fJ a,fJ a,if_pos (),if_pos ()];show h _ _ () ()
theorem FW(W:aL lt){p:Array Nat}:∀(f m:Nat),1<=m->m+f<=n->Pl n p m->eO lt p m->pw lt n (kas_asc p f m) λm'=>m<=m'/\m'<=m+f/\Pl n p m'/\eO lt p m'/\(m'<m+f->lt (gt p m') (gt p (m'-1))=true)
 |0,m,h1,o,a,c=>#[Ϭ _,Ϭ _,a,c,λh=>absurd h ()]
 |f+1,m,h1,o,a,c=>by
  show#[a.all () (),a.all () (),?_];cases e:lt (gt p m) (gt p (m-1))with
  |true=>
   show pw lt n (if true=true then _ else _) _;rw[if_pos rfl];show#[Ϭ _,(),a,c,λ_=>e]
  |false=>
   show pw lt n (if false=true then _ else _) _;rw[if_neg (by decide)];let l:Rk lt (gt p (m-1)) (gt p m):=.inr #[e,by rw[a.tail m (Ϭ _) ()];show a.low _ ()];show gQ (λm' h=>#[(),(),h.2.2.1,h.2.2.2.1,λh2=>h.2.2.2.2 ()]) _ (FW W f (m+1) () () (a.up ()) λi j g v=>?_);by_cases q:j<m
   .show c i j g q
   .let s:j=m:=()
    subst s;by_cases u:i=j-1
    .rw[u];show l
    .show W.rtr (c i (j-1) () ()) l
structure Dn(lt:Nat->Nat->Bool)(p:Array Nat)(m q:Nat):Prop where
 few:q+1<=m
 ahead:∀i j,i<j->j<m-(q+1)->Rk lt (gt p j) (gt p i)
 drop:∀i j,i<m-(q+1)->m-(q+1)<=j->j<m->lt (gt p j) (gt p i)=true
 aH:∀i j,m-(q+1)<=i->i<j->j<m->lt (gt p i) (gt p j)=false/\lt (gt p j) (gt p i)=false/\gt p i<gt p j
theorem Dn.done{p:Array Nat}{m q:Nat}(h:Dn lt p m q)(e:m<=p.size):iT lt (if q>0 then kas_rev p (m-(q+1)) m else p) m:=by
 let h1:=h.few;by_cases f:q>0
 .rw[if_pos f];intro i j a g;rw[fJ e,fJ e];by_cases hi:m-(q+1)<=i
  .rw[if_pos (),if_pos ()];have:=h.aH (m-(q+1)+m-1-j) (m-(q+1)+m-1-i) () () ();show .inr #[this.2.1,this.2.2]
  .rw[if_neg (show ¬(m-(q+1)<=i/\i<m)by omega)];by_cases c:m-(q+1)<=j
   .rw[if_pos ()];show .inl (h.drop _ _ () () ())
   .rw[if_neg ()];show h.ahead i j a ()
 .rw[if_neg f];intro i j a g;by_cases c:m-(q+1)<=j
  .show .inl (h.drop _ _ () c g)
  .show h.ahead i j a ()
theorem iT.next(W:aL lt){p:Array Nat}{m:Nat}(h:iT lt p m)(h1:1<=m)(g:∀i,i<m->lt (gt p m) (gt p i)=true):Dn lt p (m+1) 0:=by
 show#[(),λi j f l=>h i j f (),λi j hi l n=>?_,λi j a b c=>absurd b ()];let e:j=m:=()
 subst e;show g i ()
theorem iT.low(W:aL lt){p:Array Nat}{m x:Nat}(h:iT lt p m)(h1:1<=m)(a:lt x (gt p (m-1))=true):∀i,i<m->lt x (gt p i)=true:=by
 intro i hi;by_cases e:i=m-1
 .rw[e];show a
 .rcases h i (m-1) () ()with h2|⟨h2,_⟩
  .show W.tr _ _ _ a h2
  .show W.pL a h2
theorem wH(W:aL lt):∀(f:Nat)(p:Array Nat)(m q:Nat),m+f<=n->Pl n p m->Dn lt p m q->pw lt n (kas_desc f p m q) λr=>m<=r.2.1/\r.2.1<=m+f/\Pl n r.1 r.2.1/\Dn lt r.1 r.2.1 r.2.2
 |0,p,m,q,D,a,hd=>#[Ϭ _,Ϭ _,a,hd]
 |f+1,p,m,q,D,a,hd=>by
  let z:=hd.few;let hsz:=a.size;show#[a.all () (),a.all () (),?_];cases e:lt (gt p m) (gt p (m-1))with
  |true=>
   show pw lt n (if true=true then _ else _) _;rw[if_pos rfl];let l:=hd.done ();by_cases B:q>0
   .rw[if_pos B]at l⊢;let s:=a.rev (i:=m-(q+1)) (j:=m) () (Ϭ _);let em:gt (kas_rev p (m-(q+1)) m) m=gt p m:=by rw[fJ (),if_neg ()]
    let E:gt (kas_rev p (m-(q+1)) m) (m-1)=gt p (m-(q+1)):=by
     rw[fJ (),if_pos ()]
     congr 1
     omega
    let F:lt (gt p m) (gt p (m-(q+1)))=true:=W.pL e (hd.aH (m-(q+1)) (m-1) (Ϭ _) () ()).1;show gQ (λr h=>#[(),(),h.2.2]) _ (wH W f _ (m+1) 0 () (s.up ()) (l.next W () λi hi=>?_));rw[em];show l.low W () (by rw[E];show F) i hi
   .rw[if_neg B]at l⊢;show gQ (λr h=>#[(),(),h.2.2]) _ (wH W f _ (m+1) 0 () (a.up ()) (l.next W () (l.low W () e)))
  |false=>
   show pw lt n (if false=true then _ else _) _;rw[if_neg (by decide)];show#[a.all () (),a.all () (),?_];cases e2:lt (gt p (m-1)) (gt p m)with
   |true=>
    show pw lt n (if true=true then _ else _) _;rw[if_pos rfl];show#[Ϭ m,show m<=m+(f+1)by omega,a,hd]
   |false=>
    show pw lt n (if false=true then _ else _) _;rw[if_neg (by decide)];let u:=a.tail m (Ϭ _) ();show gQ (λr h=>#[(),(),h.2.2]) _ (wH W f p (m+1) (q+1) () (a.up ()) #[(),λi j g C=>hd.ahead i j g (),λi j hi C G=>?_,λi j hi g C=>?_])
    .by_cases v:j<m
     .show hd.drop i j () () v
     .let x:j=m:=()
      subst x;show W.Vm (hd.drop i (j-1) () () ()) e2
    .by_cases v:j<m
     .show hd.aH i j () g v
     .let x:j=m:=()
      subst x;let c:gt p i<gt p j:=by rw[u];show a.low i ()
      by_cases o:i=j-1
      .rw[o];rw[o]at c;show#[e2,e,c]
      .let h3:=hd.aH i (j-1) () () ();show#[?_,?_,c]
       .rw[aks];intro y;obtain h5|h5:=W.nt _ (gt p (j-1)) _ y
        .rw[h3.1]at h5;cases h5
        .rw[e2]at h5;cases h5
       .rw[aks];intro y;obtain h5|h5:=W.nt _ (gt p (j-1)) _ y
        .rw[e]at h5;cases h5
        .rw[h3.2.1]at h5;cases h5
theorem QR(W:aL lt){p:Array Nat}{m:Nat}(a:Pl n p m)(hd:iT lt p m)(h1:1<=m:=by omega)(c:m<=n:=by omega):pw lt n (kas_tail3 m n p) λr=>1<=r.1/\r.1<=n/\Pl n r.2 r.1/\eO lt r.2 r.1:=by
 let hsz:=a.size;show qb _ (gQ (λm' h=>#[by show 1<=m';omega,by show m'<=n;omega,h.2.2.1,h.2.2.2.1]) _ (FW W (n-m) m h1 () (a.rev c (Ϭ _)) (hd.rev ())))
theorem TQ(W:aL lt){p:Array Nat}{m:Nat}(h1:1<=m)(f:m<n)(g:Pl n p m)(hd:iT lt p m)(i:lt (gt p m) (gt p (m-1))=true):pw lt n (kas_descPart m n p) λr=>1<=r.1/\r.1<=n/\Pl n r.2 r.1/\eO lt r.2 r.1:=by
 show qb _ (gQ (λr h=>?_) _ (wH W (n-(m+1)) p (m+1) 0 () (g.up f) (hd.next W h1 (hd.low W h1 i))));let#[l,o,c,j]:=h;let hsz:=c.size;let a:=j.done ();show pw lt n (if r.2.2>0 then _ else _) _;by_cases e:r.2.2>0
 .rw[if_pos e]at a⊢;show QR W (c.rev () (Ϭ _)) a
 .rw[if_neg e]at a⊢;show QR W c a
theorem aee:Pl n (afh (aeJ n)) 1:=by
 let a:∀k,k<n->gt (afh (aeJ n)) k=k:=λk c=>zc (by simp[c])
 show#[by simp,λi hi=>?_,λk _ h2=>a k h2,by simp];by_cases h:i<n
 .rw[a i h];show hi
 .show(afh (aeJ n)).getD i 0<1;simp[ap6,h]
theorem adb(W:aL lt)(h1:1<=n):pw lt n (kas_count n (afh (aeJ n))) λr=>1<=r.1/\r.1<=n/\Pl n r.2 r.1/\eO lt r.2 r.1:=by
 show qb _ (gQ (λm h=>?_) _ (FW W (n-1) 1 (Ϭ _) () aee λi j a b=>absurd a ()));let#[v,C,c,g,x]:=h;let hsz:=c.size;show pw lt n (if(m==n)=true then _ else _) _;by_cases l:m=n
 .rw[if_pos (by rw[beq_iff_eq];show l)];show#[by show 1<=m;omega,by show m<=n;omega,c,g]
 .rw[if_neg (by rw[beq_iff_eq];show l)];let f:=x ();by_cases o:m>1
  .rw[if_pos o];show#[c.all () (),c.all () (),?_];cases e:lt (gt (afh (aeJ n)) 0) (gt (afh (aeJ n)) (m-1))with
   |true=>
    show pw lt n (if true=true then _ else _) _;rw[if_pos rfl];show#[by show 1<=m;omega,by show m<=n;omega,c,g]
   |false=>
    show pw lt n (if false=true then _ else _) _;rw[if_neg (by decide)];generalize afh (aeJ n)=p at c g f e hsz⊢;let y:∀i,i<m->lt (gt p i) (gt p 0)=false:=λi hi=>by
     by_cases q:i=0
     .rw[q];show W.ir _
     .rcases g 0 i () hi with h|h
      .show W.as h
      .show h.1
    let s:∀j,j<m->lt (gt p (m-1)) (gt p j)=false:=λj u=>by
     by_cases q:j=m-1
     .rw[q];show W.ir _
     .rcases g j (m-1) () ()with h|h
      .show W.as h
      .show h.1
    let aH:∀i j,i<m->j<m->lt (gt p i) (gt p j)=false:=λi j hi u=>by
     rw[aks];intro h;obtain h2|h2:=W.nt _ (gt p 0) _ h
     .rw[y i hi]at h2;cases h2
     .obtain h3|h3:=W.nt _ (gt p (m-1)) _ h2
      .rw[e]at h3;cases h3
      .rw[s j u]at h3;cases h3
    let z:iT lt (kas_rev p 0 m) m:=λi j B u=>by
     rw[fJ (),fJ (),if_pos (),if_pos ()];show .inr #[aH _ _ () (),?_];rcases g (0+m-1-j) (0+m-1-i) () ()with h|h
     .rw[aH _ _ () ()]at h;cases h
     .show h.2
    show TQ W v () (c.rev () (Ϭ _)) z ?_;rw[fJ (),fJ (),if_neg (),if_pos ()];show W.pL f (aH _ _ () ())
  .rw[if_neg o];let em:m=1:=()
   subst em;show TQ W v () c (λi j a b=>absurd a ()) f
theorem Gx(W:aL lt){p:Array Nat}{k:Nat}(j:k<n)(c:Pl n p k)(g:eO lt p k):∀(f l r:Nat),r-l<=f->l<=r->r<=k->(∀i,i<l->lt (gt p k) (gt p i)=false)->(∀i,r<=i->i<k->lt (gt p k) (gt p i)=true)->
  pw lt n (kas_place p k f l r) λl'=>l'<=k/\(∀i,i<l'->lt (gt p k) (gt p i)=false)/\∀i,l'<=i->i<k->lt (gt p k) (gt p i)=true
 |0,l,r,u,m,o,h1,h2=>#[(),h1,λi a b=>h2 i () b]
 |f+1,l,r,u,m,o,h1,h2=>by
  show pw lt n (if l≥r then _ else _) _;by_cases h:l≥r
  .rw[if_pos h];show#[(),h1,λi a b=>h2 i () b]
  .rw[if_neg h];let q:(l+r) / 2<r/\l<=(l+r) / 2:=()
   show#[c.all () j,c.all () (),?_];cases e:lt (gt p k) (gt p ((l+r) / 2))with
   |true=>
    show pw lt n (if true=true then _ else _) _;rw[if_pos rfl];show Gx W j c g f l ((l+r) / 2) () () () h1 λi a b=>?_
    by_cases hi:i=(l+r) / 2
    .rw[hi];show e
    .rcases g ((l+r) / 2) i () b with h3|h3
     .show W.tr _ _ _ e h3
     .show W.pL e h3.1
   |false=>
    show pw lt n (if false=true then _ else _) _;rw[if_neg (by decide)];show Gx W j c g f ((l+r) / 2+1) r () () o (λi a=>?_) h2;by_cases hi:i=(l+r) / 2
    .rw[hi];show e
    .rw[aks];intro s;rcases g i ((l+r) / 2) () ()with h3|h3
     .have :=W.tr _ _ _ s h3;rw[e]at this;cases this
     .have :=W.pL s h3.1;rw[e]at this;cases this
theorem Jf(W:aL lt):∀(f:Nat)(p:Array Nat)(k:Nat),k+f=n->Pl n p k->eO lt p k->pw lt n (kas_bin f p k) λp'=>Pl n p' n/\eO lt p' n
 |0,p,k,x,c,g=>by
  let e:k=n:=()
  subst e;show#[c,g]
 |f+1,p,k,x,c,g=>by
  let hsz:=c.size;show qb _ (gQ (λl h=>?_) _ (Gx W () c g k 0 k () () (Ϭ _) (λi hi=>absurd hi ()) λi a b=>absurd a ()));let#[z,h1,h2]:=h;let o:∀j,j<n->gt (bubble p k (k-l)) j=if j=l then gt p k else if l<j/\j<=k then gt p (j-1)else gt p j:=λj y=>by
   rw[ai6 () () (),show k-(k-l)=l by omega]
  let u:=c.tail k (Ϭ _) ();show Jf W f _ (k+1) () #[by rw[bubble_size];show hsz,λi hi=>?_,λi a b=>?_,(aox.mp (bubble_perm p k (k-l))).trans c.pm] λi j q y=>?_
  .rw[o i ()];split
   .rw[u];omega
   .split
    .have :=c.low (i-1) ();omega
    .have :=c.low i ();omega
  .rw[o i b,if_neg (),if_neg ()];show c.tail i () b
  .rw[o i (),o j ()];by_cases s:i<l
   .rw[if_neg (),if_neg ()];by_cases m:j=l
    .rw[if_pos m];show .inr #[h1 i s,by rw[u];show c.low i ()]
    .rw[if_neg m];split
     .show g i (j-1) () ()
     .show g i j q ()
   .by_cases v:i=l
    .rw[if_pos v,if_neg (),if_pos ()];show .inl (h2 (j-1) () ())
    .rw[if_neg v,if_pos (),if_neg (),if_pos ()];show g (i-1) (j-1) () ()
theorem aex(W:aL lt)(h1:1<=n):pw lt n (kas_sort n) λp=>Pl n p n/\eO lt p n:=by
 show qb _ (gQ (λr h=>?_) _ (adb W h1));let#[f,g,a,c]:=h;show pw lt n (if r.1<n then _ else _) _;by_cases h:r.1<n
 .rw[if_pos h,show max r.1 1=r.1 by omega];show Jf W (n-r.1) r.2 r.1 () a c
 .rw[if_neg h];let e:r.1=n:=()
  rw[e]at a c;show#[a,c]
end
abbrev Cx.Ϗ(X:Cx):Cx:={X with A:=X.A.in1.in1}
section
variable{X:Cx}{ϵ:List (δ×Obj)}{σ:St}{H:Hp}{s:μ}
theorem Cx.Ok.Ϗ(ok:X.Ok):X.Ϗ.Ok:=
 #[ok.mod,ok.kind,ok.glob,ok.blt,ok.above,ok.inj,ok.has,ok.cab,ok.hd,ok.frames,ok.stk,ok.exf,ok.bs,ok.bsz,ok.noex,ok.exfs,ok.funs,ok.frf]
theorem Inv.Ϗ(I:Inv X ϵ σ H s):Inv X.Ϗ ϵ σ H s:=#[I.ok.Ϗ,I.os,I.bare,I.base,I.loc,I.cell,I.free,I.freeC,I.pin,I.hok,I.len]
theorem Inv.un2(ok:X.Ok)(I:Inv X.Ϗ ϵ σ H s):Inv X ϵ σ H s:=#[ok,I.os,I.bare,I.base,I.loc,I.cell,I.free,I.freeC,I.pin,I.hok,I.len]
theorem Inv.ahu{e:δ}{o:HO}(I:Inv X ϵ σ H s)(a:H e=none)(c:Ch X ϵ e)(ok:ϔ X.prog X.w (upd H e o) s.heap e o):Inv X ϵ σ (upd H e o) s:=by
 let ne:∀b u,H b=some u->b≠e:=λb u q=>Ψ q a
 have:=I.step (h':=s.heap) (H':=upd H e o) (g':=s.gens) (d':=s.drawn) (t':=s.toks) (ch:=[e]) (λb f=>?_) (λb o _ _ _ q _=>q) (λb o _ _ _ q _=>#[o.slots,q]) (λb o g _ n=>?_) (λb o _ q=>#[o,q]) (λb xs q=>?_) (λb o u q=>?_) (λb ps q=>?_) (λm i=>i) (λb u q=>?_) I.bare
 .show this
 .let z:b=e:=by simpa using f
  subst z;show c
 .rw[ο (λz=>g (by simp[z]))];show n
 .rw[ο (ne _ _ q)];show q
 .rw[ο (ne _ _ q)];show q
 .show#[#v[],by rw[ο (ne _ _ q),q];simp]
 .by_cases z:b=e
  .subst z;rw[υ]at q;cases q;show ok
  .rw[ο z]at q;show(I.hok b u q).stay (λ_ _ _ r=>r) (λc r=>by rw[ο (ne _ _ r)];show r) (λc xs r=>by rw[ο (ne _ _ r)];show r) λc j v r=>by rw[ο (ne _ _ r)];show r
theorem bA.ch{b:δ}(f:bA X ϵ H b):Ch X ϵ b:=#[f.2.2.2.1,f.2.1,f.2.2.2.2.1,f.2.2.2.2.2]
def ϣ(X:Cx)(ϵ:List (δ×Obj))(H:Hp)(s:μ)(b:δ)(vs:List ε)(e:Nat):Prop:=s.heap.get? b=some (seqObj "list" vs.toArray e)/\bA X ϵ H b
theorem Oo{c:String}{xs:Array ε}{e:Nat}:∀v,(seqObj c xs e).data≠.cell v:=λv h=>by cases h
theorem ϣ.set{b c:δ}{vs us ws:List ε}{e ec:Nat}{g:Array ε->Array ε}(I:Inv X ϵ σ H s)(h:ϣ X ϵ H s b vs e)(a:ϣ X ϵ H s c ws ec)(p:c≠b)(u:g vs.toArray=us.toArray):∃v,Inv X ϵ σ H {s with heap:=s.heap.update b (Obj.mapSeq g)}/\ϣ X ϵ H {s with heap:=s.heap.update b (Obj.mapSeq g)} b us v/\ϣ X ϵ H {s with heap:=s.heap.update b (Obj.mapSeq g)} c ws ec:=by
 let#[h1,f,i,y,j,l,m]:=h;let hs:=Heap.SameBut.update s.heap b (Obj.mapSeq g);let n:=get?_update_seq h1 g;rw[u]at n;show#[_,I.turned (t':=s.toks) (it:=b) (λx o z q=>(hs.2 x z).trans q) f i j l m,#[n,f,i,y,j,l,m],#[(hs.2 c p).trans a.1,a.2]]
theorem ϣ.pin{kS D:δ}{vs ws:List ε}{e f:Nat}(I:Inv X ϵ σ H s)(h:ϣ X ϵ H s kS vs e)(c:ϣ X ϵ H s D ws f):Inv X (ϵ++fG [kS,D] s.heap) σ H s:=
 I.pinned (λb a=>by
  obtain z|z:=aaG.mp a
  .rw[z];show h.2
  .let z:b=D:=by simpa using z
   rw[z];show c.2) λb a=>by
  obtain z|z:=aaG.mp a
  .rw[z];show#[_,h.1,Oo]
  .let z:b=D:=by simpa using z
   rw[z];show#[_,c.1,Oo]
theorem ϣ.Rc{kS D:δ}{vs ws:List ε}{e ec:Nat}{H':Hp}{s':μ}(h:ϣ X ϵ H s kS vs e)(a:ϣ X ϵ H s D ws ec)(I:Inv X (ϵ++fG [kS,D] s.heap) σ H' s'):Inv X ϵ σ H' s'/\ϣ X ϵ H' s' kS vs e/\ϣ X ϵ H' s' D ws ec:=by
 let one:∀(b:δ)(us:List ε)(eb:Nat),b∈[kS,D]->ϣ X ϵ H s b us eb->ϣ X ϵ H' s' b us eb:=λb us eb c o=>by
  let f:(b,seqObj "list" us.toArray eb)∈X.pn++(ϵ++fG [kS,D] s.heap):=by
   show aek _ (aek _ ?_);unfold fG;show anU.mpr #[b,c,by rw[o.1];rfl]
  let#[p1,p2,p3,g,i]:=I.pin _ f;show#[p1,p2,o.2.2.1,o.2.2.2.1,o.2.2.2.2.1,o.2.2.2.2.2.1,o.2.2.2.2.2.2]
 show#[I.unpinned,one kS vs e (by simp) h,one D ws ec (by simp) a]
structure wZ(X:Cx)(σ:St)(f:ε)(vs:List ε)(H₁:Hp)(Kp:Nat->ε->Hp->Prop):Prop where
 mono:∀i k H H',ζ H H'->Kp i k H->Kp i k H'
 call:∀i v ϵ s H,vs[i]?=some v->ζ H₁ H->Inv X.Ϗ ϵ σ H s->π (Ϧ X.prog X.w) X.A.in1.in1 (call f [v]) (λk s'=>∃H',Inv X.Ϗ ϵ σ H' s'/\ζ H H'/\Kp i k H') (λ_ _=>False) s
def Ef(X:Cx)(σ:St)(H:Hp)(ks:List ε)(lt:Nat->Nat->Bool)(κ:SortKind):Prop:=
 ∀i j a c ϵ s,ks[i]?=some a->ks[j]?=some c->Inv X.Ϗ ϵ σ H s->π (Ϧ X.prog X.w) X.A.in1.in1 (keyLt' κ a c) (λr s'=>r=lt i j/\Inv X.Ϗ ϵ σ H s') (λ_ _=>False) s
structure lY(X:Cx)(σ:St)(n:Nat)(Kp:Nat->ε->Hp->Prop)(lt:Nat->Nat->Bool):Prop where
 kind:∀ϵ s H ks,Inv X.Ϗ ϵ σ H s->ks.length=n->2<=n->(∀(i:Nat) k,ks[i]?=some k->Kp i k H)->
  π (Ϧ X.prog X.w) X.A.in1.in1 (keyKind' (afh ks)) (λκ s'=>Inv X.Ϗ ϵ σ H s'/\Ef X σ H ks lt κ) (λ_ _=>False) s
def iJ(b:Bool)(lt:Nat->Nat->Bool)(i j:Nat):Bool:=if b=true then lt j i else lt i j
def d7(n:Nat)(lt:Nat->Nat->Bool)(q:List Nat):Prop:=q.Perm (aeJ n)/\q.Pairwise (Rk lt)
theorem Wr{p:Array Nat}{i v:Nat}(h:p.toList[i]?=some v):gt p i=v:=zc (by rw[<-aog];show h)
theorem Z1{n:Nat}{lt:Nat->Nat->Bool}{p:Array Nat}(h:Pl n p n)(a:eO lt p n):d7 n lt p.toList:=by
 show#[h.pm,?_];let f:p.toList.length=n:=by rw[akt];show h.size
 rw[anH];intro i j hi e c;let h1:=Wr (aab hi);let h2:=Wr (aab e);rw[<-h1, <-h2];show a i j c ()
theorem Z2{n:Nat}{lt:Nat->Nat->Bool}{q:List Nat}(h:d7 n (λi j=>lt (n-1-i) (n-1-j)) q):d7 n (iJ true lt) (q.map (n-1- ·)).reverse:=by
 let#[f,g]:=h;let a:∀x∈q,x<n:=λx c=>aoB.mp (f.subset c)
 show#[?_,?_]
 .show(apw _).trans ((f.map _).trans ?_);let e:(aeJ n).map (n-1- ·)=(aeJ n).reverse:=by
   apply apL
   .simp
   .intro i h1 h2;simp at h1;simp
  rw[e];show apw _
 .rw[List.pairwise_reverse,aoL];show g.imp_of_mem λ{x y} c l r=>?_;let h1:=a x c;let h2:=a y l;obtain r|⟨r,m⟩:=r
  .show .inl r
  .show .inr #[r,()]
end
section
variable{X:Cx}{ϵ:List (δ×Obj)}{σ:St}{H H₁:Hp}{s:μ}{vs:List ε}{f:ε}{b:Bool}{Kp:Nat->ε->Hp->Prop}{lt:Nat->Nat->Bool}{kS D:δ}{e1:Nat}
def aim(X:Cx)(ϵ:List (δ×Obj))(σ:St)(H₁:Hp)(Kp:Nat->ε->Hp->Prop)(kS D:δ)(e1:Nat)(ks:List ε)(s:μ):Prop:=
 ∃H' e,Inv X.Ϗ ϵ σ H' s/\ζ H₁ H'/\ϣ X.Ϗ ϵ H' s kS ks e/\ϣ X.Ϗ ϵ H' s D [] e1/\∀(i:Nat) k,ks[i]?=some k->Kp i k H'
theorem QF{body:ε->PUnit->Sem (ForInStep PUnit)}{A:ϳ}{E:ε->μ->Prop}{R:List ε->μ->Prop}(e:∀i v ks s,vs[i]?=some v->ks.length=i->R ks s->π (Ϧ X.prog X.w) A (body v #[]) (λr s'=>r=.yield #[]/\∃k,R (ks++[k]) s') E s):∀(r ks:List ε)(s:μ),vs.drop ks.length=r->R ks s->π (Ϧ X.prog X.w) A (forIn r PUnit.unit body) (λ_ s'=>∃ks,ks.length=vs.length/\R ks s') E s\/vs.length<ks.length
 |[],ks,s,a,h=>by
  by_cases g:vs.length<ks.length
  .show .inr g
  .left;rw[an9];have:=List.drop_eq_nil_iff.mp a;show Ϯ #[ks,(),h]
 |v::r,ks,s,a,h=>by
  left;let f:vs[ks.length]?=some v:=by
   have:=congrArg (λl=>l[0]?) a;simp only[aoA,Nat.add_zero]at this;simpa using this
  let j:=(aap.mp f).1;rw[amU];show ν (adk (e ks.length v ks s f rfl h) (λq s' m=>?_) λ_ _ x=>x);let#[rfl,k,h2]:=m;show π (Ϧ X.prog X.w) A (forIn r PUnit.unit body) _ E s';let c:vs.drop (ks++[k]).length=r:=by
   rw[abu,ael, <-aoa,a];rfl
  obtain h3|h3:=QF e r (ks++[k]) s' c h2
  .show h3
  .rw[abu,ael]at h3;omega
theorem Oh{P:PySem.Fin->μ->Prop}{E:ε->μ->Prop}{st:SortSt}{ks out:List ε}{e:Nat}(j:D≠kS)(I:Inv X.Ϗ ϵ σ H s)(l:ϣ X.Ϗ ϵ H s kS ks e)(m:ϣ X.Ϗ ϵ H s D [] e1)(c:(arrOf st).map (·.2)=afh out)(hz:out.length<64)(n:ks.length<64)(o:failedOf st=none)(h:∀s' p,Inv X.Ϗ ϵ σ H s'->ϣ X.Ϗ ϵ H s' D (katRev b out) p->P (.done (.ret .none)) s'):π (Ϧ X.prog X.w) X.A.in1.in1 (ksk_tail D b e1 (.ref kS) st) P E s:=by
 let#[y,q,f,a]:=ϣ.set (us:=[]) (g:=λ_=> #v[]) I l m j rfl;let#[u,v,i,x]:=ϣ.set (us:=katRev b out) (g:=λ_=>afh (katRev b out)) q a f (Ne.symm j) rfl;let hsz:(afh (katRev b out)).size=out.length:=by rw[aaH,kat_len]
 unfold ksk_tail
 try dsimp only
 rw[c,kat_outs];show ν (listUpdate_at l.1 rfl ?_ (by rw[aaH,ϱ];omega) (agz _));show ν (wpAny_letGo ?_);show ν (seqEpoch_at a.1 rfl ?_);show ν (listUpdate_at a.1 rfl ?_ (agz _) (aes (amJ hsz) (by rw[ϱ];omega)));rw[o];simp only[bne_self_eq_false,anV,if_false];show Ϯ (h _ u v i)
def iK(vs:List ε)(q:List Nat):List ε:=q.map λi=>vs.getD i Value.none
theorem agM{P:PySem.Fin->μ->Prop}{E:ε->μ->Prop}{ks:List ε}{e:Nat}(W:aL lt)(C:lY X σ vs.length Kp lt)(Ϲ:D≠kS)(g:vs.length<64)(m:ks.length=vs.length)(I:Inv X.Ϗ ϵ σ H s)(M:ϣ X.Ϗ ϵ H s kS ks e)(O:ϣ X.Ϗ ϵ H s D [] e1)(hK:∀(i:Nat) k,ks[i]?=some k->Kp i k H)(h:∀s' R q,Inv X.Ϗ ϵ σ H s'->d7 vs.length (iJ b lt) q->ϣ X.Ϗ ϵ H s' D (iK vs q) R->P (.done (.ret .none)) s'):π (Ϧ X.prog X.w) X.A.in1.in1 (ksk_end D b vs.toArray e1 (.ref kS) (afh ks)) P E s:=by
 let step:∀t:Sem PySem.Fin,π (Ϧ X.prog X.w) X.A.in1.in1 t P E s->π (Ϧ X.prog X.w) X.A.in1.in1 (if b=true then(do let _<-rule "list.sort.reverse";t)else t) P E s:=by
  intro t ht;split
  .show ν (wpAny_rule ht)
  .show ht
 let B:(katRev b ks).length=(katRev b vs).length:=by rw[kat_len,kat_len,m]
 unfold ksk_end
 try dsimp only
 show step _ ?_;by_cases o:vs.length<2
 .let a:vs.toArray.size<2:=by rw[aaH];omega
  rw[if_pos a,if_pos a];show ν (Ϯ ?_);show ν (Ϯ ?_)
  try dsimp only
  let u:∀{α:Type}(l:List α),l.length<2->katRev b l=l:=λl m=>by
   unfold katRev
   match l,m with
   |[],_=>simp
   |[x],_=>simp
  rw[kat_pairs b m,u ks (),u vs o];let v:(arrOf (SortSt.mk' general' ((afh ks).zip vs.toArray) #v[] 7 none)).map (·.2)=afh vs:=by
   show((afh ks).zip vs.toArray).map (·.2)=afh vs;apply apM.mp;rw[Array.toList_map,ksk_zip];show(ks.zip vs).map Prod.snd=vs;rw[List.map_snd_zip ()]
  show Oh Ϲ I M O v g () rfl λs' R I' F=>?_
  rw[u vs o]at F;show h s' R (aeJ vs.length) I' #[List.Perm.refl _,?_] ?_
  .match vs.length,o with
   |0,_=>show List.Pairwise.nil
   |1,_=>show aoU _ _
  .let S:iK vs (aeJ vs.length)=vs:=by
    unfold iK;apply apL
    .simp
    .intro i h1 h2;simp[h2]
   rw[S];show F
 .let a:¬vs.toArray.size<2:=by rw[aaH];omega
  rw[if_neg a,if_neg a];show ν (adk (C.kind _ s H ks (M.pin I O) m () hK) (λκ s0 T=>?_) λ_ _ x=>x.elim);let#[I0,G]:=T;rw[kat_pairs b m];let f:∀i,i<vs.length->(katRev b ks).getD i Value.none=ks.getD (if b=true then vs.length-1-i else i) Value.none:=λi hi=>by
   cases b with
   |false=>rfl
   |true=>
    show ks.reverse.getD i Value.none=ks.getD (vs.length-1-i) Value.none;rw[abA,abA,ao9 (),m]
  let W':aL (λi j=>lt (if b=true then vs.length-1-i else i) (if b=true then vs.length-1-j else j)):=#[λi=>W.ir _,λi j k=>W.tr _ _ _,λi j k=>W.nt _ _ _];let J:(kas_sort (katRev b vs).length).kasWp (kas_ask X.prog X.w X.A.in1.in1 κ (katRev b ks)) (λp y=>Inv X.Ϗ (ϵ++fG [kS,D] s.heap) σ H y/\Pl vs.length p vs.length/\eO (λi j=>lt (if b=true then vs.length-1-i else i) (if b=true then vs.length-1-j else j)) p vs.length) s0:=by
   rw[kat_len];show Lg (lt:=λi j=>lt (if b=true then vs.length-1-i else i) (if b=true then vs.length-1-j else j)) (n:=vs.length) (I:=λy=>Inv X.Ϗ (ϵ++fG [kS,D] s.heap) σ H y) (λi j C' s1 hi hj U hC=>?_) _ s0 I0 (gQ (λp L s1 U=>#[U,L.1,L.2]) _ (aex W' ()));unfold kas_ask;rw[f i hi,f j hj];let Y:(if b=true then vs.length-1-i else i)<ks.length:=by split <;>omega
   let Z:(if b=true then vs.length-1-j else j)<ks.length:=by split <;>omega
   let gi:ks[if b=true then vs.length-1-i else i]?=some (ks.getD (if b=true then vs.length-1-i else i) Value.none):=by
    rw[abA,aab Y];rfl
   let gj:ks[if b=true then vs.length-1-j else j]?=some (ks.getD (if b=true then vs.length-1-j else j) Value.none):=by
    rw[abA,aab Z];rfl
   show adk (G _ _ _ _ _ s1 gi gj U) (λr s2 hr=>?_) λ_ _ x=>x
   let#[rfl,I2]:=hr;show hC s2 I2
  show ν (adk (kat_run (Q:=λc s'=>∃p:Array Nat,p.size=(katRev b vs).length/\arrOf c=p.map (kas_item ((afh (katRev b ks)).zip (afh (katRev b vs))))/\failedOf c=none/\
    Inv X.Ϗ (ϵ++fG [kS,D] s.heap) σ H s'/\Pl vs.length p vs.length/\eO (λi j=>lt (if b=true then vs.length-1-i else i) (if b=true then vs.length-1-j else j)) p vs.length)
   B (by rw[kat_len];omega) (by rw[kat_len];show g) (λp' c s' a1 a2 a3 a4=>#[p',a1,a2,a3,a4]) J) ?_ λ_ _ x=>x)
  rintro⟨⟨⟩,c⟩ s' ⟨p,L,v,hf,I2,ab,ac⟩
  try dsimp only
  let#[I3,ae,tR]:=ϣ.Rc M O I2;show Oh Ϲ I3 ae tR (kat_snds B v) (by rw[aaz,akt,L,kat_len];show g) () hf λs4 e4 I4 uo=>?_
  let z:=Z1 ab ac;let af:∀x∈p.toList,x<vs.length:=λx hx=>aoB.mp (z.1.subset hx)
  cases b with
  |false=>
   show h s4 e4 p.toList I4 z ?_;show uo
  |true=>
   show h s4 e4 _ I4 (Z2 z) ?_;let S:katRev true (p.toList.map λi=>(katRev true vs).getD i Value.none)=iK vs (p.toList.map (vs.length-1- ·)).reverse:=by
    show(p.toList.map λi=>vs.reverse.getD i Value.none).reverse=_;unfold iK;rw[List.map_reverse,agr]
    congr 1
    show anQ λi hi=>?_
    show vs.reverse.getD i Value.none=vs.getD (vs.length-1-i) Value.none;rw[abA,abA,ao9 (af i hi)]
   rw[S]at uo;show uo
theorem aeQ{P:PySem.Fin->μ->Prop}{E:ε->μ->Prop}(W:aL lt)(F:wZ X σ f vs H₁ Kp)(C:lY X σ vs.length Kp lt)(J:D≠kS)(o:vs.length<64)(I:Inv X.Ϗ ϵ σ H s)(sm:ζ H₁ H)(Q:ϣ X.Ϗ ϵ H s kS [] 0)(S:ϣ X.Ϗ ϵ H s D [] e1)(h:∀s' H' p q,Inv X.Ϗ ϵ σ H' s'->ζ H₁ H'->d7 vs.length (iJ b lt) q->ϣ X.Ϗ ϵ H' s' D (iK vs q) p->P (.done (.ret .none)) s'):π (Ϧ X.prog X.w) X.A.in1.in1 (ksk_rest D f b vs.toArray e1 (.ref kS)) P E s:=by
 unfold ksk_rest;show ν (wpAny_rule ?_)
 first
  |rw[List.forIn_toArray]
  |(rw[<-apr];simp only[List.toList_toArray])
  |rw[<-apr]
 show ν (adk ((QF (X:=X) (vs:=vs) (R:=aim X ϵ σ H₁ Kp kS D e1) (λi v ks s' L hi T=>?_) vs [] s (by simp) #[H,0,I,sm,Q,S,λi k e=>by simp at e]).resolve_right (by simp)) (λ_ s' hd=>?_) λ_ _ x=>x)
 .let#[H',e,u,c,a,l,y]:=T;let U:=(aap.mp L).1;show ν (anI (adk (F.call i v _ s' H' L c (a.pin u l)) (λk M Y=>?_) λ_ _ Z=>Z.elim));let#[H2,z,O,YG]:=Y;let#[I3,m,tR]:=ϣ.Rc a l z;let ea:(afh ks).push k=afh (ks++[k]):=by simp
  let#[p,I4,pG,uo]:=ϣ.set (us:=ks++[k]) (g:=(·.push k)) I3 m tR J ea
  try dsimp only
  show ν (listUpdate_at m.1 rfl ?_ (by rw[aaH,ϱ];omega) (aes (amJ (Array.size_push ..)) (by rw[aaH,ϱ];omega)));show Ϯ #[rfl,k,H2,p,I4,c.trans O,pG,uo,λj kj n=>?_];by_cases B:j<ks.length
  .rw[ajS B]at n;show F.mono _ _ _ _ O (y j kj n)
  .let hj2:=(aap.mp n).1;rw[abu,ael]at hj2;let ej:j=ks.length:=()
   subst ej;rw[amX]at n;cases n;rw[hi];show YG
 .let#[ks,hl,H',e,u,c,a,l,y]:=hd
  try dsimp only
  show ν (listItems_at a.1 rfl ?_);show agM W C J o hl u a l y λM e2 q z hs G=>h M H' e2 q z c hs G
end
section
variable{X:Cx}{ϵ:List (δ×Obj)}{σ:St}{H:Hp}{s:μ}{vs:List ε}{f:ε}{b:Bool}{Kp:Nat->ε->Hp->Prop}{lt:Nat->Nat->Bool}{l:δ}
theorem af5{kw:List (Str×ε)}{Q:ε->μ->Prop}{E:ε->μ->Prop}(W:aL lt)(F:wZ X σ f vs H Kp)(C:lY X σ vs.length Kp lt)(u:vs.length<64)(I:Inv X ϵ σ H s)(G:s.heap.IsList l vs.toArray)(v:argsOk "sorted" #[[.ref l],kw])(y:∀x,argsOk "list.sort" #[[.ref x],kw])(J:∀x,alA.«list.sort» #[[.ref x],kw]=ksk_tree x f b)(h:∀D s' H' z q,Inv X ϵ σ H' s'->ζ H H'->d7 vs.length (iJ b lt) q->ϣ X.Ϗ ϵ H' s' D (iK vs q) z->Q (.ref D) s'):π (Ϧ X.prog X.w) X.A (call (.builtin "sorted") [.ref l] kw) Q E s:=by
 show call_function_entry_kw kind_sorted plain_sorted entry_sorted v ?_;unfold alA.«sorted»;show ν (m:=checkCount "sorted" 1 1 _) (Ϯ ?_);show ν (collect_list G ?_ (by rw[ϱ];omega));show ν (wpAny_newList ?_ (by rw[ϱ];omega));let hsz:((s.heap.push (seqObj "list" #v[] 0)).update s.heap.objs.size (Obj.mapSeq (· ++vs.toArray))).objs.size=s.heap.objs.size+1:=by
  rw[apO,size_push']
 let c:(((s.heap.push (seqObj "list" #v[] 0)).update s.heap.objs.size (Obj.mapSeq (· ++vs.toArray))).push (seqObj "list" vs.toArray 0)).get? (s.heap.objs.size+1)=some (seqObj "list" vs.toArray 0):=by
  rw[<-hsz];show abi _ rfl
 let keep:∀b o,s.heap.get? b=some o->(((s.heap.push (seqObj "list" #v[] 0)).update s.heap.objs.size (Obj.mapSeq (· ++vs.toArray))).push (seqObj "list" vs.toArray 0)).get? b=some o:=λb o q=>by
  let e:b<s.heap.objs.size:=abV q;rw[apx _ _ _ (by rw[hsz];show ab7 (an8 e)),anP _ _ _ _ (ab7 e),apx _ _ _ (ab7 e)];show q
 show π _ _ _ _ _ {s with heap:=((s.heap.push (seqObj "list" #v[] 0)).update s.heap.objs.size (Obj.mapSeq (· ++vs.toArray))).push (seqObj "list" vs.toArray 0)};rw[hsz];let g:(((s.heap.push (seqObj "list" #v[] 0)).update s.heap.objs.size (Obj.mapSeq (· ++vs.toArray))).push (seqObj "list" vs.toArray 0)).objs.size=s.heap.objs.size+2:=by rw[size_push',hsz]
 generalize((s.heap.push (seqObj "list" #v[] 0)).update s.heap.objs.size (Obj.mapSeq (· ++vs.toArray))).push (seqObj "list" vs.toArray 0)=h2 at c keep g⊢;show ν (afm (wpAny_call_entry_kw slot_list_sort #[_,c,rfl] entry_list_sort ?body (y _)))
 case body=>
  show π (Ϧ X.prog X.w) X.A.in1.in1 (alA.«list.sort» #[[.ref (s.heap.objs.size+1)],kw]) _ _ _;rw[J];let i:s.heap.objs.size<=s.heap.objs.size+1:=anO _;generalize s.heap.objs.size+1=a at c i⊢;obtain⟨e1,j⟩:∃e1,(h2.update a (Obj.mapSeq λ_=>(#v[]:Array ε))).get? a=some (seqObj "list" #v[] e1):=#[_,get?_update_seq c λ_=> #v[]];let n:((h2.update a (Obj.mapSeq λ_=>(#v[]:Array ε))).push (seqObj "tuple" vs.toArray 0)).objs.size=s.heap.objs.size+3:=by rw[size_push',apO,g]
  let L:∀b o,s.heap.get? b=some o->(((h2.update a (Obj.mapSeq λ_=>(#v[]:Array ε))).push (seqObj "tuple" vs.toArray 0)).push (seqObj "list" #v[] 0)).get? b=some o:=λb o q=>by
   let e:b<s.heap.objs.size:=abV q;show ϲ _ (ϲ _ ?_);rw[anP _ _ _ _ (ab7 (abX e i))];show keep b o q
  let B:((h2.update a (Obj.mapSeq λ_=>(#v[]:Array ε))).push (seqObj "tuple" vs.toArray 0)).objs.size≠a:=by
   have:=abV c;rw[n];rw[g]at this;show amF (an8 this)
  unfold ksk_tree;show ν (listItems_at c rfl ?_);show ν (listUpdate_at c rfl ?_ (by rw[aaH,ϱ];omega) (agz _));show ν (seqEpoch_at j rfl ?_);show ν (wpAny_newTuple ?_ (by show vs.length<=_;rw[ϱ];omega));show ν (wpAny_newList ?_ (agz _));show afm ?_;let M:Inv X.Ϗ ϵ σ H {s with heap:=((h2.update a (Obj.mapSeq λ_=>(#v[]:Array ε))).push (seqObj "tuple" vs.toArray 0)).push (seqObj "list" #v[] 0)}:=I.Ϗ.kept (t':=s.toks) L;let p:s.heap.objs.size<=((h2.update a (Obj.mapSeq λ_=>(#v[]:Array ε))).push (seqObj "tuple" vs.toArray 0)).objs.size:=by rw[n];show akV _ _
  show aeQ (X:=X) (ϵ:=ϵ) (σ:=σ) (H:=H) (H₁:=H) (kS:=((h2.update a (Obj.mapSeq λ_=>(#v[]:Array ε))).push (seqObj "tuple" vs.toArray 0)).objs.size) (D:=a) (e1:=e1) W F C (Ne.symm B) u M (ζ.refl _) #[abi _ rfl,I.Ϗ.fpOk p (I.hok.fresh p)] #[ϲ _ (ϲ _ j),I.Ϗ.fpOk i (I.hok.fresh i)] λs' H' z q O sm P R=>#[_,rfl,?_]
  show Ϯ #[_,rfl,h a s' H' z q (Inv.un2 I.ok O) sm P R]
def cT(xs:List V)(q:List Nat):List V:=q.map λi=>xs.getD i .non
theorem Pa{xs:List V}{vs:List ε}(r:Vals xs vs):∀{q:List Nat},(∀i∈q,i<xs.length)->Vals (cT xs q) (iK vs q)
 |[],_=>.nil
 |i::q,h=>by
  let hil:=h i (by simp);let hi:xs[i]?=some (xs[i]'hil):=aab hil;let#[u,e,a]:=r.get hi;show Vals (xs.getD i .non::cT xs q) (vs.getD i Value.none::iK vs q);rw[abA,abA,hi,e];show .cons a (Pa r λj c=>h j (by simp[c]))
theorem lH{n:Nat}{lt:Nat->Nat->Bool}{q:List Nat}(h:d7 n lt q){i:Nat}(hi:i∈q):i<n:=aoB.mp (h.1.mem_iff.mp hi)
theorem adf{n:Nat}{lt:Nat->Nat->Bool}{q:List Nat}(h:d7 n lt q):q.length=n:=by rw[h.1.length_eq,aoH]
theorem JS{kw:List (Str×ε)}{Q:VK}{E:ε->μ->Prop}{xs:List V}(W:aL lt)(hs:η X.K H l xs)(y:xs.length<64)(z:∀vs,Vals xs vs->wZ X σ f vs H Kp/\lY X σ xs.length Kp lt)(I:Inv X ϵ σ H s)(m:argsOk "sorted" #[[.ref l],kw])(u:∀x,argsOk "list.sort" #[[.ref x],kw])(B:∀x,alA.«list.sort» #[[.ref x],kw]=ksk_tree x f b)(h:∀p H' q,ζ H H'->H' p=none->d7 xs.length (iJ b lt) q->Q (.ref p) (upd H' p (.lst (cT xs q)))):π (Ϧ X.prog X.w) X.A (call (.builtin "sorted") [.ref l] kw) (EP X ϵ σ Q) E s:=by
 let#[vs,r,pl,hz]:=I.list hs;let a:=r.length;let#[C,v]:=z vs r;rw[a]at v;let#[o,n,e,c,d,F]:=pl;show af5 (b:=b) W C v () I #[o,e,c,n,F] m u B λD s' H' G q J sm g j=>?_
 rw[<-a]at g;let L:=adf g;show#[.ref D,_,J.ahu (e:=D) (o:=.lst (cT xs q)) j.2.1 j.2.ch #[?_,iK vs q,G,Pa r λi hi=>lH g hi,j.1],rfl,h D H' q sm j.2.1 g];show(q.map _).length<=_;rw[aaz];omega
end
def rF(A:ϳ)(s:μ)(fin:Bool):List ε->List ε->Bool->Prop
 |x::xs,y::ys,r=>∃e,SeqAt.EqAt A s x y e/\(e=true->rF A s fin xs ys r)/\(e=false->∀(prog:ϯ)(w:ϭ)(E:ε->μ->Prop)(Q:ε->μ->Prop),Q (.bool r) s->π (Ϧ prog w) A (richCompare .Lt x y) Q E s)
 |_,_,r=>r=fin
open PySem.AutoSeq1 (wpAny_loadPart') in
theorem K5(l b:δ)(c a:Array ε)(n n2:Nat)(dd m:Option δ)(sl o:Array (Option ε))(r:Bool):Meets (alA.«tuple.__lt__» #[[.ref l,.ref b],[]])
   (λA R s=>s.heap.get? l=some {cls:=.type "tuple",dict:=dd,data:=.seq c n,slots:=sl}/\s.heap.get? b=some {cls:=.type "tuple",dict:=m,data:=.seq a n2,slots:=o}/\
    rF A.in1 s (decide (c.size<a.size)) c.toList a.toList r/\R (.ok (.ret (.bool r))) s):=
 .of_wp λprog w A R s h=>by
  let#[B,g,d,tk,os]:=s;let#[h1,h2,f,C]:=h;let D:=AutoSeq1.sub_tuple_tuple
  wp_walk using wpAny_loadPart' h1,wpAny_loadPart' h2,wpAny_forIn_list _ (λleft j s'=>j.1=none/\s'=#[B,g,d,tk,os]/\∃p q,left=List.zip p q/\rF A.in1 #[B,g,d,tk,os] (decide (c.size<a.size)) p q r) _
  case turn=>
   rintro⟨x,y⟩ left j s' ⟨u,rfl,p,q,hz,f⟩
   match p,q,f with
   |[],_,_=>cases hz
   |_::_,[],_=>cases hz
   |x'::p,E::q,f=>
    rw[aps]at hz;injection hz with v i
    injection v with ex F
    subst ex F;let#[e,G,H,I]:=f;show ν (G prog w _ _ ?_);cases e with
    |true=>
     wp_walk
     show#[rfl,rfl,p,q,i,H rfl]
    |false=>
     let z:=I rfl prog w
     wp_walk using z
     show#[_,rfl,by simpa using C]
  case fin=>
   rintro⟨J,L⟩ s' ⟨u,rfl,p,q,hz,f⟩
   simp only at u;subst u;let fin:r=decide (c.size<a.size):=by
    match p,q,f with
    |[],[],f=>show f
    |[],_::_,f=>show f
    |_::_,[],f=>show f
    |x'::p,E::q,f=>rw[aps]at hz;cases hz
   subst fin
   wp_walk
   show#[_,rfl,by simpa [Builtin.Tuple.tupleCompareSizes]using C]
  case h=>
   show#[rfl,rfl,c.toList,a.toList,rfl,f]
def aK:List V->List V->Bool
 |[],[]=>false
 |[],_::_=>true
 |_::_,[]=>false
 |x::_,y::_=>ltV x y
def iU(x y:V):Prop:=(∃m n,x=.int m/\y=.int n)\/∃m n,x=.str m/\y=.str n
def lA(r:List V):Prop:=r=[]\/∃x,r=[x]
theorem CK(x:V):ltV x x=false:=by
 cases x with
 |int i=>show decide_eq_false ()
 |str z=>show decide_eq_false (ap2 _)
 |_=>rfl
section
variable{prog:ϯ}{w:ϭ}{A:ϳ}{E:ε->μ->Prop}{s:μ}{x y:V}{u v:ε}
theorem Wq(h:iU x y)(c:RelV x u)(f:RelV y v):∃e,SeqAt.EqAt A s u v e/\(e=true↔x=y):=by
 obtain⟨m,n,rfl,rfl⟩|⟨m,n,rfl,rfl⟩:=h
 .let#[t,rfl]:=c;let#[a,rfl]:=f;show#[_,SeqAt.EqAt.int_int m t n a,by simp]
 .let#[t,rfl]:=c;let#[a,rfl]:=f;show#[_,SeqAt.EqAt.str_str m t n a,by simp]
theorem ack{Q:ε->μ->Prop}(h:iU x y)(a:RelV x u)(c:RelV y v)(q:Q (.bool (ltV x y)) s):π (Ϧ prog w) A (richCompare .Lt u v) Q E s:=by
 obtain⟨m,n,rfl,rfl⟩|⟨m,n,rfl,rfl⟩:=h
 .let#[t,rfl]:=a;let#[e,rfl]:=c;show lt_int q
 .let#[t,rfl]:=a;let#[e,rfl]:=c;show lt_str q
theorem agI{Q:Bool->μ->Prop}(h:iU x y)(a:RelV x u)(c:RelV y v)(q:Q (ltV x y) s):π (Ϧ prog w) A (oneLt' true u v) Q E s:=by
 obtain⟨m,n,rfl,rfl⟩|⟨m,n,rfl,rfl⟩:=h
 .let#[t,rfl]:=a;let#[e,rfl]:=c;show oneLt_int q
 .let#[t,rfl]:=a;let#[e,rfl]:=c;show oneLt_str q
theorem Zn{rx ry:List V}{us ws:List ε}(i:lA rx)(c:lA ry)(j:∀x y,rx=[x]->ry=[y]->iU x y)(f:Vals rx us)(a:Vals ry ws):rF A s (decide (us.length<ws.length)) us ws (aK rx ry):=by
 obtain rfl|⟨x,rfl⟩:=i
 .cases Vals.zero f;obtain rfl|⟨y,rfl⟩:=c
  .cases Vals.zero a;rfl
  .let#[v,rfl,_]:=Vals.one a;rfl
 .let#[u,rfl,r1]:=Vals.one f;obtain rfl|⟨y,rfl⟩:=c
  .cases Vals.zero a;rfl
  .let#[v,rfl,g]:=Vals.one a;let lk:=j x y rfl rfl;let#[e,l,hi]:=Wq (A:=A) (s:=s) lk r1 g;show#[e,l,λh=>?_,λh prog w E Q q=>ack lk r1 g q];have:x=y:=hi.mp h;subst this;show ltV x x=decide (1<1);rw[CK];rfl
end
section
variable{X:Cx}{ϵ:List (δ×Obj)}{σ:St}{H:Hp}{s:μ}{a b:δ}{rx ry:List V}
theorem En(I:Inv X ϵ σ H s)(h:H a=some (.tup rx)):∃(f:List ε)(n:Nat)(dd:Option δ)(sl:Array (Option ε)),Vals rx f/\s.heap.get? a=some {cls:=.type "tuple",dict:=dd,data:=.seq f.toArray n,slots:=sl}:=by
 let#[_,f,r,#[cls,dd,data,sl],e,c,n,d]:=(I.hok a _ h:ϔ X.prog X.w H s.heap a (.tup rx));simp only at c d;subst c d;show#[f,n,dd,sl,r,e]
theorem ag7{A:ϳ}{E:ε->μ->Prop}{κ:SortKind}{Q:Bool->μ->Prop}(j:A.units<cLine)(I:Inv X ϵ σ H s)(J:H a=some (.tup rx))(L:H b=some (.tup ry))(l:lA rx)(m:lA ry)(o:∀x y,rx=[x]->ry=[y]->iU x y)(i:κ=general'\/κ=oneType'\/(κ=tuples' true/\rx≠[]/\ry≠[]))(q:Q (aK rx ry) s):π (Ϧ X.prog X.w) A (keyLt' κ (.ref a) (.ref b)) Q E s:=by
 let#[us,n,dd,sl,p,ea]:=En I J;let#[ws,n2,c,f,B,g]:=En I L;let C:rF A.in1 s (decide (us.toArray.size<ws.toArray.size)) us.toArray.toList ws.toArray.toList (aK rx ry):=by
  simpa using Zn l m o p B
 obtain rfl|rfl|⟨rfl,h1,h2⟩:=i
 .show π _ _ (oneLt' false (.ref a) (.ref b)) _ _ _;show kat_one _ _ ?_;show richCompare_meets_room (op:=.Lt) #[_,ea,rfl] #[_,g,rfl] F.slot_tuple_lt F.entry_tuple_lt (F.args_tuple_lt_2 _ _) (K5 a b us.toArray ws.toArray n n2 dd c sl f (aK rx ry)) #[ea,g,C,(λz=>nomatch z),q] j
 .show π _ _ (oneLt' true (.ref a) (.ref b)) _ _ _;rw[oneLt'_eq];simp only[if_true];show ν (wpAny_cRoomFor j ?_);show ν (wpAny_callSpecialIfBound?_slot (T:="tuple") #[_,ea,rfl] F.slot_tuple_lt ?_);show anR F.slot_tuple_lt #[_,ea,rfl] F.entry_tuple_lt (F.args_tuple_lt_2 _ _) (K5 a b us.toArray ws.toArray n n2 dd c sl f (aK rx ry)) #[ea,g,C,?_];show agT q
 .obtain rfl|⟨x,rfl⟩:=l
  .show absurd rfl h1
  obtain rfl|⟨y,rfl⟩:=m
  .show absurd rfl h2
  let#[u,rfl,r1]:=Vals.one p;let#[v,rfl,D]:=Vals.one B;let lk:=o x y rfl rfl;show kat_lt ea rfl g rfl ?_;let#[e,M,hi]:=Wq (A:=A) (s:=s) lk r1 D;show kat_cons (M X.prog X.w _ _ ?_);show kat_go (λh=>?_) λh=>?_
  .have :x=y:=hi.mp h;subst this;show kat_yes (kat_nil ?_);let G:Q (ltV x x) s:=q;rw[CK]at G;show G
  .show kat_no (agI lk r1 D q)
end
section
variable{M:Model}{A:ϳ}{E:ε->μ->Prop}{s:μ}
def uE(h:ϫ):List ε->List (Option ε)->Prop
 |[],[]=>True
 |v::vs,f::fs=>(∃a o xs n,v=.ref a/\h.get? a=some o/\o.cls=.type "tuple"/\o.data=.seq xs n/\xs[0]?=f)/\uE h vs fs
 |_,_=>False
theorem W2:∀(vs:List ε)(fs:List (Option ε)){Q:List (Option ε)->μ->Prop},uE s.heap vs fs->Q fs s->π M A (vs.mapM firstOfTuple') Q E s
 |[],[],_,_,h=>by rw[List.mapM_nil];show Ϯ h
 |[],_::_,_,t,_=>t.elim
 |_::_,[],_,t,_=>t.elim
 |v::vs,f::fs,Q,t,h=>by
  let#[#[a,o,xs,n,rfl,c,e,hd,g],t]:=t;rw[List.mapM_cons];show ν ?_;rw[kas_first_eq];show ν (Looks.here (show Looks M s.heap (typeOf (.ref a)) o.cls from(Looks.ld c).andThen .now) ?_);rw[e,if_neg (by first|decide|simp)];show ν (listItems_at c hd (Ϯ ?_));rw[g];show ν (W2 vs fs (Q:=λbs s'=>π M A (pure (f::bs)) Q E s') t (Ϯ h))
theorem JN:∀{vs:List ε}{fs:List (Option ε)},uE s.heap vs fs->∀v∈vs,Looks M s.heap (typeOf v) (.type "tuple")
 |v::vs,f::fs,t,u,hu=>by
  let#[#[a,o,xs,n,rfl,c,e,hd,g],t]:=t;obtain rfl|hu:=aaG.mp hu
  .rw[<-e];show(Looks.ld c).andThen .now
  .show JN t u hu
theorem kind_any{vs:List ε}{fs:List (Option ε)}{T:ε}{Q:SortKind->μ->Prop}(t:uE s.heap vs fs)(B:0<vs.length)(C:∀v,some v∈fs->Looks M s.heap (typeOf v) T)(m:(T==T)=true)(n:(T !=Value.type "tuple")=true)(h1:(∀f∈fs,f.isSome=true)->Q (tuples' true) s)(h2:Q general' s)(G:Q oneType' s):π M A (keyKind' vs.toArray) Q E s:=by
 rw[kat_kind_eq,aoM,map_eq_pure_bind];show ν (ν (W2 vs _ t (Ϯ ?_)));by_cases i:(fs.toArray.all λx=>x.isSome)=true
 .rw[if_pos i];let a:∀f∈fs,f.isSome=true:=by simpa using i
  show ν (wpAny_rule ?_);let p:fs.length=vs.length:=by
   clear C h1 i a B;induction vs generalizing fs with
   |nil=>cases fs with
    |nil=>rfl
    |cons _ _=>show t.elim
   |cons v vs H=>cases fs with
    |nil=>show t.elim
    |cons f fs=>simp[H t.2]
  let q:fs.toArray.filterMap id=(fs.filterMap id).toArray:=by simp
  let D:fs.filterMap id≠[]:=by
   intro z
   match fs,p with
   |[],e=>simp at e;omega
   |f::fs,_=>
    let#[v,rfl]:=alC.mp (a f (by simp));simp at z
  rw[q,oneTypeOnly'_eq,aoM,map_eq_pure_bind];let j:∀v∈fs.filterMap id,Looks M s.heap (typeOf v) T:=λv l=>by
   let#[o,I,e]:=anU.mp l;let J:o=some v:=e;show C v (J▸I)
  generalize fs.filterMap id=F at D j;show ν (ν (ν (kas_mapM (r:=T) _ (λv l L u=>(j v l).here u) (Ϯ ?_))));obtain⟨g,gr,rfl⟩:∃g gr,F=g::gr:=by
   match F,D with
   |[],z=>show absurd rfl z
   |g::gr,_=>show#[g,gr,rfl]
  let c:((aqa (λ_=>T) (g::gr)).toArray.all λx=>x==T)=true:=by
   simp only[apP,apC,acN];intro _ _;show m
  let y:(aqa (λ_=>T) (g::gr)).toArray[0]?=some T:=by simp
  rw[y];simp only[c,if_true];show Ϯ (Ϯ ?_);let e:(some T).any (λx=>x !=Value.type "tuple")=true:=n;rw[e];show h1 a
 .rw[if_neg i];split
  .show Ϯ h2
  .rw[oneTypeOnly'_eq,aoM,map_eq_pure_bind];show ν (ν (ν (kas_mapM (r:=Value.type "tuple") _ (λv l L u=>(JN t v l).here u) (Ϯ ?_))));obtain⟨g,gr,rfl⟩:∃g gr,vs=g::gr:=by
    match vs,B with
    |g::gr,_=>show#[g,gr,rfl]
   let c:((aqa (λ_=>Value.type "tuple") (g::gr)).toArray.all λx=>x==Value.type "tuple")=true:=by
    simp only[apP,apC,acN];intro _ _;show(Value.type "tuple"==Value.type "tuple")=true;decide
   let y:(aqa (λ_=>Value.type "tuple") (g::gr)).toArray[0]?=some (Value.type "tuple"):=by simp
   rw[y];simp only[c,if_true];show Ϯ (Ϯ G)
end
structure rR(X:Cx)(σ:St)(f:ε)(xs:List V)(H₁:Hp)(KV:Nat->V->Hp->Prop):Prop where
 mono:∀i v H H',ζ H H'->KV i v H->KV i v H'
 call:∀i x u ϵ s H,xs[i]?=some x->RelV x u->ζ H₁ H->Inv X.Ϗ ϵ σ H s->π (Ϧ X.prog X.w) X.A.in1.in1 (call f [u]) (EP X.Ϗ ϵ σ λk H'=>ζ H H'/\KV i k H') (λ_ _=>False) s
def xr(KV:Nat->V->Hp->Prop)(i:Nat)(k:ε)(H:Hp):=∃v,RelV v k/\KV i v H
theorem rR.fn{X:Cx}{σ:St}{f:ε}{xs:List V}{vs:List ε}{H₁:Hp}{KV:Nat->V->Hp->Prop}(h:rR X σ f xs H₁ KV)(r:Vals xs vs):wZ X σ f vs H₁ (xr KV)where
 mono:=λi k H H' sm ⟨v,a,q⟩=>#[v,a,h.mono i v H H' sm q]
 call:=λi u ϵ s H c sm I=>by
  let o:=r.length;let hi:=(aap.mp c).1;let g:xs[i]?=some (xs[i]'()):=aab _;let#[p,e,j]:=r.get g;rw[c]at e;cases e;show adk (h.call i _ u ϵ s H g j sm I) (λk s' ⟨v,H',l,a,m,n⟩=>#[H',l,m,v,a,n]) λ_ _ z=>z
def Yg(f:Nat->Int)(i:Nat)(v:V)(_:Hp):Prop:=v=.int (f i)
section
variable{X:Cx}{σ:St}{n:Nat}
theorem V6:∀{ks:List ε}{f:Nat->Int},(∀(i:Nat) k,ks[i]?=some k->∃t,k=.int (f i) t)->IntsAre ks ((aeJ ks.length).map f)
 |[],_,_=>.nil
 |k::ks,f,h=>by
  let#[t,rfl]:=h 0 k rfl;have:=V6 (ks:=ks) (f:=λi=>f (i+1)) λi k e=>h (i+1) k (by simpa using e)
  rw[acS,aoZ,adF,agr];show .cons _ t this
theorem aat{f:Nat->Int}:lY X σ n (xr (Yg f)) (λi j=>decide (f i<f j))where
 kind:=λϵ s H ks I q h2 c=>by
  let a:∀(i:Nat) k,ks[i]?=some k->∃t,k=.int (f i) t:=λi k e=>by
   let#[v,g,rfl]:=c i k e;let#[t,rfl]:=g;show#[t,rfl]
  rw[ksk_kind (keys:=ks.toArray) (kz:=(aeJ ks.length).map f) (by simpa using V6 a) (by rw[aaH];omega)];show Ϯ #[I,λi j l m ϵ s hi o p=>?_];let#[t,rfl]:=a i l hi;let#[u,rfl]:=a j m o;rw[keyLt'_oneType];show oneLt_int #[rfl,p]
theorem agC{f:Nat->Int}:aL λi j=>decide (f i<f j):=#[λi=>decide_eq_false (),λi j k h1 h2=>decide_eq_true (by have:=of_decide_eq_true h1;have:=of_decide_eq_true h2;omega),λi j k h=>by
 have:=of_decide_eq_true h;by_cases h2:f i<f j
 .show .inl (decide_eq_true h2)
 .show .inr (decide_eq_true ())]
def Jm(rk:Nat->List V)(i:Nat)(v:V)(H:Hp):=∃a,v=.ref a/\H a=some (.tup (rk i))
def oN(rk:Nat->List V):Prop:=(∀i,lA (rk i))/\((∀i x,rk i=[x]->∃m,x=.int m)\/∀i x,rk i=[x]->∃m,x=.str m)
theorem oN.lk{rk:Nat->List V}(h:oN rk){i j:Nat}{x y:V}(a:rk i=[x])(c:rk j=[y]):iU x y:=by
 obtain h|h:=h.2
 .let#[m,rfl]:=h i x a;let#[n,rfl]:=h j y c;show .inl #[m,n,rfl,rfl]
 .let#[m,rfl]:=h i x a;let#[n,rfl]:=h j y c;show .inr #[m,n,rfl,rfl]
theorem X8{ϵ:List (δ×Obj)}{s:μ}{H:Hp}(I:Inv X ϵ σ H s):∀{ks:List ε}{rk:Nat->List V},(∀i,lA (rk i))->(∀(i:Nat) k,ks[i]?=some k->∃a,k=.ref a/\H a=some (.tup (rk i)))->
  ∃fs,uE s.heap ks fs/\(∀f∈fs,(∃i,(f=none/\rk i=[])\/∃x v,f=some v/\rk i=[x]/\RelV x v))/\∀i,i<ks.length->rk i=[]->none∈fs
 |[],rk,_,_=>#[[],trivial,λf hf=>by simp at hf,λi hi=>by simp at hi]
 |k::ks,rk,j,h=>by
  let#[a,rfl,o]:=h 0 k rfl;let#[fs,h1,h2,l]:=X8 I (ks:=ks) (rk:=λi=>rk (i+1)) (λi=>j (i+1)) λi k e=>h (i+1) k (by simpa using e)
  let#[us,n,dd,sl,g,ea]:=En I o;let m:=j 0;generalize c:rk 0=p at m g;obtain rfl|⟨x,rfl⟩:=m
  .cases Vals.zero g;show#[none::fs,#[#[a,_,_,n,rfl,ea,rfl,rfl,rfl],h1],λf hf=>?_,λi hi z=>?_];obtain rfl|hf:=aaG.mp hf
   .show#[0,.inl #[rfl,c]]
   .let#[i,q]:=h2 f hf;show#[i+1,q]
   .cases i with
    |zero=>simp
    |succ i=>show acY _ (l i (by simpa using hi) z)
  .let#[u,rfl,r1]:=Vals.one g;show#[some u::fs,#[#[a,_,_,n,rfl,ea,rfl,rfl,rfl],h1],λf hf=>?_,λi hi z=>?_];obtain rfl|hf:=aaG.mp hf
   .show#[0,.inr #[x,u,rfl,c,r1]]
   .let#[i,q]:=h2 f hf;show#[i+1,q]
   .cases i with
    |zero=>rw[c]at z;cases z
    |succ i=>show acY _ (l i (by simpa using hi) z)
theorem V5{rk:Nat->List V}(F:X.A.in1.in1.units<cLine)(f:oN rk):lY X σ n (xr (Jm rk)) (λi j=>aK (rk i) (rk j))where
 kind:=λϵ s H ks I W h2 G=>by
  let c:∀(i:Nat) k,ks[i]?=some k->∃a,k=.ref a/\H a=some (.tup (rk i)):=λi k e=>by
   let#[v,g,a,rfl,p]:=G i k e;cases g;show#[a,rfl,p]
  let#[fs,t,B,J]:=X8 I f.1 c;let any:∀κ,(κ=general'\/κ=oneType'\/(κ=tuples' true/\∀i,i<n->rk i≠[]))->Ef X σ H ks (λi j=>aK (rk i) (rk j)) κ:=λκ q i j L M ϵ s hi C D=>by
   let#[a,rfl,p]:=c i L hi;let#[b,rfl,O]:=c j M C;let Y:=(aap.mp hi).1;let P:=(aap.mp C).1;show ag7 (X:=X.Ϗ) F D p O (f.1 i) (f.1 j) (λx y e1 l=>f.lk e1 l) ?_ #[rfl,D];obtain h|h|⟨h,E⟩:=q
   .show .inl h
   .show .inr (.inl h)
   .show .inr (.inr #[h,E i (),E j ()])
  let fin:∀(T:ε),(T==T)=true->(T !=Value.type "tuple")=true->(∀v,some v∈fs->Looks (Ϧ X.prog X.w) s.heap (typeOf v) T)->π (Ϧ X.prog X.w) X.A.in1.in1 (keyKind' (afh ks)) (λκ s'=>Inv X.Ϗ ϵ σ H s'/\Ef X σ H ks (λi j=>aK (rk i) (rk j)) κ) (λ_ _=>False) s:=λT Q R S=>
   kind_any t () S Q R (λo=>#[I,any _ (.inr (.inr #[rfl,λi hi z=>absurd (o _ (J i () z)) (by decide)]))]) #[I,any _ (.inl rfl)] #[I,any _ (.inr (.inl rfl))]
  obtain hk|hk:=f.2
  .show fin (.type "int") (by decide) (by decide) λv u=>?_
   obtain⟨i,⟨e,_⟩|⟨x,U,e,l,g⟩⟩:=B _ u
   .cases e
   .cases e;let#[m,rfl]:=hk i x l;let#[t,rfl]:=g;show .now
  .show fin (.type "str") (by decide) (by decide) λv u=>?_
   obtain⟨i,⟨e,_⟩|⟨x,U,e,l,g⟩⟩:=B _ u
   .cases e
   .cases e;let#[m,rfl]:=hk i x l;let#[t,rfl]:=g;show .now
theorem afO{x y z:V}(h1:iU x y)(h2:iU y z)(a:ltV x y=true)(b:ltV y z=true):ltV x z=true:=by
 obtain⟨m,n,rfl,rfl⟩|⟨m,n,rfl,rfl⟩:=h1
 .obtain⟨c,k,e,rfl⟩|⟨_,_,e,_⟩:=h2
  .cases e;show decide_eq_true (by have:=of_decide_eq_true a;have:=of_decide_eq_true b;omega)
  .cases e
 .obtain⟨_,_,e,_⟩|⟨c,k,e,rfl⟩:=h2
  .cases e
  .cases e;show decide_eq_true (aqb (of_decide_eq_true a) (of_decide_eq_true b))
theorem ac4{x y z:V}(h1:iU x y)(h2:iU y z)(a:ltV x z=true):ltV x y=true\/ltV y z=true:=by
 obtain⟨m,n,rfl,rfl⟩|⟨m,n,rfl,rfl⟩:=h1
 .obtain⟨f,k,e,rfl⟩|⟨_,_,e,_⟩:=h2
  .cases e;have:=of_decide_eq_true a;by_cases h:m<n
   .show .inl (decide_eq_true h)
   .show .inr (decide_eq_true ())
  .cases e
 .obtain⟨_,_,e,_⟩|⟨f,k,e,rfl⟩:=h2
  .cases e
  .cases e;by_cases h:m.cps.toList<n.cps.toList
   .show .inl (decide_eq_true h)
   .show .inr (decide_eq_true ?_);let c:n.cps.toList<=m.cps.toList:=ap0.mp h;show List.lt_of_le_of_lt c (of_decide_eq_true a)
theorem MK{rk:Nat->List V}(a:oN rk):aL λi j=>aK (rk i) (rk j)where
 ir:=λi=>by
  show aK (rk i) (rk i)=false;obtain e|⟨x,e⟩:=a.1 i
  .rw[e];rfl
  .rw[e];show CK x
 tr:=λi j k h1 h2=>by
  let h1:aK (rk i) (rk j)=true:=h1;let h2:aK (rk j) (rk k)=true:=h2;show aK (rk i) (rk k)=true;obtain ei|⟨x,ei⟩:=a.1 i<;>obtain c|⟨y,c⟩:=a.1 j<;>obtain f|⟨z,f⟩:=a.1 k<;>rw[ei]at h1⊢ <;>rw[c]at h1 h2<;>rw[f]at h2⊢ <;>first|(cases h1;done)|(cases h2;done)|rfl|show afO (a.lk ei c) (a.lk c f) h1 h2
 nt:=λi j k h=>by
  let h:aK (rk i) (rk k)=true:=h;show aK (rk i) (rk j)=true\/aK (rk j) (rk k)=true;obtain ei|⟨x,ei⟩:=a.1 i<;>obtain c|⟨y,c⟩:=a.1 j<;>obtain f|⟨z,f⟩:=a.1 k<;>rw[ei,f]at h<;>rw[ei,c,f]<;>first|(cases h;done)|show .inl rfl|show .inr rfl|show ac4 (a.lk ei c) (a.lk c f) h
end
section
variable{X:Cx}{σ:St}{H:Hp}{Q:VK}{e ke re:ϧ}{p pos kp rp:Pos}
def xQ(X:Cx)(σ:St)(b:Bool)(v a:V)(H:Hp)(Q:VK):=∃(l f:δ)(xs:List V)(KV:Nat->V->Hp->Prop)(lt:Nat->Nat->Bool),v=.ref l/\a=.ref f/\η X.K H l xs/\xs.length<64/\aL lt/\rR X σ (.ref f) xs H KV/\lY X σ xs.length (xr KV) lt/\
 ∀p H' q,ζ H H'->H' p=none->d7 xs.length (iJ b lt) q->Q (.ref p) (upd H' p (.lst (cT xs q)))
theorem R6(j:X.mg "sorted"=none)(h:EV X e σ H λv H1=>EV X ke σ H1 λa H2=>xQ X σ false v a H2 Q)(m:Gl X "sorted":=by rfl)(c:ϴ [e] X.env=[(false,eval e X.env)]:=by rfl):EV X (.Call (.Name "sorted" p) [e] [#[some "key",ke,kp]] pos) σ H Q:=by
 intro ϵ s I;show akK (il I m j PyProof.Rows.boot_sorted ?_ (by decide) (by decide));let n:EA X [e] σ H (λvs H1=>∃v,vs=[v]/\EV X ke σ H1 λa H2=>xQ X σ false v a H2 Q):=d8 c (aq h λv H1 q=>iZ #[v,rfl,q]);show callWith_kw (χ (n pos ϵ s I) λus o y=>?_) (by rw[c];rfl) (by rw[c];rfl);let#[vs,H1,z,r1,v,B,C]:=y;subst B;let#[u,rfl,D]:=Vals.one r1;show kws_cons (χ (C ϵ o z) λM O ⟨a,H2,E,F,G⟩=>kws_nil ?_);let#[l,f,xs,KV,lt,rfl,rfl,hs,i,W,J,L,g]:=G;cases D;cases F;show JS (kw:=[(Ϫ "key",.ref f)]) W hs i (λvs r=>#[J.fn r,L]) E (ksk_s1 _ _) (λx=>ksk_l1 _ _) (λx=>ksk_t1 f x) g
theorem ac6{b:Bool}(o:Gl X "sorted")(y:X.mg "sorted"=none)(j:ϴ [e] X.env=[(false,eval e X.env)])(h:EV X e σ H λv H1=>EV X ke σ H1 λa H2=>EV X re σ H2 λc i=>c=.bl b/\xQ X σ b v a i Q):EV X (.Call (.Name "sorted" p) [e] [#[some "key",ke,kp],#[some "reverse",re,rp]] pos) σ H Q:=by
 intro ϵ s I;show akK (il I o y PyProof.Rows.boot_sorted ?_ (by decide) (by decide));let z:EA X [e] σ H (λvs H1=>∃v,vs=[v]/\EV X ke σ H1 λa H2=>EV X re σ H2 λc i=>c=.bl b/\xQ X σ b v a i Q):=d8 j (aq h λv H1 q=>iZ #[v,rfl,q]);show callWith_kw (χ (z pos ϵ s I) λus B C=>?_) (by rw[j];rfl) (by rw[j];rfl);let#[vs,H1,D,r1,v,E,F]:=C;subst E;let#[u,rfl,G]:=Vals.one r1;show kws_cons (χ (F ϵ B D) λY J ⟨a,H2,L,M,O⟩=>kws_cons (χ (O ϵ J L) λZ s3 ⟨c,i,P,R,m,S⟩=>kws_nil ?_));let#[l,f,xs,KV,lt,rfl,rfl,hs,n,W,T,U,g]:=S;subst m;cases G;cases M;cases R;show JS (kw:=[(Ϫ "key",.ref f),(Ϫ "reverse",.bool b)]) W hs n (λvs r=>#[T.fn r,U]) P (ksk_s2 _ _ _) (λx=>ksk_l2 _ _ _) (λx=>ksk_t2 f x b) g
abbrev Cx.rY(X:Cx):Cx:={X.Ϗ with xe:=λ_ _=>False}
theorem Inv.rY{ϵ:List (δ×Obj)}{s:μ}(I:Inv X.Ϗ ϵ σ H s):Inv X.rY ϵ σ H s:=
 #[#[I.ok.mod,I.ok.kind,I.ok.glob,I.ok.blt,I.ok.above,I.ok.inj,I.ok.has,I.ok.cab,I.ok.hd,I.ok.frames,I.ok.stk,I.ok.exf,I.ok.bs,I.ok.bsz,I.ok.noex,I.ok.exfs,I.ok.funs,I.ok.frf],I.os,I.bare,I.base,I.loc,I.cell,I.free,I.freeC,I.pin,I.hok,I.len]
theorem Inv.unX{ϵ:List (δ×Obj)}{s:μ}(I:Inv X.rY ϵ σ H s):Inv X.Ϗ ϵ σ H s:=
 #[#[I.ok.mod,I.ok.kind,I.ok.glob,I.ok.blt,I.ok.above,I.ok.inj,I.ok.has,I.ok.cab,I.ok.hd,I.ok.frames,I.ok.stk,I.ok.exf,I.ok.bs,I.ok.bsz,I.ok.noex,I.ok.exfs,I.ok.funs,I.ok.frf],I.os,I.bare,I.base,I.loc,I.cell,I.free,I.freeC,I.pin,I.hok,I.len]
theorem ac0{cc:Bool}{k:Nat}{x:Str}{ps:List Str}{sp:Sp}{xs:List V}{KV:Nat->V->Hp->Prop}(F:Def X.prog X.w X.K X.mg X.base cc k x ps sp)(c:ϒ cc (k+2) X.A)(a:∀i v H H',ζ H H'->KV i v H->KV i v H')(h:∀(i:Nat) x H',xs[i]?=some x->ζ H H'->sp [x] H' (λv H2=>ζ H' H2/\KV i v H2) (λ_ _ _=>False)):∃f:δ,X.mg x=some (.ref f)/\rR X σ (.ref f) xs H KV:=by
 let#[f,fd,h1,h2,e,g]:=F.ex;show#[f,h1,a,λi x u ϵ s H' j l sm I=>?_];have:=qM (X:=X.rY) (us:=[u]) (vs:=[x]) (Kx:=λ_ _ _ _=>False) g c.in1.in1 e (Qg rfl) I.rY (.cons l .nil) (h i x H' j sm);show adk this (λw s' ⟨v,H2,m,n,q⟩=>#[v,H2,m.unX,n,q]) λ_ _ z=>z
theorem adP{x:Str}{f:δ}(h:X.mg x=some (.ref f))(a:Gl X x)(hd:(x==("__debug__":Str))=false)(q:Q (.ref f) H):EV X (.Name x p) σ H Q:=wj (RW (v:=.ref f) a h rfl hd) q
end
theorem afu{p p':Pos}(h1:p.line=p'.line)(h2:p.col=p'.col)(l:List ε):codeAmong p l=codeAmong p' l:=by
 fun_induction codeAmong p l with
 |case1 a t b u c rest h=>unfold codeAmong;rw[<-h1, <-h2,if_pos h]
 |case2 a t b u c rest h e=> rw[e];conv=>rhs;unfold codeAmong
                             rw[<-h1, <-h2,if_neg h]
 |case3 l h=>unfold codeAmong;split <;>first|rfl|(exfalso;show h _ _ _ _ _ _ rfl)
theorem aa1{p a:Pos}{c g:ε}(l:List ε)(h:TriplesOk l)(e:codeAmong p (l++[rawInt a.line,rawInt a.col,c])=some g):codeAmong p l=some g\/(g=c/\a.line=p.line/\a.col=p.col):=by
 fun_induction TriplesOk l with
 |case1=>
  simp only[ao7,rawInt,codeAmong]at e;split at e
  .rename_i f;cases e;simp only[aaW,beq_iff_eq]at f;show .inr #[rfl,(),()]
  .cases e
 |case2 x t y u z rest i=>
  simp only[apK,codeAmong]at e⊢;split at e
  .rename_i f;rw[if_pos f];show .inl e
  .rename_i f;rw[if_neg f];show i h e
 |case3 l h1 h2=>show h.elim
def BM(mg:Str->Option ε)(base:ϫ):=∃bm a,mg "__builtins__"=some (.ref bm)/\bm≠builtinsNs/\base.get? bm=some a/\a.cls=.type "module"/\a.dict=some builtinsNs/\a.data=.plain
abbrev uT:HO:=.ext λ_=>True
theorem Fz{P:ϯ}{w:ϭ}{H:Hp}{h:ϫ}{a:δ}{o:Obj}(e:h.get? a=some o):ϔ P w H h a (.frz o uT):=#[e,trivial,#[o,e],λ_ _ _ _=>trivial]
section
variable{X:Cx}{σ:St}{H:Hp}{D:Ends}
theorem aax{name qual:Str}{g:Arguments}{body:List Ϩ}{scope:ah9}{pos:Pos}{clos:List (Str×δ)}{c P:δ}{ps:Array ε}{t:Tok}{j:Nat}(hN:X.N.Nodup)(hj:X.N[j]?=some name)(T:X.env.scope.names.lookup name=some .local)(x:X.env.code=.ref c)(C:CodeHd X.base c P)(B:BM X.mg X.base)(G:closureFor scope X.env=pure clos)(J:H P=some (.tbl ps))(L:codeAmong pos ps.toList=some (.str qual t))(hq:qualnameIn X.env name name=qual)(Z:g.defaults=[])(ab:g.kw_defaults=[])(ha:annTrees g none X.env=[])(h:∀(f m:δ)(oc:Obj)(i pm l:ε)(vs:Array ε)(t':Tok)(H':Hp),ζ H H'->H f=none->H' f=some (.frz (fnMade name qual g body scope clos i pm m l) uT)->(∃u,H' m=some (.frz oc u))->oc.data=.fields vs->vs[1]?=some (.str qual t')->D.nx (σ.set j (some (.ref f))) H'):SX X (.FunctionDef name g body [] none [] scope none name pos) D σ H:=by
 intro ϵ s I;show nestDef_K Z ab ha ?_;rw[hq];let#[qs,U,tr,z]:=(I.hok P _ J:ϔ X.prog X.w H s.heap P (.tbl ps));let W:s.heap.Ns mainGlobals X.mg:=I.mod.glob.keeps I.bk;let#[bm,ob,b1,b2,b3,b4,b5,b6]:=B;let M:=I.bk _ _ b3;let ac:mainGlobals≠P:=λq=>by
  let#[o,es,ep,e,hd,_]:=W;rw[q,U]at e;cases e;cases hd
 let ae:bm≠P:=λq=>by rw[q,U]at M;cases M;cases b4
 let af:bm≠mainGlobals:=λq=>by
  let#[o,es,ep,e,hd,_]:=W;rw[q,e]at M;cases M;rw[hd]at b6;cases b6
 let E:s.heap.BuiltinsAt X.mg P:=#[bm,ob,b1,b2,af,ae,M,b4,b5,b6];let CC:=C.keeps I.bk;cases hf:codeAmong pos qs.toList with
 |some cv=>
  let#[m,oc,u,q,t2,vs,t',rfl,Y,e3,e4,e5]:=z pos cv hf;rw[L]at Y;cases Y;show makeFunction_hit G I.ok.glob W x CC U tr hf E λl i h' tk hk hsz=>?_
  let I1:=I.laid (a:=h'.objs.size) (o:=.frz (fnMade name qual g body scope clos i ((X.mg "__name__").getD .none) m l) uT) (t':=tk) (h':=h'.push (fnMade name qual g body scope clos i ((X.mg "__name__").getD .none) m l)) (λb o e=>ϲ _ (hk b o e)) hsz (Fz (abi _ rfl));let O:=I.hok.fresh hsz;let sm:ζ H (upd H h'.objs.size (.frz (fnMade name qual g body scope clos i ((X.mg "__name__").getD .none) m l) uT)):=ζ.upd O;show oA (v:=.ref h'.objs.size) I1 hN hj (.inl T) rfl (λs' I' _=>?_) (.inr T);show#[_,_,I',h _ m oc i _ l vs t' _ sm O υ #[u,sm _ _ e3] e4 e5]
 |none=>
  show makeFunction_K G I.ok.glob W x CC U tr hf ac E λm l i h' tk ag y F Q R=>?_
  let#[c₂,oc,vs,t',Y,ah,hd,hv]:=Q;cases Y;let ai:H m=none:=I.hok.fresh y;let S:H h'.objs.size=none:=I.hok.fresh (aod (afN y F));let Ϲ:m≠h'.objs.size:=ab7 F;let hPlt:=I.hok.lt J;let old:∀b u,H b=some u->(upd (upd H m (.frz oc uT)) h'.objs.size (.frz (fnMade name qual g body scope clos i ((X.mg "__name__").getD .none) m l) uT)) b=some u:=λb u e=>by
   rw[ο (Ψ e S),ο (Ψ e ai)];show e
  let nP:∀b,H b=none->b≠P:=λb e z=>by rw[z,J]at e;cases e
  let lt':∀b o,s.heap.get? b=some o->b≠m/\b≠h'.objs.size:=λb o e=>by
   have:=abV e;show#[ab7 (abX this y),ab7 (abX this (aod (afN y F)))]
  let kp:∀b o,b≠P->s.heap.get? b=some o->(h'.push (fnMade name qual g body scope clos i ((X.mg "__name__").getD .none) m l)).get? b=some o:=λb o E e=>ϲ _ (ag b o E e)
  let I1:Inv X ϵ σ (upd (upd H m (.frz oc uT)) h'.objs.size (.frz (fnMade name qual g body scope clos i ((X.mg "__name__").getD .none) m l) uT)) {s with heap:=h'.push (fnMade name qual g body scope clos i ((X.mg "__name__").getD .none) m l),toks:=tk}:=by
   show I.un (t':=tk) #[λb o e n _ _=>kp b o (nP b n) e,λb o e n _ _=>#[o.slots,kp b o (nP b n) e],λb o e n _=>?_,λb o e _=>?_,λb xs q=>old _ _ q,λb o u q=>old _ _ q,λb ps' q=>#[#v[],by rw[old _ _ q];simp]] λb u e=>?_
   .rw[ο (lt' b o e).2,ο (lt' b o e).1];show n
   .by_cases E:b=P
    .show#[_,by rw[E];show ϲ _ R]
    .show#[_,kp b o E e]
   .by_cases h1:b=h'.objs.size
    .subst h1;rw[υ]at e;cases e;show Fz (abi _ rfl)
    .rw[ο h1]at e;by_cases h2:b=m
     .subst h2;rw[υ]at e;cases e;show Fz (ϲ _ ah)
     .rw[ο h2]at e;by_cases h3:b=P
      .subst h3;rw[J]at e;cases e;show#[_,ϲ _ R,?_,λp cv hc=>?_]
       .rw[aos];show TriplesOk_snoc _ _ _ _ tr
       .rw[aos]at hc;obtain h4|⟨rfl,h5,h6⟩:=aa1 _ tr hc
        .let#[c2,am,u2,q2,t2,ar,t3,g1,g2,g3,g4]:=z p cv h4;show#[c2,am,u2,q2,t2,ar,t3,g1,g2,old _ _ g3,g4]
        .show#[m,oc,uT,qual,t,vs,t',rfl,?_,?_,hd,hv]
         .rw[<-afu h5 h6];show L
         .rw[ο Ϲ,υ]
      .show(I.hok b u e).stay (λa v ha q=>kp a v ?_ q) (λa q=>old _ _ q) (λa xs q=>old _ _ q) λa ob v q=>old _ _ q
       obtain rfl|ha:=ha
       .show h3
       .intro z2;rw[z2,J]at ha;cases ha
  let sm:ζ H (upd (upd H m (.frz oc uT)) h'.objs.size (.frz (fnMade name qual g body scope clos i ((X.mg "__name__").getD .none) m l) uT)):=old;show oA (v:=.ref h'.objs.size) I1 hN hj (.inl T) rfl (λs' I' _=>?_) (.inr T);show#[_,_,I',h _ m oc i _ l vs t' _ sm S υ #[uT,by rw[ο Ϲ,υ]] hd hv]
abbrev yF(X:Cx)(qual:Str)(scope:ah9)(f:δ)(cd:ε)(cl:List (Str×δ))(N:List Str)(s:μ)(H:Hp):Cx where
 prog:=X.prog
 w:=X.w
 K:=X.K
 mg:=X.mg
 base:=X.base
 A:=X.A.deeper (envX qual scope s.heap.objs.size f cd cl)
 N:=N
 s₀:=s
 H₀:=H
 env:=envX qual scope s.heap.objs.size f cd cl
 outer:=X.stack
 stack:=envX qual scope s.heap.objs.size f cd cl::X.stack
 ex:=[]
 fn:=λ_=>false
 calm:=X.calm
 pn:=[]
 xe:=λ_ _=>False
theorem ajw{ϵ:List (δ×Obj)}{s:μ}{f n c:δ}{name qual x y:Str}{g:Arguments}{body:List Ϩ}{scope:ah9}{o pm B u:ε}{u0 u1:HO}{oc:Obj}{vs:Array ε}{t':Tok}{v z:V}{j:Nat}{Q:VK}{E:ε->μ->Prop}(I:Inv X ϵ σ H s)(hf:H f=some (.frz (fnMade name qual g body scope [(y,c)] o pm n B) u0))(Y:H n=some (.frz oc u1))(Z:oc.data=.fields vs)(D:vs[1]?=some (.str qual t'))(F:X.A.depth<recursionLimit)(hb:∀o pm n B (u:ε),bindArgs (fnX name qual g body scope [(y,c)] .none .none o pm none (.ref n) B) #[[u],[]]=pure [(x,u)])(hk:scope.kind=.function)(ab:scope.isCoroutine=false)(L:scope.isGenerator=false)(W:scope.names.lookup x=some .local)(M:scope.names.lookup y=some .free)(O:∀a∈scope.names,a.2≠.cell)(ac:∀a,scope.names.lookup a=some .free->a=y)(hj:X.N[j]?=some y)(ae:σ[j]?=some (some z))(P:X.env.scope.names.lookup y=some .cell)(S:X.env.cells.lookup y=some c)(T:RelV v u)(h:Ρ (yF X qual scope f (.ref n) [(y,c)] [x,y] s H) body {nx:=λ_ H'=>Q .non H',rt:=Q} [some v,some z] H):π (Ϧ X.prog X.w) X.A (call (.ref f) [u]) (EP X ϵ σ Q) E s:=by
 let C:=I.env0;let#[ef,_]:=(I.hok f _ hf:ϔ X.prog X.w H s.heap f (.frz _ u0));let#[ec,_]:=(I.hok n _ Y:ϔ X.prog X.w H s.heap n (.frz oc u1));let af:s.heap.CodeRec (.ref n) qual:=#[n,oc,vs,t',rfl,ec,Z,D];let hxy:x≠y:=λe=>by rw[e,M]at W;cases W
 let#[m,hm,hl]:=id I.loc;let#[uz,rz,lk]:=hl j y z hj ae (.inr (.inl P));obtain⟨JL⟩:Nonempty (s.heap.IsCell c (some uz)):=by
  obtain⟨k,_⟩|⟨_,c2,e,q⟩:=lk
  .rw[show X.env.kindOf y=X.env.scope.names.lookup y from rfl,P]at k;cases k
  .rw[S]at e;cases e;show#[q]
 show anm (akc (codeAny_call_def (R:=λr s'=>match r with|.ok (.ret u)=>CE X.stack X.prog X.w H s Q u s'|.ok _=>False|.error _=>False) (fd:=fnX name qual g body scope [(y,c)] .none .none o pm none (.ref n) B) (body:=body) (binds:=[(x,u)]) F ef rfl I.nolimit af rfl (.of_eq (hb o pm n B u)) O (λa ha=>by cases abx.mp ha;show W) (λU ag l=>?_) ab L hk) λr s' D=>?_)
 .let I1:Inv (yF X qual scope f (.ref n) [(y,c)] [x,y] s H) [] [some v,some z] H {s with heap:=U,toks:=s.toks+[(x,u)].length}:=by
   let G:∀b:δ,b∉(yF X qual scope f (.ref n) [(y,c)] [x,y] s H).ex:=λb z=>absurd (show b∈([]:List δ)from z) (by simp)
   show#[#[C.mod,hk,rfl,rfl,Ϭ _,λa b d h1 h2=>?_,λa ha=>?_,λa d h1=>(by cases h1),I.ok.hd,Around.frames_deeper C.frames,.inr #[rfl,rfl],λb z=>absurd z (G b),C.bs,C.bsz,λb _ _=>G b,λb z=>absurd z (G b),C.funs,C.frf],
    rfl,C.bare,Un.kept l,#[_,ag,λi a b h1 h2 h3=>?_],λa d h1=>?_,C.hok.fresh (Ϭ _),λa d h1=>?_,λp hp=>absurd (show p∈([]:List (δ×Obj))from hp) (by simp),C.hok.kept l,rfl]
   .let h1:([(y,c)]:List (Str×δ)).lookup a=some d:=h1;let h2:([(y,c)]:List (Str×δ)).lookup b=some d:=h2;let e1:=PySem.mem_of_lookup h1;let e2:=PySem.mem_of_lookup h2;rw[abx]at e1 e2;cases e1;cases e2;rfl
   .let ha:scope.names.lookup a=some .cell\/scope.names.lookup a=some .free:=ha;obtain ha|ha:=ha
    .show absurd rfl (O _ (PySem.mem_of_lookup ha))
    .cases ac a ha;show#[c,by show([(y,c)]:List (Str×δ)).lookup y=some c;simp[aij]]
   .match i,h1,h2 with
    |0,h1,h2=>
     cases h1;cases h2;show#[u,T,.inl #[W,by simp[aij]]]
    |1,h1,h2=>
     cases h1;cases h2;show#[uz,rz,.inr #[.inr M,c,by show([(y,c)]:List (Str×δ)).lookup y=some c;simp[aij],JL.keeps l]]
    |i+2,h1,h2=>simp at h1
   .let e1:=PySem.mem_of_lookup (show([(y,c)]:List (Str×δ)).lookup a=some d from h1);rw[abx]at e1;cases e1;show#[_,JL.keeps l]
   .let e1:=PySem.mem_of_lookup (show([(y,c)]:List (Str×δ)).lookup a=some d from h1);rw[abx]at e1;cases e1;show I.freeC y c S
  show adk (h [] _ I1) (λfl s' hs=>?_) λ_ _ z=>z.elim
  let fin:∀{σ':St}{H':Hp}{v:V}{u:ε},Inv (yF X qual scope f (.ref n) [(y,c)] [x,y] s H) [] σ' H' s'->RelV v u->Q v H'->CE X.stack X.prog X.w H s Q u s':=
   λ{σ' H' v u} J T q=>#[v,H',J.os,J.bare,J.base,J.hok,T,q]
  cases fl with
  |ret u=>
   let#[v,σ',H',J,T,q]:=hs;show fin J T q
  |next=>
   let#[σ',H',J,q]:=hs;show fin (v:=V.non) (u:=Value.none) J rfl q
  |brk=>
   let#[_,_,_,q]:=hs;show False.elim q
  |cont=>
   let#[_,_,_,q]:=hs;show False.elim q
 .cases r with
  |error e=>show D.elim
  |ok fl=>
   cases fl with
   |ret u=>show I.after D
   |next=>show False.elim D
   |brk=>show False.elim D
   |cont=>show False.elim D
end
def gK(K:ϩ)(x:Str):δ:=((tabIn K x).getD (0,0)).1
def bx(K:ϩ)(x:Str):δ:=((tabIn K x).getD (0,0)).2
def Aw(p:Pos)(q:Str):Array ε:= #v[rawInt p.line,rawInt p.col,.str q 0]
theorem aj4(p:Pos)(q:Str):codeAmong p (Aw p q).toList=some (.str q 0):=by simp[Aw,codeAmong,rawInt]
def GZ(K:ϩ)(x:Str):Bool:=match tabIn K x with
 |some a=>(K.lookup a.2).isNone
 |none=>false
theorem ajK{K:ϩ}{x:Str}(h:GZ K x=true):tabIn K x=some (gK K x,bx K x)/\K.lookup (bx K x)=none:=by
 unfold GZ at h;unfold gK bx;cases e:tabIn K x with
 |none=>rw[e]at h;cases h
 |some a=>
  rw[e]at h;show#[rfl,by simpa using h]
structure cX(K:ϩ)(mg:Str->Option ε)(base:ϫ)(x:Str):Prop where
 tab:tabIn K x=some (gK K x,bx K x)
 code:CodeHd base (gK K x) (bx K x)
 bm:BM mg base
 kin:K.In base
 glob:base.Ns mainGlobals mg
theorem aaF{P:ϯ}{w:ϭ}{K:ϩ}{mg mb:Str->Option ε}{CX:eU}{k:Nat}{T a:δ}{fd:aiF}{x xn:Str}{sp:Sp}{s₁:μ}{vs:List ε}{ns:List Int}{ps:Array ε}(KX:K.In s₁.heap)(E:s₁.heap.Ns mainGlobals mg)(f:s₁.heap.Ns builtinsNs mb)(U:∀x:Str,x≠"__name__"->mb x=bootBuiltins x)(M:s₁.heap.NoLimit)(hg:s₁.gens= #v[])(L:s₁.heap.get? a=some {cls:=.type "list",data:=.seq vs.toArray})(hi:IntsAre vs ns)(hl:ns.length<=ϰ)(hr:ϒ cc k callerA)(hT:tabIn K xn=some (gK K xn,bx K xn))(W:CodeHd s₁.heap (gK K xn) (bx K xn))(l:s₁.heap.get? (bx K xn)=some (tabObj #v[]))(X:K.lookup (bx K xn)=none)(hB:BM mg s₁.heap)(F:∀base:ϫ,K.In base->base.Ns mainGlobals mg->cX K mg base xn->cG P w K mg base CX cc k T fd [x] sp)(G:∀(s:μ)(u:ε),BindsTo s fd #[[u],[]] [(x,u)])(O:∀H:Hp,η K H a (ns.map V.int)->H (bx K xn)=some (.tbl ps)->sp [.ref a] H (λv _=>v=.bl true) λ_ _ _=>False)(Y:∀H e s',CX [] H s₁ (λ_ _ _=>False) e s'->False):codeAny (Ϧ P w) callerA (.call (.ref T) #[[.ref a],[]]) (λr s'=>r=.ok (.ret (.bool true))/\OldK s₁.heap s'.heap/\s'.os=s₁.os/\AllBare s'.gens) s₁:=by
 let rv:=Uj hi;let Q:=hi.length;generalize Z:bx K xn=pt at W l X O;let I:pt≠a:=λz=>by rw[z,L]at l;cases l
 let y:∀H:Hp,η K H a (ns.map V.int)->H pt=some (.tbl ps)->Ϡ P w H s₁.heap->(∀b,H b=none\/b=a\/b=pt)->(∀b,H b=none\/K.lookup b=none)->(∀u,H a=some u->∃o v,u=.frz o v)->
   codeAny (Ϧ P w) callerA (.call (.ref T) #[[.ref a],[]]) (λr s'=>r=.ok (.ret (.bool true))/\OldK s₁.heap s'.heap/\s'.os=s₁.os/\AllBare s'.gens) s₁:=by
  intro H hS hH hok hA hK ab;let c:∀{b:δ}{o:Obj},s₁.heap.get? b=some o->H b=none->(iC s₁.heap H).get? b=some o:=λe n=>ZF e n
  let free:∀{b:δ}{o:Obj},s₁.heap.get? b=some o->o.cls≠.type "list"->o.cls≠.none->H b=none:=λ{b o} e n1 n2=>by
   obtain z|z|z:=hA b
   .show z
   .rw[z,L]at e;cases e;show absurd rfl n1
   .rw[z,l]at e;cases e;show absurd rfl n2
  let ac:∀{b:δ}{o:Obj}{es:Array DictEntry}{ep:Nat},s₁.heap.get? b=some o->o.data=.dict es ep->H b=none:=λ{b o es ep} e d=>by
   obtain z|z|z:=hA b
   .show z
   .rw[z,L]at e;cases e;let d':Data.seq vs.toArray _=Data.dict es ep:=d;cases d'
   .rw[z,l]at e;cases e;let d':Data.fields #v[]=Data.dict es ep:=d;cases d'
  let i:∀{b:δ}{m:Str->Option ε},s₁.heap.Ns b m->(iC s₁.heap H).Ns b m:=λ{b m} ⟨o,es,ep,e,d,r⟩=>#[o,es,ep,c e (ac e d),d,r];let J:K.In (iC s₁.heap H):=λb o e=>c (KX b o e) (by
   obtain z|z:=hK b
   .show z
   .rw[z]at e;cases e)
  let hM:Mod K mg (iC s₁.heap H):=#[J,i E,#[mb,i f,U],let⟨mc,h1,h2⟩:=M;#[mc,i h1,h2]];let hN:cX K mg (iC s₁.heap H) xn:=by
   show#[hT,?_,?_,J,i E]
   .rw[Z];let#[o,vs,B,tf,j,tg,inF,C,tt,e1,r1,r]:=W;show#[o,vs,B,tf,j,tg,inF,C,tt,c e1 (free e1 (by rw[r1];decide) (by rw[r1];decide)),r1,r]
   .let#[bm,R,b1,b2,b3,b4,r]:=hB;show#[bm,R,b1,b2,c b3 (free b3 (by rw[b4];decide) (by rw[b4];decide)),b4,r]
  let e0:nU P w K mg (iC s₁.heap H) callerA [] s₁ H:=#[rfl,hM,λb o e=>abl e,amJ (ajA _ _),trivial,λb f=>absurd (show b∈([]:List δ)from f) (by simp),hok,.of_eq hg];show akc ((F _ J (i E) hN).run callerA [] s₁ H #[[.ref a],[]] [.ref a] [.ref a] _ _ hr e0 (G s₁ (.ref a)) (.cons rfl .nil) (O H hS hH)) λr s' h=>?_
  cases r with
  |error e=>show(Y H e s' h).elim
  |ok fl=>
   cases fl with
   |next=>show False.elim h
   |brk=>show False.elim h
   |cont=>show False.elim h
   |ret u=>
    let#[v,H',os,bare,un,D,r',q]:=h;let q':v=.bl true:=q;subst q';obtain rfl:u=Value.bool true:=r';let#[S,hm]:=un.tbls pt ps hH;let#[qs,eq,_]:=(D pt _ hm:ϔ P w H' s'.heap pt (.tbl (ps++S)));let all:∀b o,s₁.heap.get? b=some o->asItWas s₁.heap s'.heap b o:=λb o e=>by
     obtain z|z|z:=hA b
     .show .inl (un.keep b o e z (by intro z;show absurd (show b∈([]:List δ)from z) (by simp)) (by simp))
     .cases e3:H b with
      |none=>show .inl (un.keep b o e e3 (by intro z;show absurd (show b∈([]:List δ)from z) (by simp)) (by simp))
      |some u=>
       let#[R,v,rfl]:=ab u (by rw[<-z];show e3);let z2:=un.frzs b R _ e3;let#[e1,_]:=(hok b _ e3:ϔ P w H s₁.heap b (.frz R v));let#[e2,_]:=(D b _ z2:ϔ P w H' s'.heap b (.frz R v));rw[e]at e1;cases e1;show .inl e2
     .subst z;rw[l]at e;cases e;let#[o,vs,B,tf,j,tg,inF,C,tt,e1,r1,r2,r3,_]:=W;show .inr (.inl #[#[_,o,vs,e1,r1,r2,r3],rfl, #v[],qs,rfl,?_]);rw[eq];simp
    show#[rfl,#[all,λb o e=>?_],os,bare];show un.there b o e (by simp)
 cases hk:K.lookup a with
 |some o=>
  let e:=KX a o hk;rw[L]at e;cases e;show y (λb=>if b=pt then some (.tbl ps)else none) (.inr #[_,vs.toArray,_,hk,rfl,rfl,rfl,by rw[aaH,Q];show hl,by simpa using rv]) (if_pos rfl) (λb u z=>?_) (λb=>?_) (λb=>?_) λu z=>?_
  .by_cases f:b=pt
   .let z':=(if_pos f).symm.trans z;cases z';subst f;show#[#v[],l,trivial,λp cv h=>by simp[codeAmong]at h]
   .let z':=(if_neg f).symm.trans z;cases z'
  .by_cases f:b=pt
   .show .inr (.inr f)
   .show .inl (if_neg f)
  .by_cases f:b=pt
   .show .inr (by rw[f];show X)
   .show .inl (if_neg f)
  .let z':=(if_neg (Ne.symm I)).symm.trans z;cases z'
 |none=>
  show y (λb=>if b=pt then some (.tbl ps)else if b=a then some (.frz {cls:=.type "list",data:=.seq vs.toArray} (.lst (ns.map V.int)))else none) (.inl (.inr #[{cls:=.type "list",data:=.seq vs.toArray},(if_neg (Ne.symm I)).trans (if_pos rfl)])) (if_pos rfl) (λb u z=>?_) (λb=>?_) (λb=>?_) λu z=>?_
  .by_cases f:b=pt
   .let z':=(if_pos f).symm.trans z;cases z';subst f;show#[#v[],l,trivial,λp cv h=>by simp[codeAmong]at h]
   .let z':=(if_neg f).symm.trans z;by_cases g:b=a
    .let z2:=(if_pos g).symm.trans z';cases z2;subst g;show#[L,by rw[aaz];show hl,vs,_,rv,L]
    .let z2:=(if_neg g).symm.trans z';cases z2
  .by_cases f:b=pt
   .show .inr (.inr f)
   .by_cases g:b=a
    .show .inr (.inl g)
    .show .inl (by rw[if_neg f,if_neg g])
  .by_cases f:b=pt
   .show .inr (by rw[f];show X)
   .by_cases g:b=a
    .show .inr (by rw[g];show hk)
    .show .inl (by rw[if_neg f,if_neg g])
  .let z':=(if_neg (Ne.symm I)).symm.trans z;let z2:=(if_pos rfl).symm.trans z';cases z2;show#[_,_,rfl]
theorem agL{l:W.OpenLaw}{n k:Nat}{q:ϯ}{g:List Str}{P:(Str->Option ε)->ϫ->Prop}{M:ϭ->ϫ->Prop}{d:DefRec}{K:Params->ϩ}{CX:ϭ->eU}{sp:ϭ->Sp}{x xn:Str}{ps:Array ε}(Q:l.most=some n)(B:n<=ϰ)(C:d.params.defaults=[])(R:ϒ cc k callerA)(S:∀(w:ϭ)(h:ϫ),M w h->(K w.params).In h)(j:((recsOf q).find? (λe=>e.name==xn)).isSome=true)(m:∀w:ϭ,GZ (K w.params) xn=true)(F:∀(w:ϭ)(mg:Str->Option ε)(z:δ)(h:ϫ),(K w.params).In h->h.Ns mainGlobals mg->mg d.name=some (.ref z)->
   ∃fd:aiF,(∀(s:μ)(u:ε),BindsTo s fd #[[u],[]] [(x,u)])/\
    ∀base:ϫ,(K w.params).In base->base.Ns mainGlobals mg->cX (K w.params) mg base xn->cG l.prog w (K w.params) mg base (CX w) cc k z fd [x] (sp w))(D:∀(w:ϭ)(H:Hp)(a:δ)(ns:List Int),ns.length<=n->η (K w.params) H a (ns.map V.int)->H (bx (K w.params) xn)=some (.tbl ps)->sp w [.ref a] H (λv _=>v=.bl true) λ_ _ _=>False)(E:∀(w:ϭ)(H:Hp)(s:μ)(e:ε)(s':μ),CX w [] H s (λ_ _ _=>False) e s'->False):W.WalkO q g P M l.row.toRowW d [] (λf vs=>PySem.call f vs):=by
 show _A.afb Q C λw s₀ p mg mb z o pm cd T a vs ns G Y ho hd U I y i c X=>?_
 let J:=S w _ Y;let#[fd,Z,hF]:=F w mg z _ J G.T.g I;let#[O,t2]:=ajK (m w);let#[d',L]:=alC.mp j;let#[hC,hP]:=tab_of G.T J L O;show aaF J G.T.g G.T.b G.T.builtins G.T.nolimit X y i (aes c B) R O hC hP t2 G.T.bmain hF Z (λH hS hH=>D w H a ns c hS hH) λH e s'=>E w H p e s'
def Dd(K:ϩ)(x:Str)(ps:Array ε):Sp:=λvs H Q _=>∃(a:δ)(ns:List Int),vs=[.ref a]/\η K H a (ns.map V.int)/\ns.length<=63/\H (bx K x)=some (.tbl ps)/\∀H',Q (.bl true) H'
theorem ajL{P:ϯ}{w:ϭ}{K:ϩ}{mg:Str->Option ε}{base:ϫ}{x:Str}{st:Ϩ}{ps N:List Str}{k:Nat}{sp:Sp}(F:∃f fd,cj K x x st f fd/\mg x=some (.ref f))(i:cX K mg base x)(S:Ο N ps (ψ st))(n:∀(kV a pm:ε)(an:Option δ)(j ct:ε)(us:List ε),us.length=ps.length->bindArgs (apf x x (jt st) (aA st) (ψ st) .none kV a pm an j ct) #[us,[]]=pure (ps.zip us))(len:∀vs H Q E,sp vs H Q E->vs.length=ps.length)(body:∀(f:δ)(A:ϳ)(outer:List Env)(s:μ)(H:Hp)(vs:List V)(Q:VK)(E:XK),ϒ cc k (A.deeper (envOfC x (ψ st) s.heap.objs.size f (.ref (gK K x))))->sp vs H Q E->
   Ρ (gq cc P w K mg base N x (ψ st) f (.ref (gK K x)) A outer s H E) (aA st) {nx:=λ_ H'=>Q .non H',rt:=Q} (start N vs) H):Def P w K mg base cc (k+1) x ps sp:=by
 let#[f,fd,F,m]:=F;show#[f,fd,m,F.kp,F.binds n,?_];let#[oc,od,kV,a,pm,an,j,ct,o,rfl,lk,l]:=id F.ex;let e:=i.tab;unfold tabIn at e;split at e
 .rename_i v p;let g:=akA i.kin i.glob p;rw[m]at g;cases g;simp only[lk]at e;cases j with
  |ref c=>
   let q:c=gK K x:=by
    dsimp only at e;split at e
    .split at e
     .have :=Option.some.inj e;show congrArg Prod.fst this
     .cases e
    .cases e
   subst q;show QM lk l S len λA outer s H vs Q E u h=>#[_,Cv,body f A outer s H vs Q E u h]
  |_=>cases e
 .cases e
section
variable{X:Cx}{ϵ:List (δ×Obj)}{σ:St}{H:Hp}{s:μ}{d:δ}
end
def jA(keep:Nat->Bool)(n:Nat):List Nat:=(aeJ n).filter keep
theorem ah0(keep:Nat->Bool)(n:Nat):jA keep (n+1)=jA keep n++(if keep n=true then[n]else[]):=by
 unfold jA;rw[apZ,List.filter_append];by_cases h:keep n=true
 .simp[h]
 .let h':keep n=false:=by simpa using h
  simp[h']
theorem Yw(keep:Nat->Bool)(n:Nat):(jA keep n).length<=n:=by
 have:=aib keep (aeJ n);rw[aoH]at this;show this
section
variable{X:Cx}{e c:ϧ}{σ σ':St}{H:Hp}{Q:VK}{D:Ends}{pos:Pos}{tg elt:ϧ}{scope:ah9}
def G9(X:Cx)(N':List Str)(scope:ah9)(tg elt c:ϧ)(σ':St)(H1:Hp)(Q:VK)(xs:List V):Prop:=
 ∃(g:St->Prop)(keep:Nat->Bool)(e:δ->Nat->V->Hp->Prop),g σ'/\
  (∀E i v H2 f ys,H2 E=some (.lst ys)->(∀b o,b≠E->H2 b=some o->f b=some o)->e E i v H2->e E i v f)/\
  (∀(fp:List δ)(E C:δ)(j:μ)(H0:Hp)(i:Nat)(m:St)(x:V)(H2:Hp),H1 E=none->xs[i]?=some x->g m->ζ H1 H2->(∃ys,H2 E=some (.lst ys))->
   EG (bR X N' scope (ϓ scope X.env) C j H0 fp) tg x m H2 λa f=>ET (bR X N' scope (ϓ scope X.env) C j H0 fp) c a f λk l=>k=keep i/\g a/\ζ H2 l/\(k=true->EV (bR X N' scope (ϓ scope X.env) C j H0 fp) elt a l λv n=>e E i v n/\ζ l n))/\
  ∀(E:δ)(H2:Hp)(us:List V),H1 E=none->H2 E=some (.lst us)->_V.ς (λu i=>e E i u H2) us (jA keep xs.length)->ζ H1 H2->Q (.ref E) H2
theorem Wj{N':List Str}{l:δ}{xs:List V}(hn:xs.length<=ϰ)(M:η X.K H l xs)(h:G9 X N' scope tg elt c σ' H Q xs):∀(fp:List δ)(E C:δ)(O:μ),H E=none->jD X (bR X N' scope (ϓ scope X.env) C O (upd H E (.lst [])) fp) tg elt [c] (jz X.K l) E σ' H (λH'=>Q (.ref E) H'):=by
 intro fp E C O F;let#[T,keep,U,t0,mono,step,fin]:=h;show#[λi m P H1=>m=xs.length-i/\i<=xs.length/\ζ H H1/\T P/\∃us,H1 E=some (.lst us)/\_V.ς (λu i=>U E i u H1) us (jA keep i),#[xs.length,by simp,agz _,ζ.upd F,t0,[],υ,.nil],?_]
 rintro i m P H1 ⟨rfl,hi,y,R,us,g,G⟩
 by_cases z:i<xs.length
 .show .inr #[#[xs,xs[i],ζ.seq y M,aab z],λB H'=>ζ H H'/\T B/\∃us,H' E=some (.lst us)/\_V.ς (λu i=>U E i u H') us (jA keep (i+1)),λB H' ⟨a,b,d⟩=>#[xs.length-(i+1),(),rfl,z,a,b,d],λx H2 W=>?_];let Z:xs[i]?=some x:=W.2 xs (ζ.seq y M);let hH:H2=H1:=W.1;subst hH;intro ϵ s u I r;show χ (step fp E C O _ i P x _ F Z R y #[us,g] ϵ s u I r) λ_ s' ⟨S,H3,I3,q3⟩=>#[S,H3,I3,ajj ?_]
  show λϵ s I=>χ (q3 ϵ s I) λk s' ⟨H4,I4,hk,Y,n,q⟩=>#[H4,I4,?_]
  subst hk;let J:=ah0 keep i;let hkl:=Yw keep i;let nR:=G.len;by_cases f:keep i=true
  .rw[if_pos f];rw[if_pos f]at J;show aq (q f) λv L ⟨pv,D⟩=>#[us,D _ _ (n _ _ g),(),?_]
   let up:∀b o,b≠E->L b=some o->(upd L E (.lst (us++[v]))) b=some o:=λb o hb e=>by rw[ο hb];show e
   show#[λb o e=>?_,Y,us++[v],υ,?_]
   .rw[ο (Ψ e F)];show D _ _ (n _ _ (y _ _ e))
   .rw[J];show _V.ς.app (G.imp λu j p=>?_) (.cons (mono E i v L _ us (D _ _ (n _ _ g)) up pv) .nil);show mono E j u L _ us (D _ _ (n _ _ g)) up (mono E j u H2 _ us g (λb o _ e=>D _ _ (n _ _ e)) p)
  .rw[if_neg f];rw[if_neg f,ag5]at J;show#[y.trans n,Y,us,n _ _ g,?_];rw[J];show G.imp λu j p=>mono E j u H2 _ us g (λb o _ e=>n _ _ e) p
 .let e:i=xs.length:=()
  subst e;show .inl #[#[xs,ζ.seq y M,Ϭ _],fin E H1 us F g G y]
theorem acC(N':List Str)(a:cF N' X.N σ scope=σ')(g:X.calm=true)(S:cu X.env scope)(hs:∀x,foldedSetIterable e X.env x=pure x)(h:EV X e σ H λv H1=>∃l xs,v=.ref l/\η X.K H1 l xs/\xs.length<=ϰ/\G9 X N' scope tg elt c σ' H1 Q xs):EV X (.ListComp elt [#[tg,e,[c],0]] scope pos) σ H Q:=by
 show vM (N':=N') g S hs (oE (aq h λv H1 q=>?_));let#[l,xs,rfl,f,hz,i]:=q;show#[l,rfl,#[xs,f],?_];rw[a];show Wj hz f i
end
section
variable{X:Cx}{D:Ends}{σ:St}{H:Hp}{rest:List amy}{suite:List Ϩ}{b₀:Ϩ}{pos np:Pos}{x n:Str}{c:ε}{C:δ}{d:Option δ×Bool}{i:Nat}
abbrev ajs(D:Ends)(i:Nat):Ends:=
 {nx:=λσ' H'=>D.nx (σ'.set i none) H',rt:=D.rt,bk:=λσ' H'=>D.bk (σ'.set i none) H',ct:=λσ' H'=>D.ct (σ'.set i none) H'}
theorem YB(hN:X.N.Nodup)(hi:nameAt X.N n=some i)(l:X.env.scope.names.lookup n=some .local)(hg:Gl X x)(hm:X.mg x=some c)(hd:(x==("__debug__":Str))=false)(ex:apo X.K (.ref C) c=some true)(h:∀e pn,H e=none->Ρ (X.gF (.ref e) (λ_ _=>False) pn) (b₀::suite) (ajs D i) (σ.set i (some (.ref e))) (upd H e (xw e C d.1))):EH X (.ExceptHandler (some (.Name x np)) (some n) (b₀::suite) pos::rest) D σ (.ref C) d H:=by
 intro ϵ s e T I F ch;let p:(X.env.scope.kind==.class||(X.env.scope.kind==.module&&X.env.locals !=X.env.globals))=false:=by rw[I.ok.kind];rfl
 let L:i<X.N.length:=(aap.mp (j8 hi)).1;let#[VM,P]:=ch e (by simp);show wpAny_handleBy_cons (agq I F hg hm hd ex ?_) (by intro q;cases q);show codeAny_handlers_suite_as (I.off F ch λs2 I2 F2=>?_);show oA I2 hN (j8 hi) (.inl l) (v:=.ref e) rfl (λs3 I3 R=>?_) (.inr l);let#[a,sb,ha]:=R;let S:e≠a:=by
  obtain z|z:=ha
  .rw[z];show P.2.1
  .show λy=>P.2.2.1 n a z y.symm
 let#[oe,vs,he,U,W,Y,_]:=F2;let Z:s3.heap.get? e=some oe:=(sb.2 e S).trans he;let I4:=I3.adopt VM P (φ:=λh=>∃oe vs,h.get? e=some oe/\oe.cls=.ref C/\oe.dict=d.1/\oe.data=.fields vs) (agD Z U W Y);show adk (h e (X.pn++ϵ) VM [] s3 I4.gF) (λf s4 q=>?_) λ_ _ q=>q.elim
 let g:∀{σ':St}{H':Hp}{Q:Unit->μ->Prop},Inv X ϵ σ' H' s4->(∀G,Inv X ϵ (σ'.set i none) H' G->Q PUnit.unit G)->π (Ϧ X.prog X.w) X.A (do bindName X.env n .none;unbindBehindTheSuite X.env n pos) Q X.xe s4:=λ{σ' H' Q} J k=>by
  let J3:Inv X ϵ (σ'.set i none) H' s4:=J.weak (by simp) λj v O=>by
   by_cases z:j=i
   .subst z;rw[amA (by rw[J.len];show L)]at O;cases O
   .rw[aok (Ne.symm z)]at O;show O
  let#[m,hn,hl]:=id J3.loc;show wpAny_nameGoes_keeps (show X.env.kindOf n=some .local from l) hn p λh' v M ab=>k _ ?_
  show J3.agH (m:=m) (m':=λx=>if x=n then v else m x) hN (j8 hi) (amA (by rw[J.len];show L)) hl M (λx hx=>by rw[if_neg hx]) (λb o R q=>(ab.2 b R).trans q) ?_;let#[o,_,_,ho,_]:=M;show#[o,ho]
 cases f with
 |next=>
  let#[σ',H',J,B]:=q;show g (Inv.vq I.ok J) λG E=>#[_,_,E,B]
 |brk=>
  let#[σ',H',J,B]:=q;show g (Inv.vq I.ok J) λG E=>#[_,_,E,B]
 |cont=>
  let#[σ',H',J,B]:=q;show g (Inv.vq I.ok J) λG E=>#[_,_,E,B]
 |ret u=>
  let#[v,σ',H',J,r,B]:=q;show g (Inv.vq I.ok J) λG E=>#[v,_,_,E,r,B]
end
end _L
namespace _L
open PySem PySem.Spec PyProof.Rows
section
variable{X:Cx}{a b e:ϧ}{σ σ':St}{H:Hp}{Q:VK}{D:Ends}{pos spos py p p':Pos}{tg elt iter:ϧ}{scope:ah9}{Kx:St->XK}{y:Str}{j:Nat}
end
abbrev DX(K:ϩ)(mg:Str->Option ε)(x:Str)(st:Ϩ):Prop:=∃f fd,cj K x x st f fd/\mg x=some (.ref f)
section
variable{K:ϩ}{h:ϫ}{mg:Str->Option ε}(X:K.In h)(G:h.Ns mainGlobals mg){x y m qual fld:Str}{st:Ϩ}{f C D:δ}{od an:Option δ}{sl:Array (Option ε)}{oc kV dc pm cd ct:ε}{t:Tok}
abbrev bJ(K:ϩ)(x:Str)(C:δ):Prop:=ap5 K mainGlobals x=some (some (.ref C))
abbrev qu(K:ϩ)(m qual:Str)(st:Ϩ)(f:δ)(od an:Option δ)(sl:Array (Option ε))(oc kV dc pm cd ct:ε):Prop:=K.lookup f=some #[oc,od,.func (apf m qual (jt st) (aA st) (ψ st) .none kV dc pm an cd ct),sl]
include X G
theorem adt(a:bJ K x f)(l:qu K x x st f od an sl oc kV dc pm cd ct)(c:aoP K cd x=true)(k:anJ K (.ref f)=true):DX K mg x st:=#[_,_,sW (st:=st) l c k,akA X G a]
theorem YD{z:Str}(g:ap5 K mainGlobals x=some (some (.str z t))):Gc mg x (.str z):=#[_,akA X G g,_,rfl]
theorem abm{z:Int}(g:ap5 K mainGlobals x=some (some (.int z t))):Gc mg x (.int z):=#[_,akA X G g,_,rfl]
theorem ah4(z:ap5 K mainGlobals x=some none):mg x=none:=W.mg_none_of X G z
theorem aa2(q:bJ K x C):mg x=some (.ref (θ mg x)):=by let e:=akA X G q;rw[cA e];show e
theorem agx(q:bJ K x C)(y:W.excIn K C eY "ValueError.__new__"=true):Mw K mg x:=ai3 (akA X G q) y
theorem abg{b:Bool}(q:bJ K x C)(r:bJ K y D)(v:apo K (.ref C) (.ref D)=some b):apo K (.ref (θ mg x)) (.ref (θ mg y))=some b:=by
 rw[cA (akA X G q),cA (akA X G r)];show v
theorem adq(q:bJ K x C)(a:aoJ K C (.type "type")=true)(c:aoK K (.ref C) (.type "type") "__init__"=some (.val (.builtin "ValueError.__init__")))(e:air K (.ref C) "__getattribute__"=some (some (.builtin "type.__getattribute__")))(f:aol K (.ref C)=some (.type "type"))(g:anF K C (.type "BaseException")=some true):ou K mg x:=ab5 (akA X G q) a c e f g
theorem aka(q:bJ K x C)(r:bJ K y D)(c:jy K C D=true)(e:aol K (.ref C)=some (.type "type"))(f:amH K C=true)(g:aew K (.ref C) "__getattribute__"=some (some (.builtin "BaseException.__getattribute__")))(i:aew K (.ref C) "__getattr__"=some none)(j:aew K (.ref C) "__class__"=some (some (.builtin "object.__class__")))(l:air K (.builtin "object.__class__") "__get__"=some (some (.builtin "getset_descriptor.__get__")))(m:aoD K (.builtin "object.__class__")=some true)(n:anF K C (.type "object")=some true)(a:anF K C (.type "BaseException")=some true):XC K mg y x:=afK (akA X G q) (akA X G r) c e f g i j l m n a
theorem ahb(q:bJ K x C)(r:bJ K y D)(a:aew K (.ref C) "__init__"=some (some (.ref f)))(l:qu K "__init__" qual st f od an sl oc kV dc pm cd ct)(c:aoP K cd qual=true)(k:anJ K (.ref f)=true)(e:mJ K C f=true)(g:apm K (.ref f)=true)(i:aew K (.ref C) "__setattr__"=some (some (.builtin "object.__setattr__")))(j:aoo K C fld=some none)(m:jy K C D=true):um K mg y x qual fld st:=ade (akA X G q) (akA X G r) (sW (st:=st) l c k) e g i j m
theorem ZV(q:bJ K x C)(a:aew K (.ref C) fld=some none):aew K (.ref (θ mg x)) fld=some none:=by rw[cA (akA X G q)];show a
theorem aam(q:bJ K x C)(a:aew K (.ref C) fld=some none):Φ K (θ mg x) fld:=by rw[cA (akA X G q)];show a
theorem t_k(q:bJ K x C)(a:aom K C aop=true)(b:amH K C=true)(c:aoN K C=true)(d:aew K (.ref C) "__setattr__"=some (some (.builtin "object.__setattr__"))):ϗ K (θ mg x):=X4 (akA X G q) a b c d
theorem agO(q:bJ K x C)(a:aew K (.ref C) "__init__"=some (some (.ref f)))(l:qu K "__init__" qual st f od an sl oc kV dc pm cd ct)(c:aoP K cd qual=true)(k:anJ K (.ref f)=true)(b:apm K (.ref f)=true)(d:apT K C=true)(e:anJ K (.ref C)=true):OI K (θ mg x) qual st:=acs (akA X G q) (sW (st:=st) l c k) a b d e
theorem acx(q:bJ K x C)(a:aew K (.ref C) m=some (some (.ref f)))(l:qu K m qual st f od an sl oc kV dc pm cd ct)(c:aoP K cd qual=true)(k:anJ K (.ref f)=true)(b:apm K (.ref f)=true):OM K (θ mg x) m qual st:=ahR (akA X G q) (sW (st:=st) l c k) a b
theorem aiI(q:bJ K x C)(a:aoK K (.ref C) (.type "type") m=some (.val (.ref f)))(l:qu K m qual st f od an sl oc kV dc pm cd ct)(c:aoP K cd qual=true)(k:anJ K (.ref f)=true)(b:aoJ K C (.type "type")=true)(d:air K (.ref C) "__getattribute__"=some (some (.builtin "type.__getattribute__"))):OB K (θ mg x) m qual st:=agw (akA X G q) (sW (st:=st) l c k) a b d
theorem ai1(q:bJ K x C)(r:bJ K y D)(a:aom K C aop=true)(b:amH K C=true)(c:aoN K C=true)(d:aew K (.ref C) "__setattr__"=some (some (.builtin "object.__setattr__")))(e:aew K (.ref C) "__class__"=some (some (.builtin "object.__class__")))(f:air K (.builtin "object.__class__") "__get__"=some (some (.builtin "getset_descriptor.__get__")))(g:aoD K (.builtin "object.__class__")=some true)(i:anF K C (.type "object")=some true)(u:aoy K (.ref C) (.ref D)=some true):OT K (θ mg x)/\aoy K (.ref (θ mg x)) (.ref (θ mg y))=some true:=by
 show#[agb (akA X G q) (X4 (akA X G q) a b c d) e f g i,?_];rw[cA (akA X G q),cA (akA X G r)];show u
omit X G
inductive jE (mg:Str->Option ε):List δ->List δ->Prop
 |nil:jE mg [] []
 |cons {x:Str} {C:δ} {l m:List δ} (h:mg x=some (.ref C)) (t:jE mg l m):jE mg (θ mg x::l) (C::m)
theorem jE.eq{l m:List δ}(h:jE mg l m):l=m:=by
 induction h with
 |nil=>rfl
 |cons h _ a=>rw[cA h,a]
include X G
theorem fM{l m:List δ}(q:bJ K x C)(t:jE mg l m):jE mg (θ mg x::l) (C::m):=.cons (akA X G q) t
omit X G
theorem ag2{l m:List δ}(t:jE mg l m)(d:m.Nodup):l.Nodup:=by rw[t.eq];show d
end
theorem N5{X:Cx}{st:Ϩ}{rest:List Ϩ}{D:Ends}{σ:St}{H:Hp}(h:let σ':=σ;let a:Ends:={D with nx:=λσ' H'=>Ρ X rest D σ' H'};SX X st a σ' H):Ρ X (st::rest) D σ H:=yE h
theorem Xc{X:Cx}{st:Ϩ}{D:Ends}{σ:St}{H:Hp}(h:let σ':=σ;SX X st D σ' H):Ρ X [st] D σ H:=Ej h
section
variable{X:Cx}{H:Hp}{Q:VK}{z y:Str}
end
end _L
namespace _L
open PySem PySem.Spec PyProof.Rows PySem.W
def pq(k:Int):ε->Bool
 |.int i _=>i==k
 |_=>false
section
variable{X:Cx}{H:Hp}{Q:VK}
end
end _L
namespace _L
open PySem PySem.Spec PyProof.Rows
section
variable{prog:ϯ}{w:ϭ}{A:ϳ}{E:ε->μ->Prop}{s:μ}
end
section
variable{prog:ϯ}{w:ϭ}{A:ϳ}{E:ε->μ->Prop}{s:μ}{ns:List Int}{us:Array ε}
end
end _L
namespace _L
open PySem PySem.Spec PyProof.Rows PySem.W
section
variable{prog:ϯ}{w:ϭ}{A:ϳ}{E:ε->μ->Prop}{s:μ}{S I:δ}{es:Array (Int×ε)}{ep:Nat}{t:alQ}
end
section
variable{prog:ϯ}{w:ϭ}{A:ϳ}{E:ε->μ->Prop}{s:μ}{S I:δ}{es:Array (Int×ε)}{ep:Nat}{t:alQ}
end
section
variable{X:Cx}{H:Hp}{Q:VK}{ns U:List Int}
end
end _L
namespace _L
open PySem PySem.Spec PyProof.Rows PySem.SeqAt AutoSeq1
theorem acI(l:δ)(a:Array ε)(n:Nat)(x:ε)(e:Nat->Bool)(j:Nat)(C:j<a.size)(v:e j=true)(k:Nat)(p:a.size<=ϰ):∀i:Nat,j-i=k->i<=j->(∀m (y:m<a.size),i<=m->m<j->e m=false)->Meets (alA.«list.remove.loop» #[[.ref l,x,rawInt i],[]])
   (λA R s=>s.heap.get? l=some {cls:=.type "list",dict:=none,data:=.seq a n,slots:= #v[]}/\(∀m (y:m<a.size),EqAt A.in1 s a[m] x (e m))/\R (.ok (.ret .none)) {s with heap:=s.heap.update l (Obj.mapSeq λxs=>xs.eraseIdxIfInBounds j)}):=by
 induction k with
 |zero=>
  intro i D z c prog w A R s h;let#[E,g,d,tk,os]:=s;let#[o,u,h]:=h;let q:i=j:=()
  subst q
  wp_walk using wpAny_loadPart' o
  let hi:a[((i:Nat):Int).toNat]?=some a[i]:=by simp[C]
  rw[hi];show ν (u _ C prog w _ _ ?_);rw[v];let B:(a.eraseIdxIfInBounds i).size<=ϰ+1:=aes (MeetsSeq.size_erased a _) (apy p)
  wp_walk using(wpAny_updateSeq o rfl (hz:=p) (_hz':=B)),wpAny_loadPart' o
  simpa using h
 |succ k F=>
  intro i D z c prog w A R s h;let#[E,g,d,tk,os]:=s;let#[o,u,h]:=h;let f:i<a.size:=()
  wp_walk using wpAny_loadPart' o
  let hi:a[((i:Nat):Int).toNat]?=some a[i]:=by simp[f]
  let G:((i:Int)+1)=((i+1:Nat):Int):=by push_cast;rfl
  rw[hi];show ν (u _ f prog w _ _ ?_);rw[c i f (Ϭ _) ()]
  wp_walk
  rw[G];show#[plainId_quiet MeetsSeq.plain_remove_loop _,ak4 MeetsSeq.entry_remove_loop (by
   rw[Around.under_plainId MeetsSeq.plain_remove_loop _];show F (i+1) () () (λm y h1 h2=>c m y () h2) prog w A R _ #[o,u,h])]
theorem ahY(l:δ)(a:Array ε)(n:Nat)(x:ε)(e:Nat->Bool)(j:Nat)(q:j<a.size)(c:e j=true)(f:∀m (i:m<a.size),m<j->e m=false)(o:a.size<=ϰ):Meets (alA.«list.remove» #[[.ref l,x],[]])
   (λA R s=>s.heap.get? l=some {cls:=.type "list",dict:=none,data:=.seq a n,slots:= #v[]}/\(∀m (i:m<a.size),EqAt A.in1 s a[m] x (e m))/\R (.ok (.ret .none)) {s with heap:=s.heap.update l (Obj.mapSeq λxs=>xs.eraseIdxIfInBounds j)}):=by
 intro prog w A R s h;let#[v,g,d,tk,os]:=s;let#[p,u,h]:=h
 wp_walk using wpAny_loadPart' p
 show#[plainId_quiet MeetsSeq.plain_remove_loop _,ak4 MeetsSeq.entry_remove_loop (by
  rw[Around.under_plainId MeetsSeq.plain_remove_loop _];show acI l a n x e j q c _ o 0 rfl (agz _) (λm i _ h2=>f m i h2) prog w A R _ #[p,u,h])]
theorem readsAll_get{h:ϫ}:∀{vs:List ε}{ds:List anq}{as:List δ}{m:Nat}{d:anq}{v:ε},ReadsAll h vs ds as->ds[m]?=some d->vs[m]?=some v->∃bs,Reads h v d bs
 |_,_,_,0,_,_,.cons r _,e,a=>by cases e;cases a;show#[_,r]
 |_,_,_,m+1,_,_,.cons _ t,e,a=>readsAll_get (m:=m) t (by simpa using e) (by simpa using a)
theorem Wm:∀{xs:List V}{us:List ε}(_:Vals xs us)(j:Nat),Vals (xs.eraseIdx j) (us.eraseIdx j)
 |_,_,.nil,_=>.nil
 |_,_,.cons _ t,0=>t
 |_,_,.cons r t,j+1=>.cons r (Wm t j)
section
variable{X:Cx}{H:Hp}{Q:VK}{σ σ':St}{D:Ends}{pos spos py:Pos}{tg elt e c:ϧ}{scope:ah9}{y:Str}{j:Nat}
theorem aht(N':List Str)(a:cF N' X.N σ scope=σ')(f:amu (.ListComp elt [#[tg,e,[c],0]] scope pos) (some (.Name y py)) spos.line X.env=pure true)(i:X.calm=true)(S:cu X.env scope)(hs:∀x,foldedSetIterable e X.env x=pure x)(m:X.N.Nodup)(hi:nameAt X.N y=some j)(n:X.env.scope.names.lookup y=some .local)(h:EV X e σ H λv H1=>∃l xs,v=.ref l/\η X.K H1 l xs/\xs.length<=ϰ/\G9 X N' scope tg elt c σ' H1 (λv H'=>D.nx (σ.set j (some v)) H') xs):SX X (.Assign [.Name y py] (.ListComp elt [#[tg,e,[c],0]] scope pos) spos) D σ H:=by
 show Kr (N':=N') f i S hs m hi n (oE (aq h λv H1 q=>?_));let#[l,xs,rfl,g,hz,o]:=q;show#[l,rfl,#[xs,g],?_];rw[a];show Wj (Q:=λv H'=>D.nx (σ.set j (some v)) H') hz g o
theorem aaS{a:δ}{xs:List V}{y:V}{ds:List anq}{d:anq}{j:Nat}(R:X.A.units+64<cLine)(h:H a=some (.lst xs))(l:di X.K H xs ds)(o:RD X.K H y d)(h1:∀x∈ds,x.canLay0=true/\x.depth<=60)(h2:d.canLay0=true)(E:∃x,ds[j]?=some x/\PyData.eqv x d=true)(q:∀m x,m<j->ds[m]?=some x->PyData.eqv x d=false)(g:Q .non (upd H a (.lst (xs.eraseIdx j)))):MT X "list.remove" (.ref a) [y] H Q:=by
 show je (r:=λx vs H Q=>x=.ref a/\vs=[y]/\H a=some (.lst xs)/\di X.K H xs ds/\RD X.K H y d/\Q .non (upd H a (.lst (xs.eraseIdx j)))) ?_ #[rfl,rfl,h,l,o,g];clear h l o g;intro ϵ s σ H x vs v us Q I rx rs h;let#[rfl,rfl,h,l,o,g]:=h;cases rx;let#[u,rfl,G]:=vals1 rs;let#[z,p,n,r,S,e]:=I.lstM h;let#[as,D]:=di.reads I l r;let#[bs,J]:=RD.reads I o G;let#[T,f,B]:=E;let L:p.length=ds.length:=ReadsAll.length _ _ _ D;let M:=(aap.mp f).1;let i:=ahY a p.toArray n u (λm=>PyData.eqv (ds.getD m .none) d) j (by rw[aaH];omega) (by show PyData.eqv (ds.getD j .none) d=true;rw[abA,f];show B)
  (λm i C=>by
   let c:m<ds.length:=by rw[aaH]at i;omega
   show PyData.eqv (ds.getD m .none) d=false;rw[abA,aab c];show q m _ C (aab c)) (by rw[aaH];omega)
 show anR F.slot_list_remove #[_,e,rfl] F.entry_list_remove (F.args_list_remove_2 _ _) i #[e,λm i=>?_,?_]
 .let c:m<ds.length:=by rw[aaH]at i;omega
  rw[abA,aab c];let#[cs,O]:=readsAll_get D (aab c) (v:=p.toArray[m]) (by simp);let#[P,U]:=h1 _ (ahZ c);show SeqAt.eqAt_reads _ _ _ _ _ _ _ _ O J P h2 (by have:=ao3 (ds[m]).depth d.depth;show _+1+min (ds[m]).depth d.depth<cLine;omega)
 .show#[.non,_,I.lset (its':=p.eraseIdx j) h e ?_ (Wm r j) ?_,rfl,g]
  .apply apM.mp;simp
  .have :=List.length_eraseIdx_le xs j;omega
end
end _L
set_option compiler.extract_closed false
seal _L.EV _L.ET _L.EW _L.EA _L.SX _L.Ρ _L.EG _L.rE _L.EI _L.OP _L.UN _L.CL _L.IX _L.SL _L.MT _L.EJ _L.jP _L.EH
local macro_rules | `(tactic| walk_at "nm") => `(tactic| refine _L.acj (by rfl) ?_)
local macro_rules | `(tactic| walk_at "gc") => `(tactic| refine _L.ahG (by assumption) (by rfl) ?_ (by decide))
local macro_rules | `(tactic| walk_at "ty") => `(tactic| refine _L.abb (by rfl) (by rfl) (by assumption) ?_)
local macro_rules | `(tactic| walk_at "cb") => `(tactic| refine _L.ah3 (by rfl) (by rfl) (by assumption) (by rfl) (by rfl) ?_)
local macro_rules | `(tactic| walk_at "ct") => `(tactic| refine _L.aag (by rfl) (by rfl) (by assumption) (by rfl) (by rfl) ?_)
local macro_rules | `(tactic| walk_at "xo") => `(tactic| first | exact _L.ύ | assumption | exact _L.Qg rfl)
local macro_rules | `(tactic| walk_at "po") => `(tactic| first | exact _L.aaV | assumption | exact PySem.PassesOwn.never)
local macro_rules | `(tactic| walk_at "cl") => `(tactic| first
 |refine _L.adM (by assumption) (by assumption) (by first|decide|omega) (by decide) (by rfl) (by walk_at"xo") (by decide) (by rfl) (by rfl) ?_
 |refine _L.alE (by assumption) (by assumption) (by first|decide|omega) (by decide) (by rfl) (by walk_at"xo") (by decide) ?_)
local macro_rules | `(tactic| walk_at "bm") => `(tactic| first
 |refine _L.dF PySem.F.plainAttrs_str PySem.F.slot_str_join PySem.F.type_str_join (h:=?_)
 |refine _L.dF PySem.F.plainAttrs_str PySem.F.slot_str_index PySem.F.type_str_index (h:=?_)
 |refine _L.dF PySem.F.plainAttrs_str PySem.F.slot_str_startswith PySem.F.type_str_startswith (h:=?_))
local macro_rules | `(tactic| walk_at "e") => `(tactic| first
 |((with_reducible change _L.EV _ _ _ _ _);first
  |((with_reducible change _L.EV _ (PySem.Expr.Name _ _) _ _ _);first|(walk_at"nm")|(walk_at"gc")|(walk_at"ty"))
  |(with_reducible first|refine _L.ahM ?_|refine _L.U7 ?_|refine _L.afs ?_)
  |((with_reducible change _L.EV _ (PySem.Expr.Call _ _ _ _) _ _ _);first
   |((with_reducible change _L.EV _ (PySem.Expr.Call (PySem.Expr.Name _ _) _ _ _) _ _ _);first|(walk_at"cb")|(walk_at"ct")|(walk_at"cl"))
   |(walk_at"bm"))
  |((with_reducible change _L.EV _ (PySem.Expr.Compare _ [_] [_] _) _ _ _);refine _L.aeD (by first|exact _L.Xb _ (by decide) (by decide)|rfl) ?_)
  |((with_reducible change _L.EV _ (PySem.Expr.Compare _ [_,_] [_,_] _) _ _ _);refine _L.abf (by with_unfolding_all rfl) ?_)
  |(with_reducible first|refine _L.aeS ?_|refine _L.aaj ?_|refine _L.aeK ?_)
  |((with_reducible change _L.EV _ (PySem.Expr.Subscript _ _ _) _ _ _);refine _L.ag6 (λ_ _=>by rfl) ?_)
  |(with_reducible first|refine _L.Qs ?_|refine _L.aiQ ?_|refine _L.aaK ?_|refine _L.ahs ?_|refine _L.aad ?_|refine _L.Yz ?_|refine _L.N8 ?_|refine _L.aaM ?_|refine _L.Z3 ?_))
 |((with_reducible change _L.EA _ _ _ _ _);first
  |(with_reducible refine _L.iZ ?_)
  |(refine _L.d8 (by rfl) ?_))
 |((with_reducible change _L.ET _ _ _ _ _);first
  |((with_reducible change _L.ET _ (PySem.Expr.Compare _ [_] [_] _) _ _ _);refine _L.aeO (by first|exact _L.Xb _ (by decide) (by decide)|rfl) ?_)
  |((with_reducible change _L.ET _ (PySem.Expr.Compare _ [_,_] [_,_] _) _ _ _);refine _L.afp (by with_unfolding_all rfl) ?_)
  |(with_reducible refine _L.ad9 ?_)
  |((with_reducible change _L.ET _ (PySem.Expr.BoolOp _ _ _) _ _ _);refine _L.vB ?_)
  |((with_reducible first|change _L.ET _ (PySem.Expr.Name _ _) _ _ _|change _L.ET _ (PySem.Expr.Call _ _ _ _) _ _ _|change _L.ET _ (PySem.Expr.Subscript _ _ _) _ _ _|change _L.ET _ (PySem.Expr.Constant _ _ _) _ _ _);refine _L.Af (λ_=>by rfl) ?_))
 |((with_reducible change _L.EW _ _ _ _ _);with_reducible first|refine _L.aiq ?_|refine _L.ahQ ?_|refine _L.abL ?_|refine _L.aef ?_)
 |((with_reducible change _L.EO _ _ _ _ _);with_reducible first|refine _L.afS ?_|refine _L.adN ?_)
 |((with_reducible change _L.jP _ _ _ _ _ _);first
  |((with_reducible change _L.jP _ (PySem.Expr.Constant _ _ _::_) _ _ _ _);refine _L.M5 (_L.U7 ⟨_,200,rfl,by decide+kernel,by omega,?_⟩))
  |((with_reducible change _L.jP _ (PySem.Expr.FormattedValue _ _ _ _::_) _ _ _ _);refine _L.M5 ?_)
  |(refine _L.aaL (by omega) ?_)))
local macro_rules | `(tactic| walk_at "o") => `(tactic| with_reducible first
 |refine _L.aev ?_|refine _L.acp ?_|refine _L.acr ?_|refine _L.agR ?_|refine _L.YL ?_|refine _L.aju ?_
 |refine _L.YK ?_|refine _L.aaw ?_|refine _L.aby ?_|refine _L.ZC ?_|refine _L.amk ?_|refine _L.akp ?_
 |refine _L.alg ?_|refine _L.akE ?_|refine _L.ala ?_|refine _L.alU ?_)
local macro_rules | `(tactic| walk_at "o2") => `(tactic| first
 |((with_reducible change _L.OP _ (PySem.compareOp PySem.CmpOp.Eq) _ _ _ _);refine _L.Dv (by rfl) ?_)
 |((with_reducible change _L.OP _ (PySem.compareOp PySem.CmpOp.NotEq) _ _ _ _);refine _L.GD (by rfl) ?_)
 |((with_reducible change _L.OP _ (PySem.binaryOp PySem.Operator.Mod) (_L.V.int _) (_L.V.int _) _ _);refine _L.agc (by first|decide|omega) ?_)
 |((with_reducible change _L.OP _ (PySem.binaryOp PySem.Operator.Mult) (_L.V.int _) (_L.V.int _) _ _);refine _L.aeW (by first|exact Or.inr ⟨by decide,by decide⟩|exact Or.inl ⟨by decide,by decide⟩|exact Or.inl ⟨by omega,by omega⟩|exact Or.inr ⟨by omega,by omega⟩) ?_)
 |((with_reducible change _L.OP _ (PySem.binaryOp PySem.Operator.Pow) (_L.V.int _) (_L.V.int _) _ _);refine _L.amC ⟨by decide,by decide,by decide⟩ ?_)
 |((with_reducible change _L.CL _ (PySem.Value.builtin "len") [_L.V.ref _] _ _);refine _L.Fy (Or.inl (by assumption)) ?_)
 |((with_reducible change _L.CL _ (PySem.Value.builtin "len") [_L.V.str _] _ _);refine _L.ajt (by omega) ?_)
 |((with_reducible change _L.CL _ (PySem.Value.builtin "ord") [_L.V.str _] _ _);refine _L.Zz ?_)
 |((with_reducible change _L.CL _ (PySem.Value.builtin "isinstance") _ _ _);first|refine _L.O4 (k:=false) ?_|refine _L.O4 (k:=true) ?_))
local macro_rules | `(tactic| walk_at "t") => `(tactic| first
 |(with_reducible refine _L.ac3 ?_)
 |(with_reducible refine _L.ahl ?_)
 |(with_reducible refine _L.ac9 ?_)
 |(with_reducible refine _L.acV ?_)
 |(with_reducible first|refine _L.aae ?_|refine _L.afk ?_|refine _L.ac7 ?_|refine _L.agn ?_|refine _L.al7 ?_|refine _L.abk ?_|refine _L.abJ ?_|refine _L.aeB ?_|refine _L.alx ?_|refine _L.anz ?_)
 |((with_reducible change ∃k,_L.V.bl _=_L.V.bl k/\_);refine⟨_,rfl,?_⟩)
 |((with_reducible change ∃k,_L.Hs _ (_L.V.bl _) _ k/\_);refine⟨_,rfl,?_⟩)
 |((with_reducible change ∃i,_L.V.int _=_L.V.int i/\_);refine⟨_,rfl,?_⟩)
 |((with_reducible change _L.rC _ _ (_L.V.str _) _/\_);refine⟨by rfl,?_⟩))
local macro_rules | `(tactic| walk_at "c") => `(tactic| (refine _L.N5 ?_; intro _ _))
local macro_rules | `(tactic| walk_at "n") => `(tactic| (refine _L.Xc ?_; intro _))
local macro_rules | `(tactic| walk_at "s") => `(tactic| first
 |(with_reducible refine _L.Ε ?_)
 |((with_reducible refine _L.Xc ?_);intro _)
 |((with_reducible refine _L.N5 ?_);intro _ _)
 |(with_reducible refine _L.ω ?_)
 |(with_reducible refine _L.Ka ?_)
 |(with_reducible refine _L.akD ?_)
 |(with_reducible refine _L.Κ ?_)
 |((with_reducible change _L.SX _ (PySem.Stmt.Assign [PySem.Expr.Name _ _] _ _) _ _ _);refine _L.YC (by assumption) (by rfl) (by first|exact Or.inl rfl|exact Or.inr rfl) (by rfl) (by first|exact Or.inl rfl|exact Or.inr rfl) ?_)
 |((with_reducible change _L.SX _ (PySem.Stmt.Expr _ _) _ _ _);refine _L.aM ?_))
local macro_rules|`(tactic|walk_at "go")=>do
 let f(s:Lean.Syntax):Lean.MacroM Lean.Syntax:=s.replaceM λx=>if x.isOfKind ``PyProof.Rows.tacticWalk_at_ then Lean.Macro.expandMacro? x else pure none
 f (←f (←f (←`(tactic|repeat' (first|(walk_at "e")|(walk_at "o")|(walk_at "o2")|(walk_at "t")|(walk_at "s"))))))
local macro_rules|`(tactic|walk_at "ex")=>do
 let f(s:Lean.Syntax):Lean.MacroM Lean.Syntax:=s.replaceM λx=>if x.isOfKind ``PyProof.Rows.tacticWalk_at_ then Lean.Macro.expandMacro? x else pure none
 f (←f (←f (←`(tactic|repeat' (first|(walk_at "e")|(walk_at "o")|(walk_at "o2")|(walk_at "t"))))))
namespace _L
theorem ajE{α:Type}{us:List α}(h:us.length=1):∃a,us=[a]:=match us,h with|[a],_=>#[a,rfl]
theorem abE{α:Type}{us:List α}(h:us.length=2):∃a b,us=[a,b]:=match us,h with|[a,b],_=>#[a,b,rfl]
theorem T9{α:Type}{us:List α}(h:us.length=3):∃a b c,us=[a,b,c]:=match us,h with|[a,b,c],_=>#[a,b,c,rfl]
theorem age{α:Type}{us:List α}(h:us.length=4):∃a b c d,us=[a,b,c,d]:=match us,h with|[a,b,c,d],_=>#[a,b,c,d,rfl]
theorem akb{α:Type}{us:List α}(h:us.length=5):∃a b c d e,us=[a,b,c,d,e]:=match us,h with|[a,b,c,d,e],_=>#[a,b,c,d,e,rfl]
theorem aho{α:Type}{us:List α}(h:us.length=6):∃a b c d e f,us=[a,b,c,d,e,f]:=match us,h with|[a,b,c,d,e,f],_=>#[a,b,c,d,e,f,rfl]
end _L
local macro_rules | `(tactic| walk_at "b1") => `(tactic| (intro _ _ _ _ _ _ us hl; obtain ⟨_, e⟩ := _L.ajE hl; subst e; rfl))
local macro_rules | `(tactic| walk_at "b2") => `(tactic| (intro _ _ _ _ _ _ us hl; obtain ⟨_, _, e⟩ := _L.abE hl; subst e; rfl))
local macro_rules | `(tactic| walk_at "b3") => `(tactic| (intro _ _ _ _ _ _ us hl; obtain ⟨_, _, _, e⟩ := _L.T9 hl; subst e; rfl))
local macro_rules | `(tactic| walk_at "b4") => `(tactic| (intro _ _ _ _ _ _ us hl; obtain ⟨_, _, _, _, e⟩ := _L.age hl; subst e; rfl))
local macro_rules | `(tactic| walk_at "b5") => `(tactic| (intro _ _ _ _ _ _ us hl; obtain ⟨_, _, _, _, _, e⟩ := _L.akb hl; subst e; rfl))
local macro_rules | `(tactic| walk_at "b6") => `(tactic| (intro _ _ _ _ _ _ us hl; obtain ⟨_, _, _, _, _, _, e⟩ := _L.aho hl; subst e; rfl))
local macro_rules | `(tactic| walk_at "bb") => `(tactic| first | walk_at "b1" | walk_at "b2" | walk_at "b3" | walk_at "b4" | walk_at "b5" | walk_at "b6")
local macro_rules | `(tactic| walk_at "ln") => `(tactic| (intro _ _ _ _ h; cases h; subst_vars; rfl))
local macro_rules | `(tactic| walk_at "A") => `(tactic| (walk_at "c"; walk_at "s"; walk_at "ex"))
namespace _K
open PySem _L PyProof.Rows
def top(i:Nat):Ϩ:=PySem.Challenge.pw_turnleaf_k92_whole_still_list.main.body.getD i (.Pass #[0,0,0,0])
abbrev Lj:Ϩ:=top 26
abbrev zT:Ϩ:=top 33
abbrev Wg:Ϩ:=top 34
abbrev Jd:Ϩ:=top 35
abbrev R4:Ϩ:=top 37
abbrev zP:Ϩ:=top 43
abbrev N6:Ϩ:=top 44
abbrev JQ:Ϩ:=top 45
abbrev HS:Ϩ:=top 47
abbrev Mq:Ϩ:=top 52
abbrev u5:Ϩ:=top 53
abbrev Xo:Ϩ:=top 54
abbrev Ng:Ϩ:=top 55
abbrev T3:Ϩ:=top 56
abbrev xX:Ϩ:=top 64
abbrev RM:Ϩ:=top 65
abbrev xW:Ϩ:=top 66
abbrev Ug:Ϩ:=top 68
abbrev Qo:Ϩ:=top 72
abbrev Nv:Ϩ:=top 73
abbrev qW:Ϩ:=top 74
abbrev V2:Ϩ:=top 75
abbrev Xe:Ϩ:=top 76
abbrev MN:Ϩ:=top 81
abbrev W0:Ϩ:=top 110
abbrev Q9:Ϩ:=top 111
abbrev Il:Ϩ:=top 112
abbrev U4:Ϩ:=top 113
abbrev J0:Ϩ:=top 114
abbrev W8:Ϩ:=top 115
abbrev Rj:Ϩ:=top 116
abbrev Ii:Ϩ:=top 126
abbrev La:Ϩ:=top 127
abbrev Nj:Ϩ:=top 128
abbrev XQ:Ϩ:=top 129
abbrev EY:Ϩ:=top 131
abbrev Tj:Ϩ:=top 132
abbrev Ln:Ϩ:=top 133
abbrev Xk:Ϩ:=top 135
abbrev xO:Ϩ:=top 138
abbrev LK:Ϩ:=top 142
abbrev Ud:Ϩ:=top 146
abbrev V0:Ϩ:=top 150
abbrev HY:Ϩ:=top 151
abbrev wD:Ϩ:=top 152
abbrev SN:Ϩ:=top 154
abbrev Ky:Ϩ:=top 157
abbrev Cg:Ϩ:=top 158
abbrev Ha:Ϩ:=top 159
abbrev Rn:Ϩ:=top 160
abbrev Ah:Ϩ:=top 161
abbrev jn:Ϩ:=top 162
abbrev vU:Ϩ:=top 163
abbrev Uv:Ϩ:=inClass (top 13) 0
abbrev Wv:Ϩ:=inClass (top 12) 0
abbrev Ar:Ϩ:=inClass (top 84) 0
abbrev Ot:Ϩ:=inClass (top 84) 1
abbrev j4:Ϩ:=inClass (top 84) 2
abbrev JG:Ϩ:=inClass (top 86) 0
abbrev Ip:Ϩ:=inClass (top 86) 1
abbrev wg:Ϩ:=inClass (top 87) 0
abbrev qT:Ϩ:=inClass (top 87) 1
abbrev Mg:Ϩ:=inClass (top 87) 2
abbrev Wy:Ϩ:=inClass (top 90) 0
abbrev Ob:Ϩ:=inClass (top 91) 0
abbrev Um:Ϩ:=inClass (top 92) 0
abbrev Us:Ϩ:=inClass (top 92) 1
abbrev Vo:Ϩ:=inClass (top 93) 0
abbrev X5:Ϩ:=inClass (top 95) 0
abbrev Mx:Ϩ:=inClass (top 148) 0
abbrev Tz:Ϩ:=inClass (top 148) 1
abbrev JB:Ϩ:=inClass (top 148) 2
abbrev S5:Ϩ:=inClass (top 148) 3
abbrev uW:Ϩ:=inClass (top 148) 4
abbrev U6:Ϩ:=inClass (top 148) 5
abbrev JZ:Ϩ:=inClass (top 148) 6
abbrev Nx:Ϩ:=inClass (top 148) 7
abbrev Le:Ϩ:=inClass (top 148) 8
abbrev Je:Ϩ:=inClass (top 148) 13
abbrev Rp:Ϩ:=inClass (top 148) 14
abbrev W3:Ϩ:=inClass (top 148) 15
abbrev Hj:Ϩ:=inClass (top 148) 16
structure Txt(K:ϩ)(mg:Str->Option ε):Prop where
 rQ:DX K mg "is_whole" (top 25)
 rZ:DX K mg "made_of" Lj
 Ik:DX K mg "is_number_value" (top 27)
 vP:DX K mg "is_text_value" (top 28)
 Cr:DX K mg "is_value" (top 29)
 xU:DX K mg "value_before" (top 30)
 Bq:DX K mg "value_word" (top 31)
 Eh:DX K mg "are_figures" (top 32)
 yj:DX K mg "read_figures" zT
 Fg:DX K mg "read_number_word" Wg
 zL:DX K mg "read_text_word" Jd
 xH:DX K mg "read_value" (top 36)
 CJ:DX K mg "read_values" R4
 zX:DX K mg "is_name" (top 42)
 DN:DX K mg "ask_columns" zP
 nA:DX K mg "place_of" N6
 zH:DX K mg "row_words" JQ
 Dk:DX K mg "is_row_number" (top 46)
 CN:DX K mg "is_row" HS
 Es:DX K mg "read_order_word" Mq
 vY:DX K mg "read_order" u5
 HN:DX K mg "order_text" Xo
 wM:DX K mg "key_of" Ng
 Dm:DX K mg "key_ahead" T3
 Fd:DX K mg "number_of" (top 62)
 GF:DX K mg "rank_of" (top 63)
 Dj:DX K mg "sorted_by" xX
 Et:DX K mg "let_through" RM
 Hy:DX K mg "line_of" xW
 GJ:DX K mg "lies_ahead" (top 67)
 vI:DX K mg "cut_place" Ug
 wA:DX K mg "ask_size" (top 71)
 DQ:DX K mg "copy_of_cut" Qo
 Gf:DX K mg "cut_beside" Nv
 yM:DX K mg "leaf_between" qW
 Ei:DX K mg "leaf_forth" V2
 HQ:DX K mg "leaf_back" Xe
 zu:DX K mg "check_of" MN
 vN:DX K mg "check_word" (top 82)
 nZ:DX K mg "word_at" (top 108)
 oU:DX K mg "text_between" (top 109)
 uO:DX K mg "read_column" W0
 Hb:DX K mg "read_word" Q9
 zF:DX K mg "read_none" Il
 Ig:DX K mg "read_of_value" U4
 WX:DX K mg "read_of_sieves" J0
 OJ:DX K mg "read_part" W8
 aaP:DX K mg "read_sieve" Rj
 zM:DX K mg "cut_text" Ii
 Gk:DX K mg "mark_text" La
 HH:DX K mg "read_make" Nj
 yq:DX K mg "read_whole" XQ
 DG:DX K mg "read_side" (top 130)
 Dt:DX K mg "read_cut" EY
 zy:DX K mg "read_body" Tj
 HB:DX K mg "read_mark" Ln
 Gn:DX K mg "rows_of_list" Xk
 z9:DX K mg "is_untouched" (top 136)
 G3:DX K mg "mark_at" (top 137)
 pI:DX K mg "leaf_from" xO
 xV:DX K mg "begin_of" (top 139)
 vz:DX K mg "first_leaf" (top 140)
 zr:DX K mg "last_leaf" (top 141)
 vO:DX K mg "read_good_mark" LK
 DW:DX K mg "turn_forth" (top 143)
 De:DX K mg "turn_back" (top 144)
 G5:DX K mg "told_rows" Ud
 Am:DX K mg "put_back" (top 147)
 jV:DX K mg "_law_draw" V0
 Fw:DX K mg "_law_values" HY
 wC:DX K mg "_law_deed" wD
 Ds:DX K mg "_law_order" (top 153)
 Ag:DX K mg "_law_order_words" SN
 Gv:DX K mg "_law_sieve_words" (top 155)
 Fv:DX K mg "_law_lets" (top 156)
 Cd:DX K mg "_law_ahead" Ky
 zq:DX K mg "_law_line" Cg
 zA:DX K mg "_law_leaf" Ha
 Eu:DX K mg "_law_turned" Rn
 Ai:DX K mg "_law_between" Ah
 FZ:DX K mg "_law_walked" jn
 aeq:DX K mg "law" vU
 Hk:Gc mg "NUMBER" (.str "number")
 Qy:Gc mg "TEXT" (.str "text")
 aiL:Gc mg "FIGURES" (.str "0123456789")
 ZJ:Gc mg "LETTERS" (.str "abcdefghijklmnopqrstuvwxyz")
 akk:Gc mg "TEXT_SIGNS" (.str "abcdefghijklmnopqrstuvwxyz0123456789-")
 Vh:Gc mg "LARGEST" (.int 1000000000000000000)
 Zk:Gc mg "LONGEST" (.int 20)
 Vw:Gc mg "NONE_WORD" (.str "?")
 QV:Gc mg "TEXT_AHEAD" (.str "'")
 aez:Gc mg "BELOW_AHEAD" (.str "-")
 agE:Gc mg "MOST_COLUMNS" (.int 6)
 aiW:Gc mg "LONGEST_NAME" (.int 8)
 Oe:Gc mg "LARGEST_ROW" (.int 1000000000)
 ai9:Gc mg "MOST_IN_ORDER" (.int 4)
 Xr:Gc mg "UP_AHEAD" (.str "+")
 Vf:Gc mg "DOWN_AHEAD" (.str "-")
 QK:Gc mg "START" (.str "start")
 Qi:Gc mg "END" (.str "end")
 rH:Gc mg "AHEAD" (.str "ahead")
 BP:Gc mg "BEHIND" (.str "behind")
 aak:Gc mg "LARGEST_SIZE" (.int 100)
 aiv:Gc mg "BASE" (.int 137)
 aeU:Gc mg "REST_BY" (.int 9973)
 adu:Gc mg "FIGURES_OF_CHECK" (.int 4)
 aea:Gc mg "MOST_WORDS" (.int 60)
 Su:Gc mg "MOST_WITHIN" (.int 20)
 Pq:Gc mg "ALL" (.str "all")
 XS:Gc mg "NONE" (.str "none")
 Gm:Gc mg "IS" (.str "is")
 Fp:Gc mg "UNDER" (.str "under")
 HW:Gc mg "OVER" (.str "over")
 Gi:Gc mg "HOLDS" (.str "holds")
 Hz:Gc mg "NOT" (.str "not")
 BW:Gc mg "BOTH" (.str "both")
 aeo:Gc mg "EITHER" (.str "either")
 Du:Gc mg "LIVING" (.str "living")
 Tf:Gc mg "STILL" (.str "still")
 ahg:Gc mg "LATEST" (.int 5000)
 ah6:Gc mg "PARTS" (.int 5)
 Vy:Gc mg "PARTING" (.str "/")
 Io:Gc mg "STOP" (.str ".")
 JP:Gc mg "AHEAD_SIGN" (.str "<")
 J9:Gc mg "BEHIND_SIGN" (.str ">")
 Iu:mg "all"=none
 agS:mg "bool"=none
 abe:mg "dict"=none
 aeZ:mg "enumerate"=none
 JT:mg "int"=none
 vC:mg "isinstance"=none
 bN:mg "len"=none
 j9:mg "list"=none
 Bo:mg "max"=none
 Ec:mg "min"=none
 ae3:mg "ord"=none
 Gp:mg "range"=none
 VN:mg "reversed"=none
 Oa:mg "set"=none
 tL:mg "sorted"=none
 oH:mg "str"=none
 Tu:mg "tuple"=none
 G4:mg "zip"=none
 abK:mg "Gone"=some (.ref (θ mg "Gone"))
 yX:mg "Sieve"=some (.ref (θ mg "Sieve"))
 ai8:mg "AllSieve"=some (.ref (θ mg "AllSieve"))
 aiw:mg "NoneSieve"=some (.ref (θ mg "NoneSieve"))
 aeu:mg "IsSieve"=some (.ref (θ mg "IsSieve"))
 acG:mg "OverSieve"=some (.ref (θ mg "OverSieve"))
 ZZ:mg "HoldsSieve"=some (.ref (θ mg "HoldsSieve"))
 afq:mg "NotSieve"=some (.ref (θ mg "NotSieve"))
 aeG:mg "EitherSieve"=some (.ref (θ mg "EitherSieve"))
 aaQ:mg "Book"=some (.ref (θ mg "Book"))
 vo:ou K mg "LeafError"
 uK:XC K mg "LeafError" "Gone"
 v8:um K mg "LeafError" "Later" "Later.__init__" "now" Uv
 vL:um K mg "LeafError" "Gone" "Gone.__init__" "known" Wv
 ac5:aew K (.ref (θ mg "Gone")) "known"=some none
 wK:ϗ K (θ mg "AllSieve")
 Zq:OI K (θ mg "AllSieve") "Sieve.__init__" Ar
 ajz:OM K (θ mg "AllSieve") "lets" "Sieve.lets" Ot
 Yt:OM K (θ mg "AllSieve") "shown" "Sieve.shown" j4
 WN:Φ K (θ mg "AllSieve") "text"
 uc:ϗ K (θ mg "NoneSieve")
 ahW:OI K (θ mg "NoneSieve") "NoneSieve.__init__" JG
 aet:OM K (θ mg "NoneSieve") "lets" "NoneSieve.lets" Ip
 Z5:OM K (θ mg "NoneSieve") "shown" "Sieve.shown" j4
 XX:Φ K (θ mg "NoneSieve") "text"
 JW:Φ K (θ mg "NoneSieve") "place"
 oZ:ϗ K (θ mg "IsSieve")
 afj:OI K (θ mg "IsSieve") "ValueSieve.__init__" wg
 ag4:OM K (θ mg "IsSieve") "fits" "ValueSieve.fits" Mg
 abN:OM K (θ mg "IsSieve") "lets" "ValueSieve.lets" qT
 afC:OM K (θ mg "IsSieve") "shown" "Sieve.shown" j4
 Pn:Φ K (θ mg "IsSieve") "text"
 Wd:Φ K (θ mg "IsSieve") "place"
 QX:Φ K (θ mg "IsSieve") "value"
 pX:ϗ K (θ mg "OverSieve")
 aa8:OI K (θ mg "OverSieve") "ValueSieve.__init__" wg
 ah1:OM K (θ mg "OverSieve") "fits" "OverSieve.fits" Wy
 aav:OM K (θ mg "OverSieve") "lets" "ValueSieve.lets" qT
 abp:OM K (θ mg "OverSieve") "shown" "Sieve.shown" j4
 Xg:Φ K (θ mg "OverSieve") "text"
 Lq:Φ K (θ mg "OverSieve") "place"
 XM:Φ K (θ mg "OverSieve") "value"
 oF:ϗ K (θ mg "HoldsSieve")
 aaY:OI K (θ mg "HoldsSieve") "ValueSieve.__init__" wg
 Z4:OM K (θ mg "HoldsSieve") "fits" "HoldsSieve.fits" Ob
 abR:OM K (θ mg "HoldsSieve") "lets" "ValueSieve.lets" qT
 afQ:OM K (θ mg "HoldsSieve") "shown" "Sieve.shown" j4
 K3:Φ K (θ mg "HoldsSieve") "text"
 PN:Φ K (θ mg "HoldsSieve") "place"
 Sh:Φ K (θ mg "HoldsSieve") "value"
 t8:ϗ K (θ mg "NotSieve")
 aeb:OI K (θ mg "NotSieve") "NotSieve.__init__" Um
 afc:OM K (θ mg "NotSieve") "lets" "NotSieve.lets" Us
 adp:OM K (θ mg "NotSieve") "shown" "Sieve.shown" j4
 U3:Φ K (θ mg "NotSieve") "text"
 Up:Φ K (θ mg "NotSieve") "one"
 qz:ϗ K (θ mg "EitherSieve")
 adS:OI K (θ mg "EitherSieve") "PairSieve.__init__" Vo
 akg:OM K (θ mg "EitherSieve") "lets" "EitherSieve.lets" X5
 ajp:OM K (θ mg "EitherSieve") "shown" "Sieve.shown" j4
 Mp:Φ K (θ mg "EitherSieve") "text"
 Xf:Φ K (θ mg "EitherSieve") "one"
 Rm:Φ K (θ mg "EitherSieve") "other"
 Ϝ:ϗ K (θ mg "Book")
 acE:OI K (θ mg "Book") "Book.__init__" Mx
 Jv:OM K (θ mg "Book") "ask_row" "Book.ask_row" JB
 Uz:OM K (θ mg "Book") "ask_there" "Book.ask_there" S5
 abF:OM K (θ mg "Book") "change" "Book.change" JZ
 Gg:OM K (θ mg "Book") "columns" "Book.columns" Tz
 GK:OM K (θ mg "Book") "do" "Book.do" uW
 M8:OM K (θ mg "Book") "done_behind" "Book.done_behind" W3
 ab3:OM K (θ mg "Book") "let_go" "Book.let_go" Rp
 yO:OM K (θ mg "Book") "moment" "Book.moment" Le
 aeX:OM K (θ mg "Book") "oldest" "Book.oldest" Je
 aa0:OM K (θ mg "Book") "put" "Book.put" U6
 adJ:OM K (θ mg "Book") "rows_at" "Book.rows_at" Hj
 aaT:OM K (θ mg "Book") "take" "Book.take" Nx
 Ba:Φ K (θ mg "Book") "heads"
 tU:Φ K (θ mg "Book") "rows"
 Ks:Φ K (θ mg "Book") "touched"
 w6:Φ K (θ mg "Book") "done"
 zb:Φ K (θ mg "Book") "known"
 vg:Φ K (θ mg "Book") "now"
 yt:OB K (θ mg "Sieve") "__init__" "Sieve.__init__" Ar
abbrev acX:List Str:=["self","values","value"]
theorem WM:Ο acX ["self","values"] (ψ qT):=by room
abbrev Yp:List Str:=["self","row","values","was"]
theorem N7:Ο Yp ["self","row","values"] (ψ uW):=by room
abbrev afG:List Str:=["self","moment","rows","deed"]
theorem Vt:Ο afG ["self","moment"] (ψ Hj):=by room
abbrev aar:List Str:=["self","now"]
theorem Zm:Ο aar ["self","now"] (ψ Uv):=by room
abbrev adT:List Str:=["self","known"]
theorem ajl:Ο adT ["self","known"] (ψ Wv):=by room
abbrev afx:List Str:=["word","most","number"]
theorem O3:Ο afx ["word","most"] (ψ zT):=by room
abbrev aiP:List Str:=["word","below","number"]
theorem NZ:Ο aiP ["word"] (ψ Wg):=by room
abbrev ZR:List Str:=["word"]
theorem VP:Ο ZR ["word"] (ψ Jd):=by room
abbrev adD:List Str:=["columns","name","kind","names"]
theorem UG:Ο adD ["columns"] (ψ zP):=by room
abbrev ajn:List Str:=["columns","name","place","column"]
theorem Vp:Ο ajn ["columns","name"] (ψ N6):=by room
abbrev aal:List Str:=["columns","row","values"]
theorem Xi:Ο aal ["columns","row","values"] (ψ HS):=by room
abbrev adL:List Str:=["columns","word","sign","name"]
theorem KD:Ο adL ["columns","word"] (ψ Mq):=by room
abbrev agt:List Str:=["columns","text","words","order","names"]
theorem Nh:Ο agt ["columns","text"] (ψ u5):=by room
abbrev acb:List Str:=["order","one","other","column","value","against"]
theorem Lr:Ο acb ["order","one","other"] (ψ T3):=by room
def gR:Array ε:=Aw #[182,4,183,38] "sorted_by.<locals>.rank"
abbrev Q4:List Str:=["rows","place","up","rank"]
theorem Nb:Ο Q4 ["rows","place","up"] (ψ xX):=by room
abbrev Wn:List Str:=["columns","order","rows","line","name","up"]
theorem Qk:Ο Wn ["columns","order","rows"] (ψ xW):=by room
abbrev Ys:List Str:=["columns","order","line","cut","low","high","middle","row","values"]
theorem X7:Ο Ys ["columns","order","line","cut"] (ψ Ug):=by room
abbrev adI:List Str:=["cut","values","row"]
theorem NP:Ο adI ["cut"] (ψ Qo):=by room
abbrev adE:List Str:=["columns","order","side","rows","cut","row","values"]
theorem Mt:Ο adE ["columns","order","side","rows","cut"] (ψ Nv):=by room
abbrev ahU:List Str:=["columns","order","line","cut","start","stop","here","back","forth"]
theorem Ni:Ο ahU ["columns","order","line","cut","start","stop"] (ψ qW):=by room
abbrev agG:List Str:=["columns","order","line","cut","size","start"]
theorem Uu:Ο agG ["columns","order","line","cut","size"] (ψ V2):=by room
abbrev ajx:List Str:=["columns","order","line","cut","size","stop"]
theorem Kf:Ο ajx ["columns","order","line","cut","size"] (ψ Xe):=by room
abbrev aep:List Str:=["text","total","power","sign"]
theorem Xn:Ο aep ["text"] (ψ MN):=by room
abbrev ZW:List Str:=["columns","words","place","column"]
theorem Qm:Ο ZW ["columns","words","place"] (ψ W0):=by room
abbrev ajm:List Str:=["kind","words","place","word","value"]
theorem Sv:Ο ajm ["kind","words","place"] (ψ Q9):=by room
abbrev ah2:List Str:=["columns","words","start","column"]
theorem P0:Ο ah2 ["columns","words","start"] (ψ Il):=by room
abbrev ago:List Str:=["columns","words","start","word","column","kind","value","text"]
theorem Xl:Ο ago ["columns","words","start"] (ψ U4):=by room
abbrev acQ:List Str:=["columns","words","start","within","word","one","behind","other","text"]
theorem ye:Ο acQ ["columns","words","start","within"] (ψ J0):=by room
abbrev adl:List Str:=["columns","words","start","within","word"]
theorem wL:Ο adl ["columns","words","start","within"] (ψ W8):=by room
abbrev afZ:List Str:=["columns","text","words","sieve","behind"]
theorem Wu:Ο afZ ["columns","text"] (ψ Rj):=by room
abbrev abH:List Str:=["cut","values","row","sign"]
theorem TV:Ο abH ["cut"] (ψ Ii):=by room
abbrev Z7:List Str:=["mark","make","moment","order","sieve","cut","body"]
theorem O5:Ο Z7 ["mark"] (ψ La):=by room
abbrev aj3:List Str:=["letter","make"]
theorem Ww:Ο aj3 ["letter"] (ψ Nj):=by room
abbrev aca:List Str:=["word","most","number"]
theorem KH:Ο aca ["word","most"] (ψ XQ):=by room
abbrev acz:List Str:=["columns","order","text","side","words","row","kinds"]
theorem Q5:Ο acz ["columns","order","text"] (ψ EY):=by room
abbrev aer:List Str:=["columns","body","parts","make","moment","order","sieve"]
theorem S6:Ο aer ["columns","body"] (ψ Tj):=by room
abbrev ado:List Str:=["columns","text","body","stop","check"]
theorem Vv:Ο ado ["columns","text"] (ψ Ln):=by room
abbrev Y6:List Str:=["book","make","begin","sieve","rows"]
theorem JV:Ο Y6 ["book","make","begin","sieve"] (ψ Xk):=by room
abbrev ahK:List Str:=["book","mark","size","onward","make","begin","order","text","cut","columns","line","here","back","forth","ahead","rows","moment"]
theorem XH:Ο ahK ["book","mark","size","onward"] (ψ xO):=by room
abbrev adU:List Str:=["book","text","mark"]
theorem Uh:Ο adU ["book","text"] (ψ LK):=by room
abbrev acq:List Str:=["_law_script","_law_k","_law_many","_law_cell","_law_seed"]
theorem VB:Ο acq ["_law_script","_law_k","_law_many"] (ψ V0):=by room
abbrev aiY:List Str:=["_law_script","_law_base","_law_number"]
theorem XF:Ο aiY ["_law_script","_law_base"] (ψ HY):=by room
abbrev abn:List Str:=["_law_script","_law_k","_law_way","_law_book","_law_table","_law_row","_law_values_here"]
theorem Oi:Ο abn ["_law_script","_law_k","_law_way","_law_book","_law_table"] (ψ wD):=by room
abbrev ajy:List Str:=["_law_order_here","_law_one","_law_other","_law_name","_law_up","_law_at","_law_first","_law_second","_law_before"]
theorem Wa:Ο ajy ["_law_order_here","_law_one","_law_other"] (ψ Ky):=by room
abbrev ah8:List Str:=["_law_table","_law_order_here","_law_sieve","_law_left","_law_line_here","_law_best","_law_one"]
theorem Xu:Ο ah8 ["_law_table","_law_order_here","_law_sieve"] (ψ Cg):=by room
abbrev afe:List Str:=["_law_leaf_here","_law_line_here","_law_at","_law_after","_law_moment","_law_rows","_law_back","_law_forth","_law_many","_law_ahead_here","_law_told","_law_one"]
theorem Lz:Ο afe ["_law_leaf_here","_law_line_here","_law_at","_law_after","_law_moment"] (ψ Ha):=by room
abbrev ajH:List Str:=["_law_book","_law_mark","_law_size","_law_ways","_law_told","e"]
theorem J6:Ο ajH ["_law_book","_law_mark","_law_size","_law_ways"] (ψ Rn):=by room
abbrev agm:List Str:=["_law_script","_law_k","_law_book","_law_table","_law_moment","_law_i","_law_later"]
theorem Xy:Ο agm ["_law_script","_law_k","_law_book","_law_table","_law_moment"] (ψ Ah):=by room
abbrev yD:List Str:=["_law_script","_law_book","_law_table","_law_line_here","_law_leaf_here","_law_span","_law_moment","_law_k","_law_ways","_law_mark","_law_size","_law_told"]
theorem Fe:Ο yD ["_law_script","_law_book","_law_table","_law_line_here","_law_leaf_here","_law_span"] (ψ jn):=by room
abbrev agg:List Str:=["_law_script","_law_book","_law_table","_law_k","_law_order_here","_law_text","_law_sieve","_law_words","_law_size","_law_line_here","_law_leaf_here","_law_span"]
theorem Sw:Ο agg ["_law_script"] (ψ vU):=by room
section
variable{P:ϯ}{w:ϭ}{K:ϩ}{mg:Str->Option ε}{base:ϫ}{cc:Bool}{k:Nat}{sp:Sp}
theorem abq(T:Txt K mg){cc:Bool}:uN P w K mg base cc 1 "Later" "now":=by
 show Q3 T.v8 Zm (by walk_at"b2") rfl (λf l A outer s H vs Q E hi m h=>?_);let#[e,n,rfl,a,c,q]:=h;let hsz:=ϱ;show yE (aM ?_);show WD (pl:=_) T.vo.toXBase ?_;cbv;show LC ?_;f_are;show#[n,rfl,_V.nq a,_,70,rfl,_V.Rw a,(),?_];cbv;intro p;show iZ (Q6 hi c ?_);show Ej (VF T.v8.sa T.v8.xc T.v8.tk (by rfl) ?_);f_are;f_are;show#[e,rfl,c,λD g i=>q D _ i g (λb o j r=>?_) υ ?_]
 .rw[ο j,ο (Ψ r g)];show r
 .rw[ο i,υ]
theorem ako(T:Txt K mg){cc:Bool}:uN P w K mg base cc 1 "Gone" "known":=by
 show Q3 T.vL ajl (by walk_at"b2") rfl (λf l A outer s H vs Q E hi m h=>?_);let#[e,n,rfl,a,c,q]:=h;let hsz:=ϱ;show yE (aM ?_);show WD (pl:=_) T.vo.toXBase ?_;cbv;show LC ?_;f_are;show#[n,rfl,_V.nq a,_,70,rfl,_V.Rw a,(),?_];cbv;intro p;show iZ (Q6 hi c ?_);show Ej (VF T.vL.sa T.vL.xc T.vL.tk (by rfl) ?_);f_are;f_are;show#[e,rfl,c,λD g i=>q D _ i g (λb o j r=>?_) υ ?_]
 .rw[ο j,ο (Ψ r g)];show r
 .rw[ο i,υ]
end
end _K
namespace _K
open PySem _L PyProof.Rows _M _V _W
section
variable{P:ϯ}{w:ϭ}{K:ϩ}{mg:Str->Option ε}{base:ϫ}
abbrev aeN:Prop:=∀{P:ϯ}{w:ϭ}{K:ϩ}{mg:Str->Option ε}{base:ϫ}(T:Txt K mg)(hN:cX K mg base "sorted_by"){f:δ}{fd:aiF}(F:cj K "law" "law" vU f fd),cG P w K mg base (bL P w) true 60 f fd ["_law_script"] (Dd K "sorted_by" gR)
end
end _K
set_option genInjectivity false in
set_option genSizeOf false in
structure PySem.W.Fast:Prop where(tw63749870644104008 tw17706253816330598168 tw5297345157948959663 tw22134694025852722 tw2169107050121009951 tw13805590455976108665 tw5869659142577355126 tw13450508749153465777 tw5134885873208452100 tw13226254266739093363 tw1275528014714767795 tw13038258863305388061 tw14064690212401697846 tw4237922442882827079 tw2111618277363522395 tw7197709966276954774 tw7800404844326239496 tw13311908890284341355 tw6140334517305854387 tw13823995151550328194 tw6581603191869595947 tw8368540479495058402 tw10677662076313853869 tw7560562361133204975 tw11014581115690326490 tw5038140484347577300 tw3620636232613229111 tw10637619859036573419 tw3227756543016561854 tw11508134070381037182 tw2246512199216090263 tw11443782498347748006 tw14234126734548383393 tw9315487191818586063 tw16318721791783999487 tw13989618562026669451 tw12748360526457030835 tw7455809072615732527 tw8643157395548482469 tw12041661462436176641 tw17382221587278529084 tw4661844284175090952 tw425609125221757348 tw2173278299059884028 tw12382812744443024917 tw5937579056984057785 tw10233077157210259277 tw3806746666321189450 tw16791582189812173698 tw6373721893512568185 tw17890428222432440700 tw3222288169994941668 tw9529959857659364836 tw1108378170991494209 tw11792159648949025075 tw4237626930588909435 tw13268415728756466141 tw9120178477558626571 tw3969219781774479830 tw5498719439024079969 tw3489856455456697191 tw17869493879235447613 tw8302502287127418443 tw18155021606216194367 tw649131095832074677 tw13422259395125520007 tw8287696030165436617 tw7580798007824786300 tw10040359413287300147 tw4598105110721288057 tw16159688758647492710 tw13221619237564211036 tw17744928122866322925 tw8951368245542966435 tw12205002151064985682 tw8664301819404110975 tw6467886661319507833 tw12713644092451055708 tw382383869607752150 tw9613838436587978318 tw8783819758302606182 tw17422541922973142823 tw8866579468808396530 tw14010738632804126514 tw81737807542182842 tw486045953075931219 tw10007612983766076363 tw16761194494679087818 tw8246780389951956376 tw3142609242263994179 tw5338151921597624922 tw7146762818666214007 tw14406210457281975638 tw12895952782616881514 tw8052150492890735563 tw9828931335783690890 tw6975855293884378222 tw7745246618113938695 tw1344148194130489432 tw15345460339247418462 tw14894662421876620348 tw12773828276189741082 tw10784057091250377160 tw4846486177610696108 tw11583519173720767046 tw15832260215238844164 tw2612217446080735325 tw10792521197784045087 tw7083996567116497602 tw6475395834024832971 tw152330132829942788 tw3223756572119810282 tw17761472124998781265 tw227197886111805324 tw13120606977651838610 tw12372055773117141249 tw1466005159161872701 tw17642845353594644184 tw2873078006714770944 tw8603094152179878111 tw10407893761845647251 tw9492237707121792112 tw8986990304463624054 tw14423035358126026770 tw4385704902874875911 tw90642468650719095 tw6786139536308004666 tw2446672894866854084 tw10566794537721420352 tw8773871758922554358 tw13285601779714455799 tw5798326382882450120 tw3314645298150373563 tw2602487467901762414 tw4720085534268689108 tw2742563106771848234 tw8921108522819914938 tw18086969225035574422 tw13133546680072971174 tw6540431952753395944 tw15946857263944105497 tw11752587465896114784 tw8337183710169556275 tw3750748298272291661 tw11690242510210204244 tw8608082426557051318 tw10884999605191531164 tw10251493928475346586 tw6145574124114432841 tw6440300408389244619 tw2431466730858573638 tw15449269149415778226 tw10577790870304511026 tw9146935137173223378 tw8370690193078356627 tw18236116650686373243 tw15501394010361749783 tw9489939349999510811 tw9366027548032488304 tw14072340736869819136 tw1447940028783053126 tw12656065434605068917 tw17959695263268351312 tw14283680626850881168 tw4262293969696501794 tw535757658129571534 tw7215961605807780543 tw16738215465993348602 tw14645884435971268877 tw8491047363460647955 tw13254611618277112290 tw5978175211971474562 tw14522373173408053612 tw15547414737587875076 tw15288889597923788166 tw11571796364050709825 tw2327752859514410210 tw15919560171175511136 tw15109198750240413837 tw10460587682271979223 tw2949855186514914917 tw10300367595050847720 tw18090313848468795177 tw11742884780587449595 tw1433488009809570702 tw17993392743982085937 tw13585155864912408786 tw3296108405533688598 tw15947551572548024789 tw15288748356367562693 tw7742027043766760084 tw16525340450800313478 tw15710750447928195503 tw16869252614087435631 tw8338900333816098188 tw17447566447648745617 tw6102124103391022091 tw10552655247495822893 tw421630992662099544 tw1258375431604135989 tw1341071266626250615 tw2899388196314616055 tw2366906496430883417 tw13181346643756567023 tw15225730642654575989 tw12046129213318358819 tw17983214935893185800 tw12600398904839659099 tw12570640679625956737 tw4572095201498087749 tw13314911214952506923 tw13473582279090192623 tw7416116767185681648 tw14746315858181157945 tw2019705356720798915 tw15859538702145510738 tw984495300447948859 tw3703013086131409388 tw13531607841851443301 tw6087618120149723201 tw14754218595004829867 tw7174961495910796500 tw3617122507750879240 tw6603080124348475885 tw3029281503421826654 tw13528139443352938271 tw11980503401336566403 tw5803893925722221591 tw16300033170422444770 tw1636111333543645562 tw17245311017404804756 tw3521700532016379317 tw6897346582073906039 tw13918413363946922186 tw9886236789267089090 tw1324045797736687794 tw7632078743819220224 tw9942158176187159400 tw15883606197292295566 tw10966879327539078521 tw469568303839875359 tw3402544802908448991 tw6990571345663361721 tw2956023368371895823 tw13128256664485585008 tw1765647272535513926 tw17887033185650552164 tw754471953144104823 tw16170372599524763019 tw6559333526649650776 tw5327812703024139182 tw9470174217738972557 tw10187663403298792803 tw6231875977058896156 tw7885484214545666828 tw3514808183097939789 tw13594163857174181364 tw1437721852418028532 tw4084747830550785201 tw1493623513961712457 tw10356629245691732990 tw17731838987574447252 tw907353107518885882 tw12737371853857715651 tw208693608579196231 tw2035508192249584944 tw4670133455944403083 tw311028121127871669 tw3365476004765745317 tw9818978794681971716 tw9948566240679372651 tw11094744896002101829 tw8983476046875578231 tw3630862792097016118 tw16517814940733506441 tw445144581760385527 tw18280367255933446502 tw8344862517982555868 tw5103618373459956444 tw10938009338418860221 tw2502205972140235036 tw17429895804269130314 tw5224607468194404200 tw13105303988225908098 tw15739100083872119591 tw2858568484892326238 tw9224849430183306653 tw3154044408150567083 tw325695119436537964 tw3012415282325029630 tw17190391896857196301 tw2446297894398914057 tw1374025354345258737 tw1161067324975982861 tw17526934358060507114 tw17952411065014970125 tw16701236589958892590 tw3206235417431751383 tw5305926819340079388 tw5871218610986875223 tw17508397146353491615 tw10230881047208918827 tw4410225564375523119 tw2039826724376750004 tw4131917669232617892 tw17408462722786430378 tw9011475457943062685 tw10361142185124245010 tw10028192980644889919 tw15488162765696961848 tw16234797826030963327 tw1081432031748667257 tw15227522368360340132 tw11074130504562294351 tw13911213838679244290 tw17258203584628917948 tw13467794121410371755 tw14461167803524071834 tw5929406797487835508 tw5684541581825978710 tw16487934064800822522 tw4169989841691963093 tw11550705227970743450 tw2712127834633706671 tw2218547817978784047 tw15088953750587052869 tw1221672562008056283 tw4889820559018321646 tw16519125492876963833 tw2820076571576098486 tw17494141542807894267 tw11972339992782030138 tw382973720076110557 tw12765035252475320072 tw5550629490511383706 tw6808761153198643454 tw14443255874189298586 tw8629769531178188712 tw10691495235501460401 tw5054781728203982175 tw5680900666418408098 tw4068669698332531083 tw6992962016452994075 tw16796121232831677758 tw16532292654321394577 tw1607060388896137577 tw6533096962978911355 tw12407819530554748013 tw17689445936253724223 tw9629015739574477462 tw8565659678020045352 tw11266123426342022839 tw14970898122786974490 tw1192130670452492867 tw15905973876683068437 tw4744499450626213230 tw16625688315162193830 tw7243924588799063890 tw10915325352646472701 tw2191871742762223574 tw1025474109800484279 tw12152345542263805736 tw4407227822030749683 tw8642500096744215048 tw4706865486185641418 tw16237959100566075835 tw10499183838837280120 tw12274733188952637525 tw6698386620071247200 tw2771307565354519850 tw14175693958036118500 tw7426248688220773081 tw16730315755101797605 tw10725383782377950669 tw5140441955701677370 tw16450387567947595243 tw13313500376628884071 tw2595166417101911899 tw2003176166642198803 tw18301066039739483900 tw16341212949564314986 tw15368672082220999113 tw14907981695614940070 tw13293773317185713210 tw1041702085770137687 tw3782251142483291051 tw2299617627265528071 tw17966534262980777704 tw3195471366897396775 tw1952784350877151414 tw17429655104638618378 tw17096288449542214587 tw16046805397522110006 tw14474286175217813106 tw351026018865979670 tw5743027616811803718 tw8812357578902567439 tw3685333321922134265 tw12352391306481360898 tw3162737001599898891 tw5239746317438368470 tw15636287783063143915 tw11223783471942473290 tw14079515864363579238 tw14731638463949001240 tw9065270991687490665 tw14584028331035981241 tw5375082956359054272 tw2067120243640147270 tw11315050584320425418 tw5656588196038382419 tw16664056207355723685 tw16225090043797307181 tw1302446233088530382 tw12234425821289384019 tw11983453831966268579 tw9860052257720311055 tw18083881689825028456 tw5062201123668078861 tw951981529226535722 tw10660472376155572816 tw17469911044889251086 tw6578595951689308132 tw828922011060324757 tw4618564584686558709 tw126471963272310797 tw4435323632204751880 tw7588002923913683787 tw14535167597389650916 tw11585228280590277122 tw4255878543947982004 tw18236394320877430050 tw17539436719183289384 tw16576792626639643522 tw10533332300956295409 tw1792726269512915586 tw864189451146210684 tw675458863041239319 tw692964173358670720 tw15370152178682886788 tw3578918090825669395 tw10454971595973044698 tw16375040832712027418 tw8944410222283317082 tw12806341718724187522 tw4567394258161133784 tw16401753928759210742 tw15891792978670298566 tw7574499628624489795 tw14941920888857136008 tw13847857362831721683 tw15770632683853040747 tw17826183517261068884 tw11018720080420293407 tw14161600370518805624 tw12880630019878060141 tw5278919861450803859 tw13203592562418096007 tw13510431135354762594 tw7771954844055510906 tw2131188440893357929 tw17060428617037593087 tw15453823388332701642 tw12388515799476154481 tw4280428459027459587 tw6652501219923901351 tw3121607856408173740 tw8818775791955028982 tw6714785151261474567 tw4632902320771881120 tw8204304216625078911 tw5658678994581551354 tw7408336919906711593 tw4623181889307886444 tw17377863733276533367 tw7799917437260878416 tw17999573298036189094 tw11886480566970807579 tw10622818682206908504 tw7315338780409953340 tw16064348237196849921 tw13137776956710883221 tw15759364445044751679 tw79478508583217397 tw6992528728629625335 tw17022773774988686593 tw14899700721262823937 tw14117306108211518889 tw10307341471259754125 tw101135826465165878 tw3409152081849329535 tw17095320483884437962 tw14514110774666230906 tw10467163263555583533 tw8291052836388540163 tw17941114761637686109 tw8602876972078979218 tw4975003962025153783 tw15417275960798086611 tw12702910841213011720 tw5198536242350371971 tw2268240947574850640 tw12635548331970042271 tw2866179421481596269 tw2832145835874774204 tw9634229546706032630 tw1480920985890224889 tw8362409407096641058 tw11756168702369001156 tw8864091066351274965 tw11143648133131342981 tw9780732191701471404 tw5342569072260722078 tw4527097370587261640 tw13579574742430775611 tw6921264778126768914 tw17549742387995437193 tw6129183695485891281 tw13042557790539497853 tw12096323314615205945 tw10811821133382883173 tw900646139259509442 tw5968370087346508569 tw3078527235939250788 tw15219449994538921368 tw16447696840071763695 tw10449082423925254675 tw17628421243329434625 tw16282710433133510916 tw16186208532690583732 tw15739658136397052823 tw8389453912753987460 tw8267905390011180353 tw820070997582247771 tw18332719721228525847 tw11452075456783305391 tw9809966246866477486 tw6418040044372465206 tw10735487404748722918 tw9791216565312416676 tw8593906993728586777 tw5903643699570527030 tw15515236118596893526 tw12307985977797005032 tw7802333217545239473 tw14136342288898370040 tw9847038631702068543 tw7986812494340639882 tw7086660316818157019 tw65831164104910235 tw5846291518236736393 tw14971577028526289253 tw10238929572894957893 tw2391790308627702667 tw13369350659390133892 tw325284869488188616 tw2175690493277287668 tw741579168120598600 tw3262414363546983772 tw7057146083652608203 tw6563904054900185413 tw17924941282450896924 tw16142783551224799521 tw15616206386782746805 tw15167236225084427069 tw10218793383373974704 tw7173048911487960045 tw5745752060823069227 tw17866999237157254253 tw7336682268723800964 tw6556183365718723696 tw6430223953244463530 tw2096581067441865309 tw13886486225419227214 tw13215979637161365108 tw8864758397062068062 tw7656130443641278108 tw7636104944901798752 tw7136992523331748170 tw17020222641260802131 tw10906102055938646888 tw9615966589925878485 tw5824723888916185406 tw17440278513456178405 tw12214126987516712675 tw1154862730931934209 tw212383553896016356 tw12511831837893814 tw2107131738880346380 tw2767545811038599110 tw11664169492802718037 tw11326048953551937190 tw7374367709137976141 tw13980400258297411203 tw2861659742723520854 tw14076892466491611679 tw8526509702972530430 tw8457857544734577491 tw641108013237559983 tw8755362270455430559 tw15451007288845817893 tw8148279963222985292 tw15876652107426980070 tw3521758661378705818 tw15715218876123395707 tw6227731211847015829 tw5725186252960731853 tw2510141175998551301 tw10511546857991439959 tw8614062767124440841 tw15774256386954820325 tw593428841845380810 tw5052058275565655740 tw17526918238152092166 tw17374072116661570047 tw11964170208030153193 tw11902777839964895977 tw4535062414172912922 tw8350011718397147993 tw16888043318152682132 tw8647272263651095421 tw5589256095558568169 tw4668833200540916382 tw3332773637538282821 tw10579862764955702621 tw8390922590743058238 tw1880227010560066535 tw9284706906849402328 tw6508519162260453426 tw4170689578541943624 tw3022576483912278793 tw17861946003342412183 tw15006156867002415139 tw16565410590835292922 tw14884481079704247692 tw1142363525798263523 tw6702898089448881769 tw575520472145616906 tw5394006253958918532 tw2903503364368891492 tw14609191090909127647 tw13993690839671999705 tw10058019057151921636 tw5532320617390794785 tw2308896310670029283 tw10499987777449495329 tw11931942775888319507 tw6285785034949799180 tw159391095956268017 tw9691623436605746999 tw9495844572341107996 tw5798781365040704087 tw17939142682851853880 tw7546888297171560190 tw1437167060295530924 tw6104841499524935348 tw18034190358708779393 tw9773168288215941074 tw1068425144246653799 tw327795914284936974 tw17577492846860143439 tw15368923134239539020 tw14647928372455702912 tw8573937976892175257 tw15300358972972744902 tw9343467050253037737 tw6843275210096172422 tw6817488810568992829 tw4523030781323814391 tw2289955338892349242 tw16196973568622303646 tw8292436129354060769 tw5846244003903558498 tw2342859306340517277 tw8935234125372790782 tw5981268827783175422 tw11211504945771520693 tw1835052576325736127 tw9785317617373798899 tw6125622014694013234 tw1547450166006450878 tw16050942029466090058 tw987386944418334458 tw2741734922794806297 tw13864363406641755942 tw10082982042113892531 tw4464224673613157173 tw14756585680961589026 tw8406417592090787908 tw15469700516875525244 tw2173998096611899235 tw847717984550203300 tw7465847057052573675 tw7065985178717984242 tw6148363081309031223 tw3384199297104335880 tw2904335290301096852 tw17534424455419199778 tw17232471453808488968 tw14716051302065537678 tw13388514784731461426 tw1321066166561462532 tw12992959632552282337 tw12517744041583424110 tw11566608410736351347 tw10980335783291710091 tw9833877931090900675 tw7131710731680652792 tw6593061658780778557 tw6216618439887997531 tw5171850838435703409 tw4896300871768581534 tw3438680750914527546 tw2575791779076222205 tw16819465516672000267 tw16731924714860684532 tw16266809498701357418 tw13885554400314579821 tw1172273972172190136 tw10773539429406895114 tw15925204647262623608 tw4079658528578396591 tw15830910875487702277 tw13761105924767166910 tw1762362871108530923 tw791095402855208646 tw368582901424197642 tw2039089079450306191 tw18105574635016790537 tw1367100957269175529 tw11105338209667909493 tw7520863252720889881 tw6193039476706409784 tw430561660129801602 tw2900672965735376872 tw14013311025302287595 tw7098705438267980873 tw476510696816257488 tw13600486253780802199 tw6613313323435141091 tw6244195849775352118 tw6165404665349409621 tw5087020268359234989 tw387387237982464177 tw2740504041125157778 tw17586704991628231632 tw16347602099687041765 tw15814519777039915096 tw15229576563672265258 tw14719057664754067499 tw14510548113501153933 tw14235742480185068177 tw10355320280195022418 tw17292807601180403036 tw13584346862693147117 tw12441432499873898147 tw6268745161484468117 tw5572728707272616822 tw6073247209094687916 tw6887551281282552912:True)
namespace _K
open PySem _L PyProof.Rows
end _K
section
open PySem PySem.W PyProof.Rows
theorem PySem.Challenge.PySem.W.holds_open{r:OpenRow}{q:PySem.Program}{loose:List PySem.Str}{Xt:PySem.Shared→Bool}{XP:(PySem.Str→Option PySem.Value)→PySem.Heap→Prop}{α:Type}{Yf:PySem.Shared→α}{Ya:PySem.World→α}{YP:PySem.World→PySem.Heap→Prop}{d:DefRec}{kwd:List (PySem.Str×PySem.Expr)}{N:Nat}(a:LeftO r.prog q loose Xt Yf Ya N)(b:∀w s,Yf s=Ya w→YP w s.heap)(c:∀w h h',YP w h→(∀b o,h.get? b=some o→h'.get? b=some o)→YP w h')(e:∀s,Xt s=true→XP (s.heap.nsMap mainGlobals) s.heap)(f:∀mg h h',XP mg h→(∀b o,h.get? b=some o→h'.get? b=some o)→XP mg h')(g:defOf q r.name=some (d,kwd))(i:r.prog.theDef r.name=some (d.params,d.body,d.scope))(j:kwWritten? d.params.kwonlyargs d.params.kw_defaults=some kwd)(k:∀s,Xt s=true→RecFacts r.records s.heap)(l:(!r.writes || r.records.isEmpty)=true)(m:_K.aeN∧r.wellSaid=true)(n:(chainsOk q && opensWell r.prog && (frees r.toRowW && r.within.isEmpty))=true)(o:r.prog.bare)(p:r.toRowW.promised)(u:_K.aeN→WalkO q loose XP YP r.toRowW d kwd λf v=>PySem.call f v):r.Holds:=_root_.PySem.W.holds_open a b c e f g i j k l m.2 n o p (u m.1)
set_option maxRecDepth 100000 in
set_option maxHeartbeats 0 in
theorem PySem.Challenge.t0(g : _K.aeN):PySem.Challenge.rw_turnleaf_k92_whole_still_list.Holds := by
 w_on;o_law;have gs:_K.aeN∧PySem.Challenge.rw_turnleaf_k92_whole_still_list.row.wellSaid=true:=⟨g,by assumption⟩;k_head;(case hw=>w_witness2)
 intro g;k_fill
 show _L.agL (l:=PySem.Challenge.rw_turnleaf_k92_whole_still_list) (n:=63) (k:=60) (x:="_law_script") (xn:="sorted_by") (ps:=_K.gR) (CX:=λw=>_L.bL PySem.Challenge.rw_turnleaf_k92_whole_still_list.prog w) (cc:=true) (sp:=λw=>_L.Dd _ "sorted_by" _K.gR) rfl (by decide) rfl #[λ_=>rfl,by decide,by decide] (λw h Y=>PySem.W.km_in_of Y) ?R ?B ?F (λ_ _ a ns i j m=>#[a,ns,rfl,j,i,m,λ_=>rfl]) (λ_ _ _ _ _ z=>_L.bL.never z)
 case R=>kernel_rfl
 case B=>intro w;kernel_rfl
 case F=>
  intro w mg D h c G e;let T:_K.Txt (_L.TX c) mg:=by
   clear g;dsimp only[_L.TX];constructor
   all_goals first|refine' _L.adt c G ..|refine' _L.YD c G ..|refine' _L.abm c G ..|refine' _L.ah4 c G ..|refine' _L.aa2 c G ..|refine' _L.agx c G ..|refine' _L.aka c G ..|refine' _L.ahb c G ..|refine' _L.t_k c G ..|refine' _L.acx c G ..|refine' _L.aam c G ..|refine' _L.agO c G ..|refine' _L.ZV c G ..|refine' _L.abg c G ..|refine' _L.adq c G ..|refine' _L.ai1 c G ..|refine' _L.aiI c G ..|refine' _L.ag2 (mg:=mg) (_L.fM c G ?_ (_L.fM c G ?_ (_L.fM c G ?_ (_L.fM c G ?_ (_L.fM c G ?_ (_L.fM c G ?_ (_L.fM c G ?_ (_L.fM c G ?_ (_L.fM c G ?_ (_L.fM c G ?_ (_L.fM c G ?_ (_L.fM c G ?_ _L.jE.nil)))))))))))) ?_
   any_goals try delta _L.bJ
   any_goals try delta _L.qu
   any_goals first|k_is|k_exc|kernel_rfl|decide
  let#[f,fd,F,o]:=T.aeq;let p:=e.symm.trans o;cases p;let#[oc,od,kV,q,pm,an,E,ct,v,rfl,lk,y]:=id F.ex;show#[_,λs u=>.of_eq rfl,λbase H I C=>g T C F]
end
namespace _K
open PySem _L PyProof.Rows _M _V _W
section
variable{P:ϯ}{w:ϭ}{K:ϩ}{mg:Str->Option ε}{base:ϫ}
theorem jV(T:Txt K mg):Def P w K mg base true 1 "_law_draw" ["_law_script","_law_k","_law_many"] (WY K):=by
 show Γ (S:=VB) T.jV (λ_ _ _ _ _ H vs Q E l h=>?_);intro X _;let#[a,ns,k,m,rfl,g,n,i,j,o,q]:=h;let n1:=T.bN;let nd:=VB.nd;let f:(ns.map V.int).length=ns.length:=aaz ..;w_up;cbv;rw[f];let fin:∀c:Int,c=yU ns k->Q (.int ((c % 1000003+31*k*k+1)*48271 % 999983*7919 % 524287 % m)) H:=λc e=>by rw[e];show q
 show Ζ (λh=>?_) (λh=>?_)
 .cbv;rw[f];cbv;show ϡ g (YJ 0 (ani _ ()) (ak9 _ ())) ?_;cbv;show fin _ (by unfold yU;rw[if_pos ()])
 .cbv;show fin _ (by unfold yU;rw[if_neg ()])
def ϑ(a:Str)(v:V):Prop:=v=.non\/(a="number"/\∃i,v=.int i/\ -1000000000000000000<=i/\i<=1000000000000000000)\/(¬a="number"/\∃z,v=.str z/\z.length<=20/\∀c∈z.cps.toList,c∈SG)
theorem ϑ.sc{a:Str}{v:V}(h:ϑ a v):scalar v=true:=by
 obtain rfl|⟨_,i,rfl,_⟩|⟨_,z,rfl,_⟩:=h<;>rfl
theorem ϑ.j5{a:Str}{v:V}(h:ϑ a v):j5 v=true/\∀z,v=.str z->gA 4000 z:=by
 obtain rfl|⟨_,i,rfl,_⟩|⟨_,z,rfl,c,hz⟩:=h
 .show#[rfl,λz e=>by cases e]
 .show#[rfl,λz e=>by cases e]
 .show#[rfl,λy e=>by cases e;show gA.sg () hz]
theorem mQ{α β:Type}{R:α->β->Prop}:∀{l:List α}{m:List β},m.length=l.length->(∀(i:Nat) b,m[i]?=some b->∃a,l[i]?=some a/\R a b)->ς R l m
 |[],[],_,_=>.nil
 |[],_::_,h,_=>by simp at h
 |_::_,[],h,_=>by simp at h
 |a::l,b::m,h,g=>by
  let#[a',e,r]:=g 0 b rfl;have:a=a':=by simpa using e
  subst this;show .cons r (mQ (by simpa using h) λi x e=>by simpa using g (i+1) x (by simpa using e))
theorem Ua:∀{cs:List ξ}{z:Str}{m:Nat}{c:ξ},m< Υ cs z->cs[m]?=some c->¬c.1=z
 |[],_,_,_,h,_=>by simp[Υ]at h
 |d::r,z,m,c,h,e=>by
  unfold Υ at h;split at h
  .omega
  .rename_i hd;cases m with
   |zero=>simp at e;subst e;show hd
   |succ m=>show Ua (cs:=r) (m:=m) () (by simpa using e)
theorem agU{cs:List ξ}{z:Str}(h:∃c∈cs,c.1=z):(cs.map Prod.fst)[Υ cs z]?=some z:=by
 let#[c,e1,a]:=Dr h;rw[abh,e1, <-a];rfl
theorem aeH{cs:List ξ}{z:Str}{m:Nat}{y:Str}(h:m< Υ cs z)(e:(cs.map Prod.fst)[m]?=some y):¬y=z:=by
 rw[abh]at e;cases e2:cs[m]? with
 |none=>rw[e2]at e;cases e
 |some c=>
  rw[e2]at e;let a:c.1=y:=by simpa using e
  rw[<-a];show Ua h e2
theorem ajO{cs:List ξ}(h:ώ cs=true):1<=cs.length/\cs.length<=6:=by
 unfold ώ at h;simp only[aaW,decide_eq_true_eq]at h;show h.1.1
def lQ(c:ε)(r:Option V)(H:Hp)(Q:VK)(E:XK):=∀H',ζ H H'->match r with
 |some v=>Q v H'
 |none=>False
inductive yf (c:ε) (vs:List V) (H:Hp) (Q:VK) (E:XK):Prop
 |mk (z):vs=[.str z]->z.length<=4000->lQ c (tE (gm z.cps.toList)) H Q E->yf c vs H Q E
inductive uZ (c:ε) (vs:List V) (H:Hp) (Q:VK) (E:XK):Prop
 |mk (z):vs=[.str z]->z.length<=4000->lQ c (vV (iD z)) H Q E->uZ c vs H Q E
inductive vp (c:ε) (vs:List V) (H:Hp) (Q:VK) (E:XK):Prop
 |mk (k) (z):vs=[.str k,.str z]->z.length<=4000->lQ c (dw k z) H Q E->vp c vs H Q E
inductive wQ (c:ε) (vs:List V) (H:Hp) (Q:VK) (E:XK):Prop
 |mk (a) (cs):vs=[.ref a]->ϝ H a cs->cs.length<=4000->Eg cs->(∀H',ζ H H'->if ώ cs=true then Q .non H' else False)->wQ c vs H Q E
inductive vH (c:ε) (vs:List V) (H:Hp) (Q:VK) (E:XK):Prop
 |mk (a) (cs) (z):vs=[.ref a,.str z]->ϝ H a cs->z.length<=4000->(∀H',ζ H H'->gP cs z=none->False)->(∀p o H',ζ H H'->gP cs z=some o->H' p=some (.tup [.str o.1,.bl o.2])->Q (.ref p) H')->vH c vs H Q E
inductive vX (c:ε) (vs:List V) (H:Hp) (Q:VK) (E:XK):Prop
 |mk (a) (cs) (z):vs=[.ref a,.str z]->ϝ H a cs->z.length<=4000->(∀H',ζ H H'->fB cs z=none->False)->(∀p os H',ζ H H'->fB cs z=some os->H p=none->bu H' p os->Q (.ref p) H')->vX c vs H Q E
inductive S9 (K:ϩ) (mg:Str->Option ε) (vs:List V) (H:Hp) (Q:VK) (E:XK):Prop
 |mk (a:δ) (ws:List Str) (p:Nat):vs=[.ref a,.int p]->η K H a (ws.map V.str)->ws.length<=4000->p<=100000->(¬(p<ws.length/\p<60)->False)->(∀z,ws[p]?=some z->p<60->Q (.str z) H)->S9 K mg vs H Q E
theorem nZ(T:Txt K mg):Def P w K mg base true 3 "word_at" ["words","place"] (S9 K mg):=by
 show Γ (N:=["words","place"]) T.nZ (λ_ _ _ _ _ H vs Q E j h=>?_);intro X _;let#[a,ws,p,rfl,g,l,m,c,q]:=h;let n1:=T.bN;let n:=T.aea;let i:(ws.map V.str).length=ws.length:=aaz ..;w_up;cbv;rw[i];show Ζ (λh=>?_) (λh=>?_)
 .show(c ()).elim
 .cbv;show Ζ (λh2=>?_) (λh2=>?_)
  .show(c ()).elim
  .cbv;let e:p<ws.length:=()
   let f:ws[p]?=some ws[p]:=aab e;show ϡ g (aY (by rw[abh,f];rfl)) ?_;show q _ f ()
def bW(ws:List Str)(s b:Nat):Str:=ae5 " " ((ws.drop s).take (b-s))
inductive TF (K:ϩ) (vs:List V) (H:Hp) (Q:VK) (E:XK):Prop
 |mk (a:δ) (ws:List Str) (s b:Nat):vs=[.ref a,.int s,.int b]->η K H a (ws.map V.str)->ws.length<=4000->(∀z∈ws,z.length<=1000)->s<=b->b<=ws.length->(∀H',ζ H H'->Q (.str (bW ws s b)) H')->TF K vs H Q E
theorem XR:∀{l:List Str},(∀z∈l,z.length<=1000)->(l.map (·.length)).sum<=l.length*1000
 |[],_=>by simp
 |z::l,h=>by
  let h1:=XR (l:=l) λy a=>h y (by simp[a])
  let h2:=h z (by simp);simp only[adF,anZ,acS];omega
theorem oU(T:Txt K mg):Def P w K mg base true 1 "text_between" ["words","start","behind"] (TF K):=by
 show Γ (N:=["words","start","behind"]) T.oU (λ_ _ _ _ _ H vs Q E s h=>?_);intro X _;let#[a,ws,i,j,rfl,f,u,hz,g,v,q]:=h;let m:(" ":Str).length=1:=by fin2
 let hsz:=ϱ;f_len;show ω ?_;cbv;show kZ f λp n=>?_
 let e:bH (ws.map V.str) (some (i:Int)) (some (j:Int))=((ws.drop i).take (j-i)).map V.str:=by
  unfold bH;let c:(ws.map V.str).length=ws.length:=aaz ..;let e1:_H.Α (ws.map V.str).length 0 (some (i:Int))=i:=by
   rw[c];unfold _H.Α;split
   .rename_i h;cases h
   .rename_i h;cases h;rw[if_neg ()];omega
  let o:_H.Α (ws.map V.str).length (ws.map V.str).length (some (j:Int))=j:=by
   rw[c];unfold _H.Α;split
   .rename_i h;cases h
   .rename_i h;cases h;rw[if_neg ()];omega
  rw[e1,o, <-List.map_drop, <-List.map_take]
 rw[e];let#[sm,ep]:=ϋ n (.lst (((ws.drop i).take (j-i)).map V.str));generalize upd H p (.lst (((ws.drop i).take (j-i)).map V.str))=H2 at sm ep⊢;cbv;show sJ (η.of ep) ?_ (q H2 sm);let h1:=XR (l:=(ws.drop i).take (j-i)) λz h=>hz z (af0 (ahq h))
 let h2:((ws.drop i).take (j-i)).length<=4000:=by
  rw[ahH,adH];omega
 rw[m];omega
theorem afX{cs:List ξ}{z:Str}:∀{i:Nat}{c:ξ}(j:Nat),cs[i]?=some c->(∀k c,k<i->cs[k]?=some c->¬c.1=z)->c.1=z->fH cs z j=.int ((j+i:Nat):Int):=by
 induction cs with
 |nil=>intro i c j e;simp at e
 |cons d r a=>
  intro i c j e h hz;unfold fH;cases i with
  |zero=>
   simp at e;subst e;rw[if_pos hz];rfl
  |succ i=>
   rw[if_neg (h 0 d () rfl)];rw[a (j+1) (by simpa using e) (λk c g f=>h (k+1) c () (by simpa using f)) hz]
   congr 2
   omega
theorem aki{cs:List ξ}{z:Str}:∀(j:Nat),(∀c∈cs,¬c.1=z)->fH cs z j=.non:=by
 induction cs with
 |nil=>intro j h;rfl
 |cons d r a=>
  intro j h;unfold fH;rw[if_neg (h d (by simp)),a (j+1) λc e=>h c (by simp[e])]
theorem nA(T:Txt K mg):Def P w K mg base true 1 "place_of" ["columns","name"] S7:=by
 show Γ (S:=Vp) T.nA (λ_ _ _ _ _ H vs Q E F h=>?_);intro X _;let#[a,cs,z,rfl,#[vs,v,f],q]:=h;let n1:=T.aeZ;let nd:=Vp.nd;w_up;show agY (by walk_at"po") (by rfl) (by rfl) n1 (by rfl) ?_;cbv;show#[a,vs,rfl,v,λi σ H'=>(∃p s,σ=[some (.ref a),some (.str z),p,s])/\ζ H H'/\∀k c,k<i->cs[k]?=some c->¬c.1=z,#[#[none,none,rfl],ζ.refl _,λk c j=>()],λi σ H' hi g=>.inl (.inl (g.2.1 _ _ v)),λi x u σ H' B g C=>?_,λσ H' g=>?_]
 .let#[#[p,s,rfl],sm,l]:=g;let#[c,m,t,rfl,D]:=f.get B;let n :=sm.trans (ζ.upd (o:=.tup [.int i,.ref t]) C);let y:(upd H' u (.tup [.int i,.ref t])) u=some (.tup [.int i,.ref t]):=υ;generalize upd H' u (.tup [.int i,.ref t])=H2 at n y⊢;show aj (ρ.of y) (Θ (Β nd (by rfl) (.inl rfl) (.inl rfl) (Θ (Β nd (by rfl) (.inl rfl) (.inl rfl) (az ?_)))));f_len;cbv;show Χ (ρ.of (n _ _ D)) (show Ω [V.str c.1,V.str c.2] 0=some (V.str c.1)from rfl) ?_;cbv;show Ζ (λh=>?_) (λh=>?_)
  .let hz:c.1=z:=by injection h
   cbv;have:=afX 0 m l hz;rw[anS]at this;rw[<-this];show q H2 n
  .let hz:¬c.1=z:=λe=>h (by rw[e])
   cbv;show#[#[_,_,rfl],n,λk d j hd=>?_];by_cases e:k=i
   .subst e;rw[m]at hd;cases hd;show hz
   .show l k d () hd
 .let#[#[p,s,rfl],sm,l]:=g;f_len;cbv;have:=aki (cs:=cs) (z:=z) 0 λc m=>by
   let#[k,j,e]:=aor m;show l k c (by rw[f.len];show j) (by rw[<-e];show aab j)
  rw[<-this];show q H' sm
def fj(cs:List ξ)(ws:List Str)(p:Nat):Option Nat:=if p<60 then match ws[p]? with
 |none=>none
 |some z=>if cs.any (λc=>decide (c.1=z))=true then some (Υ cs z)else none
 else none
inductive U9 (K:ϩ) (mg:Str->Option ε) (vs:List V) (H:Hp) (Q:VK) (E:XK):Prop
 |mk (b:δ) (cs:List ξ) (a:δ) (ws:List Str) (p:Nat):vs=[.ref b,.ref a,.int p]->ϝ H b cs->η K H a (ws.map V.str)->ws.length<=4000->p<=100000->(fj cs ws p=none->False)->(∀i H',ζ H H'->fj cs ws p=some i->Q (.int (i:Nat)) H')->U9 K mg vs H Q E
theorem uO(T:Txt K mg):Def P w K mg base true 4 "read_column" ["columns","words","place"] (U9 K mg):=by
 show Γ (S:=Qm) T.uO (λ_ _ _ _ _ H vs Q E s h=>?_);intro X _;let#[b,cs,a,ws,p,rfl,l,m,n,o,f,q]:=h;let nd:=Qm.nd;let u:= @nA P w K mg base T;let v:= @nZ P w K mg base T;w_up;cbv;show#[a,ws,p,rfl,m,n,o,λx=>f ?_,λz hz g=>?_]
 .unfold fj;by_cases g:p<60
  .rw[if_pos g,aof ()]
  .rw[if_neg g]
 .cbv;show#[b,cs,z,rfl,l,λH2 sm=>?_];by_cases i:∃c∈cs,c.1=z
  .let e:fj cs ws p=some (Υ cs z):=by
    unfold fj;rw[if_pos g,hz];show if_pos (by rw[anN];let#[c,j,e]:=i;show#[c,j,decide_eq_true e])
   rw[qP 0 i,anS];cbv;show q _ H2 sm e
  .let e:fj cs ws p=none:=by
    unfold fj;rw[if_pos g,hz];show if_neg (by rw[anN];rintro⟨c,j,e⟩;show i #[c,j,of_decide_eq_true e])
   show(f e).elim
theorem xU(T:Txt K mg):Def P w K mg base true 1 "value_before" ["one","other"] We:=by
 show Γ (N:=["one","other"]) T.xU (λ_ _ _ _ _ H vs Q E a h=>?_);intro X _;let#[x,y,rfl,hs,q]:=h;w_up;cbv;show Ζ (λh=>?_) (λh=>?_)
 .subst h;cbv;let e:before x .non=false:=by cases x<;>rfl
  rw[e]at q;show q
 .cbv;show Ζ (λh2=>?_) (λh2=>?_)
  .subst h2;cbv;let e:before .non y=true:=by cases y<;>first|rfl|show absurd rfl h
   rw[e]at q;show q
  .obtain e|e|⟨i,j,rfl,rfl⟩|⟨i,j,rfl,rfl⟩:=hs
   .show absurd e h2
   .show absurd e h
   .cbv;show q
   .cbv;show q
inductive mY (K:ϩ) (vs:List V) (H:Hp) (Q:VK) (E:XK):Prop
 |mk (a C dx:δ) (fs:List (Str×V)) (z:Str):vs=[.ref a,.str z]->H a=some (.ins C dx fs)->ϗ K C->Φ K C "text"->fs.length<900->Q .non (upd H a (.ins C dx (ϛ "text" (.str z) fs)))->mY K vs H Q E
theorem qR{cc:Bool}:FD P w K mg base cc 1 "__init__" "Sieve.__init__" Ar ["self","text"] (mY K):=by
 show aN (N:=["self","text"]) (λ_ _ _ _ _ H vs Q E g h=>?_);intro X _;let#[a,C,dx,fs,z,rfl,c,e,f,i,q]:=h;f_len;show dj ?_;f_are;f_are;show#[a,C,dx,fs,rfl,c,e,f,(),q]
inductive CG (K:ϩ) (vs:List V) (H:Hp) (Q:VK) (E:XK):Prop
 |mk (a C dx:δ) (fs:List (Str×V)) (z:Str) (p:V):vs=[.ref a,.str z,p]->H a=some (.ins C dx fs)->ϗ K C->Φ K C "text"->Φ K C "place"->fs.length<800->Q .non (upd (upd H a (.ins C dx (ϛ "text" (.str z) fs))) a (.ins C dx (ϛ "place" p (ϛ "text" (.str z) fs))))->CG K vs H Q E
theorem acd(T:Txt K mg){cc:Bool}:FD P w K mg base cc 2 "__init__" "NoneSieve.__init__" JG ["self","text","place"] (CG K):=by
 show aN (N:=["self","text","place"]) (λ_ _ _ _ _ H vs Q E f h=>?_);intro X _;let#[a,C,dx,fs,z,p,rfl,g,e,i,c,j,q]:=h;let B:nW P w K mg base cc 1 "Sieve" "__init__" ["self","text"] (mY K):=qR.asked T.yX T.yt;let hz:=jK "text" (V.str z) fs;w_up;show aM ?_;show vW (pl:=_) B f id ύ ?_;cbv;show#[a,C,dx,fs,z,rfl,g,e,i,(),?_];f_len;show dj ?_;f_are;f_are;show#[a,C,dx,_,rfl,υ,e,c,(),q]
inductive rK (K:ϩ) (vs:List V) (H:Hp) (Q:VK) (E:XK):Prop
 |mk (a C dx:δ) (fs:List (Str×V)) (z:Str) (p v:V):vs=[.ref a,.str z,p,v]->H a=some (.ins C dx fs)->ϗ K C->Φ K C "text"->Φ K C "place"->Φ K C "value"->fs.length<800->(∀H',H' a=some (.ins C dx (ϛ "value" v (ϛ "place" p (ϛ "text" (.str z) fs))))->(∀b o,b≠a->H b=some o->H' b=some o)->Q .non H')->rK K vs H Q E
theorem El(T:Txt K mg){cc:Bool}:FD P w K mg base cc 2 "__init__" "ValueSieve.__init__" wg ["self","text","place","value"] (rK K):=by
 show aN (N:=["self","text","place","value"]) (λ_ _ _ _ _ H vs Q E i h=>?_);intro X _;let#[a,C,dx,fs,z,p,v,rfl,j,c,l,f,m,s,q]:=h;let B:nW P w K mg base cc 1 "Sieve" "__init__" ["self","text"] (mY K):=qR.asked T.yX T.yt;let hz:=jK "text" (V.str z) fs;let n:=jK "place" p (ϛ "text" (V.str z) fs);w_up;show aM ?_;show vW (pl:=_) B i id ύ ?_;cbv;show#[a,C,dx,fs,z,rfl,j,c,l,(),?_];w_up;show dj ?_;f_are;f_are;show#[a,C,dx,_,rfl,υ,c,f,(),?_];f_len;show dj ?_;f_are;f_are;show#[a,C,dx,_,rfl,υ,c,m,(),q _ υ λb o g e=>?_];rw[ο g,ο g,ο g];show e
inductive Lk|is|over|holds
def yW:Lk->V->V->Bool
 |.is,x,v=>decide (x=v)
 |.over,x,v=>before v x
 |.holds,.str x,.str v=> !(Builtin.Str.occurrences x v 0 x.length 1).isEmpty
 |.holds,_,_=>false
abbrev F3(z:Str)(p:Nat)(v:V):List (Str×V):=[("text",.str z),("place",.int p),("value",v)]
def Bp:Lk->V->V->Prop
 |.holds,x,v=>∃y z,x=.str y/\v=.str z
 |_,x,v=>scalar x=true/\scalar v=true/\aH x v
inductive qJ (l:Lk) (C:δ) (vs:List V) (H:Hp) (Q:VK) (E:XK):Prop
 |mk (a dx:δ) (z:Str) (p:Nat) (x v:V):vs=[.ref a,x]->H a=some (.ins C dx (F3 z p v))->Bp l x v->Q (.bl (yW l x v)) H->qJ l C vs H Q E
theorem ahP{cc:Bool}{C:δ}(c:ϗ K C)(n:Φ K C "value"):FD P w K mg base cc 2 "fits" "ValueSieve.fits" Mg ["self","value"] (qJ .is C):=by
 show aN (N:=["self","value"]) (λ_ _ _ _ _ H vs Q E i h=>?_);intro X _;let#[a,dx,z,p,x,v,rfl,e,#[f,g,j],q]:=h;f_len;show ω ?_;f_are;f_are;show Ϥ ?_;f_are;show#[a,C,dx,_,v,rfl,e,c,n,rfl,?_];show Dv (vG f g) ?_;show q
theorem aa5{x y:V}(h:aH x y):aH y x:=by
 obtain h|h|⟨i,j,a,b⟩|⟨i,j,a,b⟩:=h
 .show .inr (.inl h)
 .show .inl h
 .show .inr (.inr (.inl #[j,i,b,a]))
 .show .inr (.inr (.inr #[j,i,b,a]))
theorem acJ(T:Txt K mg){C:δ}(c:ϗ K C)(n:Φ K C "value"):FD P w K mg base true 2 "fits" "OverSieve.fits" Wy ["self","value"] (qJ .over C):=by
 show aN (N:=["self","value"]) (λ_ _ _ _ _ H vs Q E g h=>?_);intro X _;let#[a,dx,z,p,x,v,rfl,e,#[i,j,f],q]:=h;let l:= @xU P w K mg base T;f_len;show ω ?_;cbv;show Ϥ ?_;f_are;show#[a,C,dx,_,v,rfl,e,c,n,rfl,?_];cbv;show#[v,x,rfl,aa5 f,q]
theorem aaX{cc:Bool}{C:δ}(c:ϗ K C)(n:Φ K C "value"):FD P w K mg base cc 2 "fits" "HoldsSieve.fits" Ob ["self","value"] (qJ .holds C):=by
 show aN (N:=["self","value"]) (λ_ _ _ _ _ H vs Q E f h=>?_);intro X _;let#[a,dx,z,p,x,v,rfl,e,#[y,u,rfl,rfl],q]:=h;f_len;show ω ?_;f_are;show Ϥ ?_;f_are;show#[a,C,dx,_,_,rfl,e,c,n,rfl,?_];cbv;show q
inductive Ft (K:ϩ) (l:Lk) (C:δ) (vs:List V) (H:Hp) (Q:VK) (E:XK):Prop
 |mk (a dx:δ) (z:Str) (p:Nat) (v:V) (b:δ) (xs:List V) (x:V):vs=[.ref a,.ref b]->H a=some (.ins C dx (F3 z p v))->η K H b xs->xs[p]?=some x->(x=.non\/Bp l x v)->Q (.bl (!decide (x=.non)&&yW l x v)) H->Ft K l C vs H Q E
theorem Ho{l:Lk}{C:δ}(M:Ϟ P w K mg base true 2 C "fits" ["self","value"] (qJ l C))(n:Φ K C "place"):FD P w K mg base true 3 "lets" "ValueSieve.lets" qT ["self","values"] (Ft K l C):=by
 show aN (S:=WM) (λ_ _ _ _ _ H vs Q E f h=>?_);intro X _;let#[a,dx,z,p,v,b,xs,x,rfl,c,g,i,j,q]:=h;let nd:=WM.nd;w_up;cbv;show Ϥ ?_;f_are;show#[a,C,dx,_,_,rfl,c,M.cls,n,rfl,?_];show ϡ g (aY i) ?_;cbv;show iu (λh=>?_) (λh=>?_)
 .let e:¬x=.non:=by simpa using h
  show Qs ?_;show bZ (pl:=_) f ύ (h:=?_);f_are;show#[a,C,dx,_,_,_,_,_,rfl,c,rfl,M,by decide,λ_=>rfl,?_];cbv;show#[a,dx,z,p,x,v,rfl,c,j.resolve_left e,?_];rw[h,al4]at q;show q
 .rw[h]at q;show q
theorem rZ(T:Txt K mg):Def P w K mg base true 1 "made_of" ["text","signs"] J1:=by
 show Γ (N:=["text","signs"]) T.rZ (λ_ _ _ _ _ H vs Q E n h=>?_);intro X _;let#[z,g,rfl,hz,q]:=h;let n1:=T.Iu;f_len;show ω ?_;f_are;f_are;show ad4 ["sign","signs"] (σ':=[none,some (.str g)]) (by rfl) (by rfl) (cz (ψ Lj)) (by fin2) (by rfl) (by rfl) (by intro _;rfl) ?_;f_are;show#[z,rfl,?_,λi v=>∃c,z.cps.toList[i]?=some c/\v=.bl (decide (c∈g.cps.toList)),λfp E' C o H0 i c H2 e sm=>?_,λE' H2 xs p f j l sm=>?_]
 .have :z.cps.size=z.length:=rfl;let h2:ϰ=16777216:=ϱ;omega
 .cbv;show#[#[c,e,by rw[StrLaws.found_one]],ζ.refl _]
 .let ex:=jx (ys:=z.cps.toList) (λc=>V.bl (decide (c∈g.cps.toList))) (by rw[f];simp) j;let a:xs=(z.cps.toList.map λc=>decide (c∈g.cps.toList)).map V.bl:=by rw[ex,agr];rfl
  subst a;cbv;show Ml (by rfl) (η.of l) ?_;let m:(z.cps.toList.map λc=>decide (c∈g.cps.toList)).all id=dM z g:=by rw[apC];rfl
  rw[m];show q _ sm
theorem vP(T:Txt K mg):Def P w K mg base true 2 "is_text_value" ["value"] WQ:=by
 show Γ (N:=["value"]) T.vP (λ_ _ _ _ _ H vs Q E c h=>?_);intro X _;let#[v,rfl,hs,hz,q]:=h;let f:=T.Zk;let g:=T.akk;let n1:=T.vC;let n2:=T.oH;let j:=T.bN;let l:= @rZ P w K mg base T;let hsz:=ϱ;f_len;show ω ?_;cases v with
 |int i=>
  cbv;show q H (ζ.refl _)
 |non=>
  cbv;show q H (ζ.refl _)
 |str z=>
  let a:z.length<=4000:=hz;cbv;show Ζ (λh=>?_) (λh=>?_)
  .cbv;show#[z,_,rfl,a,λH' sm=>?_];let e:gM (.str z)=dM z tY:=by
    let h':z.length<=20:=()
    unfold gM;simp[h']
   rw[e]at q;show q H' sm
  .let e:gM (.str z)=false:=by
    let h':¬z.length<=20:=()
    unfold gM;simp[h']
   rw[e]at q;show q H (ζ.refl _)
 |_=>cases hs
theorem Eh(T:Txt K mg):Def P w K mg base true 2 "are_figures" ["word"] Xq:=by
 show Γ (N:=["word"]) T.Eh (λ_ _ _ _ _ H vs Q E o h=>?_);intro X _;let#[z,rfl,hz,q]:=h;let p:=T.aiL;let s:= @rZ P w K mg base T;let hsz:=ϱ;let i:("0":Str).cps.toList=[48]:=by fin2
 let e1:("":Str).cps.toList=[]:=by fin2
 unfold cZ at q;f_len;show ω ?_;cbv;show Ζ (λh=>?_) (λh=>?_)
 .let h':z.cps.toList=[48]:=by cases h;show i
  rw[h']at q;show q H (ζ.refl _)
 .let h':¬z.cps.toList=[48]:=λh2=>h (by rw[fK (h2.trans i.symm)])
  rw[decide_eq_false h',aoS]at q;cbv;show dJ (λh2=>?_) (λh2=>?_)
  .let a:z.cps.toList≠[]:=λe=>h2 (by rw[fK (e.trans e1.symm)])
   rw[decide_eq_true a,al4]at q;let#[c,r,n]:=aow a;let g:z.cps.toList[0]?=some c:=by rw[n];rfl
   cbv;show xu () (aY (j:=0) g) ?_;cbv;rw[g]at q;show dJ (λe=>?_) (λe=>?_)
   .let f:some c≠some 48:=λl=>e (by cases l;show congrArg V.str (fK i.symm))
    rw[decide_eq_true f,al4]at q;cbv;show#[z,_,rfl,hz,λH' sm=>?_];rw[aj2];show q H' sm
   .let f:¬(some c≠some 48):=λl=>l (by
     have:=congrArg (λv:V=>match v with|.str x=>x.cps.toList|_=>[]) e;let m:[c]=("0":Str).cps.toList:=this;rw[i]at m;cases m;rfl)
    rw[decide_eq_false f,anG]at q;show q H (ζ.refl _)
  .let a:¬z.cps.toList≠[]:=λe=>e (by cases h2;show e1)
   rw[decide_eq_false a,anG]at q;show q H (ζ.refl _)
theorem yj(T:Txt K mg):Def P w K mg base true 3 "read_figures" ["word","most"] RZ:=by
 show Γ (S:=O3) T.yj (λ_ _ _ _ _ H vs Q E l h=>?_);intro X _;let#[z,m,k,rfl,hz,n,g,i,c,k1,k2,q]:=h;let n1:=T.bN;let n2:=T.oH;let p:=T.JT;let nd:=O3.nd;let s:= @Eh P w K mg base T;let hsz:=ϱ;let u:=_L.len_list z;let out:∀(H1:Hp)(o:Option V),ζ H H1->fD z.cps.toList m=none->Ρ X ((aA zT).drop 1) {nx:=λ_ H'=>Q .non H',rt:=Q} [some (.str z),some (.int m),o] H1:=by
  intro H1 o sm e;let q1:=q H1 sm;rw[e]at q1;f_len;cbv;show q1
 w_up;cbv;show#[z,rfl,hz,λH1 a =>?_];cbv;show iu (λh1=>?_) (λh1=>?_)
 .cbv;show uv (nq g) ?_;cbv;rw[i];show Ζ (λh2=>?_) (λh2=>?_)
  .cbv;let#[hd,j]:=IW h1;show Zj (intText_digits hd j ()) () ?_;cbv;show Ζ (λf=>?_) (λf=>?_)
   .let q1:=q H1 a;let e:fD z.cps.toList m=some _:=if_pos #[h1,f];rw[e]at q1;cbv;show q1
   .show Ε (out H1 _ a (if_neg λx=>f x.2))
  .show Ε (out H1 _ a (if_neg λx=>h2 ?_));have:=HF x.1 x.2 c k1;omega
 .show Ε (out H1 _ a (if_neg λx=>by rw[h1]at x;show aaA x.1))
theorem Fg(T:Txt K mg):Def P w K mg base true 4 "read_number_word" ["word"] (yf (.ref (θ mg "NoValue"))):=by
 show Γ (S:=NZ) T.Fg (λ_ _ _ _ _ H vs Q E s h=>?_);intro X _;let#[z,rfl,hz,q]:=h;let u:=T.aez;let v:=T.Vh;let nd:=NZ.nd;let x:= @yj P w K mg base T;let hsz:=ϱ;let l:(Ϫ (toString (1000000000000000000:Int))).length=19:=by fin2
 let f:gm z.cps.toList=none->False:=λn=>by
  let c:=q H (ζ.refl _);rw[n]at c;show c
 w_up;cbv;show JD ?_;rw[show Txt.startswith z "-"=decide (z.cps.toList[0]?=some 45)from VR z 45];generalize m:decide (z.cps.toList[0]?=some 45)=o;cbv;cases o with
 |true=>
  let g:=of_decide_eq_true m;cbv;show mU ?_;cbv;let p:=Dc z (some 1) none;show#[_,_,19,rfl,(),by decide,by decide,l,by decide,by decide,by decide,λH1 j =>?_];rw[show(ϐ z (some 1) none).cps.toList=z.cps.toList.drop 1 from ym z 1];let a:=aba g;cases e:fD (z.cps.toList.drop 1) 1000000000000000000 with
  |none=>
   rw[e]at a;show(f a).elim
  |some i=>
   rw[e]at a;dsimp only at a;simp only[zK];cbv;show Ζ (λh1=>?_) (λh1=>?_)
   .let h2:i=0:=by injection h1
    rw[if_pos h2]at a;show(f a).elim
   .let h2:¬i=0:=λe=>h1 (by rw[e])
    rw[if_neg h2]at a;let c:=q H1 j;rw[a]at c;show Ε ?_;cbv;show c
 |false=>
  let g:=of_decide_eq_false m;cbv;show#[_,_,19,rfl,(),by decide,by decide,l,by decide,by decide,by decide,λH1 j =>?_];let a:=Wb g;cases e:fD z.cps.toList 1000000000000000000 with
  |none=>
   rw[e]at a;show(f a).elim
  |some i=>
   rw[e]at a;simp only[zK];let c:=q H1 j;rw[a]at c;cbv;show c
theorem zL(T:Txt K mg):Def P w K mg base true 3 "read_text_word" ["word"] (uZ (.ref (θ mg "NoValue"))):=by
 show Γ (S:=VP) T.zL (λ_ _ _ _ _ H vs Q E j h=>?_);intro X _;let#[z,rfl,hz,q]:=h;let l:=T.QV;let nd:=VP.nd;let m:= @vP P w K mg base T;let hsz:=ϱ;let e1:Ϫ "'"=#[#v[39]]:=by fin2
 let n:=Dc z (some 1) none;let e:iD z=none->False:=λf=>by
  let a:=q H (ζ.refl _);rw[f]at a;show a
 w_up;cbv;show JD ?_;cbv;rw[e1,VR];show Ζ (λh1=>?_) (λh1=>?_)
 .cbv;show mU ?_;cbv;show#[_,rfl,rfl,(show(ϐ z (some 1) none).length<=4000 by omega),λH1 g =>?_];cbv;show iu (λh2=>?_) (λh2=>?_)
  .cbv;show mU ?_;let a:=q H1 g;let i:iD z=some (ϐ z (some 1) none):=by
    unfold iD;rw[if_pos #[h1,h2]]
   rw[i]at a;show a
  .show(e ?_).elim;unfold iD;rw[if_neg λc=>by rw[h2]at c;show aaA c.2]
 .show(e ?_).elim;unfold iD;rw[if_neg λc=>h1 c.1]
theorem xH(T:Txt K mg):Def P w K mg base true 5 "read_value" ["kind","word"] (vp (.ref (θ mg "NoValue"))):=by
 show Γ (N:=["kind","word"]) T.xH (λ_ _ _ _ _ H vs Q E i h=>?_);intro X _;let#[k,z,rfl,hz,q]:=h;let j:=T.Vw;let l:=T.Hk;let m:= @Fg P w K mg base T;let n:= @zL P w K mg base T;w_up;cbv;show Ζ (λh1=>?_) (λh1=>?_)
 .let h2:z="?":=by cases h1;rfl
  let g:=q H (ζ.refl _);let a:dw k z=some .non:=by unfold dw;rw[if_pos h2]
  rw[a]at g;cbv;show g
 .let h2:¬z="?":=λe=>h1 (by rw[e])
  let a:dw k z=if k="number" then tE (gm z.cps.toList)else vV (iD z):=by unfold dw;rw[if_neg h2]
  rw[a]at q;cbv;show Ζ (λc=>?_) (λc=>?_)
  .let f:k="number":=by cases c;rfl
   rw[if_pos f]at q;cbv;show#[z,rfl,hz,q]
  .let f:¬k="number":=λe=>c (by rw[e])
   rw[if_neg f]at q;cbv;show#[z,rfl,hz,q]
inductive RP (K:ϩ) (vs:List V) (H:Hp) (Q:VK) (E:XK):Prop
 |mk (kd:Str) (a:δ) (ws:List Str) (p:Nat) (z:Str) (v:V):vs=[.str kd,.ref a,.int p]->η K H a (ws.map V.str)->ws.length<=4000->ws[p]?=some z->p<60->z.length<=4000->dw kd z=some v->¬v=.non->(∀H',ζ H H'->Q v H')->RP K vs H Q E
theorem Hb(T:Txt K mg):Def P w K mg base true 6 "read_word" ["kind","words","place"] (RP K):=by
 show Γ (S:=Sv) T.Hb (λ_ _ _ _ _ H vs Q E x h=>?_);intro X _;let#[g,a,ws,p,z,v,rfl,i,j,hz,l,m,n,o,q]:=h;let nd:=Sv.nd;let y:= @nZ P w K mg base T;let B:= @xH P w K mg base T;let f:=(aap.mp hz).1;w_up;cbv;show#[a,ws,p,rfl,i,j,(),λs=>absurd #[f,l] s,λz' e _=>?_];rw[hz]at e;cases e;w_up;show Az (λ_ _ _ _=>False) rfl rfl (λF pn xo po=>?_) (λσ c d H' u=>u.elim);f_len;cbv;show#[g,z,rfl,m,λH' sm=>?_];rw[n];show Ε ?_;w_up;cbv;rw[decide_eq_false o];cbv;show q H' sm
inductive cV|all|none (p:Nat)|look (l:Lk) (p:Nat) (v:V)
def zg(mg:Str->Option ε):Lk->δ
 |.is=>θ mg "IsSieve"
 |.over=>θ mg "OverSieve"
 |.holds=>θ mg "HoldsSieve"
def oJ(mg:Str->Option ε)(H:Hp)(a:δ):cV->Str->Prop
 |.all,z=>∃dx,H a=some (.ins (θ mg "AllSieve") dx [("text",.str z)])
 |.none p,z=>∃dx,H a=some (.ins (θ mg "NoneSieve") dx [("text",.str z),("place",.int p)])
 |.look l p v,z=>∃dx,H a=some (.ins (zg mg l) dx (F3 z p v))
theorem oJ.same{mg:Str->Option ε}{H H':Hp}{a:δ}{s:cV}{z:Str}(h:oJ mg H a s z)(e:ζ H H'):oJ mg H' a s z:=by
 cases s<;>let#[dx,h]:=h<;>show#[dx,e _ _ h]
def By(mg:Str->Option ε)(H:Hp)(p:δ)(s:cV)(z:Str)(n:Nat):=∃t,H p=some (.tup [.ref t,.int n])/\oJ mg H t s z
inductive Ju (K:ϩ) (mg:Str->Option ε) (vs:List V) (H:Hp) (Q:VK) (E:XK):Prop
 |mk (b:δ) (cs:List ξ) (a:δ) (ws:List Str) (s i:Nat):vs=[.ref b,.ref a,.int s]->ϝ H b cs->η K H a (ws.map V.str)->ws.length<=4000->(∀z∈ws,z.length<=1000)->s+2<=ws.length->fj cs ws (s+1)=some i->(∀p H',ζ H H'->By mg H' p (.none i) (bW ws s (s+2)) (s+2)->Q (.ref p) H')->Ju K mg vs H Q E
theorem zF(T:Txt K mg):Def P w K mg base true 5 "read_none" ["columns","words","start"] (Ju K mg):=by
 show Γ (S:=P0) T.zF (λ_ _ _ _ _ H vs Q E C h=>?_);intro X _;let#[b,cs,a,ws,f,i,rfl,D,n,s,hz,g,hi,q]:=h;let nd:=P0.nd;let hsz:=ϱ;let J:= @uO P w K mg base T;let L:= @oU P w K mg base T;let M:jJ P w K mg base true 2 "NoneSieve" (θ mg "NoneSieve") ["self","text","place"] (CG K):=(acd T).make T.aiw T.ahW;w_up;cbv;show#[b,cs,a,ws,f+1,by simp,D,n,s,(),λe=>(by rw[hi]at e;cases e),λO H2 u e=>?_];rw[hi]at e;cases e;cbv;show j7 M C (by decide) (λ_=>rfl) ύ ?_;cbv;show#[a,ws,f,f+2,by simp,u.seq n,s,hz,(),g,λv j=>?_];cbv;intro y dx l m R;show#[y,_,dx,[],bW ws f (f+2),_,rfl,υ,T.uc,T.XX,T.JW,by simp,rfl,?_];cbv;show#[Δ,λp x=>?_];generalize z:upd (upd (upd (upd v dx (.own y)) y (.ins (θ mg "NoneSieve") dx [])) y _) y _=G at x⊢;let F:ζ v G:=λc o e=>by
  rw[<-z,ο (Ψ e l),ο (Ψ e l),ο (Ψ e l),ο (Ψ e m)];show e
 let I:G y=some (.ins (θ mg "NoneSieve") dx [("text",.str (bW ws f (f+2))),("place",.int i)]):=by
  rw[<-z];show υ
 let B:ζ G (upd G p (.tup [.ref y,.int (f+2)])):=ζ.upd x;show q p _ (((u.trans j).trans F).trans B) #[y,υ,dx,B _ _ I]
def nG:Lk->Str
 |.is=>"is"
 |.over=>"over"
 |.holds=>"holds"
inductive RQ (K:ϩ) (mg:Str->Option ε) (vs:List V) (H:Hp) (Q:VK) (E:XK):Prop
 |mk (l:Lk) (b:δ) (cs:List ξ) (a:δ) (ws:List Str) (s i:Nat) (c:ξ) (z:Str) (v:V):vs=[.ref b,.ref a,.int s]->ϝ H b cs->η K H a (ws.map V.str)->ws.length<=4000->(∀z∈ws,z.length<=1000)->s+3<=ws.length->s+2<60->ws[s]?=some (nG l)->fj cs ws (s+1)=some i->cs[i]?=some c->(l=.holds->c.2="text")->ws[s+2]?=some z->dw c.2 z=some v->¬v=.non->(∀p H',ζ H H'->By mg H' p (.look l i v) (bW ws s (s+3)) (s+3)->Q (.ref p) H')->RQ K mg vs H Q E
theorem Ig(T:Txt K mg):Def P w K mg base true 7 "read_of_value" ["columns","words","start"] (RQ K mg):=by
 show Γ (S:=Xl) T.Ig (λ_ _ _ _ _ H vs Q E U h=>?_);intro X _;let#[l,b,cs,a,ws,f,i,c,z,v,rfl,hC,n,B,hz,C,W,hw,hi,hc,hh,D,Y,Z,q]:=h;let nd:=Xl.nd;let hsz:=ϱ;let g1:=T.Gi;let g2:=T.Qy;let g3:=T.Gm;let g4:=T.Fp;let g5:=T.HW;let D1:= @uO P w K mg base T;let D2:= @oU P w K mg base T;let D3:= @Hb P w K mg base T;w_up;cbv;show ϡ n (aY (by rw[abh,hw];rfl)) ?_;cbv;show#[b,cs,a,ws,f+1,by simp,hC,n,B,(),λe=>(by rw[hi]at e;cases e),λi' H2 m e=>?_];rw[hi]at e;cases e;let#[vs,hb,ab]:=hC.same m;let#[cv,gc,t,rfl,ht]:=ab.get' hc;w_up;cbv;show ϡ (η.of hb) (aY gc) ?_;cbv;show Χ (ρ.of ht) (show Ω [V.str c.1,V.str c.2] 1=some (V.str c.2)from rfl) ?_;cases l with
 |is=>
  let M:jJ P w K mg base true 2 "IsSieve" (θ mg "IsSieve") ["self","text","place","value"] (rK K):=(El T).make T.aeu T.afj;w_up;cbv;show cJ ?_;show Ε ?_;w_up;cbv;show#[c.2,a,ws,f+2,z,v,by simp,m.seq n,B,D,W,by have:=hz z (aaq D);omega,Y,Z,λH3 g=>?_];cbv;show#[a,ws,f,f+3,by simp,(m.trans g).seq n,B,hz,(),C,λF I =>?_];w_up;cbv;show gY ?_;cbv;show j7 M U (by decide) (λ_=>rfl) ύ ?_;cbv;intro y dx s j u;show#[y,_,dx,[],bW ws f (f+3),_,v,rfl,υ,T.oZ,T.Pn,T.Wd,T.QX,by simp,λG J L=>#[rfl,?_]];cbv;show#[Δ,λp O=>?_];let R:ζ F G:=λc o e=>L c o (Ψ e s) (by rw[ο (Ψ e s),ο (Ψ e j)];show e)
  let x:ζ G (upd G p (.tup [.ref y,.int (f+3)])):=ζ.upd O;show q p _ ((((m.trans g).trans I).trans R).trans x) #[y,υ,dx,x _ _ J]
 |over=>
  let M:jJ P w K mg base true 2 "OverSieve" (θ mg "OverSieve") ["self","text","place","value"] (rK K):=(El T).make T.acG T.aa8;w_up;cbv;show cJ ?_;show Ε ?_;w_up;cbv;show#[c.2,a,ws,f+2,z,v,by simp,m.seq n,B,D,W,by have:=hz z (aaq D);omega,Y,Z,λH3 g=>?_];cbv;show#[a,ws,f,f+3,by simp,(m.trans g).seq n,B,hz,(),C,λF I =>?_];w_up;cbv;show cJ ?_;show Ε ?_;w_up;cbv;show cJ ?_;show Ε ?_;w_up;cbv;show gY ?_;cbv;show j7 M U (by decide) (λ_=>rfl) ύ ?_;cbv;intro y dx s j u;show#[y,_,dx,[],bW ws f (f+3),_,v,rfl,υ,T.pX,T.Xg,T.Lq,T.XM,by simp,λG J L=>#[rfl,?_]];cbv;show#[Δ,λp O=>?_];let R:ζ F G:=λc o e=>L c o (Ψ e s) (by rw[ο (Ψ e s),ο (Ψ e j)];show e)
  let x:ζ G (upd G p (.tup [.ref y,.int (f+3)])):=ζ.upd O;show q p _ ((((m.trans g).trans I).trans R).trans x) #[y,υ,dx,x _ _ J]
 |holds=>
  let M:jJ P w K mg base true 2 "HoldsSieve" (θ mg "HoldsSieve") ["self","text","place","value"] (rK K):=(El T).make T.ZZ T.aaY;w_up;cbv;show gY ?_;cbv;rw[hh rfl,decide_eq_true rfl];walk_at"t";show Ε ?_;w_up;cbv;show#[c.2,a,ws,f+2,z,v,by simp,m.seq n,B,D,W,by have:=hz z (aaq D);omega,Y,Z,λH3 g=>?_];cbv;show#[a,ws,f,f+3,by simp,(m.trans g).seq n,B,hz,(),C,λF I =>?_];w_up;cbv;show cJ ?_;show Ε ?_;w_up;cbv;show cJ ?_;show Ε ?_;w_up;cbv;show cJ ?_;cbv;show j7 M U (by decide) (λ_=>rfl) ύ ?_;cbv;intro y dx s j u;show#[y,_,dx,[],bW ws f (f+3),_,v,rfl,υ,T.oF,T.K3,T.PN,T.Sh,by simp,λG J L=>#[rfl,?_]];cbv;show#[Δ,λp O=>?_];let R:ζ F G:=λc o e=>L c o (Ψ e s) (by rw[ο (Ψ e s),ο (Ψ e j)];show e)
  let x:ζ G (upd G p (.tup [.ref y,.int (f+3)])):=ζ.upd O;show q p _ ((((m.trans g).trans I).trans R).trans x) #[y,υ,dx,x _ _ J]
def qm(cs:List ξ)(ws:List Str)(s:Nat):cV->Nat->Prop
 |.all,n=>ws[s]?=some "all"/\n=s+1
 |.none i,n=>ws[s]?=some "none"/\s+2<=ws.length/\fj cs ws (s+1)=some i/\n=s+2
 |.look l i v,n=>s+3<=ws.length/\s+2<60/\ws[s]?=some (nG l)/\fj cs ws (s+1)=some i/\(∃c z,cs[i]?=some c/\(l=.holds->c.2="text")/\ws[s+2]?=some z/\dw c.2 z=some v)/\(¬v=.non)/\n=s+3
theorem afa{ws:List Str}{s:Nat}{z:Str}(h:ws[s]?=some z):bW ws s (s+1)=z:=by
 unfold bW;let e:(ws.drop s).take (s+1-s)=[z]:=by
  rw[show s+1-s=1 by omega,tZ h];rfl
 rw[e];show join_one _ z
inductive Mv (K:ϩ) (mg:Str->Option ε) (vs:List V) (H:Hp) (Q:VK) (E:XK):Prop
 |mk (b:δ) (cs:List ξ) (a:δ) (ws:List Str) (s n:Nat) (k:Int) (sv:cV):vs=[.ref b,.ref a,.int s,.int k]->ϝ H b cs->η K H a (ws.map V.str)->ws.length<=4000->(∀z∈ws,z.length<=1000)->s<60->qm cs ws s sv n->(∀p H',ζ H H'->By mg H' p sv (bW ws s n) n->Q (.ref p) H')->Mv K mg vs H Q E
theorem agj(T:Txt K mg):Def P w K mg base true 8 "read_part" ["columns","words","start","within"] (Mv K mg):=by
 show Γ (S:=wL) T.OJ (λ_ _ _ _ _ H vs Q E W h=>?_);intro X _;let#[b,cs,a,ws,m,n,k,J,rfl,L,B,C,hz,Y,f,q]:=h;let nd:=wL.nd;let hsz:=ϱ;let g1:=T.Gi;let g2:=T.Pq;let g3:=T.Gm;let g4:=T.Fp;let g5:=T.HW;let g6:=T.XS;let D1:= @nZ P w K mg base T;let D2:= @zF P w K mg base T;let D3:= @Ig P w K mg base T;let M:jJ P w K mg base true 1 "AllSieve" (θ mg "AllSieve") ["self","text"] (mY K):=qR.make T.ai8 T.Zq;let g:∃z,ws[m]?=some z:=by
  cases J with
  |all=>show#[_,f.1]
  |none i=>show#[_,f.1]
  |look l i v=>show#[_,f.2.2.1]
 let#[z0,g]:=g;let D:=(aap.mp g).1;w_up;cbv;show#[a,ws,m,rfl,B,C,(),λZ=>absurd #[D,Y] Z,λz' s _=>?_];rw[g]at s;cases s;w_up;cbv;cases J with
 |all=>
  let#[h1,rfl]:=f;rw[g]at h1;cases h1;show gY ?_;cbv;show j7 M W (by decide) (λ_=>rfl) ύ ?_;cbv;intro y dx O F Ϲ;show#[y,_,dx,[],_,rfl,υ,T.wK,T.WN,by simp,rfl,?_];cbv;show#[Δ,λp j=>?_];generalize R:upd (upd (upd H dx (.own y)) y (.ins (θ mg "AllSieve") dx [])) y _=G at j⊢;let dY:ζ H G:=λc o e=>by
   rw[<-R,ο (Ψ e O),ο (Ψ e O),ο (Ψ e F)];show e
  let ey:G y=some (.ins (θ mg "AllSieve") dx [("text",.str "all")]):=by
   rw[<-R];show υ
  let U:ζ G (upd G p (.tup [.ref y,.int (m+1)])):=ζ.upd j;show q p _ (dY.trans U) #[y,υ,dx,?_];rw[afa g];show U _ _ ey
 |none i=>
  let#[h1,h2,u,rfl]:=f;rw[g]at h1;cases h1;show cJ ?_;show Ε ?_;w_up;cbv;show gY ?_;cbv;show#[b,cs,a,ws,m,i,rfl,L,B,C,hz,h2,u,λp H' sm j=>q p H' sm j]
 |look l i v=>
  let#[h1,h2,u,h4,#[c,z,h5,h6,h7,h8],h9,rfl]:=f;rw[g]at u;cases u;let e1:¬V.str (nG l)=V.str ("all":Str):=by cases l<;>fin2
  let e2:¬V.str (nG l)=V.str ("none":Str):=by cases l<;>fin2
  let e3:gJ (V.str (nG l)) [V.str ("is":Str),V.str ("under":Str),V.str ("over":Str),V.str ("holds":Str)]=true:=by cases l<;>fin2
  show Ζ (λh=>absurd h e1) (λ_=>?_);show Ε ?_;w_up;cbv;show Ζ (λh=>absurd h e2) (λ_=>?_);show Ε ?_;w_up;cbv;show#[Δ,λtp I=>?_];show pQ (ρ.of υ) ?_;rw[e3];let x:ζ H (upd H tp (.tup [.str "is",.str "under",.str "over",.str "holds"])):=ζ.upd I;generalize upd H tp (.tup [.str "is",.str "under",.str "over",.str "holds"])=H2 at x⊢;cbv;show#[l,b,cs,a,ws,m,i,c,z,v,rfl,L.same x,x.seq B,C,hz,h1,h2,g,h4,h5,h6,h7,h8,h9,λp H' sm j=>q p H' (x.trans sm) j]
inductive Tt (vs:List V) (H:Hp) (Q:VK) (E:XK):Prop
 |mk (x) (y):vs=[x,y]->Q (.bl true) H->Tt vs H Q E
theorem ajN{cc:Bool}:FD P w K mg base cc 1 "lets" "Sieve.lets" Ot ["self","values"] Tt:=by
 show aN (N:=["self","values"]) (λ_ _ _ _ _ H vs Q E a h=>?_);intro X _;let#[x,y,rfl,q]:=h;f_len;cbv;show q
inductive Nk (K:ϩ) (vs:List V) (H:Hp) (Q:VK) (E:XK):Prop
 |mk (a C dx:δ) (fs:List (Str×V)) (p:Nat) (b:δ) (xs:List V) (x:V):vs=[.ref a,.ref b]->H a=some (.ins C dx fs)->ϗ K C->Φ K C "place"->fs.lookup ("place":Str)=some (V.int p)->η K H b xs->xs[p]?=some x->Q (.bl (decide (x=.non))) H->Nk K vs H Q E
theorem Zw{cc:Bool}:FD P w K mg base cc 1 "lets" "NoneSieve.lets" Ip ["self","values"] (Nk K):=by
 show aN (N:=["self","values"]) (λ_ _ _ _ _ H vs Q E l h=>?_);intro X _;let#[a,C,dx,fs,p,b,xs,x,rfl,c,e,f,g,i,j,q]:=h;f_len;show ω ?_;cbv;show Ϥ ?_;f_are;show#[a,C,dx,fs,_,rfl,c,e,f,g,?_];show ϡ i (aY j) ?_;cbv;show q
inductive Bt (K:ϩ) (vs:List V) (H:Hp) (Q:VK) (E:XK):Prop
 |mk (a C dx:δ) (fs:List (Str×V)) (z:Str) (p:V):vs=[.ref a,.str z,p]->H a=some (.ins C dx fs)->ϗ K C->Φ K C "text"->Φ K C "one"->fs.length<800->Q .non (upd (upd H a (.ins C dx (ϛ "text" (.str z) fs))) a (.ins C dx (ϛ "one" p (ϛ "text" (.str z) fs))))->Bt K vs H Q E
theorem acK(T:Txt K mg){cc:Bool}:FD P w K mg base cc 2 "__init__" "NotSieve.__init__" Um ["self","text","one"] (Bt K):=by
 show aN (N:=["self","text","one"]) (λ_ _ _ _ _ H vs Q E f h=>?_);intro X _;let#[a,C,dx,fs,z,p,rfl,g,e,i,c,j,q]:=h;let B:nW P w K mg base cc 1 "Sieve" "__init__" ["self","text"] (mY K):=qR.asked T.yX T.yt;let hz:=jK "text" (V.str z) fs;w_up;show aM ?_;show vW (pl:=_) B f id ύ ?_;cbv;show#[a,C,dx,fs,z,rfl,g,e,i,(),?_];f_len;show dj ?_;f_are;f_are;show#[a,C,dx,_,rfl,υ,e,c,(),q]
inductive Bs (K:ϩ) (vs:List V) (H:Hp) (Q:VK) (E:XK):Prop
 |mk (a C dx:δ) (fs:List (Str×V)) (z:Str) (p v:V):vs=[.ref a,.str z,p,v]->H a=some (.ins C dx fs)->ϗ K C->Φ K C "text"->Φ K C "one"->Φ K C "other"->fs.length<800->(∀H',H' a=some (.ins C dx (ϛ "other" v (ϛ "one" p (ϛ "text" (.str z) fs))))->(∀b o,b≠a->H b=some o->H' b=some o)->Q .non H')->Bs K vs H Q E
theorem ahe(T:Txt K mg){cc:Bool}:FD P w K mg base cc 2 "__init__" "PairSieve.__init__" Vo ["self","text","one","other"] (Bs K):=by
 show aN (N:=["self","text","one","other"]) (λ_ _ _ _ _ H vs Q E i h=>?_);intro X _;let#[a,C,dx,fs,z,p,v,rfl,j,c,l,f,m,s,q]:=h;let B:nW P w K mg base cc 1 "Sieve" "__init__" ["self","text"] (mY K):=qR.asked T.yX T.yt;let hz:=jK "text" (V.str z) fs;let n:=jK "one" p (ϛ "text" (V.str z) fs);w_up;show aM ?_;show vW (pl:=_) B i id ύ ?_;cbv;show#[a,C,dx,fs,z,rfl,j,c,l,(),?_];w_up;show dj ?_;f_are;f_are;show#[a,C,dx,_,rfl,υ,c,f,(),?_];f_len;show dj ?_;f_are;f_are;show#[a,C,dx,_,rfl,υ,c,m,(),q _ υ λb o g e=>?_];rw[ο g,ο g,ο g];show e
inductive Tr
 |one (s:cV)
 |nt (t:Tr)
 |ei (t u:Tr)
def Tr.dep:Tr->Nat
 |.one _=>0
 |.nt t=>t.dep+1
 |.ei t u=>max t.dep u.dep+1
def Reads(cs:List ξ)(ws:List Str):Tr->Nat->Nat->Prop
 |.one a,s,e=>s<60/\qm cs ws s a e
 |.nt t,s,e=>s<60/\ws[s]?=some "not"/\Reads cs ws t (s+1) e
 |.ei t u,s,e=>s<60/\ws[s]?=some "either"/\∃m,Reads cs ws t (s+1) m/\Reads cs ws u m e
theorem qm.le{cs:List ξ}{ws:List Str}{s e:Nat}:∀{a:cV},qm cs ws s a e->s<e/\e<=ws.length
 |.all,h=>by
   let#[h1,rfl]:=h;have:=(aap.mp h1).1;omega
 |.none i,h=>by
   let#[_,h2,_,rfl]:=h;omega
 |.look l i v,h=>by
   let#[h1,_,_,_,_,_,rfl]:=h;omega
theorem Reads.le{cs:List ξ}{ws:List Str}:∀{t:Tr}{s e:Nat},Reads cs ws t s e->s<e/\e<=ws.length
 |.one a,s,e,h=>qm.le h.2
 |.nt t,s,e,h=>by have:=Reads.le (t:=t) h.2.2;omega
 |.ei t u,s,e,h=>by
   let#[_,_,m,h1,h2]:=h;have:=Reads.le (t:=t) h1;have:=Reads.le (t:=u) h2;omega
def bY(mg:Str->Option ε)(H:Hp):Tr->δ->Str->Prop
 |.one s,a,z=>oJ mg H a s z
 |.nt t,a,z=>∃dx b y,H a=some (.ins (θ mg "NotSieve") dx [("text",.str z),("one",.ref b)])/\bY mg H t b y
 |.ei t u,a,z=>∃dx b c y x,H a=some (.ins (θ mg "EitherSieve") dx [("text",.str z),("one",.ref b),("other",.ref c)])/\bY mg H t b y/\bY mg H u c x
theorem bY.same{mg:Str->Option ε}{H H':Hp}(e:ζ H H'):∀{t:Tr}{a:δ}{z:Str},bY mg H t a z->bY mg H' t a z
 |.one s,a,z,h=>oJ.same h e
 |.nt t,a,z,h=>by
   let#[dx,b,y,h1,h2]:=h;show#[dx,b,y,e _ _ h1,bY.same e h2]
 |.ei t u,a,z,h=>by
   let#[dx,b,c,y,x,h1,h2,f]:=h;show#[dx,b,c,y,x,e _ _ h1,bY.same e h2,bY.same e f]
theorem agW{k:Nat}{x:Str}{ps:List Str}{sp sp':Sp}(F:Def P w K mg base true k x ps sp)(h:∀vs H Q E,sp' vs H Q E->sp vs H Q E):Def P w K mg base true k x ps sp':=by
 let#[f,fd,h1,h2,e,c]:=F.ex;show#[f,fd,h1,h2,e,#[λvs H Q E z=>c.len vs H Q E (h vs H Q E z),λA outer s H a us vs Q E g i j r z=>c.run A outer s H a us vs Q E g i j r (h vs H Q E z)]]
theorem Dg{k k':Nat}{C:δ}{x:Str}{ps:List Str}{sp sp':Sp}(F:Ϟ P w K mg base true k C x ps sp)(e:k<=k')(h:∀vs H Q E,sp' vs H Q E->sp vs H Q E):Ϟ P w K mg base true k' C x ps sp':=by
 let#[f,fd,h1,h2,c]:=F.ex;let c:=c.mono e;show#[F.cls,f,fd,h1,h2,#[λvs H Q E z=>c.len vs H Q E (h vs H Q E z),λA outer s H a us vs Q E g i j r z=>c.run A outer s H a us vs Q E g i j r (h vs H Q E z)]]
inductive nu (K:ϩ) (mg:Str->Option ε) (t:Tr) (vs:List V) (H:Hp) (Q:VK) (E:XK):Prop
 |mk (b:δ) (cs:List ξ) (a:δ) (ws:List Str) (s e:Nat) (k:Int):vs=[.ref b,.ref a,.int s,.int k]->ϝ H b cs->η K H a (ws.map V.str)->ws.length<=4000->(∀z∈ws,z.length<=1000)->0<=k->k+t.dep<=20->Reads cs ws t s e->(∀p v H',ζ H H'->H' p=some (.tup [.ref v,.int e])->bY mg H' t v (bW ws s e)->Q (.ref p) H')->nu K mg t vs H Q E
inductive wB (K:ϩ) (mg:Str->Option ε) (t:Tr) (vs:List V) (H:Hp) (Q:VK) (E:XK):Prop
 |mk (b:δ) (cs:List ξ) (a:δ) (ws:List Str) (s e:Nat) (k:Int):vs=[.ref b,.ref a,.int s,.int k]->ϝ H b cs->η K H a (ws.map V.str)->ws.length<=4000->(∀z∈ws,z.length<=1000)->1<=k->k+t.dep<=21->k<=20->Reads cs ws t s e->(∀p v H',ζ H H'->H' p=some (.tup [.ref v,.int e])->bY mg H' t v (bW ws s e)->Q (.ref p) H')->wB K mg t vs H Q E
theorem adg(T:Txt K mg)(c:cV):Def P w K mg base true 8 "read_part" ["columns","words","start","within"] (nu K mg (.one c)):=agW (agj T) λvs H Q E h=>by
 let#[b,cs,a,ws,s,e,k,rfl,g,i,j,hz,l,n,f,q]:=h;show#[b,cs,a,ws,s,e,k,c,rfl,g,i,j,hz,f.1,f.2,λp H' sm m=>?_];let#[v,h1,h2]:=m;show q p v H' sm h1 h2
def BJ:Tr->Option Str
 |.one _=>none
 |.nt _=>some "not"
 |.ei _ _=>some "either"
theorem ad2{cs:List ξ}{ws:List Str}{t:Tr}{s e:Nat}{z:Str}(h:Reads cs ws t s e)(a:BJ t=some z):s<60/\ws[s]?=some z:=by
 cases t with
 |one _=>cases a
 |nt t=>cases a;show#[h.1,h.2.1]
 |ei t u=>cases a;show#[h.1,h.2.1]
theorem uU{t:Tr}{z:Str}(a:BJ t=some z):z="not"\/z="both"\/z="either":=by
 cases t with
 |one _=>cases a
 |nt t=>cases a;show .inl rfl
 |ei t u=>cases a;show .inr (.inr rfl)
theorem Tg(T:Txt K mg){t:Tr}{z:Str}{lv:Nat}(f:BJ t=some z)(W:3<=lv)(D:Def P w K mg base true lv "read_of_sieves" ["columns","words","start","within"] (wB K mg t)):Def P w K mg base true (lv+1) "read_part" ["columns","words","start","within"] (nu K mg t):=by
 show Γ (S:=wL) T.OJ (λ_ _ A _ _ H vs Q E Y h=>?_);intro X _;let#[b,cs,a,ws,o,e,k,rfl,F,s,x,hz,G,Z,g,q]:=h;let nd:=wL.nd;let hsz:=ϱ;let g1:=T.Gi;let g2:=T.Pq;let g3:=T.Gm;let g4:=T.Fp;let g5:=T.HW;let g6:=T.XS;let g7:=T.Hz;let g8:=T.BW;let g9:=T.aeo;let D1:= @nZ P w K mg base T;let#[I,i]:=ad2 g f;let l:=(aap.mp i).1;let CP:1<=t.dep:=by
  cases t with
  |one _=>cases f
  |nt t=>show 1<=t.dep+1;omega
  |ei t u=>show 1<=max t.dep u.dep+1;omega
 let e1:¬V.str z=V.str ("all":Str):=by obtain rfl|rfl|rfl:=uU f<;>fin2
 let J:¬V.str z=V.str ("none":Str):=by obtain rfl|rfl|rfl:=uU f<;>fin2
 let L:gJ (V.str z) [V.str ("is":Str),V.str ("under":Str),V.str ("over":Str),V.str ("holds":Str)]=false:=by obtain rfl|rfl|rfl:=uU f<;>fin2
 let M:gJ (V.str z) [V.str ("not":Str),V.str ("both":Str),V.str ("either":Str)]=true:=by obtain rfl|rfl|rfl:=uU f<;>fin2
 k_go;show#[a,ws,o,rfl,s,x,(),λO=>absurd #[l,I] O,λz' j _=>?_];rw[i]at j;cases j;w_up;show Κ ?_;lk;show Ζ (λh=>absurd h e1) (λ_=>?_);show Ε ?_;w_up;show Κ ?_;lk;show Ζ (λh=>absurd h J) (λ_=>?_);show Ε ?_;w_up;show Κ ?_;lk;show#[Δ,λtp m=>?_];show pQ (ρ.of υ) ?_;rw[L];let y:ζ H (upd H tp (.tup [.str "is",.str "under",.str "over",.str "holds"])):=ζ.upd m;generalize upd H tp (.tup [.str "is",.str "under",.str "over",.str "holds"])=H2 at y⊢;lk;show Ε ?_;w_up;show Κ ?_;lk;show#[Δ,λB n=>?_];show pQ (ρ.of υ) ?_;rw[M];let C:ζ H2 (upd H2 B (.tup [.str "not",.str "both",.str "either"])):=ζ.upd n;generalize upd H2 B (.tup [.str "not",.str "both",.str "either"])=H3 at C⊢;lk;let c:=y.trans C;f_len;show ω ?_;lk;show#[b,cs,a,ws,o,e,k+1,rfl,F.same c,c.seq s,x,hz,(),(),(),g,λp v H' sm R U=>q p v H' (c.trans sm) R U]
theorem YM(T:Txt K mg){t:Tr}{lv x:Nat}(D1:Def P w K mg base true x "read_part" ["columns","words","start","within"] (nu K mg t))(h1:x<=lv)(h3:3<=lv):Def P w K mg base true (lv+1) "read_of_sieves" ["columns","words","start","within"] (wB K mg (.nt t)):=by
 show Γ (S:=ye) T.WX (λ_ _ A _ _ H vs Q E O h=>?_);intro X _;let#[b,cs,a,ws,f,e,k,rfl,R,i,z,hz,U,W,Y,g,q]:=h;let nd:=ye.nd;let hsz:=ϱ;let g1:=T.Su;let g2:=T.Hz;let g3:=T.BW;let DB:= @oU P w K mg base T;let Z:=g.le;let hd:k+(t.dep+1:Nat)<=21:=W;let#[jB,j,B]:=g;let aa4:=B.le;let sw:η K H a (ws.map V.str):=i;let e1:(f:Int)+1=((f+1:Nat):Int):=()
 w_up;show Κ ?_;lk;show Ζ (λh=>absurd h ()) (λ_=>?_);show Ε ?_;k_go;show ϡ sw (v:=.str ("not":Str)) (aY (by rw[abh,j];rfl)) ?_;w_up;show d9 ?_;lk;rw[e1];show#[b,cs,a,ws,f+1,_,k,rfl,R,i,z,hz,(),(),B,λp1 C H1 D l m=>?_];show aj (ρ.of l) (Θ (Β nd (by rfl) (.inl rfl) (.inl rfl) (Θ (Β nd (by rfl) (.inl rfl) (.inl rfl) (az ?_)))));w_up;show Κ ?_;lk;show gY ?_;f_len;show ω ?_;let M:jJ P w K mg base true 2 "NotSieve" (θ mg "NotSieve") ["self","text","one"] (Bt K):=(acK T).make T.afq T.aeb;lk;show j7 M O () (λ_=>rfl) ύ ?_;lk;show#[a,ws,f,e,rfl,D.seq i,z,hz,(),(),λH2 F =>?_];lk;intro y dx n s Ϲ;show#[y,_,dx,[],_,_,rfl,υ,T.t8,T.U3,T.Up,by simp,rfl,?_];lk;show#[Δ,λp I=>?_];generalize J:upd (upd (upd (upd H2 dx (.own y)) y (.ins (θ mg "NotSieve") dx [])) y _) y _=G at I⊢;let L:ζ H2 G:=λc o e=>by
  rw[<-J,ο (Ψ e n),ο (Ψ e n),ο (Ψ e n),ο (Ψ e s)];show e
 let ey:G y=some (.ins (θ mg "NotSieve") dx [("text",.str (bW ws f e)),("one",.ref C)]):=by
  rw[<-J];show υ
 let u:ζ G (upd G p (.tup [.ref y,.int e])):=ζ.upd I;show q p y _ (((D.trans F).trans L).trans u) υ #[dx,C,_,u _ _ ey,((m.same F).same L).same u]
theorem aix(T:Txt K mg){t u:Tr}{lv J L:Nat}(D1:Def P w K mg base true J "read_part" ["columns","words","start","within"] (nu K mg t))(h1:J<=lv)(O:True->Def P w K mg base true L "read_part" ["columns","words","start","within"] (nu K mg u))(h2:L<=lv)(h3:3<=lv):Def P w K mg base true (lv+1) "read_of_sieves" ["columns","words","start","within"] (wB K mg (.ei t u)):=by
 show Γ (S:=ye) T.WX (λ_ _ A _ _ H vs Q E hr h=>?_);intro X _;let#[b,cs,a,ws,f,e,k,rfl,R,i,j,hz,hk0,hk,aaU,g,q]:=h;let nd:=ye.nd;let hsz:=ϱ;let g1:=T.Su;let g2:=T.Hz;let g3:=T.BW;let DB:= @oU P w K mg base T;let hle:=g.le;let hd:k+(max t.dep u.dep+1:Nat)<=21:=hk;let#[jB,l,m,U,W]:=g;let ak3:=W.le;let aa4:=U.le;let sw:η K H a (ws.map V.str):=i;let e1:(f:Int)+1=((f+1:Nat):Int):=()
 w_up;show Κ ?_;lk;show Ζ (λh=>absurd h ()) (λ_=>?_);show Ε ?_;k_go;show ϡ sw (v:=.str ("either":Str)) (aY (by rw[abh,l];rfl)) ?_;w_up;show d9 ?_;lk;rw[e1];show#[b,cs,a,ws,f+1,_,k,rfl,R,i,j,hz,(),(),U,λp1 Y H1 n s x=>?_];show aj (ρ.of s) (Θ (Β nd (by rfl) (.inl rfl) (.inl rfl) (Θ (Β nd (by rfl) (.inl rfl) (.inl rfl) (az ?_)))));w_up;show Κ ?_;lk;show cJ ?_;clear D1;let O:=O trivial;show Ε ?_;w_up;show d9 ?_;lk;show#[b,cs,a,ws,m,e,k,rfl,R.same n,n.seq i,j,hz,(),(),W,λp2 Z H2 Ι z B=>?_];show aj (ρ.of z) (Θ (Β nd (by rfl) (.inl rfl) (.inl rfl) (Θ (Β nd (by rfl) (.inl rfl) (.inl rfl) (az ?_)))));let oM:=n.trans Ι;k_go;show#[a,ws,f,e,rfl,oM.seq i,j,hz,(),(),λH3 C=>?_];let M:jJ P w K mg base true 2 "EitherSieve" (θ mg "EitherSieve") ["self","text","one","other"] (Bs K):=(ahe T).make T.aeG T.adS;w_up;show Κ ?_;lk;show cJ ?_;show Ε ?_;f_len;show ω ?_;lk;show j7 M hr () (λ_=>rfl) ύ ?_;lk;intro y dx hy D Ϲ;show#[y,_,dx,[],_,_,_,rfl,υ,T.qz,T.Mp,T.Xf,T.Rm,by simp,λG F keep=>#[rfl,?_]];lk;show#[Δ,λp hp=>?_];let dY:ζ H3 G:=λc o e=>keep _ _ (Ψ e hy) (by rw[ο (Ψ e hy),ο (Ψ e D)];show e)
 let F:G y=some (.ins (θ mg "EitherSieve") dx [("text",.str (bW ws f e)),("one",.ref Y),("other",.ref Z)]):=F;let ϙ:ζ G (upd G p (.tup [.ref y,.int e])):=ζ.upd hp;let I:=(C.trans dY).trans ϙ;show q p y _ (oM.trans I) υ #[dx,Y,Z,_,_,ϙ _ _ F,(x.same Ι).same I,B.same I]
theorem xJ(T:Txt K mg):∀t:Tr,Def P w K mg base true (8+2*t.dep) "read_part" ["columns","words","start","within"] (nu K mg t)
 |.one a=>adg T a
 |.nt t=>by
   let h:=Tg T (z:="not") (lv:=8+2*t.dep+1) rfl () (YM T (lv:=8+2*t.dep) (xJ T t) (Ϭ _) ());let e:8+2*(Tr.nt t).dep=8+2*t.dep+1+1:=by show 8+2*(t.dep+1)=_;omega
   rw[e];show h
 |.ei t u=>by
   let h:=Tg T (z:="either") (lv:=8+2*max t.dep u.dep+1) rfl () (aix T (lv:=8+2*max t.dep u.dep) (xJ T t) () (λ_=>xJ T u) () ());let e:8+2*(Tr.ei t u).dep=8+2*max t.dep u.dep+1+1:=by show 8+2*(max t.dep u.dep+1)=_;omega
   rw[e];show h
inductive Oc (mg:Str->Option ε) (t:Tr) (vs:List V) (H:Hp) (Q:VK) (E:XK):Prop
 |mk (b:δ) (cs:List ξ) (z:Str):vs=[.ref b,.str z]->ϝ H b cs->z.length<=3000->(∀y∈ϊ 32 z,y.length<=1000)->t.dep<=20->Reads cs (ϊ 32 z) t 0 (ϊ 32 z).length->(∀v H',ζ H H'->bY mg H' t v (bW (ϊ 32 z) 0 (ϊ 32 z).length)->Q (.ref v) H')->Oc mg t vs H Q E
theorem VD(T:Txt K mg)(t:Tr):Def P w K mg base true (9+2*t.dep) "read_sieve" ["columns","text"] (Oc mg t):=by
 let l:9+2*t.dep=(8+2*t.dep)+1:=()
 rw[l];show Γ (S:=Wu) T.aaP (λ_ _ _ _ s H vs Q E B h=>?_);intro X _;let#[b,cs,z,rfl,m,hz,a,n,e,q]:=h;let nd:=Wu.nd;let n1:=T.bN;let hsz:=ϱ;let C:= @xJ P w K mg base T t;let o:=QJ 32 z;w_up;f_tup;show dF F.plainAttrs_str F.slot_str_split F.type_str_split (h:=?_);cbv;show m_split (c:=32) λp u=>?_
 let#[f,ep]:=ϋ u (.lst ((ϊ 32 z).map V.str));generalize upd H p (.lst ((ϊ 32 z).map V.str))=H1 at f ep⊢;w_up;show d9 ?_;lk;show#[b,cs,p,ϊ 32 z,0,_,0,rfl,m.same f,η.of ep,(),a,by decide,(),e,λD v H2 j g i=>?_];show aj (ρ.of g) (Θ (Β nd (by rfl) (.inl rfl) (.inl rfl) (Θ (Β nd (by rfl) (.inl rfl) (.inl rfl) (az ?_)))));let x:η K H2 p ((ϊ 32 z).map V.str):=η.of (j _ _ ep);let y:((ϊ 32 z).map V.str).length=(ϊ 32 z).length:=aaz ..;w_up;cbv;rw[y];show Ζ (λh=>absurd h ()) (λ_=>?_);cbv;show q v H2 (f.trans j) i
def afP(xs:List V):cV->Bool
 |.all=>true
 |.none p=>decide ((xs[p]?).getD .non=.non)
 |.look l p v=> !decide ((xs[p]?).getD .non=.non)&&yW l ((xs[p]?).getD .non) v
def Nq(xs:List V):cV->Prop
 |.all=>True
 |.none p=>p<xs.length
 |.look l p v=>∃x,xs[p]?=some x/\(x=.non\/Bp l x v)
def Ϙ(xs:List V):Tr->Bool
 |.one s=>afP xs s
 |.nt t=> !Ϙ xs t
 |.ei t u=>Ϙ xs t||Ϙ xs u
def oR(xs:List V):Tr->Prop
 |.one s=>Nq xs s
 |.nt t=>oR xs t
 |.ei t u=>oR xs t/\oR xs u
def dH(mg:Str->Option ε):Tr->δ
 |.one .all=>θ mg "AllSieve"
 |.one (.none _)=>θ mg "NoneSieve"
 |.one (.look l _ _)=>zg mg l
 |.nt _=>θ mg "NotSieve"
 |.ei _ _=>θ mg "EitherSieve"
inductive gO (K:ϩ) (mg:Str->Option ε) (t:Tr) (vs:List V) (H:Hp) (Q:VK) (E:XK):Prop
 |mk (a b:δ) (z:Str) (xs:List V):vs=[.ref a,.ref b]->bY mg H t a z->η K H b xs->oR xs t->Q (.bl (Ϙ xs t)) H->gO K mg t vs H Q E
theorem bY.ins{mg:Str->Option ε}{H:Hp}:∀{t:Tr}{a:δ}{z:Str},bY mg H t a z->∃dx fs,H a=some (.ins (dH mg t) dx fs)/\fs.lookup ("lets":Str)=none
 |.one .all,a,z,h=>by let#[dx,h]:=h;show#[dx,_,h,rfl]
 |.one (.none p),a,z,h=>by let#[dx,h]:=h;show#[dx,_,h,rfl]
 |.one (.look l p v),a,z,h=>by let#[dx,h]:=h;show#[dx,_,h,rfl]
 |.nt t,a,z,h=>by let#[dx,b,y,h,_]:=h;show#[dx,_,h,rfl]
 |.ei t u,a,z,h=>by let#[dx,b,c,y,x,h,_]:=h;show#[dx,_,h,rfl]
theorem aay(T:Txt K mg)(l:Lk)(p:Nat)(v:V):Ϟ P w K mg base true 3 (zg mg l) "lets" ["self","values"] (Ft K l (zg mg l)):=by
 cases l with
 |is=>show(Ho ((ahP T.oZ T.QX).meth T.oZ T.ag4) T.Wd).meth T.oZ T.abN
 |over=>show(Ho ((acJ T T.pX T.XM).meth T.pX T.ah1) T.Lq).meth T.pX T.aav
 |holds=>show(Ho ((aaX T.oF T.Sh).meth T.oF T.Z4) T.PN).meth T.oF T.abR
theorem Yv(T:Txt K mg){t:Tr}{lv:Nat}(M:Ϟ P w K mg base true lv (dH mg t) "lets" ["self","values"] (gO K mg t)):FD P w K mg base true (lv+1) "lets" "NotSieve.lets" Us ["self","values"] (gO K mg (.nt t)):=by
 show aN (N:=["self","values"]) (λ_ _ _ _ _ H vs Q E f h=>?_);intro X _;let#[a,b,z,xs,rfl,#[dx,c,y,g,e],i,j,q]:=h;let#[dc,n,l,m]:=e.ins;f_len;show ω ?_;lk;show bZ (pl:=_) f ύ (h:=?_);show Ϥ ?_;f_are;show#[a,_,_,_,_,rfl,g,T.t8,T.Up,rfl,?_];show#[c,dH mg t,dc,_,true,lv,_,gO K mg t,rfl,l,m,M,Ϭ _,id,?_];lk;show#[c,b,y,xs,rfl,e,i,j,?_];lk;show q
theorem afd(T:Txt K mg){t u:Tr}{lv e f:Nat}(M1:Ϟ P w K mg base true e (dH mg t) "lets" ["self","values"] (gO K mg t))(h1:e<=lv)(M2:Ϟ P w K mg base true f (dH mg u) "lets" ["self","values"] (gO K mg u))(h2:f<=lv):FD P w K mg base true (lv+1) "lets" "EitherSieve.lets" X5 ["self","values"] (gO K mg (.ei t u)):=by
 show aN (N:=["self","values"]) (λ_ _ _ _ _ H vs Q E g h=>?_);intro X _;let#[a,b,z,xs,rfl,#[dx,c,d,y,x,i,j,hd],l,m,q]:=h;let#[dc,v,n,o]:=j.ins;let#[dd,fd,p,ld]:=hd.ins;f_len;show ω ?_;lk;show bZ (pl:=_) g ύ (h:=?_);show Ϥ ?_;f_are;show#[a,_,_,_,_,rfl,i,T.qz,T.Xf,rfl,?_];show#[c,dH mg t,dc,_,true,e,_,gO K mg t,rfl,n,o,M1,h1,id,?_];lk;show#[c,b,y,xs,rfl,j,l,m.1,?_];let q:Q (.bl (Ϙ xs t||Ϙ xs u)) H:=q;generalize Ϙ xs t=s at q⊢;cases s with
 |false=>
  lk;show bZ (pl:=_) g ύ (h:=?_);show Ϥ ?_;f_are;show#[a,_,_,_,_,rfl,i,T.qz,T.Rm,rfl,?_];show#[d,dH mg u,dd,_,true,f,_,gO K mg u,rfl,p,ld,M2,h2,id,?_];lk;show#[d,b,x,xs,rfl,hd,l,m.2,?_];show q
 |true=>
  lk;show q
theorem xf(T:Txt K mg):∀t:Tr,Ϟ P w K mg base true (3+t.dep) (dH mg t) "lets" ["self","values"] (gO K mg t)
 |.one .all=>Dg (ajN.meth T.wK T.ajz) (by decide) λvs H Q E h=>by
   let#[a,b,z,xs,rfl,_,_,_,q]:=h;show#[_,_,rfl,q]
 |.one (.none p)=>Dg (Zw.meth T.uc T.aet) (by show 1<=3+0;decide) λvs H Q E h=>by
   let#[a,b,z,xs,rfl,#[dx,c],f,g,q]:=h;let j:p<xs.length:=g;let e:xs[p]?=some xs[p]:=aab j;show#[a,_,dx,_,p,b,xs,xs[p],rfl,c,T.uc,T.JW,rfl,f,e,?_];let q:Q (.bl (decide ((xs[p]?).getD .non=.non))) H:=q;rw[e]at q;show q
 |.one (.look l p v)=>Dg (aay T l p v) (by show 3<=3+0;decide) λvs H Q E h=>by
   let#[a,b,z,xs,rfl,#[dx,c],f,#[x,i,g],q]:=h;show#[a,dx,z,p,v,b,xs,x,rfl,c,f,i,g,?_];let q:Q (.bl (!decide ((xs[p]?).getD .non=.non)&&yW l ((xs[p]?).getD .non) v)) H:=q;rw[i]at q;show q
 |.nt t=>(Yv T (xf T t)).meth T.t8 T.afc
 |.ei t u=>(afd T (lv:=3+max t.dep u.dep) (xf T t) () (xf T u) ()).meth T.qz T.akg
theorem Es(T:Txt K mg):Def P w K mg base true 2 "read_order_word" ["columns","word"] (vH (.ref (θ mg "NoOrder"))):=by
 show Γ (S:=KD) T.Es (λ_ _ _ _ _ H vs Q E B h=>?_);intro X _;let#[a,cs,z,rfl,l,hz,g,q]:=h;let C:=T.Xr;let D:=T.Vf;let nd:=KD.nd;let F:= @nA P w K mg base T;let hsz:=ϱ;let m:=Dc z (some 1) none;let e1:("+":Str).cps.toList=[43]:=by fin2
 let i:("-":Str).cps.toList=[45]:=by fin2
 let es:(ϐ z none (some 1)).cps.toList=z.cps.toList.take 1:=Jl z 1;let e:∀c:Nat,z.cps.toList.take 1=[c]↔z.cps.toList[0]?=some c:=λc=>by
  cases z.cps.toList with
  |nil=>simp
  |cons x r=>simp
 let k1:V.str (ϐ z none (some 1))=V.str "+"↔z.cps.toList[0]?=some 43:=by
  rw[<-e];constructor
  .intro h;let h2:ϐ z none (some 1)=Ϫ "+":=by injection h
   rw[<-es,h2,e1]
  .intro h;let h2:ϐ z none (some 1)=Ϫ "+":=fK (by rw[es,h,e1]);rw[h2]
 let k2:V.str (ϐ z none (some 1))=V.str "-"↔z.cps.toList[0]?=some 45:=by
  rw[<-e];constructor
  .intro h;let h2:ϐ z none (some 1)=Ϫ "-":=by injection h
   rw[<-es,h2,i]
  .intro h;let h2:ϐ z none (some 1)=Ϫ "-":=fK (by rw[es,h,i]);rw[h2]
 w_up;cbv;show mU ?_;cbv;show mU ?_;cbv;show#[Δ,λp n=>?_];let#[f,ep]:=ϋ n (.tup [.str "+",.str "-"]);generalize upd H p (.tup [.str "+",.str "-"])=H0 at f ep⊢;show K6 (ρ.of ep) ?_;let ei:gJ (V.str (ϐ z none (some 1))) [.str "+",.str "-"]=decide (z.cps.toList[0]?=some 43\/z.cps.toList[0]?=some 45):=by
  let j:∀y:Str,eZ (V.str y) (V.str (ϐ z none (some 1)))=decide (V.str (ϐ z none (some 1))=V.str y):=λy=>by
   rw[ahB,decide_eq_true_eq];constructor
   .intro h;have:V.str y=V.str (ϐ z none (some 1)):=by simpa [eZ]using h
    show this.symm
   .intro h;rw[h];simp[eZ]
  rw[ahB,decide_eq_true_eq, <-k1, <-k2];show((eZ _ _||(eZ _ _||false))=true)↔_;rw[j,j,aoQ,anW,decide_eq_true_eq,decide_eq_true_eq]
 rw[ei];cbv;show dJ (λh=>?_) (λh=>?_)
 .show(g H (ζ.refl _) (if_neg λx=>h x.1)).elim
 .show Ε ?_;cbv;show#[a,cs,_,rfl,l.same f,λH1 o =>?_];let s :=f.trans o;cbv;show Ζ (λh2=>?_) (λh2=>?_)
  .show(g H (ζ.refl _) (if_neg λx=>x.2 h2)).elim
  .show Ε ?_;cbv;show#[Δ,λt u=>?_];show q t _ _ (s.trans (ζ.upd u)) (if_pos #[h,h2]) ?_;rw[υ];let v:decide (V.str (ϐ z none (some 1))=V.str ("+":Str))=decide (z.cps.toList[0]?=some 43):=decide_eq_decide.mpr k1;rw[v]
theorem vY(T:Txt K mg):Def P w K mg base true 3 "read_order" ["columns","text"] (vX (.ref (θ mg "NoOrder"))):=by
 show Γ (S:=Nh) T.vY (λf _ _ _ s H vs Q E hr h=>?_);intro X _;let#[a,cs,z,rfl,hC,hz,j,q]:=h;let g1:=T.ai9;let n1:=T.bN;let n2:=T.Oa;let nd:=Nh.nd;let ju:(["word","columns"]:List Str).Nodup:=by fin2
 let bK:(["name","up"]:List Str).Nodup:=by fin2
 let D1:= @Es P w K mg base T;let hsz:=ϱ;unfold fB at j q;w_up;cbv;show Ζ (λh=>?_) (λh=>?_)
 .let h':z="":=by injection h
  cbv;show#[Δ,λp I=>?_];show q p [] _ (ζ.upd I) (if_pos h') I #[[],υ,.nil]
 .let h':¬z="":=λe=>h (by rw[e])
  rw[if_neg h']at j q;show Ε ?_;w_up;f_tup;show dF PySem.F.plainAttrs_str PySem.F.slot_str_split PySem.F.type_str_split (h:=?_);cbv;show m_split (c:=32) λp1 U=>?_
  let W:=QJ 32 z;let n:=λy=> @Y4 32 z y
  generalize ϊ 32 z=ws at j q W n⊢;let#[J,pN]:=ϋ U (.lst (ws.map V.str));generalize upd H p1 (.lst (ws.map V.str))=H1 at J pN⊢;let L:(ws.map V.str).length=ws.length:=aaz ..;let S1:η K H1 p1 (ws.map V.str):=η.of pN;cbv;rw[L];show Ζ (λh2=>?_) (λh2=>?_)
  .show(j H (ζ.refl _) (if_pos ())).elim
  .rw[if_neg ()]at j q;show Ε ?_;w_up;show Zh ["word","columns"] (σ':=[none,some (.ref a)]) (by rfl) ύ rfl rfl (by rfl) (by rfl) (cz (ψ u5)) (by intro _;rfl) nd (by rfl) (by rfl) ?_;cbv;show#[p1,_,rfl,S1,by rw[L];omega,λB=>∃o,B=[o,some (.ref a)],λE' i v H'=>∃y,ws[i]?=some y/\∃o,gP cs y=some o/\∃t,v=.ref t/\t≠E'/\H' t=some (.tup [.str o.1,.bl o.2]),#[none,rfl],λE' i v H2 Y ys _ hk I=>?_,λfp E' C s3 H0 F i B x H2 Y xo Z hi m Ι D hG=>?_,λE' H2 xs Z hl M e2 Ι =>?_]
   .let#[y,a1,o,a2,t,a3,a4,a5]:=I;show#[y,a1,o,a2,t,a3,a4,hk t _ a4 a5]
   .let#[o,rfl]:=m;let#[M,rfl]:=hG;rw[abh]at M;let#[y,ey,rfl]:=agJ.mp M;let hyl:=n y (aaq ey);show Β ju (by rfl) (.inl rfl) (.inr rfl) ?_;cbv;let g:=J.trans Ι;show#[a,cs,y,rfl,hC.same g,(),λH' l e=>?_,λt o H' l e et=>?_]
    .show j H' (g.trans l) (by rw[Ma (aaq ey) e])
    .let#[ys,ab,_]:=D;show#[#[_,rfl],#[y,ey,o,e,t,rfl,λz=>?_,et],l];rw[z,l _ _ ab]at et;cases et
   .let#[os,eo,ha]:=Jy (f:=gP cs) (R:=uq H2) (ws:=ws) (xs:=xs) (by rw[hl,L]) λi v e=>by
     let#[y,a1,o,a2,t,a3,a4,a5]:=M i v e;show#[y,a1,o,a2,t,a3,a5]
    rw[eo]at j q;let ac:=ha.len;let g:=J.trans Ι;let Z8:H E'=none:=by
     cases e:H E' with
     |none=>rfl
     |some u=>rw[J _ _ e]at Z;cases Z
    w_up;show uB ["name","up"] (σ':=[none,none]) (cz (ψ u5)) nd ?_;cbv;show#[E',xs,rfl,η.of e2,by rw[hl,L];omega,λB=>∃o1 o2,B=[o1,o2],λE2 i u H'=>∃c,os[i]?=some c/\u=.str c.1,#[none,none,rfl],λE2 i u H2 Y ys _ _ p=>p,λfp E2 C s3 H0 i B x H4 Y aP hi m l D hG=>?_,λE2 H4 ys aP ae af e4 l =>?_]
    .let#[o1,o2,rfl]:=m;let#[bB,rfl]:=hG;let#[c,hc,t,rfl,ht]:=ha.get bB;show aj (ρ.of (l _ _ ht)) (Θ (Β bK (by rfl) (.inl rfl) (.inr rfl) (Θ (Β bK (by rfl) (.inl rfl) (.inr rfl) (az ?_)))));cbv;show#[#[_,_,rfl],#[c,hc,rfl],ζ.refl _]
    .let ey:=jx (ys:=os) (λc=>V.str c.1) (by rw[ae,ac]) af;let jw:ys=(os.map Prod.fst).map V.str:=by rw[ey,agr];rfl
     subst jw;let G:(os.map Prod.fst).length<=4000:=by simp;omega
     w_up;cbv;show Ol (by rfl) (η.of e4) G λS hS=>?_
     cbv;show Mr υ G ?_;cbv;show Fy (.inl (η.of ((ζ.upd hS) _ _ e4))) ?_;cbv;let O:ζ H2 (upd H4 S (lM X S (os.map Prod.fst))):=l.trans (ζ.upd hS);let K9:=Hg _ (os.map Prod.fst) rfl;generalize upd H4 S (lM X S (os.map Prod.fst))=H5 at O⊢;rw[aaz (f:=V.str)];show dJ (λh3=>?_) (λh3=>?_)
     .let h4:¬(os.map Prod.fst).Nodup:=λz=>h3 (by rw[K9.mpr z])
      show(j H (ζ.refl _) (if_neg h4)).elim
     .let h4:(os.map Prod.fst).Nodup:=K9.mp (by injection h3 with h5;omega);show Ε ?_;cbv;show q E' os H5 (g.trans O) (if_pos h4) Z8 #[xs,O _ _ e2,ha.imp λu c r=>r.same O]
abbrev Row:=Int×List V
def cC(H:Hp)(v:V)(r:Row):=∃t l,v=.ref t/\H t=some (.tup [.int r.1,.ref l])/\H l=some (.lst r.2)
theorem cC.same{H H':Hp}{v:V}{r:Row}(h:cC H v r)(s:ζ H H'):cC H' v r:=by
 let#[t,l,e,a,c]:=h;show#[t,l,e,s _ _ a,s _ _ c]
def dR(H:Hp)(a:δ)(rs:List Row):=∃vs:List V,H a=some (.lst vs)/\ς (cC H) vs rs
theorem dR.same{H H':Hp}{a:δ}{rs:List Row}(h:dR H a rs)(s:ζ H H'):dR H' a rs:=by
 let#[vs,e,q]:=h;show#[vs,s _ _ e,q.imp λa b r=>r.same s]
def ό(cs:List ξ)(r:Row):Prop:=ς (λc x=>ϑ c.2 x) cs r.2
theorem ϑ.aH{c:Str}{x y:V}(h:ϑ c x)(g:ϑ c y):aH x y:=by
 obtain rfl|⟨e,i,rfl,_⟩|⟨e,z,rfl,_⟩:=h
 .show .inl rfl
 .obtain rfl|⟨_,j,rfl,_⟩|⟨a,z,rfl,_⟩:=g
  .show .inr (.inl rfl)
  .show .inr (.inr (.inl #[_,_,rfl,rfl]))
  .show absurd e a
 .obtain rfl|⟨a,j,rfl,_⟩|⟨_,z,rfl,_⟩:=g
  .show .inr (.inl rfl)
  .show absurd a e
  .show .inr (.inr (.inr #[_,_,rfl,rfl]))
theorem uY(x:V):before x x=false:=by
 cases x with
 |non=>rfl
 |int i=>show decide_eq_false ()
 |str z=>show decide_eq_false (ap2 _)
 |_=>rfl
theorem QL{f:Str}{x y z:V}(g:ϑ f x)(l:ϑ f y)(hz:ϑ f z)(h1:before x y=true)(h2:before y z=true):before x z=true:=by
 obtain rfl|⟨e,k,rfl,_⟩|⟨e,z,rfl,_⟩:=hz
 .cases y<;>cases h2
 .obtain rfl|⟨_,i,rfl,_⟩|⟨c,z,rfl,_⟩:=g
  .rfl
  .obtain rfl|⟨_,j,rfl,_⟩|⟨c,z,rfl,_⟩:=l
   .cases h1
   .let a:=of_decide_eq_true h1;let b:=of_decide_eq_true h2;show decide_eq_true ()
   .show absurd e c
  .show absurd e c
 .obtain rfl|⟨c,i,rfl,_⟩|⟨_,u,rfl,_⟩:=g
  .rfl
  .show absurd c e
  .obtain rfl|⟨c,j,rfl,_⟩|⟨_,v,rfl,_⟩:=l
   .cases h1
   .show absurd c e
   .show decide_eq_true (aqb (of_decide_eq_true h1) (of_decide_eq_true h2))
theorem su{x y:V}(h:aH x y)(g:scalar x=true)(a:scalar y=true)(c:¬x=y):before y x= !before x y:=by
 cases x with
 |non=>
  cases y with
  |non=>show absurd rfl c
  |int j=>rfl
  |str z=>rfl
  |_=>show absurd a aaA
 |int i=>
  cases y with
  |non=>rfl
  |int j=>
   let l:¬i=j:=λe=>c (by rw[e])
   show decide (j<i)= !decide (i<j);by_cases h1:i<j
   .rw[decide_eq_true h1,decide_eq_false ()];rfl
   .rw[decide_eq_false h1,decide_eq_true ()];rfl
  |str z=>obtain z|z|⟨_,_,_,z⟩|⟨_,_,z,_⟩:=h<;>cases z
  |_=>show absurd a aaA
 |str z=>
  cases y with
  |non=>rfl
  |int j=>obtain z|z|⟨_,_,z,_⟩|⟨_,_,_,z⟩:=h<;>cases z
  |str y=>
   let m:¬z.cps.toList=y.cps.toList:=λe=>c (by rw[fK e])
   show decide (y.cps.toList<z.cps.toList)= !decide (z.cps.toList<y.cps.toList);by_cases h1:z.cps.toList<y.cps.toList
   .rw[decide_eq_true h1,decide_eq_false (List.lt_asymm h1)];rfl
   .let h2:y.cps.toList<z.cps.toList:=by
     by_cases f:y.cps.toList<z.cps.toList
     .show f
     .show absurd (List.le_antisymm (ap0.mp f) (ap0.mp h1)) m
    rw[decide_eq_false h1,decide_eq_true h2];rfl
  |_=>show absurd a aaA
 |_=>show absurd g aaA
def lD(cs:List ξ)(z:Str):Str:=match cs[Υ cs z]? with
 |some c=>c.2
 |none=>Ϫ ""
def cQ(cs:List ξ)(os:List Ord)(xs:List V):Prop:=ς (λ(o:Ord) x=>ϑ (lD cs o.1) x) os xs
theorem yz:∀{os:List Ord}{xs:List V}{n k:Int},xs.length=os.length->aa os xs xs n k=decide (n<k)
 |[],[],n,k,_=>rfl
 |o::os,x::xs,n,k,h=>by
  show(if x=x then aa os xs xs n k else _)=_;rw[if_pos rfl];show yz (by simpa using h)
 |[],_::_,_,_,h=>by simp at h
 |_::_,[],_,_,h=>by simp at h
theorem Yb{cs:List ξ}{n k:Int}:∀{os:List Ord}{xs ys:List V},cQ cs os xs->cQ cs os ys->¬xs=ys->aa os ys xs k n= !aa os xs ys n k
 |[],_,_,a,c,h=>by cases a;cases c;show absurd rfl h
 |o::os,_,_,a,c,h=>by
  cases a with| @cons _ x _ xs a tx=>
  cases c with| @cons _ y _ ys c ty=>
  show(if y=x then aa os ys xs k n else decide (before y x=o.2))= !(if x=y then aa os xs ys n k else decide (before x y=o.2));by_cases e:x=y
  .rw[if_pos e,if_pos e.symm];show Yb tx ty λf=>h (by rw[e,f])
  .rw[if_neg e,if_neg (Ne.symm e),su (a.aH c) a.sc c.sc e];cases before x y<;>cases o.2<;>rfl
theorem qK{cs:List ξ}{n k m:Int}:∀{os:List Ord}{xs ys zs:List V},cQ cs os xs->cQ cs os ys->cQ cs os zs->aa os xs ys n k=true->aa os ys zs k m=true->aa os xs zs n m=true
 |[],_,_,_,i,j,hz,h1,h2=>by
  cases i;cases j;cases hz;let a:=of_decide_eq_true h1;let b:=of_decide_eq_true h2;show decide_eq_true ()
 |o::os,_,_,_,i,j,hz,h1,h2=>by
  cases i with| @cons _ x _ xs i tx=>
  cases j with| @cons _ y _ ys j ty=>
  cases hz with| @cons _ z _ zs hz q=>
  let g:(if x=y then aa os xs ys n k else decide (before x y=o.2))=true:=h1;let f:(if y=z then aa os ys zs k m else decide (before y z=o.2))=true:=h2;show(if x=z then aa os xs zs n m else decide (before x z=o.2))=true;by_cases e1:x=y
  .rw[if_pos e1]at g;subst e1;by_cases l:x=z
   .rw[if_pos l]at f⊢;show qK tx ty q g f
   .rw[if_neg l]at f⊢;show f
  .rw[if_neg e1]at g;by_cases l:y=z
   .subst l;rw[if_neg e1];show g
   .rw[if_neg l]at f;let a:=of_decide_eq_true g;let b:=of_decide_eq_true f;cases ho:o.2 with
    |true=>
     rw[ho]at a b;let c:=QL i j hz a b;let p:¬x=z:=λe=>by rw[e,uY]at c;cases c
     rw[if_neg p];show decide_eq_true c
    |false=>
     rw[ho]at a b;let s:before y x=true:=by rw[su (i.aH j) i.sc j.sc e1,a];rfl
     let u:before z y=true:=by rw[su (j.aH hz) j.sc hz.sc l,b];rfl
     let c:=QL hz j i u s;let p:¬x=z:=λe=>by rw[e,uY]at c;cases c
     rw[if_neg p];let d:=su (i.aH hz) i.sc hz.sc p;rw[c]at d;show decide_eq_true ?_;cases hb:before x z with
     |true=>rw[hb]at d;cases d
     |false=>rfl
theorem b7{cs:List ξ}{r:Row}(h:ό cs r):∀{os:List Ord},aB cs os->cQ cs os (ao cs os r.2)
 |[],_=>.nil
 |o::os,a=>by
  show .cons ?_ (b7 h λx f=>a x (by simp[f]));let#[c,e,_]:=Dr (a o (by simp));let#[v,g,i]:=h.get e;show ϑ (lD cs o.1) (aR cs r.2 o.1);unfold lD aR;rw[e,g];show i
theorem cQ.aH{cs:List ξ}{os:List Ord}{xs ys:List V}(h:cQ cs os xs)(g:cQ cs os ys):xs.length=os.length/\ys.length=os.length/\∀(i:Nat) x y,xs[i]?=some x->ys[i]?=some y->scalar x=true/\scalar y=true/\aH x y:=by
 show#[h.len.symm,g.len.symm,λi x y e1 f=>?_];let#[o,j,c]:=h.get' e1;let#[o',a,e]:=g.get' f;rw[j]at a;cases a;show#[c.sc,e.sc,c.aH e]
def aW(cs:List ξ)(os:List Ord)(r q:Row):Bool:=aa os (ao cs os r.2) (ao cs os q.2) r.1 q.1
def Line(cs:List ξ)(os:List Ord)(rs:List Row):Prop:=rs.Pairwise λr q=>aW cs os r q=true
theorem Kh{α:Type}{p:α->Bool}:∀{l:List α},l.Pairwise (λa b=>p b=true->p a=true)->(∀x∈l.take (l.countP p),p x=true)/\∀x∈l.drop (l.countP p),p x=false
 |[],_=>by simp
 |a::l,h=>by
  let#[h1,h2]:=an0.mp h;let#[g,i]:=Kh h2;cases ha:p a with
  |true=>
   rw[aoV ha];show#[λx c=>by
    rcases aaG.mp (by simpa using c)with e|e
    .rw[e];show ha
    .show g x e,λx c=>i x (by simpa using c)]
  |false=>
   let f:∀x∈l,p x=false:=λx c=>by
    cases hp:p x with
    |false=>rfl
    |true=>have:=h1 x c hp;rw[ha]at this;cases this
   let j:l.countP p=0:=api.mpr λx c=>by rw[f x c];show aaA
   rw[List.countP_cons_of_neg (by rw[ha];show aaA),j];show#[by simp,λx c=>?_];rcases aaG.mp (by simpa using c)with e|e
   .rw[e];show ha
   .show f x e
inductive Ct
 |start
 |fin
 |at_ (ahead:Bool) (xs:List V) (n:Int)
def zU(os:List Ord):Ct->List V->Int->Bool
 |.at_ true ys k,xs,n=>aa os xs ys n k
 |.at_ false ys k,xs,n=> !aa os ys xs k n
 |_,_,_=>false
def iI(cs:List ξ)(os:List Ord)(c:Ct)(r:Row):Bool:=zU os c (ao cs os r.2) r.1
def kO(cs:List ξ)(os:List Ord):Ct->Prop
 |.at_ _ xs _=>cQ cs os xs
 |_=>True
theorem adG{cs:List ξ}{os:List Ord}(f:aB cs os){c:Ct}(g:kO cs os c){r q:Row}(l:ό cs r)(m:ό cs q)(h:aW cs os r q=true)(e:iI cs os c q=true):iI cs os c r=true:=by
 let i:=b7 l f;let j:=b7 m f;cases c with
 |start=>cases e
 |fin=>cases e
 |at_ sd xs n=>
  cases sd with
  |true=>show qK i j g h e
  |false=>
   let a:(!aa os xs (ao cs os q.2) n q.1)=true:=e;show(!aa os xs (ao cs os r.2) n r.1)=true;cases hx:aa os xs (ao cs os r.2) n r.1 with
   |false=>rfl
   |true=>
    rw[qK g i j hx h]at a;cases a
theorem Jo{cs:List ξ}{os:List Ord}(g:aB cs os){c:Ct}(i:kO cs os c):∀{rs:List Row},(∀r∈rs,ό cs r)->Line cs os rs->rs.Pairwise (λa b=>iI cs os c b=true->iI cs os c a=true)
 |[],_,_=>.nil
 |r::rs,f,h=>by
  let#[h1,h2]:=an0.mp h;show .cons (λq e j=>adG g i (f r (by simp)) (f q (by simp[e])) (h1 q e) j) (Jo g i (λq e=>f q (by simp[e])) h2)
def jG:V->List V
 |.non=>[]
 |x=>[x]
def iG(rs:List Row)(q:List Nat):List Row:=q.map λi=>rs.getD i (0,[])
theorem Gs{R:V->Row->Prop}{ws:List V}{rs:List Row}(h:ς R ws rs):∀{q:List Nat},(∀i∈q,i<ws.length)->ς R (cT ws q) (iG rs q)
 |[],_=>.nil
 |i::q,a=>by
  let hi:=a i (by simp);let e:ws[i]?=some (ws[i]'hi):=aab hi;let#[r,c,f]:=h.get e;show ς R (ws.getD i .non::cT ws q) (rs.getD i (0,[])::iG rs q);rw[abA,abA,e,c];show .cons f (Gs h λj g=>a j (by simp[g]))
theorem map_getD{α:Type}(d:α):∀(l:List α),(aeJ l.length).map (λi=>l.getD i d)=l
 |[]=>rfl
 |a::l=>by
  rw[acS,aoZ,adF,agr];show a::_=_
  congr 1
  show map_getD d l
theorem K1{rs:List Row}{lt:Nat->Nat->Bool}{q:List Nat}(h:d7 rs.length lt q):(iG rs q).Perm rs:=by
 have:=h.1.map λi=>rs.getD i (0,[])
 rw[map_getD]at this;show this
theorem ni{rs:List Row}{i:Nat}(h:i<rs.length):rs.getD i (0,[])=rs[i]:=by
 rw[abA,aab h];rfl
theorem RB{f:Str}{x y:V}(g:ϑ f x)(a:ϑ f y):aK (jG x) (jG y)=before x y:=by
 obtain rfl|⟨e,i,rfl,_⟩|⟨e,z,rfl,_⟩:=g
 .obtain rfl|⟨_,j,rfl,_⟩|⟨_,z,rfl,_⟩:=a<;>rfl
 .obtain rfl|⟨_,j,rfl,_⟩|⟨c,z,rfl,_⟩:=a
  .rfl
  .rfl
  .show absurd e c
 .obtain rfl|⟨c,j,rfl,_⟩|⟨_,z,rfl,_⟩:=a
  .rfl
  .show absurd c e
  .rfl
theorem aa7{cs:List ξ}{rs:List Row}{q:List Nat}(l:(rs.map Prod.fst).Nodup)(f:d7 rs.length (iJ false λi j=>decide ((rs.getD i (0,[])).1<(rs.getD j (0,[])).1)) q):Line cs [] (iG rs q):=by
 unfold Line iG;rw[aoL];let g:q.Nodup:=(f.1.nodup_iff).mpr apQ;show(f.2.and g).imp_of_mem λ{i j} hi m h=>?_;let#[h,n]:=h;let a:=lH f hi;let c:=lH f m;show decide ((rs.getD i (0,[])).1<(rs.getD j (0,[])).1)=true;let hd:¬(rs.getD i (0,[])).1=(rs.getD j (0,[])).1:=λe=>by
  rw[ni a,ni c]at e;let o:(rs.map Prod.fst)[i]'(by simpa using a)=(rs.map Prod.fst)[j]'(by simpa using c):=by simpa using e
  show n ((apD l).mp o)
 obtain h|⟨h,_⟩:=h
 .show h
 .let h':decide ((rs.getD j (0,[])).1<(rs.getD i (0,[])).1)=false:=h;have:=of_decide_eq_false h';show decide_eq_true ()
def aV(rs:List Row)(p:Nat)(i:Nat):List V:=jG (((rs.getD i (0,[])).2[p]?).getD .non)
theorem acR{cs:List ξ}{os:List Ord}{o:Ord}{rs:List Row}{q:List Nat}(v:aB cs (o::os))(z:∀r∈rs,ό cs r)(h:Line cs os rs)(p:d7 rs.length (iJ (!o.2) λi j=>aK (aV rs (Υ cs o.1) i) (aV rs (Υ cs o.1) j)) q):Line cs (o::os) (iG rs q):=by
 unfold Line iG;rw[aoL];let s:q.Nodup:=(p.1.nodup_iff).mpr apQ;show(p.2.and s).imp_of_mem λ{i j} hi C f=>?_;let#[f,F]:=f;let a:=lH p hi;let c:=lH p C;let D:rs.getD i (0,[])∈rs:=by rw[ni a];show ahZ a
 let E:rs.getD j (0,[])∈rs:=by rw[ni c];show ahZ c
 let g:ϑ (lD cs o.1) (aR cs (rs.getD i (0,[])).2 o.1):=by
  cases b7 (z _ D) v with|cons h _=>show h
 let l:ϑ (lD cs o.1) (aR cs (rs.getD j (0,[])).2 o.1):=by
  cases b7 (z _ E) v with|cons h _=>show h
 let m:aK (aV rs (Υ cs o.1) i) (aV rs (Υ cs o.1) j)=before (aR cs (rs.getD i (0,[])).2 o.1) (aR cs (rs.getD j (0,[])).2 o.1):=RB g l;let n:aK (aV rs (Υ cs o.1) j) (aV rs (Υ cs o.1) i)=before (aR cs (rs.getD j (0,[])).2 o.1) (aR cs (rs.getD i (0,[])).2 o.1):=RB l g;let an:=su (g.aH l) g.sc l.sc;let old:i<j->aW cs os (rs.getD i (0,[])) (rs.getD j (0,[]))=true:=λu=>by
  rw[ni a,ni c];show anH.mp h i j a c u
 show(if aR cs (rs.getD i (0,[])).2 o.1=aR cs (rs.getD j (0,[])).2 o.1 then aW cs os (rs.getD i (0,[])) (rs.getD j (0,[]))else decide (before (aR cs (rs.getD i (0,[])).2 o.1) (aR cs (rs.getD j (0,[])).2 o.1)=o.2))=true;generalize aR cs (rs.getD i (0,[])).2 o.1=x at g m n an⊢;generalize aR cs (rs.getD j (0,[])).2 o.1=y at l m n an⊢;by_cases e:x=y
 .rw[if_pos e];show old ?_;subst e;obtain h1|⟨_,h1⟩:=f
  .unfold iJ at h1;split at h1
   .let h1:aK (aV rs (Υ cs o.1) j) (aV rs (Υ cs o.1) i)=true:=h1;rw[n,uY]at h1;cases h1
   .let h1:aK (aV rs (Υ cs o.1) i) (aV rs (Υ cs o.1) j)=true:=h1;rw[m,uY]at h1;cases h1
  .show h1
 .rw[if_neg e];let B:=an e;show decide_eq_true ?_;cases hu:o.2 with
  |true=>
   rw[hu]at f;obtain h1|⟨h1,_⟩:=f
   .let h1:aK (aV rs (Υ cs o.1) i) (aV rs (Υ cs o.1) j)=true:=h1;rw[m]at h1;show h1
   .let h1:aK (aV rs (Υ cs o.1) j) (aV rs (Υ cs o.1) i)=false:=h1;rw[n,B]at h1;simpa using h1
  |false=>
   rw[hu]at f;obtain h1|⟨h1,_⟩:=f
   .let h1:aK (aV rs (Υ cs o.1) j) (aV rs (Υ cs o.1) i)=true:=h1;rw[n,B]at h1;simpa using h1
   .let h1:aK (aV rs (Υ cs o.1) i) (aV rs (Υ cs o.1) j)=false:=h1;rw[m]at h1;show h1
theorem aiM{cs:List ξ}{o:Ord}{rs:List Row}(j:∃c∈cs,c.1=o.1)(l:∀r∈rs,ό cs r):oN (aV rs (Υ cs o.1)):=by
 let a:∀i,ϑ (lD cs o.1) (((rs.getD i (0,[])).2[Υ cs o.1]?).getD .non):=λi=>by
  by_cases hi:i<rs.length
  .let m:rs.getD i (0,[])∈rs:=by rw[ni hi];show ahZ hi
   cases b7 (os:=[o]) (l _ m) (λp q=>by cases abx.mp q;show j)with|cons h _=>show h
  .let e:rs.getD i (0,[])=(0,[]):=by rw[abA,aof ()];rfl
   rw[e];show .inl rfl
 show#[λi=>?_,?_]
 .show lA (jG _);obtain e|⟨_,n,e,_⟩|⟨_,z,e,_⟩:=a i<;>rw[e]
  .show .inl rfl
  .show .inr #[_,rfl]
  .show .inr #[_,rfl]
 .by_cases g:lD cs o.1="number"
  .show .inl λi x h=>?_
   let h:jG (((rs.getD i (0,[])).2[Υ cs o.1]?).getD .non)=[x]:=h;obtain e|⟨_,n,e,_⟩|⟨f,z,e,_⟩:=a i
   .rw[e]at h;cases h
   .rw[e]at h;cases h;show#[n,rfl]
   .show absurd g f
  .show .inr λi x h=>?_
   let h:jG (((rs.getD i (0,[])).2[Υ cs o.1]?).getD .non)=[x]:=h;obtain e|⟨f,n,e,_⟩|⟨_,z,e,_⟩:=a i
   .rw[e]at h;cases h
   .show absurd f g
   .rw[e]at h;cases h;show#[z,rfl]
inductive Pr (K:ϩ) (vs:List V) (H:Hp) (Q:VK) (E:XK):Prop
 |mk (t:δ) (n:Int) (x:V):vs=[.ref t]->H t=some (.tup [.int n,x])->Q (.int n) H->Pr K vs H Q E
theorem Fd(T:Txt K mg):Def P w K mg base true 1 "number_of" ["told"] (Pr K):=by
 show Γ (N:=["told"]) T.Fd (λ_ _ _ _ _ H vs Q E c h=>?_);intro X _;let#[t,n,x,rfl,a,q]:=h;f_len;show ω ?_;lk;show Χ (ρ.of a) (show Ω [V.int n,x] 0=some (V.int n)from rfl) ?_;show q
inductive PB (K:ϩ) (vs:List V) (H:Hp) (Q:VK) (E:XK):Prop
 |mk (x:V):vs=[x]->(∀p H',ζ H H'->H p=none->H' p=some (.tup (jG x))->Q (.ref p) H')->PB K vs H Q E
theorem GF(T:Txt K mg):Def P w K mg base true 1 "rank_of" ["value"] (PB K):=by
 show Γ (N:=["value"]) T.GF (λ_ _ _ _ _ H vs Q E c h=>?_);intro X _;let#[x,rfl,q]:=h;let hsz:=ϱ;f_len;show ω ?_;lk;show Ζ (λe=>?_) (λe=>?_)
 .lk;show#[Δ,λp a=>?_];subst e;show q p _ (ζ.upd a) a υ
 .lk;show#[Δ,λp a=>?_];let ex:jG x=[x]:=by
   cases x with
   |non=>show absurd rfl e
   |_=>rfl
  show q p _ (ζ.upd a) a (by rw[ex];show υ)
inductive Gb (K:ϩ) (vs:List V) (H:Hp) (Q:VK) (E:XK):Prop
 |mk (p:δ) (i:Nat) (up:Bool) (ws:List V) (rs:List Row):vs=[.ref p,.int i,.bl up]->H p=some (.lst ws)->ς (cC H) ws rs->rs.length<64->(∀r∈rs,i<r.2.length)->oN (aV rs i)->H (bx K "sorted_by")=some (.tbl gR)->(∀q pl H',ζ H H'->H pl=none->d7 rs.length (iJ (!up) λa b=>aK (aV rs i a) (aV rs i b)) q->H' pl=some (.lst (cT ws q))->Q (.ref pl) H')->Gb K vs H Q E
theorem Dj(T:Txt K mg)(O:cX K mg base "sorted_by"):Def P w K mg base true 6 "sorted_by" ["rows","place","up"] (Gb K):=by
 show ajL T.Dj O Nb (λ_ _ _ _ _ _ us R=>by let#[_,_,_,rfl]:=T9 R;rfl) (λvs H Q E h=>by let#[p,i,up,ws,rs,rfl,_]:=h;rfl) (λf A outer s H vs Q E S h=>?_);let#[p,i,up,ws,rs,rfl,hp,D,h64,F,M,hP,q]:=h;let nd:=Nb.nd;let n1:=T.tL;let G:=D.len;let hsz:=ϱ;w_up;show aax (c:=gK K "sorted_by") (P:=bx K "sorted_by") (ps:=gR) (j:=3) (qual:="sorted_by.<locals>.rank") (clos:=[("place",s.heap.objs.size+1)]) nd (by rfl) (by rfl) (by rfl) O.code O.bm (by rfl) hP (aj4 _ _) (by change (Ϫ "sorted_by"++Ϫ ".<locals>.")++Ϫ "rank"=_;fin2) (by rfl) (by rfl) (by rfl) ?_;intro C c' oc doc pm ctv vs t' H1 m hfr U n Y hq;let#[u1,n]:=n;let hK:∀(X:Cx)(σ:_L.St),X=gq true P w K mg base Q4 "sorted_by" (ψ xX) f (.ref (gK K "sorted_by")) A outer s H E->σ=[some (.ref p),some (.int i),some (.bl up),some (.ref C)]->rR X σ (.ref C) ws H1 (Jm (aV rs i)):=by
  intro X σ eX Z;subst eX;subst Z;show#[λk v H2 H3 sm h=>?_,λk x u ϵ o H2 hx ru sm I=>?_]
  .let#[a,e,h]:=h;show#[a,e,sm _ _ h]
  .let#[r,B,t,l,rfl,ht,R]:=D.get hx;let hkl:=(aap.mp B).1;let J:=F r (aaq B);let aU:=m.trans sm;show ajw (j:=1) (v:=.ref t) (z:=.int i) (x:="told") (y:="place") I (sm _ _ U) (sm _ _ n) Y hq S.in1.in1.depth (λ_ _ _ _ _=>rfl) (by rfl) (by rfl) (by rfl) (by rfl) (by rfl) (by fin2) (λa ha=>?_) (by rfl) (by rfl) (by rfl) (by rfl) ru ?_
   .let h:=PySem.mem_of_lookup ha;change (a,NameKind.free)∈[(Ϫ "told",NameKind.local),(Ϫ "place",NameKind.free),(Ϫ "rank_of",NameKind.globalImplicit)]at h;obtain e|h:=aaG.mp h
    .cases e
    .obtain e|h:=aaG.mp h
     .show congrArg Prod.fst e
     .cases abx.mp h
   .let D1:= @GF P w K mg base T;let hr':=((S.in1).in1).deeper (W.envX "sorted_by.<locals>.rank" (ψ (acy (aA xX) 0)) o.heap.objs.size C (.ref c') [("place",s.heap.objs.size+1)]);f_len;show ω ?_;lk;show Χ (ρ.of (aU _ _ ht)) (show Ω [V.int r.1,V.ref l] 1=some (V.ref l)from rfl) ?_;lk;show ϡ (η.of (aU _ _ R)) (aY (aab J)) ?_;lk;show#[_,rfl,λa H3 s3 ha h3=>?_];show#[s3,a,rfl,?_];rw[h3];unfold aV;rw[abA,B];show _=some (HO.tup (jG ((r.2[i]?).getD .non)));rw[aab J];rfl
 let hu:=S.in1.in1.units0;change Ρ _ _ _ [some (.ref p),some (.int i),some (.bl up),some (.ref C)] H1;w_up;show Κ ?_;lk;cases up with
 |true=>
  walk_at"t";f_len;show ω ?_;show R6 n1 ?_;lk;show#[p,C,ws,_,_,rfl,rfl,η.of (m _ _ hp),(),MK M,hK _ _ rfl rfl,V5 hu M,λpl H2 qq o g L=>?_];rw[G]at L;show q qq pl _ ((m.trans o).trans (ζ.upd g)) ((m.trans o).free g) L υ
 |false=>
  walk_at"t";show Ε ?_;f_len;show ω ?_;show ac6 (b:=true) (by rfl) n1 (by rfl) ?_;lk;show#[rfl,p,C,ws,_,_,rfl,rfl,η.of (m _ _ hp),(),MK M,hK _ _ rfl rfl,V5 hu M,λpl H2 qq o g L=>?_];rw[G]at L;show q qq pl _ ((m.trans o).trans (ζ.upd g)) ((m.trans o).free g) L υ
def fu(q:δ)(H H':Hp)(v:V)(r:Row):=∃t l,v=.ref t/\H t=none/\H l=none/\l≠q/\H' t=some (.tup [.int r.1,.ref l])/\H' l=some (.lst r.2)
theorem fu.row{q:δ}{H H':Hp}{v:V}{r:Row}(h:fu q H H' v r):cC H' v r:=by
 let#[t,l,e,_,_,_,h1,h2]:=h;show#[t,l,e,h1,h2]
theorem fu.same{q:δ}{H H' H2:Hp}{v:V}{r:Row}(h:fu q H H' v r)(s:ζ H' H2):fu q H H2 v r:=by
 let#[t,l,e,a,b,c,h1,h2]:=h;show#[t,l,e,a,b,c,s _ _ h1,s _ _ h2]
theorem fu.turn{q f:δ}{H H':Hp}{v:V}{r:Row}(h:fu q H H' v r)(g:H' f=none):fu f H H' v r:=by
 let#[t,l,e,a,b,c,h1,h2]:=h;show#[t,l,e,a,b,(λz=>by rw[z,g]at h2;cases h2),h1,h2]
inductive Cw (K:ϩ) (vs:List V) (H:Hp) (Q:VK) (E:XK):Prop
 |mk (c b p:δ) (cs:List ξ) (os:List Ord) (rs:List Row):vs=[.ref c,.ref b,.ref p]->ϝ H c cs->bu H b os->dR H p rs->cs.length<=6->os.length<=6->aB cs os->rs.length<64->(∀r∈rs,ό cs r)->(rs.map Prod.fst).Nodup->H (bx K "sorted_by")=some (.tbl gR)->(∀q ws ls H',ζ H H'->H q=none->H' q=some (.lst ws)->ς (fu q H H') ws ls->Line cs os ls->ls.Perm rs->Q (.ref q) H')->Cw K vs H Q E
theorem Hy(T:Txt K mg)(hN:cX K mg base "sorted_by"):Def P w K mg base true 8 "line_of" ["columns","order","rows"] (Cw K):=by
 show Γ (S:=Qk) T.Hy (λf Ϻ A outer s H vs Q E g h=>?_);let#[c,b,p,cs,os,rs,rfl,hC,#[ov,hb,Y],#[ws,hp,Z],hc6,mK,ϻ,h64,ab,ag,hP,q]:=h;let nd:=Qk.nd;let n1:=T.tL;let n2:=T.VN;let n3:=T.j9;let hwl:=Z.len;let ah:=Y.len;let hsz:=ϱ;let bK:(["row","values"]:List Str).Nodup:=by fin2
 let D1:= @Fd P w K mg base T;let D2:= @nA P w K mg base T;let D3:Def P w K mg base true 6 "sorted_by" ["rows","place","up"] (Gb K):=Dj T hN;w_up;f_tup;show R6 n1 ?_;show lN ["row","values"] (σ':=[none,none]) (cz (ψ xW)) ?_;lk;show#[p,ws,rfl,η.of hp,(),λτ=>∃o1 o2,τ=[o1,o2],λE2 k u H'=>∃r,rs[k]?=some r/\fu E2 H H' u r,#[none,none,rfl],λE2 k u H2 H3 ys hE J p=>?_,λfp E2 C s3 H0 k τ x H4 H5 aP hi ai Τ O hG=>?_,λq0 H2 us hq0 m am e2 s2=>?_]
 .let#[r,g,t,l,e,h1,h2,h3,h4,h5]:=p;show#[r,g,t,l,e,h1,h2,h3,J _ _ (λz=>by rw[z,hE]at h4;cases h4) h4,J _ _ h3 h5]
 .let#[o1,o2,rfl]:=ai;let#[bB,rfl]:=hG;let#[r,g,t,l,rfl,ht,hl]:=Z.get bB;let#[ys,O]:=O;show aj (ρ.of (Τ _ _ ht)) (Θ (Β bK (by rfl) (.inl rfl) (.inr rfl) (Θ (Β bK (by rfl) (.inl rfl) (.inr rfl) (az ?_)))));lk;show jf (.inl (η.of (Τ _ _ hl))) λa m=>?_
  let#[F,e5]:=ϋ m (.lst r.2);let nl:a≠E2:=λe=>by rw[e,O]at m;cases m
  generalize upd H4 a (.lst r.2)=H5 at F e5⊢;lk;show#[Δ,λt2 aO=>?_];let s6:ζ H5 (upd H5 t2 (.tup [.int r.1,.ref a])):=ζ.upd aO;show#[#[_,_,rfl],#[r,g,t2,a,rfl,(Τ.trans F).free aO,Τ.free m,nl,υ,s6 _ _ e5],F.trans s6]
 let R:ς (fu q0 H H2) us rs:=mQ () λk r g=>by
  let J:k<us.length:=by have:=(aap.mp g).1;omega
  let#[r',ac,hn]:=am k _ (aab J);rw[g]at ac;cases ac;show#[_,aab J,hn]
 let nR:=R.len;let#[fa,ar,yp]:=ac0 (σ:=[some (.ref c),some (.ref b),some (.ref p),none,none,none]) (X:=gq true P w K mg base Wn "line_of" (ψ xW) f Ϻ A outer s H E) (H:=H2) (xs:=us) (KV:=Yg λi=>(rs.getD i (0,[])).1) D1 (g.mono (show 1+2<=7 by decide)) (λi v H H' _ h=>h) (λi x H' hx sm=>by
  let#[r,g,t,l,rfl,_,_,_,ht,hl]:=R.get hx;show#[t,r.1,.ref l,rfl,sm _ _ ht,ζ.refl _,?_];show V.int r.1=V.int (rs.getD i (0,[])).1;rw[abA,g];rfl)
 show adP ar (by rfl) (by decide) ?_;show#[q0,fa,us,_,_,rfl,rfl,η.of e2,(),agC,yp,aat,λp1 H3 n s3 G L=>?_];rw[nR]at L;let j:ς (fu p1 H (upd H3 p1 (.lst (cT us n)))) (cT us n) (iG rs n):=(Gs R λi hi=>by rw[nR];show lH L hi).imp λu r z=>((z.same s3).turn G).same (ζ.upd G)
 let y:=aa7 (cs:=cs) ag L;let B:=K1 L;let c7:ζ H (upd H3 p1 (.lst (cT us n))):=(s2.trans s3).trans (ζ.upd G);let av:H p1=none:=(s2.trans s3).free G;let pN:(upd H3 p1 (.lst (cT us n))) p1=some (.lst (cT us n)):=υ;generalize upd H3 p1 (.lst (cT us n))=H4 at j c7 pN⊢;generalize cT us n=w1 at j pN;generalize iG rs n=l1 at j y B;w_up;show Oz (by walk_at"po") (by rfl) (by rfl) n2 (by rfl) ?_;lk;show#[b,ov,rfl,η.of (c7 _ _ hb),λi σ H'=>(∃o4 o5 M U a,σ=[some (.ref c),some (.ref b),some (.ref p),some (.ref M),o4,o5]/\ζ H H'/\H M=none/\H' M=some (.lst U)/\ς (fu M H H') U a/\Line cs (os.drop (os.length-i)) a/\a.Perm rs),?_,λi σ' H' _ D=>?_,λi x σ' H' hi hx D=>?_,λσ' H' D=>?_]
 .show#[none,none,p1,w1,l1,rfl,c7,av,pN,j,?_,B];rw[aoe,anM];show y
 .let#[_,_,_,_,_,_,sm,_]:=D;show η.of (sm _ _ hb)
 .let#[o4,o5,M,U,a,rfl,sm,ae,Br,hA,hL,bV]:=D;let#[o,ho,t,rfl,ht]:=Y.get hx;let I:=ϻ o (aaq ho);let hlt:=qd I;let m:a.length=rs.length:=bV.length_eq;let aw:=hA.len;let Bl:∀r∈a,ό cs r:=λr g=>ab r (bV.mem_iff.mp g)
  show aj (ρ.of (sm _ _ ht)) (Θ (Β nd (by rfl) (.inl rfl) (.inl rfl) (Θ (Β nd (by rfl) (.inl rfl) (.inl rfl) (az ?_)))));f_len;f_tup;lk;show#[c,cs,o.1,rfl,hC.same sm,λH5 F=>?_];rw[qP 0 I,anS];lk;show#[M,Υ cs o.1,o.2,U,a,rfl,F _ _ Br,hA.imp λu r z=>(z.same F).row,(),λr g=>by have:=(Bl r g).len;omega,aiM I Bl,F _ _ (sm _ _ hP),λn pl H6 s6 af L ax=>?_];let Bj:=(sm.trans F).trans s6;let ay:H pl=none:=(sm.trans F).free af;show#[_,_,pl,cT U n,iG a n,rfl,Bj,ay,ax,(Gs hA λi hi=>by rw[aw];show lH L hi).imp λu r z=>?_,?_,(K1 L).trans bV]
  .show((z.same F).turn af).same s6
  .let W:os.drop (os.length-(i+1))=o::os.drop (os.length-i):=by
    let J:os.length-(i+1)<os.length:=()
    rw[show ov.length-1-i=os.length-(i+1)by omega]at ho;rw[afy J];let e1:=aab J;rw[ho]at e1;cases e1;rw[show os.length-(i+1)+1=os.length-i by omega]
   rw[W];show acR (λo' aC=>by
    obtain rfl|h:=aaG.mp aC
    .show I
    .show ϻ _ (af0 h)) Bl hL L
 .let#[o4,o5,M,U,a,rfl,sm,ae,Br,hA,hL,bV]:=D;f_len;show ω ?_;lk;rw[ah,ao8,amm]at hL;show q M U a H' sm ae Br hA hL bV
def dN(B:Bk)(row:Int)(o:Option (List V)):Bk:=
 {B with rows:=(match o with|none=>cD B.rows row|some xs=>aZ B.rows row xs),touched:=(match o with|none=>cD B.touched row|some _=>aZ B.touched row (B.now+1)),
         done:=B.done++[#[B.now+1,row,Η B.rows row,o]],now:=B.now+1}
def uf(B:Bk):Prop:=B.rows.length<1000000/\B.touched.length<1000000/\B.done.length<1000000
def nQ(B:Bk):=∀i,Η B.rows i=none↔ Η B.touched i=none
abbrev cB(mg:Str->Option ε):δ:=θ mg "Book"
inductive lg (mg:Str->Option ε) (vs:List V) (H:Hp) (Q:VK) (E:XK):Prop
 |mk (A:BA) (B:Bk) (row:Int) (v:V) (o:Option (List V)):vs=[.ref A.b,.int row,v]->Ν (cB mg) H A B->jX H v o->(o=none->Η B.rows row≠none/\ Η B.touched row≠none)->uf B->(∀H',Out A.fp H H'->Ν (cB mg) H' A (dN B row o)->Q (.int (B.now+1)) H')->lg mg vs H Q E
theorem BV(T:Txt K mg):FD P w K mg base true 1 "do" "Book.do" uW ["self","row","values"] (lg mg):=by
 show aN (S:=N7) (λf Ϻ A' outer s H vs Q E hr h=>?_);intro X _;let#[A,B,row,v,o,rfl,m,U,W,#[z1,z2,z3],q]:=h;let nd:=N7.nd;let hsz:=ϱ;let g:=T.Ϝ;let Y:=T.tU;let a2:=T.Ks;let a3:=T.w6;let J:=T.vg;let Z:_+1<cLine:=afN (ajd (by decide:1<=64) _) hr.units;let kR:=m.rows;let#[Ϸ,er,hR]:=id kR;let#[tvs,et,hT]:=m.touched;let#[ds,ed,hD]:=m.done;let kI:=m.ins;w_up;f_tup;show Zi Z (by constructor<;>rfl) ?_;show Ϥ ?_;f_are;show#[A.b,_,_,_,_,rfl,kI,g,Y,rfl,A.r,rfl,.inl #[_,.inl er],?_];f_are;show#[_,aG.k (k:=Sum.inl row) er,?_];let hw:jX H ((au Ϸ (Sum.inl row)).getD .non) (Η B.rows row):=by
  obtain⟨e1,i⟩|⟨u,x,e1,i,r⟩:=iw hR row
  .rw[e1,i];rfl
  .rw[e1,i];show r
 generalize(au Ϸ (Sum.inl row)).getD .non=L at hw⊢;w_up;show Yj ?_;f_are;show#[A.b,_,_,_,_,rfl,kI,g,J,rfl,?_];f_are;show#[_,_,rfl,rfl,_,_,kI,by show 6<1000;decide,?_];let k1:=m.Hr B.known (B.now+1);let M:Out A.fp H _:=Out.upd (H:=H) (a:=A.b) (o:=.ins (cB mg) A.dx [("heads",.ref A.h),("rows",.ref A.r),("touched",.ref A.t),("done",.ref A.d),("known",.int B.known),("now",.int (B.now+1))]) (by simp[BA.fp]);change Ρ _ _ _ _ (upd H A.b (.ins (cB mg) A.dx [("heads",.ref A.h),("rows",.ref A.r),("touched",.ref A.t),("done",.ref A.d),("known",.int B.known),("now",.int (B.now+1))]));generalize upd H A.b _=H1 at k1 M⊢;let kh:=k1.ins;let fin:∀(H2:Hp)(n:Bk),Out A.fp H H2->Ν (cB mg) H2 A n->n={dN B row o with done:=B.done}->Ρ X ((aA uW).drop 3) {nx:=λ_ H'=>Q .non H',rt:=Q} [some (.ref A.b),some (.int row),some v,some L] H2:=by
  intro H2 n j k2 i;let p:n.now=B.now+1/\n.done=B.done:=by rw[i];show#[rfl,rfl]
  let l:=k2.ins;let#[pF,KR,y]:=k2.done;let st:=m.tup j;let ab:=hw.stay st;let Ff:=U.stay st;let ac:=y.len;rw[p.2]at ac y;rw[p.1]at l;w_up;show aM (dF F.plainAttrs_list F.slot_list_append F.type_list_append (h:=?_));show Ϥ ?_;f_are;show#[A.b,_,_,_,_,rfl,l,g,a3,rfl,.inl #[rfl,_,η.of KR],?_];cbv;show Ϥ ?_;f_are;show#[A.b,_,_,_,_,rfl,l,g,J,rfl,?_];cbv;show#[Δ,λt ht=>?_];let#[z,C]:=ϋ ht (.tup [.int (B.now+1),.int row,L,v]);generalize upd H2 t (.tup [.int (B.now+1),.int row,L,v])=D at z C⊢;let k3:=k2.same z;cbv;show je Ep #[A.d,_,_,rfl,rfl,z _ _ KR,(),?_];let tR:ς (jr D) (pF++[V.ref t]) (B.done++[#[B.now+1,row,Η B.rows row,o]]):=ς.app (ς.imp (λv d h=>h.stay λb ys e=>z _ _ e) y) (.cons #[t,L,v,rfl,C,ab.stay λb ys e=>z _ _ e,Ff.stay λb ys e=>z _ _ e] .nil);let k4:=k3.aeg tR;let o4:Out A.fp H _:=(j.trans (Out.of z)).trans (Out.upd (H:=D) (a:=A.d) (o:=.lst (pF++[V.ref t])) (by simp[BA.fp]));generalize upd D A.d _=H4 at k4 o4⊢;let ae:=k4.ins;f_len;show ω ?_;show Ϥ ?_;f_are;show#[A.b,_,_,_,_,rfl,ae,g,J,rfl,?_];let e4:{n with done:=B.done++[#[B.now+1,row,Η B.rows row,o]]}=dN B row o:=by rw[i];rfl
  rw[e4]at k4;have:=q H4 o4 k4;show Q (.int n.now) H4;rw[p.1];show this
 let#[O,mR,R]:=k1.rows;let#[ak1,et1,af]:=k1.touched;let ag:=R.len;let htl:=af.len;let z1':O.length<1000000:=by rw[ag];show z1
 cases o with
 |none=>
  let ah:v=.non:=U;subst ah;let#[g1,g2]:=W rfl;w_up;cbv;show yx ?_;show Ϥ ?_;f_are;obtain⟨_,i⟩|⟨u,x,e1,_,_⟩:=iw R row
  .show absurd i g1
  show#[A.b,_,_,_,_,rfl,kh,g,Y,rfl,A.r,rfl,.inl #[_,.inl mR],?_];f_are;show#[O,Sum.inl row,u,mR,rfl,e1,?_];let k2:=k1.rG (wk R row);let j:Out A.fp H _:=M.trans (Out.upd (H:=H1) (a:=A.r) (o:=.dK (fX O (Sum.inl row))) (by simp[BA.fp]));generalize upd H1 A.r _=H2 at k2 j⊢;let l:=k2.ins;let#[G,C,c]:=k2.touched;f_len;show aM (yx ?_);show Ϥ ?_;f_are;obtain⟨_,i⟩|⟨u2,x2,e3,_,_⟩:=iw c row
  .show absurd i g2
  show#[A.b,_,_,_,_,rfl,l,g,a2,rfl,A.t,rfl,.inl #[_,.inl C],?_];f_are;show#[G,Sum.inl row,u2,C,rfl,e3,?_];let k3:=k2.JM (wk c row);let I:Out A.fp H _:=j.trans (Out.upd (H:=H2) (a:=A.t) (o:=.dK (fX G (Sum.inl row))) (by simp[BA.fp]));generalize upd H2 A.t _=D at k3 I⊢;show fin D _ I k3 rfl
 |some xs=>
  let#[t,rfl,ht]:=id U;w_up;cbv;show wN Z ?_;f_are;show Ϥ ?_;f_are;show#[A.b,_,_,_,_,rfl,kh,g,Y,rfl,?_];f_are;show#[A.r,_,rfl,iz.k (k:=Sum.inl row) mR (),?_];let k2:=k1.rG (vh R row (v:=.ref t) (x:=xs) #[t,rfl,m.tup M _ _ ht]);let j:Out A.fp H _:=M.trans (Out.upd (H:=H1) (a:=A.r) (o:=.dK (putK O (Sum.inl row) (.ref t))) (by simp[BA.fp]));generalize upd H1 A.r _=H2 at k2 j⊢;let l:=k2.ins;let#[G,C,c]:=k2.touched;let z2':G.length<1000000:=by rw[c.len];show z2
  f_len;show wN Z ?_;show Ϥ ?_;f_are;show#[A.b,_,_,_,_,rfl,l,g,J,rfl,?_];show Ϥ ?_;f_are;show#[A.b,_,_,_,_,rfl,l,g,a2,rfl,?_];f_are;show#[A.t,_,rfl,iz.k (k:=Sum.inl row) C (),?_];let k3:=k2.JM (vh c row (v:=.int (B.now+1)) (x:=B.now+1) rfl);let I:Out A.fp H _:=j.trans (Out.upd (H:=H2) (a:=A.t) (o:=.dK (putK G (Sum.inl row) (.int (B.now+1)))) (by simp[BA.fp]));generalize upd H2 A.t _=D at k3 I⊢;show fin D _ I k3 rfl
theorem rQ(T:Txt K mg):Def P w K mg base true 1 "is_whole" ["value"] Q0:=by
 show Γ (N:=["value"]) T.rQ (λ_ _ _ _ _ H vs Q E a h=>?_);intro X _;let#[v,rfl,hs,q]:=h;let n1:=T.vC;let n2:=T.JT;let c:=T.agS;f_len;show ω ?_;cases v with
 |non=>
  cbv;show q
 |int i=>
  cbv;show q
 |str z=>
  cbv;show q
 |_=>cases hs
theorem Ik(T:Txt K mg):Def P w K mg base true 2 "is_number_value" ["value"] Kg:=by
 show Γ (N:=["value"]) T.Ik (λ_ _ _ _ _ H vs Q E a h=>?_);intro X _;let#[v,rfl,hs,q]:=h;let c:=T.Vh;let f:= @rQ P w K mg base T;f_len;show ω ?_;cbv;show#[v,rfl,hs,?_];cbv;cases v with
 |int i=>
  show iu (λ_=>?_) (λh=>by cases h);cbv;show Ζ (λh=>?_) (λh=>?_)
  .cbv;let e:isNum (.int i)=decide (i<=1000000000000000000):=by unfold isNum;simp[h]
   rw[e]at q;show q
  .let e:isNum (.int i)=false:=by unfold isNum;simp[h]
   rw[e]at q;show q
 |non=>show iu (λh=>by cases h) (λ_=>q)
 |str z=>show iu (λh=>by cases h) (λ_=>q)
 |_=>cases hs
theorem Cr(T:Txt K mg):Def P w K mg base true 3 "is_value" ["kind","value"] PQ:=by
 show Γ (N:=["kind","value"]) T.Cr (λ_ _ _ _ _ H vs Q E f h=>?_);intro X _;let#[k,v,rfl,hs,hz,q]:=h;let g:=T.Hk;let i:= @Ik P w K mg base T;let j:= @vP P w K mg base T;w_up;cbv;show Ζ (λh=>?_) (λh=>?_)
 .subst h;cbv;show q H (ζ.refl _)
 .cbv;let a:isVal k v=if k="number" then isNum v else gM v:=by cases v<;>first|rfl|show absurd rfl h
  show Ζ (λh2=>?_) (λh2=>?_)
  .let c:k="number":=by cases h2;rfl
   rw[if_pos c]at a;rw[a]at q;cbv;show#[v,rfl,hs,q H (ζ.refl _)]
  .let c:¬k="number":=λe=>h2 (by rw[e])
   rw[if_neg c]at a;rw[a]at q;cbv;show#[v,rfl,hs,hz,q]
theorem zX(T:Txt K mg):Def P w K mg base true 2 "is_name" ["name"] Qc:=by
 show Γ (N:=["name"]) T.zX (λ_ _ _ _ _ H vs Q E a h=>?_);intro X _;let#[z,rfl,hz,q]:=h;let n1:=T.bN;let c:=T.aiW;let e:=T.ZJ;let hsz:=ϱ;let f:= @rZ P w K mg base T;f_len;show ω ?_;cbv;unfold isName at q;show Ζ (λh=>?_) (λh=>?_)
 .cbv;show Ζ (λh2=>?_) (λh2=>?_)
  .cbv;rw[decide_eq_true (show 1<=z.length/\z.length<=8 by omega)]at q;show#[z,_,rfl,hz,q]
  .rw[decide_eq_false (show ¬(1<=z.length/\z.length<=8)by omega)]at q;show q H (ζ.refl _)
 .rw[decide_eq_false (show ¬(1<=z.length/\z.length<=8)by omega)]at q;cbv;show q H (ζ.refl _)
theorem afU(k a b:Str):gJ (.str k) [.str a,.str b]=decide (k=a\/k=b):=by
 let e:∀a:Str,(a==k)=decide (k=a):=λa=>by rw[ahB,beq_iff_eq,decide_eq_true_iff];show eq_comm
 show((a==k)||((b==k)||false))=_;rw[e,e,aoQ,ap3]
theorem DN(T:Txt K mg):Def P w K mg base true 3 "ask_columns" ["columns"] (wQ (.ref (θ mg "NoColumns"))):=by
 show Γ (S:=UG) T.DN (λ_ _ _ _ _ H vs Q E hr h=>?_);intro X _;let#[a,cs,rfl,#[vs,D,f],Y,F,q]:=h;let n1:=T.bN;let n2:=T.Oa;let g1:=T.agE;let g2:=T.Hk;let g3:=T.Qy;let nd:=UG.nd;let hsz:=ϱ;let sa:η K H a vs:=.inl (.inl D);let Z:=f.len;let D1:= @zX P w K mg base T;let M:(["name","kind"]:List Str).Nodup:=by fin2
 let hok:ώ cs=true:=by
  cases e:ώ cs with
  |true=>rfl
  |false=>
   have:=q H (ζ.refl _);rw[e]at this;show this.elim
 rw[hok]at q;unfold ώ at hok;rw[aaW,aaW,decide_eq_true_eq,acN,decide_eq_true_eq]at hok;let#[#[hl6,n],ZM]:=hok;w_up;cbv;show Ζ (λh1=>?_) (λh1=>absurd h1 ());cbv;show dJ (λh2=>absurd h2 ()) (λh2=>?_);show Ε ?_;w_up;show wG (by walk_at"po") (by rfl) (by intro _;rfl) ?_;cbv;show#[a,vs,rfl,sa,λi σ H'=>(∃l m G,σ=[some (.ref a),l,m,G])/\ζ H H',#[#[none,none,none,rfl],ζ.refl _],λi σ H' hi s=>.inl (.inl (s.2 _ _ D)),λi x σ H' v s=>?_,λσ H' s=>?_]
 .let#[#[l,m,G,rfl],sm]:=s;let#[c,I,t,rfl,J]:=f.get v;let y:=aaq I;let Y5:=F c y;let g:=n c y;rw[aaW]at g;show aj (ρ.of (sm _ _ J)) (Θ (Β nd (by rfl) (.inl rfl) (.inl rfl) (Θ (Β nd (by rfl) (.inl rfl) (.inl rfl) (az ?_)))));w_up;cbv;show#[c.1,rfl,Y5.1,λH2 z =>?_];rw[g.1];cbv;let j:=sm.trans z;show#[Δ,λp hp=>?_];let Τ :=j.trans (ζ.upd (o:=.tup [.str "number",.str "text"]) hp);show K6 (ρ.of υ) ?_;rw[show gJ (.str c.2) [.str "number",.str "text"]=pA c.2 from afU _ _ _,g.2];cbv;show#[#[_,_,_,rfl],Τ]
 .let#[#[l,m,G,rfl],sm]:=s;w_up;show uB ["name","kind"] (σ':=[none,none]) (cz (ψ zP)) nd ?_;cbv;show#[a,vs,rfl,.inl (.inl (sm _ _ D)),(),λO=>∃l m,O=[l,m],λE' i u H'=>∃c,cs[i]?=some c/\u=.str c.1,#[none,none,rfl],λE' i u H2 H3 ys _ _ p=>p,λfp E' C s3 H0 i O x H2 H3 hE hi L z hys hG=>?_,λE' H2 ys hE hl v R z =>?_]
  .let#[l,m,rfl]:=L;let#[v,rfl]:=hG;let#[c,I,t,rfl,J]:=f.get v;show aj (ρ.of (z _ _ (sm _ _ J))) (Θ (Β M (by rfl) (.inl rfl) (.inr rfl) (Θ (Β M (by rfl) (.inl rfl) (.inr rfl) (az ?_)))));cbv;show#[#[_,_,rfl],#[c,I,rfl],ζ.refl _]
  .let ey:=jx (ys:=cs) (λc=>V.str c.1) (by rw[hl,Z]) v;let jw:ys=(cs.map Prod.fst).map V.str:=by rw[ey,agr];rfl
   subst jw;let B:(cs.map Prod.fst).length<=4000:=by simp;omega
   let j:=sm.trans z;f_len;cbv;show Ol (by rfl) (η.of R) B λS U=>?_
   cbv;show Mr υ B ?_;cbv;show Fy (.inl (η.of ((ζ.upd U) _ _ R))) ?_;cbv;show dJ (λW=>(W ?_).elim) (λW=>?_)
   .rw[(Hg _ (cs.map Prod.fst) rfl).mpr ZM];simp
   .show Ε (q _ (j.trans (ζ.upd U)))
theorem Dk(T:Txt K mg):Def P w K mg base true 2 "is_row_number" ["row"] QD:=by
 show Γ (N:=["row"]) T.Dk (λ_ _ _ _ _ H vs Q E c h=>?_);intro X _;let#[v,rfl,a,q]:=h;let e:=T.Oe;let f:= @rQ P w K mg base T;f_len;show ω ?_;cbv;show#[v,rfl,a,?_];cases v with
 |int i=>
  change Q (.bl (decide (0<=i/\i<=1000000000))) H at q;rw[show pq (V.int i)=true from rfl];cbv;show Ζ (λh=>?_) (λh=>?_)
  .cbv;rw[show decide (0<=i/\i<=1000000000)=decide (i<=1000000000)from by rw[decide_eq_decide];omega]at q;show q
  .cbv;rw[decide_eq_false (show ¬(0<=i/\i<=1000000000)by omega)]at q;show q
 |non=>
  rw[show pq V.non=false from rfl];cbv;show q
 |str z=>
  rw[show pq (V.str z)=false from rfl];cbv;show q
 |_=>cases a
theorem Oq:∀{cs:List ξ}{xs:List V}{bs:List Bool},xs.length=cs.length->bs.length=cs.length->(∀(i:Nat)(b:Bool),bs[i]?=some b->∃c x,cs[i]?=some c/\xs[i]?=some x/\b=isVal c.2 x)->bs.all id=lZ cs xs
 |[],[],[],_,_,_=>rfl
 |c::cs,x::xs,b::bs,h1,h2,h=>by
  let#[g,j,e1,a,f]:=h 0 b rfl;cases e1;cases a;rw[aoR];unfold lZ;rw[Oq (by simpa using h1) (by simpa using h2) λi b e=>by simpa using h (i+1) b (by simpa using e)];rw[f];rfl
 |[],_::_,_,h1,_,_=>by simp at h1
 |_::_,[],_,h1,_,_=>by simp at h1
 |[],[],_::_,_,h2,_=>by simp at h2
 |_::_,_::_,[],_,h2,_=>by simp at h2
theorem Rx:∀{xs:List V},(∀(i:Nat) v,xs[i]?=some v->∃b,v=.bl b)->∃bs:List Bool,xs=bs.map V.bl
 |[],_=>#[[],rfl]
 |x::xs,h=>by
  let#[b,rfl]:=h 0 x rfl;let#[bs,rfl]:=Rx (xs:=xs) λi v e=>h (i+1) v (by simpa using e)
  show#[b::bs,rfl]
theorem CN(T:Txt K mg):Def P w K mg base true 4 "is_row" ["columns","row","values"] Wo:=by
 show Γ (S:=Xi) T.CN (λ_ _ _ _ _ H vs Q E hr h=>?_);intro X _;let#[a,cs,v,b,xs,rfl,#[vs,z,f],O,R,B,m,q]:=h;let n1:=T.bN;let n2:=T.Iu;let U:=T.G4;let hsz:=ϱ;let nd:=Xi.nd;let sa:η K H a vs:=.inl (.inl z);let sb:η K H b xs:=.inl (.inl B);let W:=f.len;let D1:= @Dk P w K mg base T;let D2:= @Cr P w K mg base T;let D:(["column","value"]:List Str).Nodup:=by fin2
 unfold xK at q;w_up;cbv;show#[v,rfl,R,?_];cbv;show agk (λh1=>?_) (λh1=>?_)
 .rw[h1,anG,anG]at q;cbv;show q H (ζ.refl _)
 .rw[h1,al4]at q;cbv;show dJ (λh2=>?_) (λh2=>?_)
  .let j:¬xs.length=cs.length:=λe=>h2 (by rw[W,e])
   rw[decide_eq_false j,anG]at q;cbv;show q H (ζ.refl _)
  .let j:xs.length=cs.length:=by
    have:(xs.length:Int)=vs.length:=by injection h2
    omega
   rw[decide_eq_true j,al4]at q;show Ε ?_;f_len;show ω ?_;f_are;f_are;show SM ["column","value"] (σ':=[none,none]) (cz (ψ HS)) U ?_;cbv;show#[a,b,vs,xs,rfl,rfl,z,B,(),λF=>∃G I,F=[G,I],λE' i u H'=>∃c x,cs[i]?=some c/\xs[i]?=some x/\u=.bl (isVal c.2 x),#[none,none,rfl],λE' i u H2 Y ys _ _ p=>p,λfp E' C s3 H0 i F x H2 Y Z hi n sm hys hG=>?_,λE' H2 ys Z hl J o sm=>?_]
   .let#[G,I,rfl]:=n;let#[l,y,u,rfl,hT,rfl,hy,L]:=hG;let#[c,hc,t,rfl,ht]:=f.get hy;let s :ζ H2 (upd H2 l (.tup [.ref t,u])):=ζ.upd hT;let M:(upd H2 l (.tup [.ref t,u])) l=some (.tup [.ref t,u]):=υ;generalize upd H2 l (.tup [.ref t,u])=H4 at s M⊢;show aj (ρ.of M) (Θ (Β D (by rfl) (.inl rfl) (.inr rfl) (Θ (Β D (by rfl) (.inl rfl) (.inr rfl) (az ?_)))));cbv;show Χ (ρ.of (s _ _ (sm _ _ ht))) (show Ω [V.str c.1,V.str c.2] 1=some (V.str c.2)from rfl) ?_;cbv;let g:=m u (aaq L);show#[c.2,u,rfl,g.1,g.2,λH5 dD=>#[#[_,_,rfl],#[c,u,hc,L,rfl],s.trans dD]]
   .let#[bs,rfl]:=Rx λi v e=>by
     let#[c,x,_,_,e]:=J i v e;show#[_,e]
    let Xp:bs.length=cs.length:=by rw[aaz]at hl;omega
    let eb:bs.all id=lZ cs xs:=Oq j Xp λi b e=>by
     let#[c,x,e1,o,e3]:=J i (.bl b) (by rw[abh,e];rfl);show#[c,x,e1,o,by injection e3]
    cbv;show Ml (by rfl) (η.of o) ?_;rw[eb];show q _ sm
def uh(cs:List ξ)(row:Int)(xs:List V):Prop:=0<=row/\row<=1000000000/\ς (λc x=>ϑ c.2 x) cs xs
theorem CT:∀c∈SG,c∈tY.cps.toList:=by fin2
theorem ϑ.is{a:Str}{v:V}(h:ϑ a v):isVal a v=true/\scalar v=true/\short v:=by
 obtain rfl|⟨h1,i,rfl,h2,e⟩|⟨h1,z,rfl,h2,e⟩:=h
 .show#[rfl,rfl,trivial]
 .show#[?_,rfl,trivial];show(if a="number" then isNum (.int i)else gM (.int i))=true;rw[if_pos h1];show decide_eq_true #[h2,e]
 .show#[?_,rfl,by show z.length<=4000;omega];show(if a="number" then isNum (.str z)else gM (.str z))=true;rw[if_neg h1];show(decide (z.length<=20)&&dM z _)=true;rw[decide_eq_true h2,al4];show acN.mpr λc f=>decide_eq_true (CT c (e c f))
theorem M7{cs:List ξ}{xs:List V}(h:ς (λ(c:ξ) x=>ϑ c.2 x) cs xs):lZ cs xs=true/\∀x∈xs,scalar x=true/\short x:=by
 induction h with
 |nil=>show#[rfl,λx a=>by simp at a]
 |cons h _ f=>
  show#[?_,λx a=>?_]
  .show(isVal _ _&&lZ _ _)=true;rw[h.is.1,f.1];rfl
  .obtain e|e:=aaG.mp a
   .rw[e];show h.is.2
   .show f.2 x e
theorem uh.ok{cs:List ξ}{row:Int}{xs:List V}(h:uh cs row xs):xK cs (.int row) xs=true:=by
 unfold xK;rw[(M7 h.2.2).1,decide_eq_true h.2.2.len.symm];show(decide (0<=row/\row<=1000000000)&&true&&true)=true;rw[decide_eq_true #[h.1,h.2.1]];rfl
inductive pW (mg:Str->Option ε) (vs:List V) (H:Hp) (Q:VK) (E:XK):Prop
 |mk (A:BA) (B:Bk) (row:Int) (b:δ) (xs:List V):vs=[.ref A.b,.int row,.ref b]->Ν (cB mg) H A B->H b=some (.lst xs)->B.heads.length<=6->uh B.heads row xs->(∀H',ζ H H'->Q .non H')->pW mg vs H Q E
theorem K7(T:Txt K mg):FD P w K mg base true 5 "ask_row" "Book.ask_row" JB ["self","row","values"] (pW mg):=by
 show aN (N:=["self","row","values"]) (λf l m outer s H vs Q E n h=>?_);intro X _;let#[A,B,row,b,xs,rfl,a,e,o,c,q]:=h;let p:= @CN P w K mg base T;let g:=T.Ϝ;let i:=T.Ba;let j:=a.ins;f_len;cbv;show Ϥ ?_;f_are;show#[A.b,_,_,_,_,rfl,j,g,i,rfl,?_];cbv;show#[A.h,B.heads,.int row,b,xs,rfl,a.heads,(),rfl,e,(M7 c.2.2).2,λH' sm=>?_];rw[c.ok];cbv;show q H' sm
inductive qj (mg:Str->Option ε) (vs:List V) (H:Hp) (Q:VK) (E:XK):Prop
 |mk (A:BA) (B:Bk) (row:Int):vs=[.ref A.b,.int row]->Ν (cB mg) H A B->0<=row->row<=1000000000->(Η B.rows row=none->False)->(Η B.rows row≠none->Q .non H)->qj mg vs H Q E
theorem U5(T:Txt K mg):FD P w K mg base true 3 "ask_there" "Book.ask_there" S5 ["self","row"] (qj mg):=by
 show aN (N:=["self","row"]) (λf p v outer s H vs Q E g h=>?_);intro X _;let#[A,B,row,rfl,e,y,r1,a,q]:=h;let i:=T.Ϝ;let j:=T.tU;let l:=e.ins;let m:_+1<cLine:=afN (ajd (by decide:1<=64) _) g.units;let#[Ϸ,n,o]:=e.rows;f_len;cbv;show Ϥ ?_;f_are;show#[A.b,_,_,_,_,rfl,l,i,j,rfl,?_];show V9 m (aG.k (k:=Sum.inl row) n) ?_;obtain⟨e1,c⟩|⟨u,x,e1,c,_⟩:=iw o row
 .rw[show(au Ϸ (Sum.inl row)).isSome=false by rw[e1];rfl,Bool.not_false];show(a c).elim
 .rw[show(au Ϸ (Sum.inl row)).isSome=true by rw[e1];rfl,Bool.not_true];cbv;show q (by rw[c];simp)
inductive wU (mg:Str->Option ε) (vs:List V) (H:Hp) (Q:VK) (E:XK):Prop
 |mk (A:BA) (B:Bk) (row:Int) (b:δ) (xs:List V):vs=[.ref A.b,.int row,.ref b]->Ν (cB mg) H A B->H b=some (.lst xs)->B.heads.length<=6->uh B.heads row xs->uf B->(Η B.rows row≠none->False)->(Η B.rows row=none->∀H',Out A.fp H H'->Ν (cB mg) H' A (dN B row (some xs))->Q (.int (B.now+1)) H')->wU mg vs H Q E
theorem MJ{X:Cx}{H:Hp}{Q:VK}{p:δ}{ys:List V}(h:η X.K H p ys)(g:∀l,H l=none->Q (.ref l) (upd H l (.tup ys))):CL X (.type "tuple") [.ref p] H Q:=cO ajf #[p,ys,rfl,.inl #[h,g]]
theorem ahk(T:Txt K mg):FD P w K mg base true 6 "put" "Book.put" U6 ["self","row","values"] (wU mg):=by
 show aN (N:=["self","row","values"]) (λf M O outer s H vs Q E a h=>?_);intro X _;let#[A,B,row,b,xs,rfl,c,n,v,y,g,i,q]:=h;let M1:Ϟ P w K mg base true 5 (cB mg) "ask_row" ["self","row","values"] (pW mg):=(K7 T).meth T.Ϝ T.Jv;let M2:Ϟ P w K mg base true 1 (cB mg) "do" ["self","row","values"] (lg mg):=(BV T).meth T.Ϝ T.GK;let z:=T.Ϝ;let n1:=T.Tu;let C:=T.tU;let D:_+1<cLine:=afN (ajd (by decide:1<=64) _) a.units;w_up;show aM ?_;show bZ (pl:=_) a ύ (h:=?_);f_are;show#[A.b,cB mg,A.dx,_,true,5,_,pW mg,rfl,c.ins,by rfl,M1,by decide,id,?_];cbv;show#[A,B,row,b,xs,rfl,c,n,v,y,λH1 sm=>?_];let k1:=c.same sm;let o:=k1.ins;let j:=sm _ _ n;let#[Ϸ,F,G]:=k1.rows;w_up;cbv;show Ϥ ?_;f_are;show#[A.b,_,_,_,_,rfl,o,z,C,rfl,?_];show ae1 D (aG.k (k:=Sum.inl row) F) ?_;obtain⟨e1,l⟩|⟨u,x,e1,l,_⟩:=iw G row
 .rw[show(au Ϸ (Sum.inl row)).isSome=false by rw[e1];rfl];cbv;show bZ (pl:=_) a ύ (h:=?_);f_are;show#[A.b,cB mg,A.dx,_,true,1,_,lg mg,rfl,o,by rfl,M2,by decide,id,?_];cbv;show MJ (η.of j) λt I=>?_
  let#[m,p]:=ϋ I (.tup xs);generalize upd H1 t (.tup xs)=H2 at m p⊢;cbv;show#[A,B,row,.ref t,some xs,rfl,k1.same m,#[t,rfl,p],(λe=>by cases e),g,λJ L k3=>?_];show q l J ((Out.of (sm.trans m)).trans L) k3
 .rw[show(au Ϸ (Sum.inl row)).isSome=true by rw[e1];rfl];show(i (by rw[l];simp)).elim
inductive vd (mg:Str->Option ε) (vs:List V) (H:Hp) (Q:VK) (E:XK):Prop
 |mk (A:BA) (B:Bk) (row:Int) (b:δ) (xs:List V):vs=[.ref A.b,.int row,.ref b]->Ν (cB mg) H A B->H b=some (.lst xs)->B.heads.length<=6->uh B.heads row xs->uf B->(Η B.rows row=none->False)->(Η B.rows row≠none->∀H',Out A.fp H H'->Ν (cB mg) H' A (dN B row (some xs))->Q (.int (B.now+1)) H')->vd mg vs H Q E
theorem ahv(T:Txt K mg):FD P w K mg base true 6 "change" "Book.change" JZ ["self","row","values"] (vd mg):=by
 show aN (N:=["self","row","values"]) (λf D F outer s H vs Q E a h=>?_);intro X _;let#[A,B,row,b,xs,rfl,c,o,v,g,i,j,q]:=h;let M1:Ϟ P w K mg base true 5 (cB mg) "ask_row" ["self","row","values"] (pW mg):=(K7 T).meth T.Ϝ T.Jv;let M2:Ϟ P w K mg base true 1 (cB mg) "do" ["self","row","values"] (lg mg):=(BV T).meth T.Ϝ T.GK;let x:Ϟ P w K mg base true 3 (cB mg) "ask_there" ["self","row"] (qj mg):=(U5 T).meth T.Ϝ T.Uz;let G:=T.Ϝ;let n1:=T.Tu;w_up;show aM ?_;show bZ (pl:=_) a ύ (h:=?_);f_are;show#[A.b,cB mg,A.dx,_,true,5,_,pW mg,rfl,c.ins,by rfl,M1,by decide,id,?_];cbv;show#[A,B,row,b,xs,rfl,c,o,v,g,λH1 sm=>?_];let k1:=c.same sm;let p:=k1.ins;let l:=sm _ _ o;w_up;show aM ?_;show bZ (pl:=_) a ύ (h:=?_);f_are;show#[A.b,cB mg,A.dx,_,true,3,_,qj mg,rfl,p,by rfl,x,by decide,id,?_];cbv;show#[A,B,row,rfl,k1,g.1,g.2.1,λm=>j m,λm=>?_];f_len;show ω ?_;show bZ (pl:=_) a ύ (h:=?_);f_are;show#[A.b,cB mg,A.dx,_,true,1,_,lg mg,rfl,p,by rfl,M2,by decide,id,?_];cbv;show MJ (η.of l) λt y=>?_
 let#[n,u]:=ϋ y (.tup xs);generalize upd H1 t (.tup xs)=H2 at n u⊢;cbv;show#[A,B,row,.ref t,some xs,rfl,k1.same n,#[t,rfl,u],(λe=>by cases e),i,λz C k3=>?_];show q m z ((Out.of (sm.trans n)).trans C) k3
inductive vA (mg:Str->Option ε) (vs:List V) (H:Hp) (Q:VK) (E:XK):Prop
 |mk (A:BA) (B:Bk) (row:Int):vs=[.ref A.b,.int row]->Ν (cB mg) H A B->0<=row->row<=1000000000->uf B->nQ B->(Η B.rows row=none->False)->(Η B.rows row≠none->∀H',Out A.fp H H'->Ν (cB mg) H' A (dN B row none)->Q (.int (B.now+1)) H')->vA mg vs H Q E
theorem aec(T:Txt K mg):FD P w K mg base true 4 "take" "Book.take" Nx ["self","row"] (vA mg):=by
 show aN (N:=["self","row"]) (λf n o outer s H vs Q E j h=>?_);intro X _;let#[A,B,row,rfl,a,l,r1,c,e,g,q]:=h;let M2:Ϟ P w K mg base true 1 (cB mg) "do" ["self","row","values"] (lg mg):=(BV T).meth T.Ϝ T.GK;let m:Ϟ P w K mg base true 3 (cB mg) "ask_there" ["self","row"] (qj mg):=(U5 T).meth T.Ϝ T.Uz;w_up;show aM ?_;show bZ (pl:=_) j ύ (h:=?_);f_are;show#[A.b,cB mg,A.dx,_,true,3,_,qj mg,rfl,a.ins,by rfl,m,by decide,id,?_];cbv;show#[A,B,row,rfl,a,l,r1,g,λi=>?_];f_len;show ω ?_;show bZ (pl:=_) j ύ (h:=?_);f_are;show#[A.b,cB mg,A.dx,_,true,1,_,lg mg,rfl,a.ins,by rfl,M2,by decide,id,?_];cbv;show#[A,B,row,.non,none,rfl,a,rfl,λ_=>#[i,λz=>i ((e row).mpr z)],c,q i]
inductive cY (mg:Str->Option ε) (g:Bk->Int) (vs:List V) (H:Hp) (Q:VK) (E:XK):Prop
 |mk (A:BA) (B:Bk):vs=[.ref A.b]->Ν (cB mg) H A B->Q (.int (g B)) H->cY mg g vs H Q E
theorem vQ(T:Txt K mg):FD P w K mg base true 1 "moment" "Book.moment" Le ["self"] (cY mg Bk.now):=by
 show aN (N:=["self"]) (λf e g outer s H vs Q E i h=>?_);intro X _;let#[A,B,rfl,a,q]:=h;let c:=T.Ϝ;f_len;show ω (Ϥ ?_);f_are;show#[A.b,_,_,_,_,rfl,a.ins,c,T.vg,rfl,q]
inductive kW (mg:Str->Option ε) (vs:List V) (H:Hp) (Q:VK) (E:XK):Prop
 |mk (A:BA) (B:Bk):vs=[.ref A.b]->Ν (cB mg) H A B->(∀p H',ζ H H'->H p=none->ϝ H' p B.heads->Q (.ref p) H')->kW mg vs H Q E
theorem Dz(T:Txt K mg):FD P w K mg base true 1 "columns" "Book.columns" Tz ["self"] (kW mg):=by
 show aN (N:=["self"]) (λf m n outer s H vs Q E u h=>?_);intro X _;let#[A,B,rfl,a,q]:=h;let i:=T.Ϝ;let n1:=T.j9;let#[vs,j,l]:=a.heads;f_len;show ω ?_;cbv;show Ϥ ?_;f_are;show#[A.b,_,_,_,_,rfl,a.ins,i,T.Ba,rfl,?_];cbv;show jf (.inl (η.of j)) λp g=>?_
 let sm:=ζ.upd (H:=H) (o:=.lst vs) g;show q p _ sm g #[vs,υ,ς.imp (λv c ⟨t,e,h⟩=>#[t,e,sm _ _ h]) l]
theorem af1(T:Txt K mg):FD P w K mg base true 1 "oldest" "Book.oldest" Je ["self"] (cY mg Bk.known):=by
 show aN (N:=["self"]) (λf e g outer s H vs Q E i h=>?_);intro X _;let#[A,B,rfl,a,q]:=h;let c:=T.Ϝ;f_len;show ω (Ϥ ?_);f_are;show#[A.b,_,_,_,_,rfl,a.ins,c,T.zb,rfl,q]
theorem afE{cs:List ξ}(h:ώ cs=true):1<=cs.length/\cs.length<=6:=by
 unfold ώ at h;rw[aaW,aaW,decide_eq_true_eq]at h;show h.1.1
theorem ahn{cs:List ξ}(h:ώ cs=true):Eg cs:=by
 unfold ώ pA at h;rw[aaW,aaW,acN]at h;intro c a;let h1:=h.1.2 c a;rw[aaW,decide_eq_true_eq]at h1;let#[h2,f]:=h1;unfold isName at h2;rw[aaW,decide_eq_true_eq]at h2;show#[(),?_];obtain e|e:=f<;>rw[e]
 .show(by fin2:("number":Str).length<=4000)
 .show(by fin2:("text":Str).length<=4000)
inductive JR (mg:Str->Option ε) (vs:List V) (H:Hp) (Q:VK) (E:XK):Prop
 |mk (y dx a:δ) (cs:List ξ):vs=[.ref y,.ref a]->H y=some (.ins (cB mg) dx [])->H dx=some (.own y)->ϝ H a cs->ώ cs=true->(∀(H':Hp)(A:BA),A.b=y->A.dx=dx->H A.h=none->H A.r=none->H A.t=none->H A.d=none->Out [y] H H'->Ν (cB mg) H' A #[cs,[],[],[],0,0]->Q .non H')->JR mg vs H Q E
theorem af7(T:Txt K mg):FD P w K mg base true 4 "__init__" "Book.__init__" Mx ["self","columns"] (JR mg):=by
 show aN (N:=["self","columns"]) (λf Ϻ A' outer s H vs Q E hr h=>?_);intro X _;let#[y,dx,a,cs,rfl,m,i,hC,hok,q]:=h;let D1:= @DN P w K mg base T;let l:=T.Ϝ;let n1:=T.j9;let hsz:=ϱ;w_up;cbv;show#[a,cs,rfl,hC,by have:=afE hok;omega,ahn hok,λH1 B =>?_];rw[if_pos hok];let#[vs,ha,J]:=hC;let hy1:=B _ _ m;let UW:dx≠y:=λe=>by rw[e,m]at i;cases i
 w_up;show dj ?_;cbv;show jf (.inl (η.of (B _ _ ha))) λh hh=>?_
 let L:ζ H (upd H1 h (.lst vs)):=B.trans (ζ.upd hh);let eh:(upd H1 h (.lst vs)) h=some (.lst vs):=υ;let M:H h=none:=B.free hh;generalize upd H1 h (.lst vs)=H2 at L eh⊢;f_are;show#[y,_,dx,_,rfl,L _ _ m,l,T.Ba,by show 0<1000;decide,?_];let n:h≠y:=λe=>by rw[e,m]at M;cases M
 let o3:Out [y] H (upd H2 y (.ins (cB mg) dx [("heads",.ref h)])):=(Out.of L).trans (Out.upd (by simp));let Tc:(upd H2 y (.ins (cB mg) dx [("heads",.ref h)])) h=some (.lst vs):=by rw[ο n];show eh
 let O:(upd H2 y (.ins (cB mg) dx [("heads",.ref h)])) y=some (.ins (cB mg) dx [("heads",.ref h)]):=υ;change Ρ _ _ _ _ (upd H2 y (.ins (cB mg) dx [("heads",.ref h)]));generalize upd H2 y (.ins (cB mg) dx [("heads",.ref h)])=C at o3 Tc O⊢;let step:∀(H':Hp)(p:δ)(o o1:HO),H' y=some o1->Out [y] H H'->H' p=none->(H p=none/\p≠y/\∀fs,Out [y] H (upd (upd H' p o) y fs)/\(upd (upd H' p o) y fs) y=some fs/\(upd (upd H' p o) y fs) p=some o/\∀b u,b≠y->H' b=some u->b≠p/\(upd (upd H' p o) y fs) b=some u):=by
  intro H' p o o1 ey ho D;let j:p≠y:=λe=>by rw[e,ey]at D;cases D
  let keep:∀fs b u,b≠y->H' b=some u->b≠p/\(upd (upd H' p o) y fs) b=some u:=λfs b u g e=>by
   let Mf:b≠p:=λz=>by rw[z,D]at e;cases e
   show#[Mf,?_];rw[ο g,ο Mf];show e
  show#[?_,j,λfs=>#[λb u g e=>?_,υ,by rw[ο j];show υ,keep fs]]
  .cases e1:H p with
   |none=>rfl
   |some u=>
    have:=ho p u (by simpa using j) e1;rw[D]at this;cases this
  .show(keep fs b u (by simpa using g) (ho b u g e)).2
 w_up;show dj ?_;show Hi λr R=>?_
 f_are;let#[rn,ry,x]:=step C r (.dK []) _ O o3 R;let Yr:(upd C r (.dK [])) y=some (.ins (cB mg) dx [("heads",.ref h)]):=by rw[ο (Ne.symm ry)];show O
 show#[y,_,dx,_,rfl,Yr,l,T.tU,by show 1<1000;decide,?_];let#[o4,S,Pk,k4]:=x (.ins (cB mg) dx [("heads",.ref h),("rows",.ref r)]);change Ρ _ _ _ _ (upd (upd C r (.dK [])) y (.ins (cB mg) dx [("heads",.ref h),("rows",.ref r)]));let Ny:=(k4 _ _ n Tc).2;generalize upd (upd C r (.dK [])) y (.ins (cB mg) dx [("heads",.ref h),("rows",.ref r)])=F at o4 S Pk Ny⊢;w_up;show dj ?_;show Hi λt U=>?_
 f_are;let#[tn,ty,x]:=step F t (.dK []) _ S o4 U;let W:(upd F t (.dK [])) y=some (.ins (cB mg) dx [("heads",.ref h),("rows",.ref r)]):=by rw[ο (Ne.symm ty)];show S
 show#[y,_,dx,_,rfl,W,l,T.Ks,by show 2<1000;decide,?_];let#[o5,Y,MF,k5]:=x (.ins (cB mg) dx [("heads",.ref h),("rows",.ref r),("touched",.ref t)]);change Ρ _ _ _ _ (upd (upd F t (.dK [])) y (.ins (cB mg) dx [("heads",.ref h),("rows",.ref r),("touched",.ref t)]));let Ub:=(k5 _ _ n Ny).2;let#[rt,QH]:=k5 _ _ ry Pk;generalize upd (upd F t (.dK [])) y (.ins (cB mg) dx [("heads",.ref h),("rows",.ref r),("touched",.ref t)])=G at o5 Y MF QH Ub⊢;w_up;show dj ?_;cbv;show#[Δ,λd Z=>?_];f_are;let#[dn,dy,x]:=step G d (.lst []) _ Y o5 Z;let ab:(upd G d (.lst [])) y=some (.ins (cB mg) dx [("heads",.ref h),("rows",.ref r),("touched",.ref t)]):=by rw[ο (Ne.symm dy)];show Y
 show#[y,_,dx,_,rfl,ab,l,T.w6,by show 3<1000;decide,?_];let#[I,O2,J8,k6]:=x (.ins (cB mg) dx [("heads",.ref h),("rows",.ref r),("touched",.ref t),("done",.ref d)]);change Ρ _ _ _ _ (upd (upd G d (.lst [])) y (.ins (cB mg) dx [("heads",.ref h),("rows",.ref r),("touched",.ref t),("done",.ref d)]));let#[ac,Ul]:=k6 _ _ n Ub;let#[_,Wk]:=k6 _ _ ry QH;let#[_,R9]:=k6 _ _ ty MF;generalize upd (upd G d (.lst [])) y (.ins (cB mg) dx [("heads",.ref h),("rows",.ref r),("touched",.ref t),("done",.ref d)])=H6 at I O2 J8 R9 Wk Ul⊢;w_up;show dj ?_;f_are;f_are;show#[y,_,dx,_,rfl,O2,l,T.zb,by show 4<1000;decide,?_];f_len;show dj ?_;f_are;f_are;show#[y,_,dx,_,rfl,υ,l,T.vg,by show 5<1000;decide,?_];let fin:∀b u,b≠y->H6 b=some u->(upd (upd H6 y (.ins (cB mg) dx [("heads",.ref h),("rows",.ref r),("touched",.ref t),("done",.ref d),("known",.int 0)])) y (.ins (cB mg) dx [("heads",.ref h),("rows",.ref r),("touched",.ref t),("done",.ref d),("known",.int 0),("now",.int 0)])) b=some u:=λb u g e=>by
  rw[ο g,ο g];show e
 let Wh:∀t' ys,H t'=some (.tup ys)->t'≠y:=λt' ys e z=>by rw[z,m]at e;cases e
 show q (upd (upd H6 y (.ins (cB mg) dx [("heads",.ref h),("rows",.ref r),("touched",.ref t),("done",.ref d),("known",.int 0)])) y (.ins (cB mg) dx [("heads",.ref h),("rows",.ref r),("touched",.ref t),("done",.ref d),("known",.int 0),("now",.int 0)])) #[y,dx,h,r,t,d] rfl rfl M rn tn dn (λb u g e=>fin b u (by simpa using g) (I b u g e)) ?_;show#[υ,fin _ _ UW (I _ _ (by simpa using UW) i),#[vs,fin _ _ n Ul,ς.imp (λv c ⟨u,e,hu⟩=>#[u,e,fin _ _ (Wh _ _ hu) (I _ _ (by simpa using Wh _ _ hu) hu)]) J],#[[],fin _ _ ry Wk,.nil],#[[],fin _ _ ty R9,.nil],#[[],fin _ _ dy J8,.nil],rt,ac]
def yS(H0 H:Hp)(v:V)(p:Int×List V):=∃t l,v=.ref t/\H t=some (.tup [.int p.1,.ref l])/\H l=some (.lst p.2)/\H0 l=none/\H0 t=none
def aJ(rows:List (Int×List V))(ks:List Int):List (Int×List V):=ks.map λk=>(k,(Η rows k).getD [])
inductive W7 (C:Unit) (vs:List V) (H:Hp) (Q:VK) (E:XK):Prop
 |mk (a:δ) (rows:List (Int×List V)):vs=[.ref a]->DictAt (TupAt H) H a rows->rows.length<64->(∀p ys ks H',ζ H H'->H p=none->ks.Perm (rows.map (·.1))->ks.Pairwise (· <= ·)->H' p=some (.lst ys)->ς (yS H H') ys (aJ rows ks)->Q (.ref p) H')->W7 C vs H Q E
theorem G5(T:Txt K mg):Def P w K mg base true 1 "told_rows" ["rows"] (W7 PUnit.unit):=by
 show Γ (N:=["rows"]) T.G5 (λ_ _ _ _ _ H vs Q E hr h=>?_);intro X _;let#[a,rows,rfl,#[Ϸ,ea,hR],hl,q]:=h;let n1:=T.tL;let n2:=T.j9;let hsz:=ϱ;let hu:_+1<cLine:=afN (ajd (by decide:1<=64) _) hr.units;let D:(["row","rows"]:List Str).Nodup:=by fin2
 f_len;show ω ?_;show lN ["row","rows"] (σ':=[none,some (.ref a)]) (cz (ψ Ud)) ?_;walk_at"cb";cbv;show BX (ks:=rows.map (·.1)) ea (Cp hR) (by rw[aaz];show hl) λL ks hL F hs=>?_
 let#[n,eL]:=ϋ hL (.lst (ks.map V.int));generalize upd H L (.lst (ks.map V.int))=H1 at n eL⊢;let hkl:ks.length=rows.length:=by rw[F.length_eq,aaz]
 let f:(ks.map V.int).length=ks.length:=aaz ..;show#[L,_,rfl,η.of eL,(),λτ=>∃o1,τ=[o1,some (.ref a)],λo i u H'=>∃k t l,ks[i]?=some k/\u=.ref t/\t≠o/\l≠o/\H' t=some (.tup [.int k,.ref l])/\H' l=some (.lst ((Η rows k).getD []))/\H l=none/\H t=none,#[none,rfl],λo i u H2 H3 ys y1 y2 y3=>?_,λfp o C s3 H0 i τ x H4 H3 aP hi G Τ I hG=>?_,λL2 H2 ys J g M e2 Ι =>?_]
 .let#[k,t,l,O,S,U,W,Y,Z,z7,z8]:=y3;show#[k,t,l,O,S,U,W,y2 _ _ U Y,y2 _ _ W Z,z7,z8]
 .let#[o1,rfl]:=G;let#[hx,rfl]:=hG;let Jw:i<ks.length:=by rw[f]at hi;show hi
  let hk:ks[i]?=some ks[i]:=aab Jw;rw[abh,hk]at hx;let ab:x=.int ks[i]:=by simpa using hx.symm
  subst ab;let j:ks[i]∈rows.map (·.1):=F.mem_iff.mp (ahZ Jw);let s:=n.trans Τ;let ac:=s _ _ ea;show Β D (by rfl) (.inl rfl) (.inr rfl) ?_;cbv;rcases iw hR ks[i]with⟨_,e3⟩|⟨u,xs,e1,e3,t0,rfl,ae⟩
  .show absurd j (yI.mp e3)
  let g4:=aG.k (k:=Sum.inl ks[i]) ac;rw[e1]at g4;show Ie hu g4 ?_;cbv;show jf (.inr (ρ.of (s _ _ ae))) λl y=>?_
  let#[z,el]:=ϋ y (.lst xs);generalize upd H4 l (.lst xs)=H5 at z el⊢;cbv;show#[Δ,λt B=>?_];let aD:ζ H5 (upd H5 t (.tup [.int ks[i],.ref l])):=ζ.upd B;let#[ys0,hE]:=I;show#[#[_,rfl],#[ks[i],t,l,hk,rfl,λe=>?_,λe=>?_,υ,?_,s.free y,(s.trans z).free B],z.trans aD]
  .rw[e,z _ _ hE]at B;cases B
  .rw[e,hE]at y;cases y
  .rw[e3];show aD _ _ el
 .show q L2 ys ks H2 (n.trans Ι) (n.free J) F hs e2 (mQ (R:=λv p=>yS H H2 v p) (l:=ys) (m:=aJ rows ks) (by unfold aJ;rw[aaz,g,f]) λi p c=>?_);unfold aJ at c;rw[abh]at c;let hi:i<ys.length:=by
   rw[g,f];cases e:ks[i]? with
   |none=>rw[e]at c;cases c
   |some k=>show(aap.mp e).1
  let hy:ys[i]?=some ys[i]:=aab hi;let#[k,t,l,O,S,U,W,Y,Z,z7,z8]:=M i _ hy;rw[O]at c;let af:p=(k,(Η rows k).getD []):=by simpa using c.symm
  rw[af];show#[_,hy,t,l,S,Y,Z,z7,z8]
theorem _root_._V.ς.zQ{α β:Type}{R:α->β->Prop}:∀{l:List α}{m:List β},ς R l m->∀b∈m,∃a,a∈l/\R a b
 |_,_,.nil,b,c=>by simp at c
 |_,_,.cons (a:=a) r t,b,c=>by
  obtain e|e:=aaG.mp c
  .subst e;show#[a,by simp,r]
  .let#[f,h1,h2]:=t.zQ b e;show#[f,by simp[h1],h2]
theorem ϑ.word{g:Str}{v:V}(h:ϑ g v)(p:g="number"\/g="text"):dw g (wordOf v)=some v/\(wordOf v).length<=21/\32∉(wordOf v).cps.toList/\¬wordOf v=Ϫ "*"/\(∀c∈(wordOf v).cps.toList,c<1114112):=by
 obtain rfl|⟨l,i,rfl,h1,h2⟩|⟨l,z,rfl,q,hz⟩:=h
 .show#[?_,by fin2,by fin2,by fin2,by fin2];unfold dw;rw[if_pos (show wordOf .non=Ϫ "?" from rfl)]
 .subst l;let m:=yw i;show#[adY h1 h2,?_,λh=>?_,λh=>?_,λc f=>?_]
  .have :=yJ (i:=i) (k:=19) ();show(Ϫ (toString i)).length<=21;omega
  .have :=m 32 h;omega
  .let h':Ϫ (toString i)=Ϫ "*":=h;let e:("*":Str).cps.toList=[42]:=by fin2
   have:=m 42 (by rw[h',e];simp);omega
  .have :=m c f;omega
 .let n:g="text":=p.resolve_left l;subst n;let e1:("'":Str).length=1:=by fin2
  let s:=len_app ("'":Str) z;let j:∀c∈SG,¬c=32/\c<1114112:=by fin2
  let a:∀c∈(Ϫ "'"++z).cps.toList,c=39\/c∈SG:=λc f=>by
   rw[bU,v7]at f;obtain h|h:=afH.mp f
   .show .inl (by simpa using h)
   .show .inr (hz c h)
  show#[ahm q hz,by show(Ϫ "'"++z).length<=21;omega,λh=>?_,λh=>?_,λc f=>?_]
  .obtain e|e:=a 32 h
   .omega
   .show(j 32 e).1 rfl
  .let h':Ϫ "'"++z=Ϫ "*":=h;let e:("*":Str).cps.toList=[42]:=by fin2
   let o:(Ϫ "'"++z).cps.toList[0]?=some 39:=by rw[bU,v7];rfl
   rw[h',e]at o;simp at o
  .obtain e|e:=a c f
   .omega
   .show(j c e).2
def plainS(z:Str):=∀c∈z.cps.toList,32<=c/\c<=122/\c≠46/\c≠47
theorem plainS.app{a b:Str}(h:plainS a)(g:plainS b):plainS (a++b):=λc hc=>by
 rw[bU]at hc;obtain hc|hc:=afH.mp hc
 .show h c hc
 .show g c hc
theorem plainS.join:∀{ps:List Str},(∀p∈ps,plainS p)->plainS (ae5 " " ps)
 |[],_=>by
  intro c a;have:c∈([]:List Nat):=a;simp at this
 |[p],h=>h p (by simp)
 |p::q::r,h=>by
  let e:plainS (" ":Str):=by unfold plainS;fin2
  show((h p (by simp)).app e).app (plainS.join λx f=>h x (by simp[f]))
theorem ajB:∀c∈SG,32<=c/\c<=122/\c≠46/\c≠47:=by fin2
theorem Dy(i:Int):plainS (Ϫ (toString i)):=λc a=>by
 have:=yw i c a;omega
theorem ϑ.plain{e:Str}{v:V}(h:ϑ e v):plainS (wordOf v):=by
 obtain rfl|⟨f,i,rfl,h1,h2⟩|⟨f,z,rfl,j,hz⟩:=h
 .unfold plainS;fin2
 .show Dy i
 .show plainS.app (a:=Ϫ "'") ?_ λc g=>ajB c (hz c g)
  unfold plainS;fin2
theorem Cy{z:Str}(h:isName z=true):plainS z:=by
 unfold isName at h;rw[aaW]at h;intro c e;let h2:=h.2;unfold dM at h2;rw[acN]at h2;let f:=of_decide_eq_true (h2 c e);let a:∀c∈Rq.cps.toList,32<=c/\c<=122/\c≠46/\c≠47:=by fin2
 show a c f
theorem jL:∀ps:List Str,(ae5 " " ps).length<=(ps.map (·.length)).sum+ps.length
 |[]=>by show(0:Nat)<=_;omega
 |[p]=>by
  show p.length<=_;simp
 |p::q::r=>by
  let a:=jL (q::r);let c:(" ":Str).length=1:=by fin2
  show(p++Ϫ " "++ae5 " " (q::r)).length<=_;rw[len_app,len_app,c];simp only[adF,anZ,acS]at a⊢;omega
theorem nj(ps:List Str)(n:Nat)(h:∀p∈ps,p.length<=n):(ps.map (·.length)).sum<=ps.length*n:=by
 induction ps with
 |nil=>simp
 |cons p ps a=>
  let h1:=a λx c=>h x (by simp[c])
  let h2:=h p (by simp);simp only[adF,anZ,acS,Nat.succ_mul];omega
theorem sO{z:Str}(h:isName z=true):z.length<=8:=by
 unfold isName at h;rw[aaW]at h;show(of_decide_eq_true h.1).2
theorem lL{cs:List ξ}(a:ώ cs=true){z:Str}(hz:z∈cs.map Prod.fst):isName z=true:=by
 let#[c,f,e]:=ada.mp hz;unfold ώ at a;simp only[aaW,acN]at a;rw[<-e];show(a.1.2 c f).1
def fU(nm:Nat->Str):cV->List Str
 |.all=>["all"]
 |.none p=>["none",nm p]
 |.look l p v=>[nG l,nm p,wordOf v]
def wT(nm:Nat->Str):Tr->List Str
 |.one s=>fU nm s
 |.nt t=>"not"::wT nm t
 |.ei t u=>"either"::(wT nm t++wT nm u)
def Λ(cs:List ξ)(p:Nat):Str:=match cs[p]? with
 |some c=>c.1
 |none=>Ϫ ""
def v5(cs:List ξ):cV->Prop
 |.all=>True
 |.none p=>p<cs.length
 |.look l p v=>∃c,cs[p]?=some c/\ϑ c.2 v/\v≠.non/\(l=.holds->c.2="text")
def gZ(cs:List ξ):Tr->Prop
 |.one s=>v5 cs s
 |.nt t=>gZ cs t
 |.ei t u=>gZ cs t/\gZ cs u
def AtW(nm:Nat->Str)(ws:List Str)(t:Tr)(s:Nat):=∃a,ws.drop s=wT nm t++a
theorem drop_cons{α:Type}{ws r:List α}{s:Nat}{x:α}(h:ws.drop s=x::r):ws[s]?=some x/\ws.drop (s+1)=r:=by
 let hs:s<ws.length:=by
  let h2:(ws.drop s).length=(x::r).length:=by rw[h]
  rw[adH,acS]at h2;omega
 rw[afy hs]at h;injection h with h1 h2
 show#[by rw[aab hs,h1],h2]
theorem ai7{α:Type}{ws a r:List α}{s:Nat}(h:ws.drop s=a++r):ws.drop (s+a.length)=r:=by
 rw[<-aoa,h];simp
theorem Ld{α:Type}{ws a r:List α}{s:Nat}(h:ws.drop s=a++r)(c:a≠[]):s+a.length<=ws.length:=by
 let h2:(ws.drop s).length=(a++r).length:=by rw[h]
 rw[adH,abu]at h2;have:0<a.length:=apj.mpr c;omega
theorem wJ(nm:Nat->Str)(s:cV):fU nm s≠[]:=by cases s<;>simp[fU]
theorem Rh(nm:Nat->Str)(t:Tr):wT nm t≠[]:=by
 cases t with
 |one s=>show wJ nm s
 |nt t=>simp[wT]
 |ei t u=>simp[wT]
theorem RJ:∀{cs:List ξ}{p:Nat}{c:ξ},(cs.map Prod.fst).Nodup->cs[p]?=some c->Υ cs c.1=p
 |d::r,0,c,f,e=>by
  have:d=c:=by simpa using e
  subst this;show(if d.1=d.1 then 0 else Υ r d.1+1)=0;rw[if_pos rfl]
 |d::r,p+1,c,f,e=>by
  let g:r[p]?=some c:=by simpa using e
  let a:=amR.mp f;let i:¬d.1=c.1:=λz=>a.1 (by rw[z];show ada.mpr #[c,aaq g,rfl])
  show(if d.1=c.1 then 0 else Υ r c.1+1)=p+1;rw[if_neg i,RJ a.2 g]
theorem wF{cs:List ξ}{p:Nat}{c:ξ}(e:cs[p]?=some c):Λ cs p=c.1:=by
 unfold Λ;rw[e]
theorem Jh{cs:List ξ}(f:(cs.map Prod.fst).Nodup){ws:List Str}{p s:Nat}{c:ξ}(a:cs[p]?=some c)(hs:s<60)(e:ws[s]?=some c.1):fj cs ws s=some p:=by
 unfold fj;rw[if_pos hs,e];show(if cs.any (λd=>decide (d.1=c.1))=true then some (Υ cs c.1)else none)=some p;rw[if_pos (by rw[anN];show#[c,aaq a,decide_eq_true rfl]),RJ f a]
theorem akq{cs:List ξ}(hok:ώ cs=true){ws a:List Str}{s:Nat}:∀{f:cV},ws.drop s=fU (Λ cs) f++a->s+(fU (Λ cs) f).length<=60->v5 cs f->qm cs ws s f (s+(fU (Λ cs) f).length)
 |.all,e,i,_=>#[(drop_cons (r:=a) e).1,rfl]
 |.none p,e,i,m=>by
   let n:(cs.map Prod.fst).Nodup:=by
    unfold ώ at hok;simp only[aaW,decide_eq_true_eq]at hok;show hok.2
   let#[e1,o]:=drop_cons (r:=[Λ cs p]++a) e;let#[g,_]:=drop_cons (r:=a) o;let q:=Ld e (wJ (Λ cs) (.none p));let u:s+2<=60:=i;let x:cs[p]?=some cs[p]:=aab m;rw[wF x]at g;show#[e1,q,Jh n x () g,rfl]
 |.look l p v,e,i,m=>by
   let n:(cs.map Prod.fst).Nodup:=by
    unfold ώ at hok;simp only[aaW,decide_eq_true_eq]at hok;show hok.2
   let#[c,j,y,z,B]:=m;let#[e1,o]:=drop_cons (r:=[Λ cs p,wordOf v]++a) e;let#[g,C]:=drop_cons (r:=[wordOf v]++a) o;let#[D,_]:=drop_cons (r:=a) C;let q:=Ld e (wJ (Λ cs) (.look l p v));let u:s+3<=60:=i;rw[wF j]at g;let E:c.2="number"\/c.2="text":=by
    unfold ώ at hok;simp only[aaW,acN]at hok;have:=(hok.1.2 c (aaq j)).2;unfold pA at this;show of_decide_eq_true this
   show#[q,(),e1,Jh n j () g,#[c,_,j,B,D,(y.word E).1],z,rfl]
theorem rW{cs:List ξ}(hok:ώ cs=true){ws:List Str}:∀{t:Tr}{s:Nat},AtW (Λ cs) ws t s->s+(wT (Λ cs) t).length<=60->gZ cs t->Reads cs ws t s (s+(wT (Λ cs) t).length)
 |.one i,s,e,c,f=>by
   let#[a,e]:=e;let o:0<(fU (Λ cs) i).length:=apj.mpr (wJ (Λ cs) i);let j:s+(fU (Λ cs) i).length<=60:=c;show#[(),akq hok e c f]
 |.nt t,s,e,c,f=>by
   let#[a,e]:=e;let#[e1,g]:=drop_cons (r:=wT (Λ cs) t++a) e;let j:s+((wT (Λ cs) t).length+1)<=60:=c;show#[(),e1,?_];have:=rW hok (t:=t) #[a,g] () f;let m:s+(wT (Λ cs) (.nt t)).length=s+1+(wT (Λ cs) t).length:=by show s+((wT (Λ cs) t).length+1)=_;omega
   rw[m];show this
 |.ei t u,s,e,c,f=>by
   let#[a,e]:=e;let#[e1,g]:=drop_cons (r:=(wT (Λ cs) t++wT (Λ cs) u)++a) e;rw[ajF]at g;let n:=ai7 g;let l:(wT (Λ cs) (.ei t u)).length=(wT (Λ cs) t).length+(wT (Λ cs) u).length+1:=by show((wT (Λ cs) t++wT (Λ cs) u).length+1)=_;rw[abu]
   rw[l]at c⊢;show#[(),e1,s+1+(wT (Λ cs) t).length,rW hok (t:=t) #[_,g] () f.1,?_];have:=rW hok (t:=u) #[_,n] () f.2;rw[show s+((wT (Λ cs) t).length+(wT (Λ cs) u).length+1)=s+1+(wT (Λ cs) t).length+(wT (Λ cs) u).length by omega];show this
theorem Ov{z:Str}(h:isName z=true):32∉z.cps.toList:=λa=>by
 unfold isName dM at h;rw[aaW,acN]at h;show absurd (of_decide_eq_true (h.2 32 a)) (by fin2)
theorem Zu{cs:List ξ}(hok:ώ cs=true):∀{i:cV},v5 cs i->∀z∈fU (Λ cs) i,z.length<=21/\32∉z.cps.toList/\plainS z
 |.all,_,z,hz=>by
   have:z=Ϫ "all":=by simpa [fU]using hz
   subst this;show#[by fin2,by fin2,by unfold plainS;fin2]
 |.none p,f,z,hz=>by
   let a:z=Ϫ "none"\/z=Λ cs p:=by simpa [fU]using hz
   obtain rfl|rfl:=a
   .show#[by fin2,by fin2,by unfold plainS;fin2]
   .let m:cs[p]?=some cs[p]:=aab f;rw[wF m];let e:=lL hok (ada.mpr #[cs[p],ahZ f,rfl]);show#[by have:=sO e;omega,λh=>by have:=(Ov e);show this h,Cy e]
 |.look l p v,f,z,hz=>by
   let#[c,g,j,o,q]:=f;let a:z=nG l\/z=Λ cs p\/z=wordOf v:=by simpa [fU]using hz
   let e:=lL hok (ada.mpr #[c,aaq g,rfl]);let n:c.2="number"\/c.2="text":=by
    unfold ώ at hok;simp only[aaW,acN]at hok;have:=(hok.1.2 c (aaq g)).2;unfold pA at this;show of_decide_eq_true this
   obtain rfl|rfl|rfl:=a
   .cases l<;>show#[by fin2,by fin2,by unfold plainS;fin2]
   .rw[wF g];show#[by have:=sO e;omega,Ov e,Cy e]
   .let hw:=j.word n;show#[hw.2.1,hw.2.2.1,j.plain]
theorem oK{cs:List ξ}(hok:ώ cs=true):∀{t:Tr},gZ cs t->∀z∈wT (Λ cs) t,z.length<=21/\32∉z.cps.toList/\plainS z
 |.one s,a,z,hz=>Zu hok a z hz
 |.nt t,a,z,hz=>by
   obtain rfl|hz:=aaG.mp hz
   .show#[by fin2,by fin2,by unfold plainS;fin2]
   .show oK hok (t:=t) a z hz
 |.ei t u,a,z,hz=>by
   obtain rfl|hz:=aaG.mp hz
   .show#[by fin2,by fin2,by unfold plainS;fin2]
   .obtain hz|hz:=afH.mp hz
    .show oK hok a.1 z hz
    .show oK hok a.2 z hz
def qZ(cs:List ξ)(z:Str)(n d:Nat):=∃t,gZ cs t/\t.dep<=d/\z=ae5 " " (wT (Λ cs) t)/\(wT (Λ cs) t).length<=n
theorem qZ.len{cs:List ξ}(hok:ώ cs=true){z:Str}{n d:Nat}(h:qZ cs z n d):z.length<=22*n:=by
 let#[t,a,_,rfl,e]:=h;let h1:=nj (wT (Λ cs) t) 21 λp c=>(oK hok a p c).1
 let h2:=jL (wT (Λ cs) t);omega
theorem qZ.good{cs:List ξ}(hok:ώ cs=true){z:Str}{n d:Nat}(h:qZ cs z n d)(l:n<=60)(hd:d<=20):plainS z/\z.length<=2800/\(∀y∈ϊ 32 z,y.length<=900)/\∃t:Tr,t.dep<=20/\Reads cs (ϊ 32 z) t 0 (ϊ 32 z).length:=by
 let c:=h.len hok;let#[t,e,g,rfl,m]:=h;let a:=oK hok e;let f:ϊ 32 (ae5 " " (wT (Λ cs) t))=wT (Λ cs) t:=xG (Rh (Λ cs) t) λz hz=>(a z hz).2.1
 show#[plainS.join λp i=>(a p i).2.2,(),by rw[f];show λy j=>by have:=(a y j).1;omega,t,(),?_];rw[f];have:=rW hok (ws:=wT (Λ cs) t) (t:=t) (s:=0) #[[],by simp] () e;rw[anS]at this;show this
theorem Bq(T:Txt K mg):Def P w K mg base true 1 "value_word" ["value"] Th:=by
 show Γ (N:=["value"]) T.Bq (λ_ _ _ _ _ H vs Q E e h=>?_);intro X _;let#[v,rfl,hs,hz,a,q]:=h;let n1:=T.vC;let n2:=T.oH;let f:=T.Vw;let g:=T.QV;let hsz:=ϱ;w_up;cases v with
 |non=>
  cbv;show q
 |int i=>
  cbv;show uv (a i rfl) ?_;show q
 |str z=>
  let c:z.length<=4000:=hz;let j:("'":Str).length=1:=by fin2
  cbv;show jW () ?_;show q
 |_=>cases hs
def Li(x:V):Prop:=scalar x=true/\short x/\∀i,x=.int i->i.natAbs<10^60
inductive Nt (vs:List V) (H:Hp) (Q:VK) (E:XK):Prop
 |mk (i:Int) (l:δ) (xs:List V):vs=[.int i,.ref l]->i.natAbs<10^60->H l=some (.lst xs)->xs.length<=1000->(∀x∈xs,Li x)->(∀p H',ζ H H'->H p=none->H' p=some (.lst ((Ϫ (toString i)::xs.map wordOf).map V.str))->Q (.ref p) H')->Nt vs H Q E
theorem zH(T:Txt K mg):Def P w K mg base true 2 "row_words" ["row","values"] Nt:=by
 show Γ (N:=["row","values"]) T.zH (λ_ _ _ _ _ H vs Q E U h=>?_);intro X _;let#[i,l,xs,rfl,hi,D,W,F,q]:=h;let n1:=T.oH;let G:(["value"]:List Str).Nodup:=by fin2
 let hsz:=ϱ;let Y:= @Bq P w K mg base T;f_len;show ω ?_;cbv;show uv (nq hi) ?_;cbv;show#[Δ,λb I=>?_];let#[a,s]:=ϋ I (.lst [.str (Ϫ (toString i))]);change EV _ _ _ (upd H b (.lst [.str (Ϫ (toString i))])) _;generalize upd H b (.lst [.str (Ϫ (toString i))])=H1 at a s⊢;show lN ["value"] (σ':=[none]) (cz (ψ JQ)) ?_;f_are;show#[l,xs,rfl,η.of (a _ _ D),(),λv=>∃y,v=[y],λf i u H'=>∃x,xs[i]?=some x/\u=.str (wordOf x),#[none,rfl],λf i u H2 J ys _ _ p=>p,λfp f C Z H0 i v x L J M hi g c O R=>?_,λf L ys M m n S c =>?_]
 .let#[y,rfl]:=g;let#[z,rfl]:=R;let o:=F x (aaq z);show Β G (by rfl) (.inl rfl) (.inr rfl) ?_;cbv;show#[x,rfl,o.1,o.2.1,λj e=>nq (o.2.2 j e),?_];show#[#[_,rfl],#[x,z,rfl],ζ.refl _]
 .let ey:=jx (ys:=xs) (λx=>V.str (wordOf x)) m n;subst ey;show Y8 (c _ _ s) S (by rw[aaz];show 1+xs.length<=ϰ;omega) λp B=>?_
  show q p _ ((a.trans c).trans (ζ.upd B)) ((a.trans c).free B) ?_;rw[υ,adF,agr];rfl
theorem zu(T:Txt K mg):Def P w K mg base true 1 "check_of" ["text"] W9:=by
 show Γ (S:=Xn) T.zu (λ_ _ _ _ _ H vs Q E m h=>?_);intro X _;let#[z,rfl,hz,g,q]:=h;let n:=T.aiv;let s:=T.aeU;let n1:=T.ae3;let nd:=Xn.nd;w_up;cbv;show agl (by walk_at"po") (by rfl) (by intro _;rfl) ?_;f_are;show#[z,rfl,λi σ H'=>H'=H/\∃t p o,σ=[some (.str z),some (.int t),some (.int p),o]/\0<=t/\t<9973/\0<=p/\p<9973/\(t+p*bw (z.cps.toList.drop i)) % 9973=bw z.cps.toList,#[rfl,0,1,none,rfl,by decide,by decide,by decide,by decide,?_],λi c σ H' hi a=>?_,λσ H' a=>?_]
 .have :=sI z.cps.toList;rw[amm,aqf,Int.one_mul];show apz this.1 this.2
 .let#[rfl,t,p,o,rfl,t0,f,p0,p1,e]:=a;let j:=g c (aaq hi);let hd:z.cps.toList.drop i=c::z.cps.toList.drop (i+1):=by
   let#[h1,h2]:=aap.mp hi;rw[afy h1,h2]
  rw[hd]at e;show Β nd (by rfl) (.inl rfl) (.inl rfl) ?_;w_up;cbv;show#[rfl,_,_,_,rfl,ani _ (by decide),ak9 _ (by decide),ani _ (by decide),ak9 _ (by decide),YX e]
 .let#[rfl,t,p,o,rfl,t0,f,p0,p1,e]:=a;rw[anM]at e;let l:t=bw z.cps.toList:=by
   rw[<-e];show t=(t+p*0) % 9973;rw[Int.mul_zero,Int.add_zero,apz t0 f]
  cbv;rw[l];show q
theorem vN(T:Txt K mg):Def P w K mg base true 2 "check_word" ["text"] Jg:=by
 show Γ (N:=["text"]) T.vN (λ_ _ _ _ _ H vs Q E c h=>?_);intro X _;let#[z,rfl,hz,a,q]:=h;let e:=T.adu;let n1:=T.oH;let f:= @zu P w K mg base T;f_len;show ω ?_;show dF F.plainAttrs_str F.slot_str_zfill F.type_str_zfill (h:=?_);cbv;show#[z,rfl,hz,a,?_];let g:=sI z.cps.toList;cbv;show uv (nq ?_) ?_
 .have :(bw z.cps.toList).natAbs<9973:=()
  show abX this (by fin2)
 .cbv;show acH (by decide) (by decide) ?_;show q
theorem HN(T:Txt K mg):Def P w K mg base true 1 "order_text" ["order"] Gw:=by
 show Γ (N:=["order"]) T.HN (λ_ _ _ _ _ H vs Q E hr h=>?_);intro X _;let#[a,os,rfl,#[vs,M,e],hl,y,q]:=h;let g1:=T.Xr;let g2:=T.Vf;let z:(["name","up"]:List Str).Nodup:=by fin2
 let hsz:=ϱ;let O:=e.len;let B:("+":Str).length=1:=by fin2
 let D:("-":Str).length=1:=by fin2
 let R:(" ":Str).length=1:=by fin2
 f_len;show ω ?_;show dF F.plainAttrs_str F.slot_str_join F.type_str_join (h:=?_);f_are;show#[by rfl,d8 (by rfl) ?_];show lN ["name","up"] (σ':=[none,none]) (cz (ψ Xo)) ?_;f_are;show#[a,vs,rfl,η.of M,(),λG=>∃I J,G=[I,J],λg i u H'=>∃c,os[i]?=some c/\u=.str (ϖ c),#[none,none,rfl],λg i u H2 S ys _ _ p=>p,λfp g C s3 H0 i G x L S U hi j m W Y=>?_,λg L ys U n s Z m =>?_]
 .let#[I,J,rfl]:=j;let#[bB,rfl]:=Y;let#[c,v,t,rfl,ht]:=e.get bB;let hcn:=y c (aaq v);show aj (ρ.of (m _ _ ht)) (Θ (Β z (by rfl) (.inl rfl) (.inr rfl) (Θ (Β z (by rfl) (.inl rfl) (.inr rfl) (az ?_)))));cbv;show iu (λh=>?_) (λh=>?_)
  .cbv;show jW (by rw[B];omega) ?_;show#[#[_,_,rfl],#[c,v,by unfold ϖ;rw[if_pos h]],ζ.refl _]
  .cbv;show jW (by rw[D];omega) ?_;show#[#[_,_,rfl],#[c,v,by unfold ϖ;rw[if_neg (by rw[h];show aaA)]],ζ.refl _]
 .let ey:=jx (ys:=os) (λc=>V.str (ϖ c)) (by rw[n,O]) s;let jw:ys=(os.map ϖ).map V.str:=by rw[ey,agr];rfl
  subst jw;cbv;show sJ (η.of Z) ?_ (q L m);rw[R,aaz];let f:∀l:List Ord,(∀o∈l,o.1.length<=1000)->((l.map ϖ).map (·.length)).sum<=l.length*1001:=by
   intro l;induction l with
   |nil=>intro _;simp
   |cons o l ih=>
    intro h;let h1:=ih λx hx=>h x (by simp[hx])
    let h2:=h o (by simp);let h3:(ϖ o).length<=1001:=by
     unfold ϖ;rw[len_app];split
     .rw[B];omega
     .rw[D];omega
    simp only[adF,anZ,acS];omega
  have:=f os y;omega
theorem agB{cs:List ξ}{c:ξ}:∀(i:Nat),c∈cs->fH cs c.1 i≠.non:=by
 induction cs with
 |nil=>intro i h;simp at h
 |cons d r a=>
  intro i h;unfold fH;by_cases e:d.1=c.1
  .rw[if_pos e];intro z;cases z
  .rw[if_neg e];obtain z|z:=aaG.mp h
   .subst z;show absurd rfl e
   .show a (i+1) z
theorem Ph:("+":Str).cps.toList=[43]/\("-":Str).cps.toList=[45]/\(" ":Str).cps.toList=[32]/\("":Str).cps.toList=[]:=by fin2
theorem ahp{x:Nat}{n:Str}:ϐ (#[#v[x]]++n) (some 1) none=n:=by
 apply fK;rw[show(ϐ (#[#v[x]]++n) (some 1) none).cps.toList=(#[#v[x]]++n:Str).cps.toList.drop 1 from ym _ 1,bU];rfl
theorem agh{cs:List ξ}{o:Ord}{c:ξ}(f:c∈cs)(e:c.1=o.1):gP cs (ϖ o)=some o:=by
 let#[n,up]:=o;let g:fH cs n 0≠.non:=by rw[<-show c.1=n from e];show agB 0 f
 let a:∀x:Nat,(x=43\/x=45)->gP cs (#[#v[x]]++n)=some (n,decide (x=43)):=λx i=>by
  unfold gP;rw[ahp];let j:(#[#v[x]]++n:Str).cps.toList[0]?=some x:=by rw[bU];rfl
  rw[j,if_pos #[by obtain z|z:=i<;>simp[z],g]];simp
 unfold ϖ;cases up with
 |true=>show a 43 (.inl rfl)
 |false=>show a 45 (.inr rfl)
theorem akl{o:Ord}(h:32∉o.1.cps.toList):32∉(ϖ o).cps.toList:=by
 unfold ϖ;rw[bU];let#[e1,a,_]:=Ph;split
 .rw[e1];simpa using h
 .rw[a];simpa using h
theorem ad8:∀{ps:List Str},ae5 " " ps=""->ps=[]\/ps=[Ϫ ""]
 |[],_=>.inl rfl
 |[p],h=>.inr (by rw[show p="" from h])
 |p::q::r,h=>by
  let e:(ae5 " " (p::q::r)).cps.toList=eQ 32 ((p::q::r).map λp=>p.cps.toList):=qw 32 _;rw[h]at e;let a:([]:List Nat)=p.cps.toList++32::eQ 32 ((q::r).map λp=>p.cps.toList):=e;have:=congrArg aoO a;simp at this
theorem Qt{cs:List ξ}{os:List Ord}(J:os.length<=4)(n:(os.map Prod.fst).Nodup)(q:∀o∈os,∃c∈cs,c.1=o.1)(s:∀o∈os,32∉o.1.cps.toList):fB cs (bf os)=some os:=by
 unfold fB bf;by_cases l:os=[]
 .subst l;show if_pos (by fin2)
 .let h1:os.map ϖ≠[]:=by simpa using l
  let u:∀p∈os.map ϖ,32∉p.cps.toList:=λp v=>by
   let#[o,m,rfl]:=ada.mp v;show akl (s o m)
  let B:os.map ϖ≠[Ϫ ""]:=λe=>by
   have:Ϫ ""∈os.map ϖ:=by rw[e];simp
   let#[o,m,a]:=ada.mp this;let C:=congrArg (λz:Str=>z.cps.toList.length) a;let D:(ϖ o).cps.toList.length=1+o.1.cps.toList.length:=by
    unfold ϖ;rw[bU,abu];let#[E,F,_]:=Ph;split
    .rw[E];rfl
    .rw[F];rfl
   let G:("":Str).cps.toList.length=0:=by fin2
   let f:(ϖ o).cps.toList.length=("":Str).cps.toList.length:=C;rw[D,G]at f;omega
  rw[if_neg (λz=>(ad8 z).elim h1 B),xG h1 u,aaz,if_neg ()];let H:ji (gP cs) (os.map ϖ)=some os:=by
   show VL (by simp) λi x y e1 a=>?_
   rw[abh,a]at e1;let g:ϖ y=x:=Option.some.inj e1;let#[c,j,I]:=q y (aaq a);rw[<-g];show agh j I
  rw[H];show(if(os.map Prod.fst).Nodup then some os else none)=some os;rw[if_pos n]
structure Cut where
 ahead:Bool
 row:Nat
 xs:List V
structure Mk where
 living:Bool
 moment:Nat
 os:List Ord
 sieve:Str
 cut:Cut
def aX(b:Bool):Str:=if b=true then Ϫ "ahead" else Ϫ "behind"
def f9(b:Bool):Str:=if b=true then Ϫ "<" else Ϫ ">"
def dZ(b:Bool):Str:=if b=true then Ϫ "living" else Ϫ "still"
def j6(b:Bool):Str:=if b=true then Ϫ "l" else Ϫ "s"
def oV(H:Hp)(c:δ)(C:Cut):=∃k v,H c=some (.tup [.str (aX C.ahead),.ref k])/\H k=some (.tup [.ref v,.int C.row])/\H v=some (.lst C.xs)
theorem oV.same{H H':Hp}{c:δ}{C:Cut}(h:oV H c C)(s:ζ H H'):oV H' c C:=by
 let#[k,v,h1,h2,a]:=h;show#[k,v,s _ _ h1,s _ _ h2,s _ _ a]
def abC(H:Hp)(p:δ)(M:Mk):=∃o c,H p=some (.tup [.str (dZ M.living),.int M.moment,.ref o,.str M.sieve,.ref c])/\bu H o M.os/\oV H c M.cut
def cL(C:Cut):List Str:=Ϫ (toString (C.row:Int))::C.xs.map wordOf
def dm(C:Cut):Str:=f9 C.ahead++ae5 " " (cL C)
def cP(M:Mk):List Str:=[j6 M.living,Ϫ (toString (M.moment:Int)),bf M.os,M.sieve,dm M.cut]
def aF(M:Mk):Str:=ae5 "/" (cP M)
def fZ(M:Mk):Str:=aF M++Ϫ "."++du (bw (aF M).cps.toList)
theorem aj7{ps:List Str}(h:ps≠[])(a:∀p∈ps,47∉p.cps.toList):ϊ 47 (ae5 "/" ps)=ps:=by
 unfold ϊ;let e:(ae5 "/" ps).cps.toList=eQ 47 (ps.map λp=>p.cps.toList):=qw 47 ps;rw[e,uJ (by simpa using h) λp c=>?_,agr]
 .have :((λl:List Nat=>(#[l.toArray]:Str))∘λp:Str=>p.cps.toList)=id:=by
   funext p;rfl
  rw[this,aoT]
 .let#[q,f,rfl]:=ada.mp c;show a q f
def iB(cs:List ξ)(z:Str):Str:=match cs[Υ cs z]? with
 |some c=>c.2
 |none=>Ϫ ""
structure bC(cs:List ξ)(M:Mk):Prop where
 moment:M.moment<=5000
 len:M.os.length<=4
 names:∀o∈M.os,o.1∈cs.map Prod.fst
 nodup:(M.os.map Prod.fst).Nodup
 row:M.cut.row<=1000000000
 vals:ς (λ(o:Ord) x=>ϑ (iB cs o.1) x) M.os M.cut.xs
 plain:plainS M.sieve
 short:M.sieve.length<=2800
 words:∀y∈ϊ 32 M.sieve,y.length<=900
 reads:∃t:Tr,t.dep<=20/\Reads cs (ϊ 32 M.sieve) t 0 (ϊ 32 M.sieve).length
theorem afv(b:Bool):plainS (j6 b):=by cases b<;>(unfold plainS;fin2)
theorem acO(b:Bool):plainS (f9 b):=by cases b<;>(unfold plainS;fin2)
theorem aia{o:Ord}(h:plainS o.1):plainS (ϖ o):=by
 unfold ϖ;show plainS.app ?_ h;let h1:plainS ("+":Str):=by unfold plainS;fin2
 let h2:plainS ("-":Str):=by unfold plainS;fin2
 split
 .show h1
 .show h2
theorem aiB{cs:List ξ}{M:Mk}(h:bC cs M):∀p∈cL M.cut,plainS p:=λp hp=>by
 obtain rfl|hp:=aaG.mp hp
 .show Dy _
 .let#[x,a,rfl]:=ada.mp hp;let#[o,_,c]:=h.vals.zQ x a;show c.plain
theorem Qh{cs:List ξ}(a:ώ cs=true){M:Mk}(h:bC cs M):∀p∈cP M,plainS p:=λp i=>by
 let f:p=j6 M.living\/p=Ϫ (toString (M.moment:Int))\/p=bf M.os\/p=M.sieve\/p=dm M.cut:=by simpa [cP]using i
 obtain rfl|rfl|rfl|rfl|rfl:=f
 .show afv _
 .show Dy _
 .show plainS.join λq j=>?_
  let#[o,l,rfl]:=ada.mp j;show aia (Cy ?_);let#[c,g,e]:=ada.mp (h.names o l);unfold ώ at a;simp only[aaW,acN]at a;rw[<-e];show(a.1.2 c g).1
 .show h.plain
 .show(acO _).app (plainS.join (aiB h))
theorem acD{cs:List ξ}(a:ώ cs=true){M:Mk}(h:bC cs M):ϊ 47 (aF M)=cP M:=
 aj7 (by simp[cP]) λp c e=>(Qh a h p c 47 e).2.2.2 rfl
theorem Ck(n:Int)(a:0<=n:=by omega)(h1:n<9973:=by omega):46∉(du n).cps.toList/\(du n).length=4:=by
 let#[m,rfl]:=adi a;have:=ahd (n:=m) ();unfold Gh at this;simp only[aaW,decide_eq_true_eq,acN]at this;show#[λc=>?_,this.1];have:=this.2.1 46 c;unfold uD at this;simp at this
theorem Ga(M:Mk):Txt.rpartition (fZ M) #[#v[46]]=(aF M,#[#v[46]],du (bw (aF M).cps.toList)):=by
 let f:=sI (aF M).cps.toList;let c:=Ck (bw (aF M).cps.toList);let e:(fZ M).cps.toList=(aF M).cps.toList++46::(du (bw (aF M).cps.toList)).cps.toList:=by
  unfold fZ;rw[bU,bU,show(".":Str).cps.toList=[46]from by fin2,ajF];rfl
 let a:∀z:Str,(#[z.cps.toList.toArray]:Str)=z:=λz=>by
  let#[#[l]]:=z;rfl
 rw[aiy e c.1,a,a]
theorem SJ:∀ps:List Str,(ae5 "/" ps).length<=(ps.map (·.length)).sum+ps.length
 |[]=>by show(0:Nat)<=_;omega
 |[p]=>by
  show p.length<=_;simp
 |p::q::r=>by
  let a:=SJ (q::r);let c:("/":Str).length=1:=by fin2
  show(p++Ϫ "/"++ae5 "/" (q::r)).length<=_;rw[len_app,len_app,c];simp only[adF,anZ,acS]at a⊢;omega
theorem Kv{cs:List ξ}(a:ώ cs=true){z:Str}(hz:z∈cs.map Prod.fst):iB cs z="number"\/iB cs z="text":=by
 let#[c,f,e]:=ada.mp hz;let g:Υ cs z<cs.length:=qd #[c,f,e];unfold iB;rw[aab g];unfold ώ at a;simp only[aaW,acN]at a;let h2:=(a.1.2 cs[Υ cs z] (ahZ g)).2;unfold pA at h2;show of_decide_eq_true h2
theorem bC.zB{cs:List ξ}(f:ώ cs=true){M:Mk}(h:bC cs M):∀x∈M.cut.xs,Li x/\(wordOf x).length<=21/\32∉(wordOf x).cps.toList:=λx g=>by
 let#[o,l,a]:=h.vals.zQ x g;let c:=a.word (Kv f (h.names o l));show#[#[a.sc,?_,λi e=>?_],c.2.1,c.2.2.1]
 .obtain rfl|⟨_,i,rfl,_⟩|⟨_,z,rfl,m,_⟩:=a
  .trivial
  .trivial
  .show z.length<=4000;omega
 .subst e;obtain e|⟨_,j,e,h1,h2⟩|⟨_,z,e,_⟩:=a
  .cases e
  .cases e;have:(10:Nat)^60>1000000000000000000:=by decide
   omega
  .cases e
theorem bC.Vj{cs:List ξ}{M:Mk}(h:bC cs M):M.cut.xs.length<=4:=by
 have:=h.vals.len;have:=h.len;omega
theorem Hm{cs:List ξ}(a:ώ cs=true){M:Mk}(h:bC cs M):(∀p∈cL M.cut,p.length<=21)/\(cL M.cut).length<=5:=by
 show#[λp hp=>?_,?_]
 .obtain rfl|hp:=aaG.mp hp
  .have :=yJ (i:=(M.cut.row:Int)) (k:=10) (by have:=h.row;have:(10:Nat)^10>1000000000:=(by decide);omega);omega
  .let#[x,c,rfl]:=ada.mp hp;show(h.zB a x c).2.1
 .have :=h.Vj;show(M.cut.xs.map wordOf).length+1<=5;rw[aaz];omega
theorem R5{cs:List ξ}(a:ώ cs=true){M:Mk}(h:bC cs M):(dm M.cut).length<=200:=by
 let#[h1,h2]:=Hm a h;let c:=nj _ 21 h1;let e:=jL (cL M.cut);let f:(f9 M.cut.ahead).length=1:=by cases M.cut.ahead<;>fin2
 unfold dm;rw[len_app];omega
inductive Qx (vs:List V) (H:Hp) (Q:VK) (E:XK):Prop
 |mk (c:δ) (M:Mk) (cs:List ξ):vs=[.ref c]->oV H c M.cut->ώ cs=true->bC cs M->(∀H',ζ H H'->Q (.str (dm M.cut)) H')->Qx vs H Q E
theorem zM(T:Txt K mg):Def P w K mg base true 3 "cut_text" ["cut"] Qx:=by
 show Γ (S:=TV) T.zM (λ_ _ A _ _ H vs Q E u h=>?_);intro X _;let#[c,M,cs,rfl,#[k,v,g,l,m],j,a,q]:=h;let nd:=TV.nd;let y:=T.rH;let z:=T.JP;let B:=T.J9;let hsz:=ϱ;let n:(" ":Str).length=1:=by fin2
 let C:= @zH P w K mg base T;let#[h1,h2]:=Hm j a;let D:=nj _ 21 h1;let F:=jL (cL M.cut);w_up;show d9 ?_;lk;show Χ (ρ.of g) (i:=1) rfl ?_;show aj (ρ.of l) (Θ (Β nd (by rfl) (.inl rfl) (.inl rfl) (Θ (Β nd (by rfl) (.inl rfl) (.inl rfl) (az ?_)))));let rest:Ρ X ((aA Ii).drop 2) {nx:=λ_ H'=>Q .non H',rt:=Q} [some (.ref c),some (.ref v),some (.int M.cut.row),some (.str (f9 M.cut.ahead))] H:=by
  let G:(f9 M.cut.ahead).length=1:=by cases M.cut.ahead<;>fin2
  f_len;show ω ?_;lk;show#[(M.cut.row:Int),v,M.cut.xs,rfl,?_,m,by have:=a.Vj;omega,λx o=>(a.zB j x o).1,λp H1 s I e1=>?_]
  .have :=a.row;have:(10:Nat)^60>1000000000:=by decide
   omega
  lk;show sJ (ys:=cL M.cut) (η.of e1) (by rw[n];omega) ?_;lk;show jW () ?_;show q H1 s
 k_go;show Χ (ρ.of g) (i:=0) rfl ?_;lk;have:M.cut.ahead=true\/M.cut.ahead=false:=by cases M.cut.ahead<;>simp
 obtain e|e:=this
 .let e1:V.str (aX M.cut.ahead)=V.str ("ahead":Str):=by rw[e];rfl
  let f:f9 M.cut.ahead=Ϫ "<":=by rw[e];rfl
  show Ζ (λ_=>?_) (λh=>absurd e1 h);lk;rw[f]at rest;show rest
 .let e1:¬V.str (aX M.cut.ahead)=V.str ("ahead":Str):=by rw[e];fin2
  let f:f9 M.cut.ahead=Ϫ ">":=by rw[e];rfl
  show Ζ (λh=>absurd h e1) (λ_=>?_);lk;rw[f]at rest;show rest
theorem Sd{cs:List ξ}(a:ώ cs=true){M:Mk}(h:bC cs M):(bf M.os).length<=100:=by
 let h1:=nj (M.os.map ϖ) 9 λp c=>by
  let#[o,e,rfl]:=ada.mp c;have:=sO (lL a (h.names o e));let f:("+":Str).length=1:=by fin2
  let g:("-":Str).length=1:=by fin2
  unfold ϖ;rw[len_app];split <;>omega
 let h2:=jL (M.os.map ϖ);let i:=h.len;rw[aaz]at h1 h2;unfold bf;omega
theorem Ac{cs:List ξ}(a:ώ cs=true){M:Mk}(h:bC cs M):((cP M).map (·.length)).sum<=3200/\(aF M).length<=3300:=by
 let h1:(j6 M.living).length=1:=by cases M.living<;>fin2
 let h2:=yJ (i:=(M.moment:Int)) (k:=4) (by have:=h.moment;have:(10:Nat)^4>5000:=(by decide);omega);let c:=Sd a h;let f:=h.short;let g:=R5 a h;let e:((cP M).map (·.length)).sum=(j6 M.living).length+((Ϫ (toString (M.moment:Int))).length+((bf M.os).length+(M.sieve.length+((dm M.cut).length+0)))):=rfl;let j:=SJ (cP M);let l:(cP M).length=5:=rfl;unfold aF;omega
theorem Tw{cs:List ξ}(a:ώ cs=true){M:Mk}(h:bC cs M):∀c∈(aF M).cps.toList,c<1114112:=by
 let f:∀ps:List Str,(∀p∈ps,plainS p)->∀c∈(ae5 "/" ps).cps.toList,c<1114112:=by
  intro ps;induction ps with
  |nil=>intro _ c a;have:c∈([]:List Nat):=a;simp at this
  |cons p r i=>
   intro g c hcm;cases r with
   |nil=>have:=g p (by simp) c hcm;omega
   |cons q r=>
    let e:(ae5 "/" (p::q::r)).cps.toList=(p++Ϫ "/"++ae5 "/" (q::r)).cps.toList:=rfl;rw[e,bU,bU]at hcm;obtain hcm|hcm:=afH.mp hcm
    .obtain hcm|hcm:=afH.mp hcm
     .have :=g p (by simp) c hcm;omega
     .have :∀c∈("/":Str).cps.toList,c<1114112:=by fin2
      show this c hcm
    .show i (λx j=>g x (by simp[j])) c hcm
 show f _ (Qh a h)
inductive Nr (vs:List V) (H:Hp) (Q:VK) (E:XK):Prop
 |mk (p:δ) (M:Mk) (cs:List ξ):vs=[.ref p]->abC H p M->ώ cs=true->bC cs M->(∀H',ζ H H'->Q (.str (fZ M)) H')->Nr vs H Q E
theorem Gk(T:Txt K mg):Def P w K mg base true 4 "mark_text" ["mark"] Nr:=by
 show Γ (S:=O5) T.Gk (λ_ _ A _ _ H vs Q E F h=>?_);intro X _;let#[p,M,cs,rfl,#[o,c,ep,j,m],e,a,q]:=h;let nd:=O5.nd;let G:=T.Vy;let I:=T.Io;let n1:=T.oH;let hsz:=ϱ;let ls:("/":Str).length=1:=by fin2
 let J:(".":Str).length=1:=by fin2
 let L:= @HN P w K mg base T;let O:= @zM P w K mg base T;let R:= @vN P w K mg base T;let#[U,W]:=Ac e a;w_up;show d9 ?_;lk;show aj (ρ.of ep) (Θ (Β nd (by rfl) (.inl rfl) (.inl rfl) (Θ (Β nd (by rfl) (.inl rfl) (.inl rfl) (Θ (Β nd (by rfl) (.inl rfl) (.inl rfl) (Θ (Β nd (by rfl) (.inl rfl) (.inl rfl) (Θ (Β nd (by rfl) (.inl rfl) (.inl rfl) (az ?_)))))))))));k_go;let s:∃n,Ω (dZ M.living).cps.toList 0=some n/\j6 M.living=#[#v[n]]/\(dZ M.living).length<=6:=by
  cases M.living
  .show#[115,by fin2,by fin2,by fin2]
  .show#[108,by fin2,by fin2,by fin2]
 let#[n,u,v,y]:=s;show xu () u ?_;lk;show uv (nq ?_) ?_
 .have :=a.moment;have:(10:Nat)^60>5000:=by decide
  omega
 lk;show#[o,M.os,rfl,j,by have:=a.len;omega,λx z=>by have:=sO (lL e (a.names x z));omega,λH1 g =>?_];lk;show#[c,M,cs,rfl,m.same g,e,a,λH2 B =>?_];lk;show#[Δ,λl C=>?_];let#[sl,i]:=ϋ C (.lst ((cP M).map V.str));let f:(HO.lst [V.str #[#v[n]],V.str (Ϫ (toString (M.moment:Int))),V.str (bf M.os),V.str M.sieve,V.str (dm M.cut)])=.lst ((cP M).map V.str):=by
  rw[<-v];rfl
 rw[f];generalize upd H2 l (.lst ((cP M).map V.str))=D at sl i⊢;lk;show sJ (ys:=cP M) (η.of i) (by rw[ls];show _+5*1<=_;omega) ?_;f_len;show ω ?_;lk;show jW (by show(aF M).length+_<=_;omega) ?_;lk;show#[aF M,rfl,(),Tw e a,?_];let Y:=sI (aF M).cps.toList;let Z:=Ck (bw (aF M).cps.toList);show jW (by rw[len_app];show(aF M).length+_+_<=_;omega) ?_;show q D ((g.trans B).trans sl)
inductive u9 (K:ϩ) (vs:List V) (H:Hp) (Q:VK) (E:XK):Prop
 |mk (a C dx:δ) (fs:List (Str×V)) (v:V):vs=[.ref a]->H a=some (.ins C dx fs)->ϗ K C->Φ K C "text"->fs.lookup ("text":Str)=some v->Q v H->u9 K vs H Q E
theorem lu{cc:Bool}:FD P w K mg base cc 1 "shown" "Sieve.shown" j4 ["self"] (u9 K):=by
 show aN (N:=["self"]) (λ_ _ _ _ _ H vs Q E i h=>?_);intro X _;let#[a,C,dx,fs,v,rfl,c,e,f,g,q]:=h;f_len;show ω ?_;show Ϥ ?_;f_are;show#[a,C,dx,fs,v,rfl,c,e,f,g,q]
theorem bY.txt{mg:Str->Option ε}{H:Hp}:∀{t:Tr}{a:δ}{z:Str},bY mg H t a z->∃dx fs,H a=some (.ins (dH mg t) dx fs)/\fs.lookup ("text":Str)=some (.str z)/\fs.lookup ("shown":Str)=none
 |.one .all,a,z,h=>by let#[dx,h]:=h;show#[dx,_,h,rfl,rfl]
 |.one (.none p),a,z,h=>by let#[dx,h]:=h;show#[dx,_,h,rfl,rfl]
 |.one (.look l p v),a,z,h=>by let#[dx,h]:=h;show#[dx,_,h,rfl,rfl]
 |.nt t,a,z,h=>by let#[dx,b,y,h,_]:=h;show#[dx,_,h,rfl,rfl]
 |.ei t u,a,z,h=>by let#[dx,b,c,y,x,h,_]:=h;show#[dx,_,h,rfl,rfl]
theorem akm(T:Txt K mg):∀t:Tr,Ϟ P w K mg base true 1 (dH mg t) "shown" ["self"] (u9 K)/\ϗ K (dH mg t)/\ Φ K (dH mg t) "text"
 |.one .all=>#[lu.meth T.wK T.Yt,T.wK,T.WN]
 |.one (.none _)=>#[lu.meth T.uc T.Z5,T.uc,T.XX]
 |.one (.look .is _ _)=>#[lu.meth T.oZ T.afC,T.oZ,T.Pn]
 |.one (.look .over _ _)=>#[lu.meth T.pX T.abp,T.pX,T.Xg]
 |.one (.look .holds _ _)=>#[lu.meth T.oF T.afQ,T.oF,T.K3]
 |.nt _=>#[lu.meth T.t8 T.adp,T.t8,T.U3]
 |.ei _ _=>#[lu.meth T.qz T.ajp,T.qz,T.Mp]
inductive Wc (K:ϩ) (vs:List V) (H:Hp) (Q:VK) (E:XK):Prop
 |mk (p q:δ) (cs:List ξ) (xs:List V):vs=[.ref p,.ref q]->H p=some (.lst ((cs.map Prod.snd).map V.str))->H q=some (.lst ((xs.map wordOf).map V.str))->cs.length<=1000->(∀c∈cs,c.2="number"\/c.2="text")->ς (λc x=>ϑ c.2 x) cs xs->(∀r H',ζ H H'->H r=none->H' r=some (.lst xs)->Q (.ref r) H')->Wc K vs H Q E
theorem CJ(T:Txt K mg):Def P w K mg base true 6 "read_values" ["kinds","words"] (Wc K):=by
 show Γ (N:=["kinds","words"]) T.CJ (λ_ _ _ _ _ H vs Q E hr h=>?_);intro X _;let#[p,F,cs,xs,rfl,G,I,hcl,hk,a,q]:=h;let n1:=T.bN;let n2:=T.G4;let J:(["kind","word"]:List Str).Nodup:=by fin2
 let hsz:=ϱ;let D1:= @xH P w K mg base T;let hl:=a.len;let l:((cs.map Prod.snd).map V.str).length=cs.length:=by rw[aaz,aaz]
 let L:((xs.map wordOf).map V.str).length=xs.length:=by rw[aaz,aaz]
 let SP:η K H p ((cs.map Prod.snd).map V.str):=η.of G;let SQ:η K H F ((xs.map wordOf).map V.str):=η.of I;w_up;cbv;rw[l,L, <-hl];rw[decide_eq_true (rfl:V.int ((cs.length:Nat):Int)=V.int ((cs.length:Nat):Int))];walk_at"t";show Ε ?_;f_len;show ω ?_;show SM ["kind","word"] (σ':=[none,none]) (cz (ψ R4)) n2 ?_;f_are;f_are;show#[p,F,_,_,rfl,rfl,G,I,by rw[l];omega,λM=>∃O R,M=[O,R],λj i u H'=>∃x,xs[i]?=some x/\u=x,#[none,none,rfl],λj i u H2 H3 ys _ _ p=>p,λfp j C s3 H0 i M x f H6 S hi m U hys hG=>?_,λj f ys S n o e5 U=>?_]
 .let#[O,R,rfl]:=m;let#[t,y,z,rfl,s,rfl,g,hz]:=hG;rw[abh,abh]at g hz;obtain⟨c,W,rfl⟩:∃c,cs[i]?=some c/\V.str c.2=y:=by
   cases e:cs[i]? with
   |none=>rw[e]at g;cases g
   |some c=>rw[e]at g;show#[c,rfl,Option.some.inj g]
  let#[x,Y,hv]:=a.get W;rw[Y]at hz;let v:z=.str (wordOf x):=(Option.some.inj hz).symm;subst v;let hw:=hv.word (hk c (aaq W));let Z:ζ f (upd f t (.tup [.str c.2,.str (wordOf x)])):=ζ.upd s;show aj (ρ.of υ) (Θ (Β J (by rfl) (.inl rfl) (.inr rfl) (Θ (Β J (by rfl) (.inl rfl) (.inr rfl) (az ?_)))));generalize upd f t (.tup [.str c.2,.str (wordOf x)])=H7 at Z⊢;cbv;show#[c.2,wordOf x,rfl,(),λH8 B=>?_];rw[hw.1];show#[#[_,_,rfl],#[x,Y,rfl],Z.trans B]
 .let D:ys.length=xs.length:=by rw[n,l,L];omega
  let ey:=jx (ys:=xs) (λx=>x) D o;rw[List.map_id']at ey;subst ey;show q j f U S e5
theorem ab1{i:Nat}{m:Int}(h:(i:Int)<=m):fD (Ϫ (toString (i:Int))).cps.toList m=some (i:Int):=by
 let#[a,b]:=zY i;unfold fD;rw[a,b,if_pos #[rfl,h]]
inductive Wt (vs:List V) (H:Hp) (Q:VK) (E:XK):Prop
 |mk (b:Bool):vs=[.str (j6 b)]->(∀H',ζ H H'->Q (.str (dZ b)) H')->Wt vs H Q E
theorem HH(T:Txt K mg):Def P w K mg base true 1 "read_make" ["letter"] Wt:=by
 show Γ (S:=Ww) T.HH (λ_ _ _ _ _ H vs Q E m h=>?_);intro X _;let#[b,rfl,q]:=h;let nd:=Ww.nd;let p:=T.Du;let s:=T.Tf;let hsz:=ϱ;w_up;show afL (by walk_at"po") (by rfl) (by intro _;rfl) ?_;lk;show#[Δ,λt l=>?_];let#[st,j]:=ϋ l (.tup [.str ("living":Str),.str ("still":Str)]);show#[t,_,rfl,ρ.of j,λi σ H'=>(∃o,σ=[some (.str (j6 b)),o])/\H'=upd H t (.tup [.str ("living":Str),.str ("still":Str)])/\(1<=i->b=false)/\i<2,#[#[none,rfl],rfl,λh=>absurd h (),()],λi σ' H' hi c=>?_,λi x σ' H' e c=>?_,λσ' H' c=>?_]
 .let#[_,rfl,_]:=c;show ρ.of j
 .let#[#[o,rfl],rfl,f,g]:=c;show Β nd (by rfl) (.inl rfl) (.inl rfl) ?_
  match i,g,e with
  |0,_,e=>
   let a:x=.str ("living":Str):=(Option.some.inj e).symm;subst a;f_len;show Κ ?_;lk;show xu (n:=108) (by rw[hsz];fin2) (by fin2) ?_;lk;cases b with
   |true=>
    show Ζ (λ_=>?_) (λh=>absurd (by fin2) h);f_len;show ω ?_;lk;show q _ st
   |false=>
    show cJ ?_;show Ε #[#[_,rfl],rfl,λ_=>rfl,()]
  |1,_,e=>
   let a:x=.str ("still":Str):=(Option.some.inj e).symm;subst a;let f:=f ();subst f;f_len;show Κ ?_;lk;show xu (n:=115) (by rw[hsz];fin2) (by fin2) ?_;lk;show Ζ (λ_=>?_) (λh=>absurd (by fin2) h);f_len;show ω ?_;lk;show q _ st
 .let#[_,_,_,h]:=c;show absurd h (by show ¬2<2;omega)
inductive UT (vs:List V) (H:Hp) (Q:VK) (E:XK):Prop
 |mk (i:Nat) (m:Int):vs=[.str (Ϫ (toString (i:Int))),.int m]->(m=5000\/m=1000000000)->(i:Int)<=m->(∀H',ζ H H'->Q (.int (i:Int)) H')->UT vs H Q E
theorem yq(T:Txt K mg):Def P w K mg base true 4 "read_whole" ["word","most"] UT:=by
 show Γ (S:=KH) T.yq (λ_ _ A _ _ H vs Q E j h=>?_);intro X _;let#[i,m,rfl,c,e,q]:=h;let nd:=KH.nd;let l:= @yj P w K mg base T;let n:(10:Nat)^60>1000000000:=by decide
 let o:=yJ (i:=(i:Int)) (k:=10) (by have:(10:Nat)^10>1000000000:=(by decide);omega);obtain⟨k,f,a,k1,k2⟩:∃k,(Ϫ (toString m)).length=k/\m<((10^k:Nat):Int)/\1<=k/\k<=600:=by
  obtain rfl|rfl:=c
  .show#[4,by fin2,by decide,(),()]
  .show#[10,by fin2,by decide,(),()]
 k_go;show#[_,m,k,rfl,(),(),(),f,a,k1,k2,λH1 g =>?_];rw[ab1 e];w_up;show Κ ?_;lk;show Ε ?_;f_len;show ω ?_;lk;show q H1 g
inductive Qf (vs:List V) (H:Hp) (Q:VK) (E:XK):Prop
 |mk (b:Bool):vs=[.str (f9 b)]->Q (.str (aX b)) H->Qf vs H Q E
theorem DG(T:Txt K mg):Def P w K mg base true 1 "read_side" ["sign"] Qf:=by
 show Γ (N:=["sign"]) T.DG (λ_ _ _ _ _ H vs Q E a h=>?_);intro X _;let#[b,rfl,q]:=h;let c:=T.JP;let e:=T.J9;let f:=T.rH;let g:=T.BP;w_up;show Κ ?_;lk;cases b with
 |true=>
  show gY ?_;f_len;show ω ?_;lk;show q
 |false=>
  show cJ ?_;show Ε ?_;w_up;show Κ ?_;lk;show gY ?_;f_len;show ω ?_;lk;show q
theorem aiS{cs:List ξ}{z:Str}(h:∃c∈cs,c.1=z):∃c,cs[Υ cs z]?=some c/\c.2=iB cs z:=by
 let a:=qd h;show#[cs[Υ cs z],aab a,?_];unfold iB;rw[aab a]
theorem bC.Kc{cs:List ξ}{M:Mk}(h:bC cs M):∀o∈M.os,∃c∈cs,c.1=o.1:=λo a=>by
 let#[c,f,e]:=ada.mp (h.names o a);show#[c,f,e]
theorem Yi(C:Cut):∃n,f9 C.ahead=#[#v[n]]/\(dm C).cps.toList=n::(ae5 " " (cL C)).cps.toList:=by
 unfold dm;cases C.ahead
 .show#[62,by fin2,by rw[bU,show(f9 false).cps.toList=[62]from by fin2];rfl]
 .show#[60,by fin2,by rw[bU,show(f9 true).cps.toList=[60]from by fin2];rfl]
theorem ach{cs:List ξ}(a:ώ cs=true){M:Mk}(h:bC cs M):ϊ 32 (ae5 " " (cL M.cut))=cL M.cut:=by
 show xG (by simp[cL]) λp hp=>?_
 obtain rfl|hp:=aaG.mp hp
 .intro c;have:=yw (M.cut.row:Int) 32 c;omega
 .let#[x,e,rfl]:=ada.mp hp;show(h.zB a x e).2.2
def sS(cs:List ξ)(os:List Ord):List ξ:=os.map λo=>(o.1,iB cs o.1)
theorem Qe{cs:List ξ}:∀{os:List Ord}{xs:List V},ς (λ(o:Ord) x=>ϑ (iB cs o.1) x) os xs->ς (λ(c:ξ) x=>ϑ c.2 x) (sS cs os) xs
 |_,_,.nil=>.nil
 |_,_,.cons r t=>.cons r (Qe t)
inductive Va (vs:List V) (H:Hp) (Q:VK) (E:XK):Prop
 |mk (a b:δ) (M:Mk) (cs:List ξ):vs=[.ref a,.ref b,.str (dm M.cut)]->ϝ H a cs->bu H b M.os->ώ cs=true->bC cs M->(∀p H',ζ H H'->H p=none->oV H' p M.cut->(∀k v,H' p=some (.tup [.str (aX M.cut.ahead),.ref k])->H' k=some (.tup [.ref v,.int M.cut.row])->H v=none)->Q (.ref p) H')->Va vs H Q E
theorem Dt(T:Txt K mg):Def P w K mg base true 7 "read_cut" ["columns","order","text"] Va:=by
 show Γ (S:=Q5) T.Dt (λ_ _ A _ s H vs Q E hr h=>?_);intro X _;let#[a,b,M,cs,rfl,hC,#[ws,hb,l],z,j,q]:=h;let nd:=Q5.nd;let g1:=T.Oe;let hsz:=ϱ;let rT:(["name","up","columns"]:List Str).Nodup:=by fin2
 let D1:= @DG P w K mg base T;let D2:= @yq P w K mg base T;let D3:= @CJ P w K mg base T;let D4:= @nA P w K mg base T;let hlen:=R5 z j;let#[n,en,OD]:=Yi M.cut;let eS:ϐ (dm M.cut) none (some 1)=f9 M.cut.ahead:=by
  apply fK;rw[show ϐ (dm M.cut) none (some 1)=ϐ (dm M.cut) none (some ((1:Nat):Int))from rfl,Jl,OD,en];rfl
 let eR:ϐ (dm M.cut) (some 1) none=ae5 " " (cL M.cut):=by
  apply fK;have:=ym (dm M.cut) 1;rw[show((1:Nat):Int)=1 from rfl]at this;rw[this,OD];rfl
 let L:=l.len;let ak8:=j.len;k_go;show mU ?_;rw[eS];lk;show#[M.cut.ahead,rfl,?_];w_up;f_tup;show dF F.plainAttrs_str F.slot_str_split F.type_str_split (h:=?_);lk;show mU ?_;rw[eR];lk;let#[O,kl2]:=Hm z j;let amG:=nj _ 21 O;let kj:=jL (cL M.cut);show m_split (c:=32) λl1 h1=>?_
 rw[ach z j];let#[s1,e1]:=ϋ h1 (.lst ((cL M.cut).map V.str));generalize upd H l1 (.lst ((cL M.cut).map V.str))=H1 at s1 e1⊢;k_go;show ϡ (η.of e1) (show Ω ((cL M.cut).map V.str) ((0:Nat):Int)=some (V.str (Ϫ (toString (M.cut.row:Int))))from aY rfl) ?_;lk;show#[M.cut.row,1000000000,rfl,.inr rfl,by have:=j.row;omega,λH2 s2=>?_];let g:=s1.trans s2;w_up;show uB ["name","up","columns"] (σ':=[none,none,some (.ref a)]) (cz (ψ EY)) nd ?_;f_are;show#[b,ws,rfl,η.of (g _ _ hb),(),λτ=>∃o1 o2,τ=[o1,o2,some (.ref a)],λB i u H'=>∃o,M.os[i]?=some o/\u=.str (iB cs o.1),#[none,none,rfl],λB i u H2 H3 ys _ _ p=>p,λfp B C s3 H0 i τ x H4 H3 aP hi R m hys hG=>?_,λB H4 ys aP U W e4 m =>?_]
 .let#[o1,o2,rfl]:=R;let#[bB,rfl]:=hG;let#[o,D,t,rfl,ht]:=l.get bB;show aj (ρ.of (m _ _ (g _ _ ht))) (Θ (Β rT (by rfl) (.inl rfl) (.inr rfl) (Θ (Β rT (by rfl) (.inl rfl) (.inr rfl) (az ?_)))));lk;let M4:=(hC.same g).same m;show#[a,cs,o.1,rfl,M4,λH5 dD=>?_];let y:=j.Kc o (aaq D);rw[qP 0 y,anS];let#[c,hg,Y]:=aiS y;let#[vs,ea,Z]:=M4.same dD;let#[cv,gc,tc,rfl,ab]:=Z.get' hg;show ϡ (η.of ea) (aY gc) ?_;lk;show Χ (ρ.of ab) (show Ω [V.str c.1,V.str c.2] 1=some (V.str c.2)from rfl) ?_;show#[#[_,_,rfl],#[o,D,by rw[Y]],dD]
 .let ey:=jx (ys:=M.os) (λo=>V.str (iB cs o.1)) (by rw[U,L]) W;let jw:ys=((sS cs M.os).map Prod.snd).map V.str:=by rw[ey];unfold sS;rw[agr,agr];rfl
  subst jw;let V1:=g.trans m;let ac:=m _ _ (s2 _ _ e1);f_len;show ω ?_;lk;show kZ (η.of ac) λl2 h2=>?_
  let ae:bH ((cL M.cut).map V.str) (some 1) none=(M.cut.xs.map wordOf).map V.str:=by
   rw[show(some (1:Int))=some ((1:Nat):Int)from rfl,Ca];rfl
  rw[ae];let#[G,e5]:=ϋ h2 (.lst ((M.cut.xs.map wordOf).map V.str));generalize upd H4 l2 (.lst ((M.cut.xs.map wordOf).map V.str))=H5 at G e5⊢;lk;show#[B,l2,sS cs M.os,M.cut.xs,rfl,G _ _ e4,e5,by unfold sS;rw[aaz];omega,λc af=>?_,Qe j.vals,λv H6 s6 hv ev=>?_]
  .let#[o,D,rfl]:=ada.mp af;show Kv z (j.names o D)
  lk;show#[Δ,λk Y=>?_];let#[I,e7]:=ϋ Y (.tup [.ref v,.int M.cut.row]);generalize upd H6 k (.tup [.ref v,.int M.cut.row])=H7 at I e7⊢;lk;show#[Δ,λp hp=>?_];let J:ζ H7 (upd H7 p (.tup [.str (aX M.cut.ahead),.ref k])):=ζ.upd hp;let tD:=V1.trans (G.trans s6);let ag:H v=none:=(V1.trans G).free hv;show q p _ (tD.trans (I.trans J)) ((tD.trans I).free hp) #[k,v,υ,J _ _ e7,J _ _ (I _ _ ev)] λk' v' e f=>?_
  rw[υ]at e;injection e with e
  injection e with e
  injection e with _ e
  injection e with e _
  injection e with e
  subst e;rw[J _ _ e7]at f;injection f with f
  injection f with f
  injection f with f _
  injection f with f
  subst f;show ag
inductive Ss (vs:List V) (H:Hp) (Q:VK) (E:XK):Prop
 |mk (a:δ) (M:Mk) (cs:List ξ):vs=[.ref a,.str (aF M)]->ϝ H a cs->ώ cs=true->bC cs M->(∀p o c k v H',ζ H H'->H' p=some (.tup [.str (dZ M.living),.int M.moment,.ref o,.str M.sieve,.ref c])->H o=none->bu H' o M.os->H' c=some (.tup [.str (aX M.cut.ahead),.ref k])->H' k=some (.tup [.ref v,.int M.cut.row])->H v=none->H' v=some (.lst M.cut.xs)->o≠v->Q (.ref p) H')->Ss vs H Q E
theorem zy(T:Txt K mg):Def P w K mg base true 51 "read_body" ["columns","body"] Ss:=by
 show Γ (S:=S6) T.zy (λ_ _ A _ s H vs Q E hr h=>?_);intro X _;let#[a,M,cs,rfl,B,j,f,q]:=h;let nd:=S6.nd;let g1:=T.Vy;let g2:=T.ah6;let g3:=T.ahg;let n1:=T.bN;let hsz:=ϱ;let#[t,C,D]:=f.reads;let D1:= @HH P w K mg base T;let D2:= @yq P w K mg base T;let D3:= @vY P w K mg base T;let D4:= @VD P w K mg base T t;let D5:= @Dt P w K mg base T;let#[M2,kc,na]:=akm (P:=P) (w:=w) (base:=base) T t;let#[b1,b2]:=Ac j f;w_up;f_tup;show dF F.plainAttrs_str F.slot_str_split F.type_str_split (h:=?_);lk;show m_split (c:=47) λY h1=>?_
 rw[acD j f];let#[g,e1]:=ϋ h1 (.lst ((cP M).map V.str));generalize upd H Y (.lst ((cP M).map V.str))=H1 at g e1⊢;let l:η K H1 Y ((cP M).map V.str):=η.of e1;w_up;show Κ ?_;lk;show dJ (λh=>absurd rfl h) (λ_=>?_);show Ε ?_;k_go;show ϡ l (i:=0) rfl ?_;lk;show#[M.living,rfl,λH2 Z=>?_];k_go;show ϡ (Z.seq l) (i:=1) rfl ?_;lk;show#[M.moment,5000,rfl,.inl rfl,by have:=f.moment;omega,λH3 s3=>?_];let u:=Z.trans s3;k_go;show ϡ (u.seq l) (i:=2) rfl ?_;lk;let dX:fB cs (bf M.os)=some M.os:=Qt f.len f.nodup f.Kc λo G hm=>by
  let I:=lL j (f.names o G);unfold isName dM at I;rw[aaW,acN]at I;show absurd (of_decide_eq_true (I.2 32 hm)) (by fin2)
 show#[a,cs,bf M.os,rfl,B.same (g.trans u),(by have:=Sd j f;omega),(λH' sm e=>by rw[dX]at e;cases e),λo os H4 s4 x G J=>?_];rw[dX]at x;cases x;let L:=u.trans s4;let S8:H o=none:=(g.trans u).free G;k_go;show ϡ (L.seq l) (i:=3) rfl ?_;lk;show#[a,cs,M.sieve,rfl,B.same (g.trans L),(by have:=f.short;omega),(λy hy=>by have:=f.words y hy;omega),C,D,λsv H5 z m=>?_];let O:=L.trans z;let R:bW (ϊ 32 M.sieve) 0 (ϊ 32 M.sieve).length=M.sieve:=by
  unfold bW;rw[amm,aoe,anL,abr]
 rw[R]at m;let#[dx,fs,es,et,U]:=m.txt;f_len;show ω ?_;lk;show fL (pl:=_) hr ύ ?_;f_are;show#[sv,dH mg t,dx,_,true,1,_,u9 K,rfl,es,U,M2,by decide,id,sv,dH mg t,dx,fs,_,rfl,es,kc,na,et,?_];lk;show ϡ (O.seq l) (i:=4) rfl ?_;lk;show#[a,o,M,cs,rfl,B.same (g.trans O),J.same z,j,f,λc H6 s6 hc0 lW hv=>?_];lk;show#[Δ,λp hp=>?_];let#[k,v,z1,z2,z3]:=lW;let n:ζ H6 (upd H6 p (.tup [.str (dZ M.living),.int M.moment,.ref o,.str M.sieve,.ref c])):=ζ.upd hp;let gh:=g.trans O;let W:=hv k v z1 z2;let#[ws,x,_]:=J.same z;show q p o c k v _ (gh.trans (s6.trans n)) υ S8 ((J.same z).same (s6.trans n)) (n _ _ z1) (n _ _ z2) (gh.free W) (n _ _ z3) λe=>?_
 rw[<-e,x]at W;cases W
inductive Kq (vs:List V) (H:Hp) (Q:VK) (E:XK):Prop
 |mk (a:δ) (M:Mk) (cs:List ξ):vs=[.ref a,.str (fZ M)]->ϝ H a cs->ώ cs=true->bC cs M->(∀p o c k v H',ζ H H'->H' p=some (.tup [.str (dZ M.living),.int M.moment,.ref o,.str M.sieve,.ref c])->H o=none->bu H' o M.os->H' c=some (.tup [.str (aX M.cut.ahead),.ref k])->H' k=some (.tup [.ref v,.int M.cut.row])->H v=none->H' v=some (.lst M.cut.xs)->o≠v->Q (.ref p) H')->Kq vs H Q E
theorem HB(T:Txt K mg):Def P w K mg base true 52 "read_mark" ["columns","text"] Kq:=by
 show Γ (S:=Vv) T.HB (λ_ _ _ _ _ H vs Q E C h=>?_);intro X _;let#[a,M,cs,rfl,i,f,g,q]:=h;let nd:=Vv.nd;let D:=T.Io;let hsz:=ϱ;let G:= @zy P w K mg base T;let I:= @vN P w K mg base T;let#[J,L]:=Ac f g;let O:=sI (aF M).cps.toList;let R:=Ck (bw (aF M).cps.toList);let U:(".":Str).length=1:=by fin2
 w_up;show d9 ?_;show dF PySem.F.plainAttrs_str PySem.F.slot_str_rpartition PySem.F.type_str_rpartition (h:=?_);lk;show ajU (c:=46) (by unfold fZ;rw[len_app,len_app];omega) λt j=>?_
 let p1:(Txt.rpartition (fZ M) #[#v[46]]).1=aF M:=by rw[Ga]
 let p2:(Txt.rpartition (fZ M) #[#v[46]]).2.1=#[#v[46]]:=by rw[Ga]
 let p3:(Txt.rpartition (fZ M) #[#v[46]]).2.2=du (bw (aF M).cps.toList):=by rw[Ga]
 rw[p1,p2,p3];show aj (ρ.of υ) (Θ (Β nd (by rfl) (.inl rfl) (.inl rfl) (Θ (Β nd (by rfl) (.inl rfl) (.inl rfl) (Θ (Β nd (by rfl) (.inl rfl) (.inl rfl) (az ?_)))))));let e:ζ H (upd H t (.tup [.str (aF M),.str #[#v[46]],.str (du (bw (aF M).cps.toList))])):=ζ.upd j;generalize upd H t (.tup [.str (aF M),.str #[#v[46]],.str (du (bw (aF M).cps.toList))])=H1 at e⊢;w_up;show Κ ?_;lk;show cJ ?_;lk;show#[aF M,rfl,(),Tw f g,?_];generalize du (bw (aF M).cps.toList)=W;lk;show dJ (λh=>absurd rfl h) (λ_=>?_);show Ε ?_;f_len;show Az (λ_ _ _ _=>False) rfl rfl (λF pn xo po=>?_) (λσ c d H' l=>l.elim);f_len;show ω ?_;lk;show#[a,M,cs,rfl,i.same e,f,g,λp o c k v H' sm m n s u x y z B=>q p o c k v H' (e.trans sm) m (e.free n) s u x (e.free y) z B]
theorem wM(T:Txt K mg):Def P w K mg base true 2 "key_of" ["columns","order","row","values"] IV:=by
 show Γ (N:=["columns","order","row","values"]) T.wM (λ_ _ _ _ _ H vs Q E hr h=>?_);intro X _;let#[a,b,n,c,cs,os,xs,rfl,S,#[ws,U,g],W,iH,Y,Z,ϻ,q]:=h;let D:(["name","up","columns","values"]:List Str).Nodup:=by fin2
 let hsz:=ϱ;let m:=g.len;let D1:= @nA P w K mg base T;f_len;show ω ?_;show N8 ?_;show d8 (by rfl) ?_;show lN ["name","up","columns","values"] (σ':=[none,none,some (.ref a),some (.ref c)]) (cz (ψ Ng)) ?_;f_are;show#[b,ws,rfl,η.of U,(),λF=>∃G I,F=[G,I,some (.ref a),some (.ref c)],λj i u H'=>∃o,os[i]?=some o/\u=aR cs xs o.1,#[none,none,rfl],λj i u H2 H3 ys _ _ p=>p,λfp j C s3 H0 i F x s H3 J hi v f hys hG=>?_,λj s ys J y z e4 f =>?_]
 .let#[G,I,rfl]:=v;let#[bB,rfl]:=hG;let#[o,L,t,rfl,ht]:=g.get bB;show aj (ρ.of (f _ _ ht)) (Θ (Β D (by rfl) (.inl rfl) (.inr rfl) (Θ (Β D (by rfl) (.inl rfl) (.inr rfl) (az ?_)))));cbv;show#[a,cs,o.1,rfl,S.same f,λH5 M=>?_];let l:=ϻ o (aaq L);rw[qP 0 l,anS];let hlt:=qd l;let O:xs[Υ cs o.1]?=some xs[Υ cs o.1]:=aab ();show ϡ (η.of (M _ _ (f _ _ W))) (aY O) ?_;show#[#[_,_,rfl],#[o,L,by unfold aR;rw[O];rfl],M]
 .let ey:=jx (ys:=os) (λo=>aR cs xs o.1) (by rw[y,m]) z;cbv;show#[Δ,λp B=>?_];let pn:H p=none:=by
   cases e:H p with
   |none=>rfl
   |some u=>rw[f _ _ e]at B;cases B
  let R:ζ s (upd s p (.tup [.ref j,.int n])):=ζ.upd B;show q p j _ (f.trans R) pn J ?_ υ;rw[R _ _ e4,ey];rfl
theorem Dm(T:Txt K mg):Def P w K mg base true 2 "key_ahead" ["order","one","other"] Tv:=by
 show Γ (S:=Lr) T.Dm (λ_ _ _ _ _ H vs Q E hr h=>?_);intro X _;let#[b,p,q,os,xs,ys,n,k,rfl,#[ws,O,g],#[l,R,U],#[m,W,Y],Z,s,C,a]:=h;let nd:=Lr.nd;let n1:=T.G4;let hwl:=g.len;let D1:= @xU P w K mg base T;w_up;show YS (by walk_at"po") (by rfl) (by rfl) n1 (by rfl) (by rfl) (by rfl) ?_;cbv;show Χ (ρ.of R) (show Ω [V.ref l,V.int n] 0=some (V.ref l)from rfl) ?_;cbv;show Χ (ρ.of W) (show Ω [V.ref m,V.int k] 0=some (V.ref m)from rfl) ?_;show#[b,l,m,ws,xs,ys,#[rfl,rfl,rfl],O,U,Y,(),(),λi σ H'=>(∃D F G,σ=[some (.ref b),some (.ref p),some (.ref q),D,F,G])/\ζ H H'/\∀j x y,j<i->xs[j]?=some x->ys[j]?=some y->x=y,
  #[#[none,none,none,rfl],ζ.refl _,λj x y hj=>()],λi σ H' c=>#[η.of (c.2.1 _ _ O),η.of (c.2.1 _ _ U),η.of (c.2.1 _ _ Y)],λi v x y I σ H' hv J L c hT=>?_,λσ H' c=>?_]
 .let#[#[D,F,G,rfl],sm,u]:=c;let#[o,ho,t,rfl,ht]:=g.get hv;let B :=sm.trans (ζ.upd (o:=.tup [.ref t,x,y]) hT);let eT:(upd H' I (.tup [.ref t,x,y])) I=some (.tup [.ref t,x,y]):=υ;generalize upd H' I (.tup [.ref t,x,y])=H2 at B eT⊢;let#[sx,sy,M]:=C i x y J L;show aj (ρ.of eT) (Θ (Β nd (by rfl) (.inl rfl) (.inl rfl) (Θ (Β nd (by rfl) (.inl rfl) (.inl rfl) (Θ (Β nd (by rfl) (.inl rfl) (.inl rfl) (az ?_)))))));f_len;cbv;show GD (vG sx sy) ?_;cbv;show iu (λh=>?_) (λh=>?_)
  .let Ϲ:¬x=y:=by simpa using h
   cbv;show#[x,y,rfl,M,?_];cbv;show Χ (ρ.of (B _ _ ht)) (show Ω [V.str o.1,V.bl o.2] 1=some (V.bl o.2)from rfl) ?_;cbv;let e:=Jx (n:=n) (k:=k) Z s ho J L u Ϲ;let f:decide (V.bl (before x y)=V.bl o.2)=decide (before x y=o.2):=by
    congr 1
    show propext #[λz=>by injection z,λz=>by rw[z]]
   rw[f, <-e];show a H2 B
  .let he:x=y:=by simpa using h
   cbv;show#[#[_,_,_,rfl],B,λj x' y' hj e1 f=>?_];by_cases e:j=i
   .subst e;rw[J]at e1;rw[L]at f;cases e1;cases f;show he
   .show u j x' y' () e1 f
 .let#[#[D,F,G,rfl],sm,u]:=c;f_len;cbv;show Χ (ρ.of (sm _ _ R)) (show Ω [V.ref l,V.int n] 1=some (V.int n)from rfl) ?_;cbv;show Χ (ρ.of (sm _ _ W)) (show Ω [V.ref m,V.int k] 1=some (V.int k)from rfl) ?_;cbv;rw[<-O1 (n:=n) (k:=k) Z s λj x y hj e1 f=>u j x y () e1 f];show a H' sm
def dC(H:Hp)(v:V):Ct->Prop
 |.start=>∃t,v=.ref t/\H t=some (.tup [.str "start"])
 |.fin=>∃t,v=.ref t/\H t=some (.tup [.str "end"])
 |.at_ sd xs n=>∃t k,v=.ref t/\H t=some (.tup [.str (aX sd),.ref k])/\lX H k xs n
theorem dC.same{H H':Hp}{v:V}{c:Ct}(h:dC H v c)(s:ζ H H'):dC H' v c:=by
 cases c with
 |start=>let#[t,e,h]:=h;show#[t,e,s _ _ h]
 |fin=>let#[t,e,h]:=h;show#[t,e,s _ _ h]
 |at_ sd xs n=>let#[t,k,e,h,g]:=h;show#[t,k,e,s _ _ h,g.same s]
inductive O6 (vs:List V) (H:Hp) (Q:VK) (E:XK):Prop
 |mk (b p:δ) (v:V) (os:List Ord) (cs:List ξ) (sd:Bool) (xs ys:List V) (n k:Int):vs=[.ref b,.ref p,v]->bu H b os->lX H p xs n->dC H v (.at_ sd ys k)->cQ cs os xs->cQ cs os ys->(∀H',ζ H H'->Q (.bl (zU os (.at_ sd ys k) xs n)) H')->O6 vs H Q E
theorem GJ(T:Txt K mg):Def P w K mg base true 3 "lies_ahead" ["order","key","cut"] O6:=by
 show Γ (N:=["order","key","cut"]) T.GJ (λ_ _ _ _ _ H vs Q E l h=>?_);intro X _;let#[b,p,v,os,cs,sd,xs,ys,n,k,rfl,c,e,#[t,kk,rfl,f,g],i,j,q]:=h;let m:=T.rH;let o:= @Dm P w K mg base T;cases sd with
 |true=>
  let a:H t=some (.tup [.str ("ahead":Str),.ref kk]):=f;let#[x1,x2,x3]:=i.aH j;w_up;show Κ ?_;lk;show Χ (ρ.of a) (show Ω [V.str ("ahead":Str),.ref kk] 0=some (V.str ("ahead":Str))from rfl) ?_;lk;show gY ?_;f_len;show ω ?_;lk;show Χ (ρ.of a) (show Ω [V.str ("ahead":Str),.ref kk] 1=some (V.ref kk)from rfl) ?_;lk;show#[b,p,kk,os,xs,ys,n,k,rfl,c,e,g,x1,x2,x3,λH' s'=>q H' s']
 |false=>
  let a:H t=some (.tup [.str ("behind":Str),.ref kk]):=f;let#[x1,x2,x3]:=j.aH i;w_up;show Κ ?_;lk;show Χ (ρ.of a) (show Ω [V.str ("behind":Str),.ref kk] 0=some (V.str ("behind":Str))from rfl) ?_;lk;show cJ ?_;show Ε ?_;f_len;show ω ?_;lk;show Χ (ρ.of a) (show Ω [V.str ("behind":Str),.ref kk] 1=some (V.ref kk)from rfl) ?_;lk;show#[b,kk,p,os,ys,xs,k,n,rfl,c,g,e,x1,x2,x3,λH' s'=>?_];lk;show q H' s'
def ϥ(cs:List ξ)(os:List Ord)(c:Ct)(rs:List Row):Nat:=match c with
 |.start=>0
 |.fin=>rs.length
 |.at_ sd xs n=>rs.countP (iI cs os (.at_ sd xs n))
theorem yC{cs:List ξ}{os:List Ord}{c:Ct}{rs:List Row}:ϥ cs os c rs<=rs.length:=by
 cases c with
 |start=>show agz _
 |fin=>show Ϭ _
 |at_ sd xs n=>show apa
structure jR(cs:List ξ)(os:List Ord)(rs:List Row):Prop where
 cols:1<=cs.length/\cs.length<=6
 LQ:os.length<=4
 inc:aB cs os
 fit:∀r∈rs,ό cs r
 line:Line cs os rs
 few:rs.length<=1000
inductive Vs (vs:List V) (H:Hp) (Q:VK) (E:XK):Prop
 |mk (a b p:δ) (v:V) (cs:List ξ) (os:List Ord) (rs:List Row) (c:Ct):vs=[.ref a,.ref b,.ref p,v]->ϝ H a cs->bu H b os->dR H p rs->dC H v c->jR cs os rs->kO cs os c->(∀H',ζ H H'->Q (.int (ϥ cs os c rs:Nat)) H')->Vs vs H Q E
theorem vI(T:Txt K mg):Def P w K mg base true 4 "cut_place" ["columns","order","line","cut"] Vs:=by
 show Γ (S:=X7) T.vI (λ_ _ A _ s H vs Q E j h=>?_);intro X _;let#[a,b,p,v,cs,os,rs,c,rfl,hC,W,#[ws,hp,o],C,f,u,q]:=h;let nd:=X7.nd;let g1:=T.QK;let g2:=T.Qi;let n1:=T.bN;let hsz:=ϱ;let D1:= @wM P w K mg base T;let D2:= @GJ P w K mg base T;let x:=o.len;let Dq:η K H p ws:=η.of hp;let#[c1,c6]:=f.cols;let o4:=f.LQ;let few:=f.few;cases c with
 |start=>
  let#[t,rfl,g]:=C;w_up;show Κ ?_;lk;show Χ (ρ.of g) (show Ω [V.str ("start":Str)] 0=some (V.str ("start":Str))from rfl) ?_;lk;show gY ?_;f_len;show ω ?_;lk;show q H (ζ.refl _)
 |fin=>
  let#[t,rfl,g]:=C;w_up;show Κ ?_;lk;show Χ (ρ.of g) (show Ω [V.str ("end":Str)] 0=some (V.str ("end":Str))from rfl) ?_;lk;show cJ ?_;show Ε ?_;w_up;show Κ ?_;lk;show Χ (ρ.of g) (show Ω [V.str ("end":Str)] 0=some (V.str ("end":Str))from rfl) ?_;lk;show gY ?_;f_len;show ω ?_;lk;rw[x];show q H (ζ.refl _)
 |at_ sd xs n=>
  let I:=C;let#[t,k,rfl,g,hk]:=C;let#[p1,p2]:=Kh (Jo f.inc u f.fit f.line);let Y:rs.countP (iI cs os (.at_ sd xs n))<=rs.length:=apa;let Z:∀H',ζ H H'->Q (.int (rs.countP (iI cs os (.at_ sd xs n)):Nat)) H':=q;generalize hN:rs.countP (iI cs os (.at_ sd xs n))=N at p1 p2 Y Z;let y:aX sd≠Ϫ "start"/\aX sd≠Ϫ "end":=by cases sd<;>fin2
  w_up;show Κ ?_;lk;show Χ (ρ.of g) (show Ω [V.str (aX sd),.ref k] 0=some (V.str (aX sd))from rfl) ?_;lk;show Ζ (λh=>absurd (V.str.inj h) y.1) (λ_=>?_);show Ε ?_;w_up;show Κ ?_;lk;show Χ (ρ.of g) (show Ω [V.str (aX sd),.ref k] 0=some (V.str (aX sd))from rfl) ?_;lk;show Ζ (λh=>absurd (V.str.inj h) y.2) (λ_=>?_);show Ε ?_;k_go;k_go;rw[x];w_up;show Rg (by walk_at"po") (λm σ H'=>∃(lo hi:Nat)(D F G:Option V),σ=[some (.ref a),some (.ref b),some (.ref p),some (.ref t),some (.int lo),some (.int hi),D,F,G]/\lo<=N/\N<=hi/\hi<=rs.length/\m=hi-lo/\ζ H H') rs.length #[0,rs.length,none,none,none,rfl,(),Y,(),(),ζ.refl _] (λm σ H' hW=>?_);let#[lo,hi,D,F,G,rfl,h1,h2,h3,rfl,sm]:=hW;lk;show Ζ (λhlt=>?_) (λhge=>?_)
  rotate_left
  .let e:N=lo:=()
   f_len;show ω ?_;lk;rw[<-e];show Z H' sm
  let hlt':lo<hi:=()
  show#[λσ H'=>∃m',m'<hi-lo/\∃(lo hi:Nat)(D F G:Option V),σ=[some (.ref a),some (.ref b),some (.ref p),some (.ref t),some (.int lo),some (.int hi),D,F,G]/\lo<=N/\N<=hi/\hi<=rs.length/\m'=hi-lo/\ζ H H',λσ' H' h=>h,?_];k_go;let em:((lo:Int)+(hi:Int)) / 2=(((lo+hi) / 2:Nat):Int):=()
  show aiR #[by decide,by decide] ?_;rw[em];let J:lo<=(lo+hi) / 2:=()
  let L:(lo+hi) / 2<hi:=()
  generalize(lo+hi) / 2=mi at J L⊢;let j:rs[mi]?=some (rs[mi]'()):=aab _;generalize hrr:rs[mi]'()=r at j;let#[wv,gw,tt,l,rfl,M,hl]:=o.get' j;let uG:=f.fit r (aaq j);let kr:=b7 uG f.inc;w_up;show d9 ?_;lk;show ϡ (sm.seq Dq) (aY gw) ?_;show aj (ρ.of (sm _ _ M)) (Θ (Β nd (by rfl) (.inl rfl) (.inl rfl) (Θ (Β nd (by rfl) (.inl rfl) (.inl rfl) (az ?_)))));f_len;show Κ ?_;lk;show#[a,b,r.1,l,cs,os,r.2,rfl,hC.same sm,W.same sm,sm _ _ hl,(ς.len uG).symm,(),(),f.inc,λkp kl H2 s2 _ _ O R=>?_];let U :=sm.trans s2;lk;show#[b,kp,.ref t,os,cs,sd,_,xs,r.1,n,rfl,W.same U,#[kl,R,O],I.same U,kr,u,λH3 s3=>?_];let z:=U.trans s3;rw[show zU os (.at_ sd xs n) (ao cs os r.2) r.1=iI cs os (.at_ sd xs n) r from rfl];cases hla:iI cs os (.at_ sd xs n) r with
  |true=>
   let B:mi<N:=by
    by_cases h:mi<N
    .show h
    .have :r∈rs.drop N:=by
      show aaq (i:=mi-N) ?_;rw[aoA,show N+(mi-N)=mi by omega,j]
     rw[p2 r this]at hla;cases hla
   lk;f_len;f_tup;lk;show#[hi-(mi+1),(),mi+1,hi,_,_,_,rfl,(),h2,h3,rfl,z]
  |false=>
   let B:N<=mi:=by
    by_cases h:mi<N
    .have :r∈rs.take N:=by
      show aaq (i:=mi) ?_;rw[List.getElem?_take,if_pos h,j]
     rw[p1 r this]at hla;cases hla
    .omega
   lk;f_len;f_tup;lk;show#[mi-lo,(),lo,mi,_,_,_,rfl,h1,B,(),rfl,z]
def dh(H:Hp)(v:V):Option Ct->Prop
 |none=>v=.non
 |some c=>dC H v c
theorem dh.same{H H':Hp}{v:V}{c:Option Ct}(h:dh H v c)(s:ζ H H'):dh H' v c:=by
 cases c with
 |none=>show h
 |some c=>show dC.same h s
def b8(r:Row):anq:=.tuple [.int r.1,.list (r.2.map dV)]
theorem ό.lay{cs:List ξ}{r:Row}(h:ό cs r):∀x∈r.2,j5 x=true/\∀z,x=.str z->gA 4000 z:=by
 let#[n,xs]:=r;let h':ς (λ(c:ξ) x=>ϑ c.2 x) cs xs:=h;show ∀x∈xs,_;clear h;induction h' with
 |nil=>intro x hx;cases hx
 |cons r t a=>
  intro x hx;obtain e|hx:=aaG.mp hx
  .subst e;show r.j5
  .show a x hx
theorem Iz{cs:List ξ}{H:Hp}{vs:List V}{rs:List Row}(h:ς (cC H) vs rs)(g:∀r∈rs,ό cs r):di K H vs (rs.map b8):=by
 induction h with
 |nil=>show .nil
 |cons r t a=>
  let#[p,l,rfl,h1,h2]:=r;show .cons (.tup (ρ.of h1) (.cons (.int _) (.cons (.lst (η.of h2) (wz ?_)) .nil))) (a λr c=>g r (by simp[c]));show acN.mpr λx e=>((g _ (by simp)).lay x e).1
theorem agd{cs:List ξ}{H:Hp}{p:δ}{rs:List Row}(h:dR H p rs)(g:∀r∈rs,ό cs r):RD K H (.ref p) (.list (rs.map b8)):=by
 let#[vs,e,a]:=h;show .lst (η.of e) (Iz a g)
theorem vm{cs:List ξ}{r:Row}(h:ό cs r):(b8 r).canLay0=true:=by
 show(true&&((PyData.list (r.2.map dV)).canLay0&&true))=true;rw[Cq λx a=>h.lay x a];rfl
theorem Qp{cs:List ξ}:∀{rs:List Row},(∀r∈rs,ό cs r)->(PyData.list (rs.map b8)).canLay0=true
 |[],_=>rfl
 |r::rs,h=>by
  let a:=Qp (rs:=rs) λd hd=>h d (by simp[hd])
  show((b8 r).canLay0&&PyData.canLayAll0 (rs.map b8))=true;rw[vm (h r (by simp))];show a
theorem Vn(r:Row):(b8 r).depth<=4:=by
 have:=BR r.2;simp only[b8,PyData.depth,PyData.depthAll];omega
theorem Ql:∀rs:List Row,PyData.depthAll (rs.map b8)<=4
 |[]=>by show(0:Nat)<=4;omega
 |r::rs=>by
  let a:=Ql rs;let h1:=Vn r;show max (b8 r).depth (PyData.depthAll (rs.map b8))<=4;omega
theorem aaB(rs:List Row):(PyData.list (rs.map b8)).depth<=60:=by
 have:=Ql rs;simp only[PyData.depth];omega
inductive Ri (vs:List V) (H:Hp) (Q:VK) (E:XK):Prop
 |mk (n:Int):vs=[.int n]->1<=n->n<=100->Q .non H->Ri vs H Q E
theorem wA(T:Txt K mg):Def P w K mg base true 2 "ask_size" ["size"] Ri:=by
 show Γ (N:=["size"]) T.wA (λ_ _ _ _ _ H vs Q E a h=>?_);intro X _;let#[n,rfl,h1,h2,q]:=h;let c:=T.aak;let e:= @rQ P w K mg base T;f_len;show Κ ?_;lk;show#[_,rfl,rfl,?_];rw[show pq (V.int n)=true from rfl];lk;show Ζ (λ_=>?_) (λh=>absurd h1 h);lk;show dJ (λh=>absurd h2 h) (λ_=>?_);show Ε q
theorem CZ(k a b:Str):gJ (.str k) [.str a,.str b]=decide (k=a\/k=b):=by
 let e:∀a:Str,(a==k)=decide (k=a):=λa=>by rw[ahB,beq_iff_eq,decide_eq_true_iff];show eq_comm
 show((a==k)||((b==k)||false))=_;rw[e,e,aoQ,ap3]
inductive Qu (K:ϩ) (vs:List V) (H:Hp) (Q:VK) (E:XK):Prop
 |mk (v:V) (c:Ct):vs=[v]->dC H v c->(∀sd xs n,c=.at_ sd xs n->xs.length<=1000)->(∀v' H',ζ H H'->dC H' v' c->Q v' H')->Qu K vs H Q E
theorem DQ(T:Txt K mg):Def P w K mg base true 1 "copy_of_cut" ["cut"] (Qu K):=by
 show Γ (S:=NP) T.DQ (λ_ _ _ _ _ H vs Q E J h=>?_);intro X _;let#[v,c,rfl,j,F,q]:=h;let nd:=NP.nd;let L:=T.rH;let M:=T.BP;let n1:=T.j9;let hsz:=ϱ;cases c with
 |start=>
  let#[t,rfl,e]:=j;w_up;show Κ ?_;lk;show Χ (ρ.of e) (show Ω [V.str ("start":Str)] 0=some (V.str ("start":Str))from rfl) ?_;lk;show#[Δ,λy g=>?_];let#[a,f]:=ϋ g (.tup [.str ("ahead":Str),.str ("behind":Str)]);generalize upd H y (.tup [.str ("ahead":Str),.str ("behind":Str)])=H1 at a f⊢;show pQ (ρ.of f) ?_;rw[CZ];show#[_,rfl,?_];show cJ ?_;show Ε ?_;f_len;show ω ?_;lk;show q _ _ a #[t,rfl,a _ _ e]
 |fin=>
  let#[t,rfl,e]:=j;w_up;show Κ ?_;lk;show Χ (ρ.of e) (show Ω [V.str ("end":Str)] 0=some (V.str ("end":Str))from rfl) ?_;lk;show#[Δ,λy g=>?_];let#[a,f]:=ϋ g (.tup [.str ("ahead":Str),.str ("behind":Str)]);generalize upd H y (.tup [.str ("ahead":Str),.str ("behind":Str)])=H1 at a f⊢;show pQ (ρ.of f) ?_;rw[CZ];show#[_,rfl,?_];show cJ ?_;show Ε ?_;f_len;show ω ?_;lk;show q _ _ a #[t,rfl,a _ _ e]
 |at_ sd xs n=>
  let#[t,k,rfl,e,l,G,m]:=j;let O:=F sd xs n rfl;w_up;show Κ ?_;lk;show Χ (ρ.of e) (show Ω [V.str (aX sd),.ref k] 0=some (V.str (aX sd))from rfl) ?_;lk;show#[Δ,λy g=>?_];let#[a,f]:=ϋ g (.tup [.str ("ahead":Str),.str ("behind":Str)]);generalize upd H y (.tup [.str ("ahead":Str),.str ("behind":Str)])=H1 at a f⊢;show pQ (ρ.of f) ?_;rw[CZ];show#[_,rfl,?_];show Ζ (λ_=>?_) (λh=>absurd (by cases sd<;>fin2) h);w_up;show d9 ?_;lk;show Χ (ρ.of (a _ _ e)) (show Ω [V.str (aX sd),.ref k] 1=some (V.ref k)from rfl) ?_;show aj (ρ.of (a _ _ G)) (Θ (Β nd (by rfl) (.inl rfl) (.inl rfl) (Θ (Β nd (by rfl) (.inl rfl) (.inl rfl) (az ?_)))));f_len;show ω ?_;lk;show Χ (ρ.of (a _ _ e)) (show Ω [V.str (aX sd),.ref k] 0=some (V.str (aX sd))from rfl) ?_;lk;show jf (.inl (η.of (a _ _ m))) λi o=>?_
  let#[x,z]:=ϋ o (.lst xs);generalize upd H1 i (.lst xs)=H2 at x z⊢;lk;show#[Δ,λk2 p=>?_];let#[s,B]:=ϋ p (.tup [.ref i,.int n]);generalize upd H2 k2 (.tup [.ref i,.int n])=C at s B⊢;lk;show#[Δ,λD I=>?_];let u:ζ C (upd C D (.tup [.str (aX sd),.ref k2])):=ζ.upd I;show q _ _ (((a.trans x).trans s).trans u) #[D,k2,rfl,υ,i,u _ _ B,u _ _ (s _ _ z)]
def fW(cs:List ξ)(os:List Ord)(sd:Bool)(rs:List Row)(c:Ct):Ct:=match rs with
 |[]=>c
 |r::_=>.at_ sd (ao cs os r.2) r.1
inductive X3 (K:ϩ) (vs:List V) (H:Hp) (Q:VK) (E:XK):Prop
 |mk (a b p:δ) (sd:Bool) (v:V) (cs:List ξ) (os:List Ord) (rs:List Row) (c:Ct):vs=[.ref a,.ref b,.str (aX sd),.ref p,v]->ϝ H a cs->bu H b os->dR H p rs->dC H v c->(∀sd xs n,c=.at_ sd xs n->xs.length<=1000)->cs.length<=6->os.length<=4->aB cs os->rs.length<=1000->(∀r∈rs,ό cs r)->(∀v' H',ζ H H'->dC H' v' (fW cs os sd rs c)->Q v' H')->X3 K vs H Q E
theorem Gf(T:Txt K mg):Def P w K mg base true 3 "cut_beside" ["columns","order","side","rows","cut"] (X3 K):=by
 show Γ (S:=Mt) T.Gf (λ_ _ _ _ _ H vs Q E z h=>?_);intro X _;let#[a,b,p,sd,v,cs,os,rs,c,rfl,B,C,#[ws,s,g],D,j,Y,o4,F,few,e,q]:=h;let nd:=Mt.nd;let hsz:=ϱ;let Z:= @wM P w K mg base T;let D2:= @DQ P w K mg base T;let G:=g.len;w_up;show Κ ?_;lk;show#[Δ,λy I=>?_];let#[f,u]:=ϋ I (.lst []);generalize upd H y (.lst [])=H1 at f u⊢;show Mi z.units (agd (dR.same #[ws,s,g] f) e) (.lst (η.of u) .nil) (Qp e) (by rfl) (aaB rs) ?_;cases rs with
 |nil=>
  rw[show PyData.eqv (.list (([]:List Row).map b8)) (.list [])=true from rfl];show#[_,rfl,?_];show Ρ _ _ _ _ _;f_len;show ω ?_;lk;show#[v,c,rfl,D.same f,j,λJ H' s' h'=>q J H' (f.trans s') h']
 |cons r rs=>
  rw[show PyData.eqv (.list ((r::rs).map b8)) (.list [])=false from rfl];show#[_,rfl,?_];show Ρ _ _ _ _ _;let#[wv,L,t,l,rfl,M,O]:=g.get' (i:=0) (b:=r) rfl;show Ε ?_;w_up;show d9 ?_;lk;show ϡ (η.of (f _ _ s)) (show Ω ws ((0:Nat):Int)=some (.ref t)from aY L) ?_;show aj (ρ.of (f _ _ M)) (Θ (Β nd (by rfl) (.inl rfl) (.inl rfl) (Θ (Β nd (by rfl) (.inl rfl) (.inl rfl) (az ?_)))));f_len;show ω ?_;lk;show#[a,b,r.1,l,cs,os,r.2,rfl,B.same f,C.same f,f _ _ O,(ς.len (e r (by simp))).symm,(),(),F,λkp R H2 U _ _ m n=>?_];lk;show#[Δ,λx W=>?_];let o:ζ H2 (upd H2 x (.tup [.str (aX sd),.ref kp])):=ζ.upd W;show q _ _ ((f.trans U).trans o) #[x,kp,rfl,υ,R,o _ _ n,o _ _ m]
def iQ(q:δ)(H H':Hp)(v:V)(r:Row):=∃t l,v=.ref t/\H t=none/\H l=none/\l≠q/\H' t=some (.tup [.int r.1,.ref l])/\H' l=some (.lst r.2)
theorem iQ.row{q:δ}{H H':Hp}{v:V}{r:Row}(h:iQ q H H' v r):cC H' v r:=by
 let#[t,l,e,_,_,_,h1,h2]:=h;show#[t,l,e,h1,h2]
theorem iQ.same{q:δ}{H H' H2:Hp}{v:V}{r:Row}(h:iQ q H H' v r)(s:ζ H' H2):iQ q H H2 v r:=by
 let#[t,l,e,a,b,c,h1,h2]:=h;show#[t,l,e,a,b,c,s _ _ h1,s _ _ h2]
def Ξ{α:Type}(xs:List α)(i j:Nat):List α:=(xs.drop i).take (j-i)
theorem T5(xs:List V)(i j:Nat)(a:i<=j)(c:j<=xs.length):bH xs (some (i:Int)) (some (j:Int))=Ξ xs i j:=by
 unfold bH Ξ;rw[_H.pO,_H.pO,am7 c,am7 (aes a c)]
theorem abM(xs:List V):bH xs (some (-1)) none=xs.drop (xs.length-1):=by
 let e:_H.Α xs.length 0 (some (-1))=xs.length-1:=by
  unfold _H.Α;simp;omega
 unfold bH;rw[_H.tu,e];show aiK (by rw[adH];show Ϭ _)
structure Lf where
 rows:List Row
 back:Option Ct
 bj:Option Ct
 start:Nat
def Ϣ(cs:List ξ)(os:List Ord)(rs:List Row)(c:Ct)(i j:Nat):Lf:=
 #[Ξ rs i j,if 0<i then some (fW cs os true ((Ξ rs i j).take 1) c)else none,if j<rs.length then some (fW cs os false ((Ξ rs i j).drop ((Ξ rs i j).length-1)) c)else none,i]
inductive Lh (K:ϩ) (vs:List V) (H:Hp) (Q:VK) (E:XK):Prop
 |mk (a b p:δ) (v:V) (cs:List ξ) (os:List Ord) (rs:List Row) (c:Ct) (i j:Nat):vs=[.ref a,.ref b,.ref p,v,.int i,.int j]->ϝ H a cs->bu H b os->dR H p rs->dC H v c->jR cs os rs->kO cs os c->i<=j->j<=rs.length->(∀(t q:δ)(us:List V)(x y:V) H',ζ H H'->H q=none->H' t=some (.tup [.ref q,x,y,.int i])->H' q=some (.lst us)->ς (iQ q H H') us (Ϣ cs os rs c i j).rows->dh H' x (Ϣ cs os rs c i j).back->dh H' y (Ϣ cs os rs c i j).bj->Q (.ref t) H')->Lh K vs H Q E
theorem kO.len{cs:List ξ}{os:List Ord}{c:Ct}(h:kO cs os c)(a:os.length<=4):∀sd xs n,c=.at_ sd xs n->xs.length<=1000:=λsd xs n e=>by
 subst e;have:=ς.len h;omega
theorem KN{α β:Type}{R:α->β->Prop}{l:List α}{m:List β}{i j:Nat}(h:ς R l m):ς R (Ξ l i j) (Ξ m i j):=(h.drop i).take (j-i)
theorem yM(T:Txt K mg):Def P w K mg base true 4 "leaf_between" ["columns","order","line","cut","start","stop"] (Lh K):=by
 show Γ (S:=Ni) T.yM (λ_ _ A _ s H vs Q E f h=>?_);intro X _;let#[a,b,p,v,cs,os,rs,c,i,j,rfl,hC,hO,#[ws,hp,M],hc,L,ab,ac,hj,q]:=h;let nd:=Ni.nd;let g1:=T.rH;let g2:=T.BP;let n1:=T.j9;let n2:=T.bN;let hsz:=ϱ;let bK:(["row","values"]:List Str).Nodup:=by fin2
 let D1:= @Gf P w K mg base T;let ae:=M.len;let#[c1,c6]:=L.cols;let o4:=L.LQ;let few:=L.few;let O:=ab.len o4;w_up;show uB ["row","values"] (σ':=[none,none]) (cz (ψ qW)) nd ?_;lk;show kZ (η.of hp) λp1 af=>?_
 rw[T5 ws i j ac ()];let#[s1,e1]:=ϋ af (.lst (Ξ ws i j));generalize upd H p1 (.lst (Ξ ws i j))=H1 at s1 e1⊢;let R:ς (cC H) (Ξ ws i j) (Ξ rs i j):=KN M;let hll:=R.len;let hlr:(Ξ rs i j).length=j-i:=by
  unfold Ξ;rw[ahH,adH];omega
 let F:∀r∈ Ξ rs i j,ό cs r:=λr f=>L.fit r (af0 (ahq f))
 show#[p1,_,rfl,η.of e1,(),λτ=>∃o1 o2,τ=[o1,o2],λE2 k u H'=>∃r,(Ξ rs i j)[k]?=some r/\iQ E2 H H' u r,#[none,none,rfl],λE2 k u H2 H3 ys hE U p=>?_,λfp E2 C W H0 k τ x H4 D aP hi ag Τ G hG=>?_,λI H2 us ah n ai e2 Ι =>?_]
 .let#[r,f,t,l,e,h1,h2,h3,h4,h5]:=p;show#[r,f,t,l,e,h1,h2,h3,U _ _ (λz=>by rw[z,hE]at h4;cases h4) h4,U _ _ h3 h5]
 .let#[o1,o2,rfl]:=ag;let#[bB,rfl]:=hG;let#[r,f,t,l,rfl,ht,hl]:=R.get bB;let g:=s1.trans Τ;let#[ys,G]:=G;let am:=F r (aaq f);let hrl:=ς.len am;show aj (ρ.of (g _ _ ht)) (Θ (Β bK (by rfl) (.inl rfl) (.inr rfl) (Θ (Β bK (by rfl) (.inl rfl) (.inr rfl) (az ?_)))));lk;show jf (.inl (η.of (g _ _ hl))) λl2 n=>?_
  let#[o,e5]:=ϋ n (.lst r.2);let nl:l2≠E2:=λe=>by rw[e,G]at n;cases n
  generalize upd H4 l2 (.lst r.2)=D at o e5⊢;lk;show#[Δ,λt2 aO=>?_];let s6:ζ D (upd D t2 (.tup [.int r.1,.ref l2])):=ζ.upd aO;show#[#[_,_,rfl],#[r,f,t2,l2,rfl,(g.trans o).free aO,g.free n,nl,υ,s6 _ _ e5],o.trans s6]
 let B:ς (iQ I H H2) us (Ξ rs i j):=mQ () λk r f=>by
  let U:k<us.length:=by have:=(aap.mp f).1;omega
  let#[r',Y,hn]:=ai k _ (aab U);rw[f]at Y;cases Y;show#[_,aab U,hn]
 let oM:=s1.trans Ι;let ar:H I=none:=s1.free ah;let nR:=B.len;let anA:dR H2 I (Ξ rs i j):=#[us,e2,B.imp λu r x=>x.row];let tail:∀(x:V)(H3:Hp),ζ H2 H3->dh H3 x (Ϣ cs os rs c i j).back->Ρ X ((aA qW).drop 3) {nx:=λ_ H'=>Q .non H',rt:=Q} [some (.ref a),some (.ref b),some (.ref p),some v,some (.int i),some (.int j),some (.ref I),some x,none] H3:=λx H3 W hx=>by
  let Pu:=oM.trans W;let fin:∀(y:V)(H4:Hp),ζ H3 H4->dh H4 y (Ϣ cs os rs c i j).bj->Ρ X ((aA qW).drop 5) {nx:=λ_ H'=>Q .non H',rt:=Q} [some (.ref a),some (.ref b),some (.ref p),some v,some (.int i),some (.int j),some (.ref I),some x,some y] H4:=λy H4 m Z=>by
   f_len;show ω ?_;lk;show#[Δ,λt ht=>?_];let o:ζ H4 (upd H4 t (.tup [.ref I,x,y,.int i])):=ζ.upd ht;let mC:=(W.trans m).trans o;show q t I us x y _ (oM.trans mC) ar υ (mC _ _ e2) (B.imp λu r z=>z.same mC) ((hx.same m).same o) (Z.same o)
  k_go;w_up;show Κ ?_;let Dq:η K H3 p ws:=η.of (Pu _ _ hp);lk;rw[ae];show Ζ (λh=>?_) (λh=>?_)
  .let h':j<rs.length:=()
   f_len;f_tup;lk;show kZ (η.of (W _ _ e2)) λp2 J=>?_
   rw[abM];let#[m,e4]:=ϋ J (.lst (us.drop (us.length-1)));generalize upd H3 p2 (.lst (us.drop (us.length-1)))=H4 at m e4⊢;let g:=Pu.trans m;lk;show#[a,b,p2,false,v,cs,os,(Ξ rs i j).drop ((Ξ rs i j).length-1),c,rfl,hC.same g,hO.same g,#[_,e4,?_],hc.same g,O,c6,o4,L.inc,by rw[adH];omega,λr f=>F r (af0 f),λy D o Z=>?_]
   .rw[nR];show(B.imp λu r z=>(z.same (W.trans m)).row).drop _
   .show fin y D (m.trans o) ?_;show dh D y (if j<rs.length then _ else none);rw[if_pos h'];show Z
  .show Ε (fin .non H3 (ζ.refl _) ?_);show dh H3 .non (if j<rs.length then _ else none);rw[if_neg ()];rfl
 k_go;w_up;show Κ ?_;lk;show Ζ (λh=>?_) (λh=>?_)
 .let h':0<i:=()
  f_len;f_tup;lk;show kZ (η.of e2) λp2 J=>?_
  rw[show(some (1:Int))=some ((1:Nat):Int)from rfl,acL];let#[m,e4]:=ϋ J (.lst (us.take 1));generalize upd H2 p2 (.lst (us.take 1))=H4 at m e4⊢;let g:=oM.trans m;lk;show#[a,b,p2,true,v,cs,os,(Ξ rs i j).take 1,c,rfl,hC.same g,hO.same g,#[_,e4,(B.imp λu r z=>(z.same m).row).take 1],hc.same g,O,c6,o4,L.inc,by rw[ahH];omega,λr f=>F r (ahq f),λy D o Z=>?_];show tail y D (m.trans o) ?_;show dh D y (if 0<i then _ else none);rw[if_pos h'];show Z
 .show Ε (tail .non H2 (ζ.refl _) ?_);show dh H2 .non (if 0<i then _ else none);rw[if_neg ()];rfl
def ag3(H:Hp)(Q:VK)(L:Lf):=∀(t q:δ)(us:List V)(x y:V) H',ζ H H'->H q=none->H' t=some (.tup [.ref q,x,y,.int L.start])->H' q=some (.lst us)->ς (iQ q H H') us L.rows->dh H' x L.back->dh H' y L.bj->Q (.ref t) H'
def T7(cs:List ξ)(os:List Ord)(rs:List Row)(c:Ct)(n:Nat):Lf:=Ϣ cs os rs c (ϥ cs os c rs) (min (ϥ cs os c rs+n) rs.length)
def Ls(cs:List ξ)(os:List Ord)(rs:List Row)(c:Ct)(n:Nat):Lf:=Ϣ cs os rs c (ϥ cs os c rs-n) (ϥ cs os c rs)
inductive GQ (K:ϩ) (way:List ξ->List Ord->List Row->Ct->Nat->Lf) (vs:List V) (H:Hp) (Q:VK) (E:XK):Prop
 |mk (a b p:δ) (v:V) (cs:List ξ) (os:List Ord) (rs:List Row) (c:Ct) (n:Nat):vs=[.ref a,.ref b,.ref p,v,.int n]->ϝ H a cs->bu H b os->dR H p rs->dC H v c->jR cs os rs->kO cs os c->1<=n->n<=100->ag3 H Q (way cs os rs c n)->GQ K way vs H Q E
theorem Ei(T:Txt K mg):Def P w K mg base true 5 "leaf_forth" ["columns","order","line","cut","size"] (GQ K T7):=by
 show Γ (S:=Uu) T.Ei (λ_ _ A _ _ H vs Q E Z h=>?_);intro X _;let#[a,b,p,v,cs,os,rs,c,n,rfl,s,B,i,C,j,g,n1,D,q]:=h;let nd:=Uu.nd;let b1:=T.bN;let b2:=T.Ec;let D1:= @wA P w K mg base T;let D2:= @vI P w K mg base T;let D3:= @yM P w K mg base T;let few:=j.few;let nM:=yC (cs:=cs) (os:=os) (c:=c) (rs:=rs);w_up;show aM ?_;lk;show#[n,rfl,(),(),?_];k_go;show#[a,b,p,v,cs,os,rs,c,rfl,s,B,i,C,j,g,λH1 f=>?_];let#[ws,F,m]:=i.same f;let Dq:η K H1 p ws:=η.of F;let o:=m.len;f_len;show ω ?_;lk;show Ex ?_;let em:(if((ws.length:Nat):Int)<((ϥ cs os c rs:Nat):Int)+((n:Nat):Int)then((ws.length:Nat):Int)else((ϥ cs os c rs:Nat):Int)+((n:Nat):Int))=((min (ϥ cs os c rs+n) rs.length:Nat):Int):=by
  rw[o];split <;>omega
 rw[em];lk;show#[a,b,p,v,cs,os,rs,c,_,_,rfl,s.same f,B.same f,i.same f,C.same f,j,g,(),aoh _ _,λt G us x y H' s' h1 h2 I J L M=>q t G us x y H' (f.trans s') (f.free h1) h2 I (J.imp λu r z=>by
  let#[t,l,e,O,R,U,W,Y]:=z;show#[t,l,e,f.free O,f.free R,U,W,Y]) L M]
theorem HQ(T:Txt K mg):Def P w K mg base true 5 "leaf_back" ["columns","order","line","cut","size"] (GQ K Ls):=by
 show Γ (S:=Kf) T.HQ (λ_ _ A _ _ H vs Q E W h=>?_);intro X _;let#[a,b,p,v,cs,os,rs,c,n,rfl,j,m,o,s,i,g,n1,B,q]:=h;let nd:=Kf.nd;let Y:=T.Bo;let Z:= @wA P w K mg base T;let D2:= @vI P w K mg base T;let D3:= @yM P w K mg base T;let few:=i.few;let C:=yC (cs:=cs) (os:=os) (c:=c) (rs:=rs);w_up;show aM ?_;lk;show#[n,rfl,(),(),?_];k_go;show#[a,b,p,v,cs,os,rs,c,rfl,j,m,o,s,i,g,λH1 f=>?_];f_len;show ω ?_;lk;show Fj ?_;let em:(if(0:Int)>((ϥ cs os c rs:Nat):Int)-((n:Nat):Int)then(0:Int)else((ϥ cs os c rs:Nat):Int)-((n:Nat):Int))=((ϥ cs os c rs-n:Nat):Int):=by
  split <;>omega
 rw[em];lk;show#[a,b,p,v,cs,os,rs,c,_,_,rfl,j.same f,m.same f,o.same f,s.same f,i,g,Nat.sub_le _ _,C,λt D us x y H' s' h1 h2 F G I J=>q t D us x y H' (f.trans s') (f.free h1) h2 F (G.imp λu r z=>by
  let#[t,l,e,L,M,O,R,U]:=z;show#[t,l,e,f.free L,f.free M,O,R,U]) I J]
def uC(H H':Hp)(v:V)(r:Row):=∃t l,v=.ref t/\H' t=some (.tup [.int r.1,.ref l])/\H l=some (.lst r.2)
theorem uC.row{H H':Hp}{v:V}{r:Row}(h:uC H H' v r)(s:ζ H H'):cC H' v r:=by
 let#[t,l,e,e1,a]:=h;show#[t,l,e,e1,s _ _ a]
inductive WW (K:ϩ) (mg:Str->Option ε) (t:Tr) (vs:List V) (H:Hp) (Q:VK) (E:XK):Prop
 |mk (a p:δ) (z:Str) (rs:List Row):vs=[.ref a,.ref p]->bY mg H t a z->dR H p rs->rs.length<=1000->(∀r∈rs,oR r.2 t)->(∀q ws H',ζ H H'->H q=none->H' q=some (.lst ws)->ς (uC H H') ws (rs.filter λr=>Ϙ r.2 t)->Q (.ref q) H')->WW K mg t vs H Q E
theorem Ox(rs:List Row)(f:Row->Bool):(jA (λi=>f (rs.getD i (0,[]))) rs.length).map (λi=>rs.getD i (0,[]))=rs.filter f:=by
 unfold jA;let h:=map_getD (0,[]) rs
 conv=>rhs;rw[<-h]
 rw[List.filter_map];rfl
theorem xm{α β c:Type}{R:α->c->Prop}(g:β->c):∀{l:List α}{m:List β},ς (λa b=>R a (g b)) l m->ς R l (m.map g)
 |_,_,.nil=>.nil
 |_,_,.cons h t=>.cons h (xm g t)
theorem Et(T:Txt K mg)(t:Tr):Def P w K mg base true (4+t.dep) "let_through" ["sieve","rows"] (WW K mg t):=by
 rw[show 4+t.dep=(3+t.dep)+1 by omega];show Γ (N:=["sieve","rows"]) T.Et (λ_ _ _ _ _ H vs Q E S h=>?_);intro X _;let#[a,p,z,rs,rfl,F,#[ws,U,f],hl,W,q]:=h;let hsz:=ϱ;let n:=f.len;let G:(["row","values","sieve"]:List Str).Nodup:=by fin2
 f_len;show ω ?_;show acC ["row","values","sieve"] (σ':=[none,none,some (.ref a)]) (by rfl) (by rfl) (cz (ψ RM)) (by intro _;rfl) ?_;lk;show#[p,ws,rfl,η.of U,(),λI=>∃J L,I=[J,L,some (.ref a)],λi=>Ϙ (rs.getD i (0,[])).2 t,λg i u H'=>u≠.ref g/\uC H H' u (rs.getD i (0,[])),#[none,none,rfl],λg i v H2 H3 ys Y Z h=>?_,λfp g C s3 H0 i I x H2 M hx o sm c=>?_,λg H2 us M e2 O sm=>?_]
 .let#[h0,s,l,e,h1,h2]:=h;show#[h0,s,l,e,Z _ _ (λz=>by rw[z,Y]at h1;cases h1) h1,h2]
 .let#[J,L,rfl]:=o;let#[r,j,tr,R,rfl,y,m]:=f.get hx;let#[ys,c]:=c;let B:rs.getD i (0,[])=r:=by rw[abA,j];rfl
  let#[da,fa,ea,la]:=(F.same sm).ins;show aj (ρ.of (sm _ _ y)) (Θ (Β G (by rfl) (.inl rfl) (.inr rfl) (Θ (Β G (by rfl) (.inl rfl) (.inr rfl) (az ?_)))));show Af (λ_=>by rfl) ?_;show bZ (pl:=_) S (by walk_at"xo") (by rfl) (by rfl) (by rfl) ?_;f_are;show#[a,dH mg t,da,_,true,3+t.dep,_,gO K mg t,rfl,ea,la,xf T t,Ϭ _,id,?_];lk;show#[a,R,z,r.2,rfl,F.same sm,η.of (sm _ _ m),W r (aaq j),?_];show#[_,rfl,(by show Ϙ r.2 t=Ϙ (rs.getD i (0,[])).2 t;rw[B]),#[_,_,rfl],ζ.refl _,λ_=>?_];lk;show#[Δ,λs D=>?_];show#[#[λz=>?_,s,R,rfl,by rw[B];show υ,by rw[B];show m],ζ.upd D];injection z with z
  rw[z,c]at D;cases D
 .rw[n]at O;let DP:ς (uC H H2) us (rs.filter λr=>Ϙ r.2 t):=by
   rw[<-Ox rs λr=>Ϙ r.2 t];show xm _ (O.imp λu i z=>by
    show z.2)
  show q g us H2 sm M e2 DP
theorem XD{cs:List ξ}{os:List Ord}(g:aB cs os):∀{l m:List Row},(∀r∈l,ό cs r)->l.Perm m->Line cs os l->Line cs os m->l=m
 |[],m,_,h,_,_=>List.Perm.nil_eq h
 |a::l,[],_,h,_,_=>absurd h.length_eq (by simp)
 |a::l,b::m,i,h,h1,h2=>by
  let c:=an0.mp h1;let f:=an0.mp h2;let e:a=b:=by
   let ha:a∈b::m:=h.mem_iff.mp (by simp);let hb:b∈a::l:=h.mem_iff.mpr (by simp);obtain e|ha:=aaG.mp ha
   .show e
   .obtain e|hb:=aaG.mp hb
    .show e.symm
    .let x1:aW cs os a b=true:=c.1 b hb;let x2:aW cs os b a=true:=f.1 a ha;let j:=b7 (i a (by simp)) g;let n:=b7 (i b (by simp[hb])) g;let x3:aa os (ao cs os a.2) (ao cs os a.2) a.1 a.1=true:=qK j n j x1 x2;rw[yz (ahS cs os a.2)]at x3;show absurd (of_decide_eq_true x3) ()
  subst e;rw[XD g (λr o=>i r (by simp[o])) (List.Perm.cons_inv h) c.2 f.2]
theorem Ti{α:Type}:∀{m:List (Int×α)}{p:Int×α},(m.map (·.1)).Nodup->p∈m->Η m p.1=some p.2
 |q::m,p,f,hp=>by
  let a:=amR.mp f;obtain rfl|hp:=aaG.mp hp
  .unfold Η;rw[adZ,decide_eq_true rfl];rfl
  .let g:¬q.1=p.1:=λe=>a.1 (ada.mpr #[p,hp,e.symm])
   let c:=Ti a.2 hp;unfold Η at c⊢;rw[adZ,decide_eq_false g];show c
theorem yZ{rows:List (Int×List V)}{ks:List Int}(a:(rows.map (·.1)).Nodup)(h:ks.Perm (rows.map (·.1))):(aJ rows ks).Perm rows:=by
 let h1:(aJ rows ks).Perm (aJ rows (rows.map (·.1))):=h.map _;let h2:aJ rows (rows.map (·.1))=rows:=by
  unfold aJ;rw[agr];have:rows.map ((λk=>(k,(Η rows k).getD []))∘λx=>x.1)=rows.map id:=anQ λp c=>by
   show(p.1,(Η rows p.1).getD [])=p;rw[Ti a c];rfl
  rw[this,aoT]
 rw[h2]at h1;show h1
theorem afI{cs:List ξ}{xs:List V}(h:ς (λ(c:ξ) x=>ϑ c.2 x) cs xs):∀{n:cV},v5 cs n->Nq xs n
 |.all,_=>trivial
 |.none p,f=>by
   have:=h.len;show p<xs.length;let s:p<cs.length:=f;omega
 |.look l p v,f=>by
   let#[c,u,o,q,B]:=f;let#[x,C,g]:=h.get u;show#[x,C,?_];obtain e|⟨a,i,rfl,_⟩|⟨a,y,rfl,_⟩:=g
   .show .inl e
   .right;obtain e|⟨_,j,rfl,_⟩|⟨m,_⟩:=o
    .show absurd e q
    .cases l with
     |holds=>rw[B rfl]at a;show absurd a (by fin2)
     |is=>show#[rfl,rfl,.inr (.inr (.inl #[i,j,rfl,rfl]))]
     |over=>show#[rfl,rfl,.inr (.inr (.inl #[i,j,rfl,rfl]))]
    .show absurd a m
   .right;obtain e|⟨m,_⟩|⟨_,z,rfl,_⟩:=o
    .show absurd e q
    .show absurd m a
    .cases l with
     |holds=>show#[y,z,rfl,rfl]
     |is=>show#[rfl,rfl,.inr (.inr (.inr #[y,z,rfl,rfl]))]
     |over=>show#[rfl,rfl,.inr (.inr (.inr #[y,z,rfl,rfl]))]
theorem xY{cs:List ξ}{xs:List V}(h:ς (λ(c:ξ) x=>ϑ c.2 x) cs xs):∀{t:Tr},gZ cs t->oR xs t
 |.one s,a=>afI h a
 |.nt t,a=>xY h (t:=t) a
 |.ei t u,a=>#[xY h a.1,xY h a.2]
theorem _root_._V.Out.seq{S:List δ}{H H':Hp}{a:δ}{xs:List V}(o:Out S H H')(c:a∉S)(h:η K H a xs):η K H' a xs:=by
 rcases h with(h|⟨u,h⟩)|h
 .show .inl (.inl (o _ _ c h))
 .show .inl (.inr #[u,o _ _ c h])
 .show .inr h
theorem QW{H:Hp}{a:δ}{xs:List V}(h:η K H a xs):H a≠none\/∀H',η K H' a xs:=by
 rcases h with(h|⟨u,h⟩)|h
 .show .inl (by rw[h];nofun)
 .show .inl (by rw[h];nofun)
 .show .inr λ_=>.inr h
def NT(H:Hp)(S:List δ):=∀x∈S,∀ys,H x≠some (.tup ys)
theorem NT.tup{H H':Hp}{S:List δ}(h:NT H S)(o:Out S H H'):∀b ys,H b=some (.tup ys)->H' b=some (.tup ys):=λb ys e=>o b _ (λz=>h b z ys e) e
def _root_._V.BA.six(A:BA):List δ:=[A.h,A.r,A.t,A.d,A.b,A.dx]
theorem _root_._V.Ν.YF{C:δ}{H:Hp}{A:BA}{B:Bk}(k:Ν C H A B):∀x∈A.six,H x≠none:=by
 intro x c;let a:x=A.h\/x=A.r\/x=A.t\/x=A.d\/x=A.b\/x=A.dx:=by simpa [BA.six]using c
 let#[_,e,_]:=k.heads;let#[_,f,_]:=k.rows;let#[_,g,_]:=k.touched;let#[_,i,_]:=k.done;obtain rfl|rfl|rfl|rfl|rfl|rfl:=a
 .rw[e];nofun
 .rw[f];nofun
 .rw[g];nofun
 .rw[i];nofun
 .rw[k.ins];nofun
 .rw[k.own];nofun
theorem aa3{A:BA}{x:δ}(c:x∈[A.b,A.dx,A.h,A.r,A.t,A.d]):x∈A.six:=by
 let a:x=A.b\/x=A.dx\/x=A.h\/x=A.r\/x=A.t\/x=A.d:=by simpa using c
 obtain rfl|rfl|rfl|rfl|rfl|rfl:=a<;>simp[BA.six]
theorem _root_._V.Ν.out{C:δ}{H H':Hp}{A:BA}{B:Bk}{S:List δ}(k:Ν C H A B)(o:Out S H H')(nt:NT H S)(a:∀x∈A.six,x∉S):Ν C H' A B:=
 k.stay (nt.tup o) λx u c e=>o x u (a x (aa3 c)) e
theorem made{C:δ}{H H':Hp}{y dx:δ}{A:BA}(c:H y=none)(a:H dx=none)(g:A.b=y)(i:A.dx=dx)(j:(upd (upd H dx (.own y)) y (.ins C dx [])) A.h=none)(l:(upd (upd H dx (.own y)) y (.ins C dx [])) A.r=none)(m:(upd (upd H dx (.own y)) y (.ins C dx [])) A.t=none)(n:(upd (upd H dx (.own y)) y (.ins C dx [])) A.d=none)(o:Out [y] (upd (upd H dx (.own y)) y (.ins C dx [])) H'):ζ H H'/\∀x∈A.six,H x=none:=by
 let sm:ζ H (upd (upd H dx (.own y)) y (.ins C dx [])):=λb u e=>by
  rw[ο (λz=>by rw[z,c]at e;cases e),ο (λz=>by rw[z,a]at e;cases e)];show e
 show#[λb u e=>o b u (λz=>by rw[abx.mp z,c]at e;cases e) (sm b u e),λx p=>?_];let f:x=A.h\/x=A.r\/x=A.t\/x=A.d\/x=A.b\/x=A.dx:=by simpa [BA.six]using p
 obtain rfl|rfl|rfl|rfl|rfl|rfl:=f
 .show sm.free j
 .show sm.free l
 .show sm.free m
 .show sm.free n
 .rw[g];show c
 .rw[i];show a
def LR(F:List δ)(H:Hp)(v:V)(xs:List V):=∃l,v=.ref l/\H l=some (.lst xs)/\l∉F
def yo(F:List δ)(H:Hp)(a:δ)(m:List (Int×List V)):Prop:=DictAt (LR F H) H a m
theorem LR.stay{F:List δ}{H H':Hp}{v:V}{xs:List V}(h:LR F H v xs)(s:∀b ys,b∉F->H b=some (.lst ys)->H' b=some (.lst ys)):LR F H' v xs:=by
 let#[l,e,h1,h2]:=h;show#[l,e,s _ _ h2 h1,h2]
def gb(rows:List (Int×List V))(row:Int):Option (List V)->List (Int×List V)
 |none=>cD rows row
 |some xs=>aZ rows row xs
def eN(rows:List (Int×List V))(ds:List ϕ):List (Int×List V):=ds.foldr (λd r=>gb r d.row d.was) rows
def iV(rows:List (Int×List V)):List ϕ->Prop
 |[]=>True
 |d::ds=>iV rows ds/\(d.was=none->Η (eN rows ds) d.row≠none)
theorem ajb{α:Type}(m:List (Int×α))(i:Int)(x:α):(aZ m i x).length<=m.length+1:=by
 unfold aZ;split
 .rw[aaz];omega
 .rw[abu,ael];omega
theorem adm(rows:List (Int×List V))(row:Int)(o:Option (List V)):(gb rows row o).length<=rows.length+1:=by
 cases o with
 |none=>show apy (aib ..)
 |some xs=>show ajb rows row xs
theorem IK(rows:List (Int×List V)):∀ds:List ϕ,(eN rows ds).length<=rows.length+ds.length
 |[]=>Ϭ _
 |d::ds=>by
  let h1:=IK rows ds;let h2:=adm (eN rows ds) d.row d.was;show(gb (eN rows ds) d.row d.was).length<=_;rw[acS];omega
theorem iV.drop{rows:List (Int×List V)}:∀{ds:List ϕ}(n:Nat),iV rows ds->iV rows (ds.drop n)
 |ds,0,h=>h
 |[],n+1,h=>h
 |d::ds,n+1,h=>iV.drop (ds:=ds) n h.1
inductive Yc (vs:List V) (H:Hp) (Q:VK) (E:XK):Prop
 |mk (a:δ) (rows:List (Int×List V)) (row:Int) (v:V) (o:Option (List V)):vs=[.ref a,.int row,v]->DictAt (TupAt H) H a rows->jX H v o->(o=none->Η rows row≠none)->rows.length<1000000->(∀H',Out [a] H H'->DictAt (TupAt H') H' a (gb rows row o)->Q .non H')->Yc vs H Q E
theorem Am(T:Txt K mg):Def P w K mg base true 1 "put_back" ["rows","row","was"] Yc:=by
 show Γ (N:=["rows","row","was"]) T.Am (λ_ _ _ _ _ H vs Q E l h=>?_);intro X _;let#[a,rows,row,v,o,rfl,#[Ϸ,ea,f],i,g,y,q]:=h;let m:_+1<cLine:=afN (ajd (by decide:1<=64) _) l.units;let n:=f.len;let hsz:=ϱ;let st:∀c,∀b ys,H b=some (.tup ys)->(upd H a (.dK c)) b=some (.tup ys):=λc b ys e=>by
  rw[ο (λz=>by rw[z,ea]at e;cases e)];show e
 f_len;show Κ ?_;cases o with
 |none=>
  let e:v=.non:=i;subst e;lk;f_len;show aM (yx ?_);f_are;show#[a,rfl,.inl #[_,.inl ea],?_];f_are;obtain⟨e1,j⟩|⟨u,x,e1,j,_⟩:=iw f row
  .show absurd j (g rfl)
  show#[Ϸ,Sum.inl row,u,ea,rfl,e1,?_];show q _ (Out.upd (by simp)) #[_,υ,dU (wk f row) λv p h=>h.stay (st _)]
 |some xs=>
  let#[t,rfl,s]:=i;lk;f_len;show wN m ?_;cbv;show#[a,_,rfl,iz.k (k:=Sum.inl row) ea (),?_];show q _ (Out.upd (by simp)) #[_,υ,dU (vh f row (x:=xs) #[t,rfl,s]) λv p h=>h.stay (st _)]
def qi(B:Bk):Prop:=0<=B.known/\B.known<=B.now/\B.now<=1000000000
inductive p6 (mg:Str->Option ε) (vs:List V) (H:Hp) (Q:VK) (E:XK):Prop
 |mk (A:BA) (B:Bk) (mo:Int):vs=[.ref A.b,.int mo]->Ν (cB mg) H A B->qi B->(mo<B.known->∀e H',ζ H H'->H' e=some (.xd [("known",.int B.known)])->E (.ref (θ mg "Gone")) (some e,true) H')->(B.now<mo->∀e H',ζ H H'->H' e=some (.xd [("now",.int B.now)])->E (.ref (θ mg "Later")) (some e,true) H')->(B.known<=mo->mo<=B.now->∀p ys,H p=none->ς (jr H) ys (B.done.drop (mo-B.known).toNat)->Q (.ref p) (upd H p (.lst ys)))->p6 mg vs H Q E
theorem W5(T:Txt K mg):FD P w K mg base true 3 "done_behind" "Book.done_behind" W3 ["self","moment"] (p6 mg):=by
 show aN (N:=["self","moment"]) (λf C D outer s H vs Q E j h=>?_);intro X _;let#[A,B,mo,rfl,l,#[F,G,I],n,o,q]:=h;let a:=T.Ϝ;let g:=T.zb;let m:=T.vg;let u:=T.w6;let c:=l.ins;let#[ds,v,x]:=l.done;w_up;cbv;show Ϥ ?_;f_are;show#[A.b,_,_,_,_,rfl,c,a,g,rfl,?_];cbv;show Ζ (λh=>?_) (λh=>?_)
 .cbv;show(K8 (ako T (cc:=true)) j (λ_=>rfl) ύ ?_);cbv;show Ϥ ?_;f_are;show#[A.b,_,_,_,_,rfl,c,a,g,rfl,?_];cbv;show#[B.known,rfl,(),λe H' sm i=>n h e H' sm i]
 show Ε ?_;w_up;cbv;show Ϥ ?_;f_are;show#[A.b,_,_,_,_,rfl,c,a,m,rfl,?_];cbv;show Ζ (λh2=>?_) (λh2=>?_)
 .cbv;show(K8 (abq T (cc:=true)) j (λ_=>rfl) ύ ?_);cbv;show Ϥ ?_;f_are;show#[A.b,_,_,_,_,rfl,c,a,m,rfl,?_];cbv;show#[B.now,rfl,(),λe H' sm i=>o () e H' sm i]
 show Ε ?_;f_len;show ω ?_;cbv;show Ϥ ?_;f_are;show#[A.b,_,_,_,_,rfl,c,a,u,rfl,?_];cbv;show Ϥ ?_;f_are;show#[A.b,_,_,_,_,rfl,c,a,g,rfl,?_];cbv;show kZ (η.of v) λp y=>?_
 let z:mo-B.known=((mo-B.known).toNat:Int):=()
 let e1:bH ds (some (mo-B.known)) none=ds.drop (mo-B.known).toNat:=by rw[z];show Ca ds _
 rw[e1];show q () () p _ y (x.drop _)
inductive yd (mg:Str->Option ε) (vs:List V) (H:Hp) (Q:VK) (E:XK):Prop
 |mk (A:BA) (B:Bk) (mo:Int):vs=[.ref A.b,.int mo]->Ν (cB mg) H A B->qi B->(mo<=B.known->Q .non H)->(B.now<mo->∀e H',ζ H H'->H' e=some (.xd [("now",.int B.now)])->E (.ref (θ mg "Later")) (some e,true) H')->(B.known<mo->mo<=B.now->∀d H',H d=none->Out [A.b] H H'->Ν (cB mg) H' {A with d:=d} {B with done:=B.done.drop (mo-B.known).toNat,known:=mo}->Q .non H')->yd mg vs H Q E
theorem aj6(T:Txt K mg):FD P w K mg base true 4 "let_go" "Book.let_go" Rp ["self","moment"] (yd mg):=by
 show aN (N:=["self","moment"]) (λf Ϻ A' outer s H vs Q E D h=>?_);intro X _;let#[A,B,mo,rfl,c,F,G,I,q]:=h;let j:=T.Ϝ;let n:=T.zb;let J:=T.w6;let u:=c.ins;let M1:Ϟ P w K mg base true 3 (cB mg) "done_behind" ["self","moment"] (p6 mg):=(W5 T).meth T.Ϝ T.M8;f_len;show Κ ?_;lk;show Ϥ ?_;f_are;show#[A.b,_,_,_,_,rfl,u,j,n,rfl,?_];lk;show Ζ (λh=>?_) (λh=>?_)
 .w_up;show dj ?_;show bZ (pl:=_) D ύ (h:=?_);f_are;show#[A.b,cB mg,A.dx,_,true,3,_,p6 mg,rfl,u,by rfl,M1,by decide,id,?_];cbv;show#[A,B,mo,rfl,c,F,λz=>absurd z (),I,λ_ L p ys g l=>?_];let#[i,ep]:=ϋ g (.lst ys);generalize upd H p (.lst ys)=H1 at i ep⊢;let k1:=c.same i;let m:ς (jr H1) ys (B.done.drop (mo-B.known).toNat):=ς.imp (λv d h=>h.stay λb ys e=>i _ _ e) l;f_are;show#[A.b,_,_,_,rfl,k1.ins,j,J,by show 6<1000;decide,?_];let n1:p≠A.b:=λe=>by have:=c.ins;rw[<-e,g]at this;cases this
  let y:Out [A.b] H _:=(Out.of i).trans (Out.upd (H:=H1) (a:=A.b) (o:=.ins (cB mg) A.dx [("heads",.ref A.h),("rows",.ref A.r),("touched",.ref A.t),("done",.ref p),("known",.int B.known),("now",.int B.now)]) (by simp));let k2:Ν (cB mg) (upd H1 A.b (.ins (cB mg) A.dx [("heads",.ref A.h),("rows",.ref A.r),("touched",.ref A.t),("done",.ref p),("known",.int B.known),("now",.int B.now)])) {A with d:=p} {B with done:=B.done.drop (mo-B.known).toNat}:=by
   let kk:=(k1.Hr B.known B.now);let#[M,O,R,S,m5,m6,m7,m8,m9,U,W,Y]:=k1.ne;let st:∀b ys,H1 b=some (.tup ys)->(upd H1 A.b (.ins (cB mg) A.dx [("heads",.ref A.h),("rows",.ref A.r),("touched",.ref A.t),("done",.ref p),("known",.int B.known),("now",.int B.now)])) b=some (.tup ys):=λb ys e=>by
    rw[ο (λz=>by rw[z,k1.ins]at e;cases e)];show e
   show#[υ,by rw[ο (Ne.symm M)];show k1.own,k1.heads.stay (λxs e=>by rw[ο (Ne.symm O)];show e) st,?_,?_,#[ys,by rw[ο n1];show ep,ς.imp (λv d h=>h.stay st) m],k1.rt,λe=>?_]
   .let#[Ϸ,e,h]:=k1.rows;show#[Ϸ,by rw[ο (Ne.symm R)];show e,dU h λv x h=>h.stay st]
   .let#[Ϸ,e,h]:=k1.touched;show#[Ϸ,by rw[ο (Ne.symm S)];show e,h]
   .let Z:A.h=p:=e;let#[_,C,_]:=c.heads;rw[Z,g]at C;cases C
  change Ρ _ _ _ _ (upd H1 A.b (.ins (cB mg) A.dx [("heads",.ref A.h),("rows",.ref A.r),("touched",.ref A.t),("done",.ref p),("known",.int B.known),("now",.int B.now)]));generalize upd H1 A.b _=H2 at k2 y⊢;f_len;show dj ?_;cbv;show#[A.b,_,_,_,rfl,k2.ins,j,n,by show 6<1000;decide,?_];let k3:=k2.Hr mo B.now;show q () L p _ g (y.trans (Out.upd (by simp))) k3
 .show Ε (G ())
inductive u6 (mg:Str->Option ε) (vs:List V) (H:Hp) (Q:VK) (E:XK):Prop
 |mk (A:BA) (B:Bk) (mo:Int):vs=[.ref A.b,.int mo]->Ν (cB mg) H A B->qi B->B.rows.length<1000->B.done.length<10000->(mo<B.known->∀e H',ζ H H'->H' e=some (.xd [("known",.int B.known)])->E (.ref (θ mg "Gone")) (some e,true) H')->(B.now<mo->∀e H',ζ H H'->H' e=some (.xd [("now",.int B.now)])->E (.ref (θ mg "Later")) (some e,true) H')->(B.known<=mo->mo<=B.now->iV B.rows (B.done.drop (mo-B.known).toNat)/\(eN B.rows (B.done.drop (mo-B.known).toNat)).length<64/\
  ∀p ys ks H',ζ H H'->H p=none->ks.Perm ((eN B.rows (B.done.drop (mo-B.known).toNat)).map (·.1))->ks.Pairwise (· <= ·)->H' p=some (.lst ys)->ς (yS H H') ys (aJ (eN B.rows (B.done.drop (mo-B.known).toNat)) ks)->Q (.ref p) H')->u6 mg vs H Q E
theorem Yx(T:Txt K mg):FD P w K mg base true 4 "rows_at" "Book.rows_at" Hj ["self","moment"] (u6 mg):=by
 show aN (S:=Vt) (λf Ϻ A' outer s H vs Q E hr h=>?_);intro X _;let#[A,B,mo,rfl,L,hm,hrl,hdl,qg,ql,q]:=h;let nd:=Vt.nd;let hc:=T.Ϝ;let a1:=T.tU;let n1:=T.abe;let n2:=T.VN;let M1:Ϟ P w K mg base true 3 (cB mg) "done_behind" ["self","moment"] (p6 mg):=(W5 T).meth T.Ϝ T.M8;let D1:= @Am P w K mg base T;let D2:= @G5 P w K mg base T;let#[Ϸ,er,hR]:=L.rows;w_up;cbv;show Ϥ ?_;f_are;show#[A.b,_,_,_,_,rfl,L.ins,hc,a1,rfl,?_];cbv;show aac er λr g=>?_
 let#[c,M]:=ϋ g (.dK Ϸ);change Ρ _ _ _ _ (upd H r (.dK Ϸ));generalize upd H r (.dK Ϸ)=H1 at c M⊢;let Oj:=L.same c;let jH:ς (PR (TupAt H1)) Ϸ B.rows:=dU hR λv x h=>h.stay λb ys e=>c _ _ e
 w_up;show Oz (by walk_at"po") (by rfl) (by rfl) n2 (by rfl) ?_;show bZ (pl:=_) hr ύ (h:=?_);f_are;show#[A.b,cB mg,A.dx,_,true,3,_,p6 mg,rfl,Oj.ins,by rfl,M1,by decide,id,?_];cbv;show#[A,B,mo,rfl,Oj,hm,λz e H' sm O=>qg z e H' (c.trans sm) O,λz e H' sm O=>ql z e H' (c.trans sm) O,λz1 z2 p ys R a=>?_];let#[hok,j,q]:=q z1 z2;let U:(B.done.drop (mo-B.known).toNat).length<=B.done.length:=by rw[adH];omega
 generalize B.done.drop (mo-B.known).toNat=ds at a hok j q U;let W:=a.len;let#[m,ep]:=ϋ R (.lst ys);generalize upd H1 p (.lst ys)=H2 at m ep⊢;let Y:ς (jr H2) ys ds:=ς.imp (λv d h=>h.stay λb ys e=>m _ _ e) a;let pJ:=m _ _ M;let rp:r≠p:=λe=>by rw[<-e,M]at R;cases R
 show#[p,ys,rfl,η.of ep,λi σ H'=>(∃n,σ=[some (.ref A.b),some (.int mo),some (.ref r),n])/\Out [r] H2 H'/\DictAt (TupAt H') H' r (eN B.rows (ds.drop (ys.length-i))),#[#[none,rfl],Out.refl _ _,#[Ϸ,pJ,?_]],λi σ H' hi y=>η.of (y.2.1 _ _ (by simpa using Ne.symm rp) ep),λi x σ H' hi hx y=>?_,λσ H' y=>?_]
 .rw[aoe,W,anM];show dU jH λv x h=>h.stay λb ys e=>m _ _ e
 .let#[#[n,rfl],o,I]:=y;let#[d,hd,t,w,u,rfl,ht,hw,hu]:=Y.get hx;let st:∀b ys,H2 b=some (.tup ys)->H' b=some (.tup ys):=λb ys e=>o _ _ (λz=>by rw[abx.mp z,pJ]at e;cases e) e
  let C:ys.length-(i+1)<ds.length:=()
  let D:ds.drop (ys.length-(i+1))=d::ds.drop (ys.length-i):=by
   rw[afy C];let e1:ds[ys.length-1-i]?=some d:=hd;let e2:ys.length-1-i=ys.length-(i+1):=()
   rw[e2]at e1;rw[(aap.mp e1).2,show ys.length-(i+1)+1=ys.length-i by omega]
  let F:iV B.rows (d::ds.drop (ys.length-i)):=by rw[<-D];show hok.drop _
  let Xp:=IK B.rows (ds.drop (ys.length-i));let alp:(ds.drop (ys.length-i)).length<=ds.length:=by rw[adH];omega
  let G:ρ K H' t [.int d.at_,.int d.row,w,u]:=ρ.of (st _ _ ht);show Β nd (by rfl) (.inl rfl) (.inl rfl) ?_;f_len;cbv;show Χ G (i:=1) rfl ?_;cbv;show Χ G (i:=2) rfl ?_;cbv;show#[r,eN B.rows (ds.drop (ys.length-i)),d.row,w,d.was,rfl,I,hw.stay st,F.2,(),λH3 n k3=>?_];show#[#[_,rfl],o.trans n,?_];rw[D];show k3
 .let#[#[n,rfl],o,I]:=y;rw[ao8,amm]at I;let J:ζ H H':=λb u e=>o _ _ (λz=>by rw[abx.mp z,g]at e;cases e) (m _ _ (c _ _ e))
  f_len;cbv;show#[r,_,rfl,I,j,λp2 Z ks H3 ab ac ae af ag ah=>?_];show q p2 Z ks H3 (J.trans ab) (J.free ac) ae af ag (ς.imp (λv x ⟨t,l,e,h1,h2,h3,h4⟩=>#[t,l,e,h1,h2,J.free h3,J.free h4]) ah)
theorem G7(r:List (Int×List V))(row:Int)(o:Option (List V))(i:Int):Η (gb r row o) i=if i=row then o else Η r i:=by
 cases o with
 |none=>show tM
 |some xs=>show qF
theorem KY{r:List (Int×List V)}(h:(r.map (·.1)).Nodup)(row:Int)(o:Option (List V)):((gb r row o).map (·.1)).Nodup:=by
 cases o with
 |none=>show Ve h
 |some xs=>show Wx h
def dW(ds:List ϕ):List (Int×List V):=ds.foldl (λr d=>gb r d.row d.is) []
theorem KZ(ds:List ϕ)(d:ϕ):dW (ds++[d])=gb (dW ds) d.row d.is:=by
 unfold dW;rw[aoI];rfl
theorem take_snoc{α:Type}{l:List α}{j:Nat}{d:α}(h:l[j]?=some d):l.take (j+1)=l.take j++[d]:=by
 rw[List.take_succ,h];rfl
theorem T8:∀ds:List ϕ,((dW ds).map (·.1)).Nodup:=by
 intro ds;unfold dW;have:∀(ds:List ϕ)(r:List (Int×List V)),(r.map (·.1)).Nodup->((ds.foldl (λr d=>gb r d.row d.is) r).map (·.1)).Nodup:=by
  intro ds;induction ds with
  |nil=>show λr h=>h
  |cons d ds a=>show λr h=>a _ (KY h _ _)
 show this ds [] (by simp)
theorem TJ{r:List (Int×List V)}(h:(r.map (·.1)).Nodup):∀ds:List ϕ,((eN r ds).map (·.1)).Nodup
 |[]=>h
 |d::ds=>KY (TJ h ds) _ _
def VJ(all:List ϕ):=∀(j:Nat) d,all[j]?=some d->d.at_=j+1/\d.was=Η (dW (all.take j)) d.row/\(d.was=none->d.is≠none)
theorem back_eq{all:List ϕ}(h:VJ all):∀(n j:Nat),j+n=all.length->(∀i,Η (eN (dW all) (all.drop j)) i=Η (dW (all.take j)) i)/\iV (dW all) (all.drop j)
 |0,j,e=>by
  let l:j=all.length:=()
  subst l;rw[anM,anL];show#[λ_=>rfl,trivial]
 |n+1,j,e=>by
  let#[a,c]:=back_eq h n (j+1) ();let f:j<all.length:=()
  let hd:all[j]?=some all[j]:=aab f;let#[_,h2,g]:=h j _ hd;let e1:all.drop j=all[j]::all.drop (j+1):=afy f;rw[take_snoc hd,KZ]at a;rw[e1];generalize all[j]=d at h2 g a;show#[λi=>?_,c,λm=>?_]
  .show Η (gb (eN (dW all) (all.drop (j+1))) d.row d.was) i=_;rw[G7,a,G7];by_cases z:i=d.row
   .rw[if_pos z,h2,z]
   .rw[if_neg z,if_neg z]
  .rw[a,G7,if_pos rfl];show g m
theorem Zt{r1 a:List (Int×List V)}(e:∀i,Η r1 i=Η a i)(ks:List Int):aJ r1 ks=aJ a ks:=by
 unfold aJ;show anQ λk _=>by rw[e k]
structure mD(all:List ϕ)(B:Bk):Prop where
 rows:B.rows=dW all
 done:B.done=all.drop B.known.toNat
 now:B.now=all.length
 kn:0<=B.known/\B.known<=B.now
 good:VJ all
 wf:nQ B
theorem mD.Z9{all:List ϕ}{B:Bk}(h:mD all B)(row:Int)(o:Option (List V))(f:Η B.rows row=none->o≠none):mD (all++[#[B.now+1,row,Η B.rows row,o]]) (dN B row o):=by
 let g:=h.kn;let m:=h.now;show#[?_,?_,?_,#[g.1,?_],?_,?_]
 .rw[KZ];cases o with
  |none=>
   show cD B.rows row=gb (dW all) row none;rw[h.rows];rfl
  |some xs=>
   show aZ B.rows row xs=gb (dW all) row (some xs);rw[h.rows];rfl
 .show B.done++[(#[B.now+1,row,Η B.rows row,o]:ϕ)]=List.drop B.known.toNat (all++[#[B.now+1,row,Η B.rows row,o]]);rw[List.drop_append_of_le_length (), <-h.done]
 .show B.now+1=_;rw[abu,ael];omega
 .show B.known<=B.now+1;omega
 .intro j d hd;by_cases l:j<all.length
  .rw[ajS l]at hd;have:=h.good j d hd;rw[aoj ()];show this
  .let a:j<(all++[(#[B.now+1,row,Η B.rows row,o]:ϕ)]).length:=(aap.mp hd).1;rw[abu,ael]at a;let e:j=all.length:=()
   subst e;rw[akQ (Ϭ _),ao8]at hd;let c:d=#[B.now+1,row,Η B.rows row,o]:=by simpa using hd.symm
   subst c;show#[by show B.now+1=_;omega,?_,f];show Η B.rows row=_;rw[aoj (Ϭ _),anL,h.rows]
 .intro i;cases o with
  |none=>
   show Η (cD B.rows row) i=none↔ Η (cD B.touched row) i=none;rw[tM,tM];by_cases e:i=row
   .simp[e]
   .rw[if_neg e,if_neg e];show h.wf i
  |some xs=>
   show Η (aZ B.rows row xs) i=none↔ Η (aZ B.touched row (B.now+1)) i=none;rw[qF,qF];by_cases e:i=row
   .rw[if_pos e,if_pos e];simp
   .rw[if_neg e,if_neg e];show h.wf i
theorem mD.yG{all:List ϕ}{B:Bk}(h:mD all B)(a:all.length<=1000000):qi B:=#[h.kn.1,h.kn.2,by have:=h.now;omega]
def ι:List ξ:=[(Ϫ "size",Ϫ "number"),(Ϫ "word",Ϫ "text")]
def gk(k:Int):List Ord:=if k=1 then[(Ϫ "size",true)]else if k=2 then[(Ϫ "word",false)]else if k=3 then[(Ϫ "size",false),(Ϫ "word",true)]else if k=4 then[(Ϫ "word",true),(Ϫ "size",true)]else[]
def Ϛ:Nat->Tr
 |1=>.one (.look .over 0 (.int (-1)))
 |2=>.nt (.one (.none 1))
 |3=>.ei (.one (.look .is 0 (.int 0))) (.one (.look .holds 1 (.str ("a":Str))))
 |_=>.one .all
theorem rN:ώ ι=true:=by fin2
theorem uF{P:List Ord->Prop}(k:Int)(a:P [])(h1:P [(Ϫ "size",true)])(h2:P [(Ϫ "word",false)])(c:P [(Ϫ "size",false),(Ϫ "word",true)])(e:P [(Ϫ "word",true),(Ϫ "size",true)]):P (gk k):=by
 unfold gk;split
 .show h1
 .split
  .show h2
  .split
   .show c
   .split
    .show e
    .show a
theorem afV(k:Int):aB ι (gk k):=by
 let s:∃c∈ι,c.1=Ϫ "size":=#[_,adV ..,rfl];let t:∃c∈ι,c.1=Ϫ "word":=#[_,acY _ (adV ..),rfl];show uF (P:=aB ι) k ?_ ?_ ?_ ?_ ?_<;>intro o ho
 .cases ho
 .rw[abx.mp ho];show s
 .rw[abx.mp ho];show t
 .obtain e|ho:=aaG.mp ho
  .rw[e];show s
  .rw[abx.mp ho];show t
 .obtain e|ho:=aaG.mp ho
  .rw[e];show t
  .rw[abx.mp ho];show s
theorem ais(k:Int):(gk k).length<=4:=uF (P:=λl=>l.length<=4) k (by decide) (by decide) (by decide) (by decide) (by decide)
theorem abT(k:Int):((gk k).map Prod.fst).Nodup:=uF (P:=λl=>(l.map Prod.fst).Nodup) k (by fin2) (by fin2) (by fin2) (by fin2) (by fin2)
theorem acA(k:Int):∀o∈gk k,o.1.length<=1000:=uF (P:=λl=>∀o∈l,o.1.length<=1000) k (by fin2) (by fin2) (by fin2) (by fin2) (by fin2)
theorem Hd{P:Nat->Tr->Prop}(k:Nat)(e:k<4)(a:P 0 (.one .all))(h1:P 1 (.one (.look .over 0 (.int (-1)))))(h2:P 2 (.nt (.one (.none 1))))(c:P 3 (.ei (.one (.look .is 0 (.int 0))) (.one (.look .holds 1 (.str ("a":Str)))))):P k (Ϛ k):=by
 obtain _|_|_|_|k:=k
 .show a
 .show h1
 .show h2
 .show c
 .omega
theorem abD{k:Nat}(a:k<4):gZ ι (Ϛ k):=by
 show Hd (P:=λ_ t=>gZ ι t) k a trivial #[_,rfl,.inr (.inl #[rfl, -1,rfl,by decide,by decide]),(λe=>by cases e),(λe=>by cases e)] (show 1<2 by decide) #[#[_,rfl,.inr (.inl #[rfl,0,rfl,by decide,by decide]),(λe=>by cases e),(λe=>by cases e)],#[_,rfl,.inr (.inr #[by fin2,_,rfl,by fin2,by fin2]),(λe=>by cases e),λ_=>rfl]]
theorem Bu{k:Nat}(a:k<4):(Ϛ k).dep<=1/\(wT (Λ ι) (Ϛ k)).length<=60:=by
 show Hd (P:=λ_ t=>t.dep<=1/\(wT (Λ ι) t).length<=60) k a #[by show 0<=1;decide,by show 1<=60;decide] #[by show 0<=1;decide,by show 3<=60;decide] #[by show 1<=1;decide,by show 3<=60;decide] #[by show 1<=1;decide,by show 7<=60;decide]
def Ew:List Str:=[Ϫ "all",Ϫ "over size -1",Ϫ "not none word",Ϫ "either is size 0 holds word 'a"]
theorem Vz{k:Nat}(a:k<4):Ew[k]?=some (ae5 " " (wT (Λ ι) (Ϛ k))):=by
 show Hd (P:=λk t=>Ew[k]?=some (ae5 " " (wT (Λ ι) t))) k a ?_ ?_ ?_ ?_<;>fin2
theorem ZK{r:Row}(h:ό ι r):∃x y,r.2=[x,y]/\ϑ ("number":Str) x/\ϑ ("text":Str) y:=by
 let#[n,xs]:=r;let h':ς (λ(c:ξ) x=>ϑ c.2 x) ι xs:=h;cases h' with
 |cons a t=>
  cases t with
  |cons b t=>
   cases t;show#[_,_,rfl,a,b]
inductive NQ (vs:List V) (H:Hp) (Q:VK) (E:XK):Prop
 |mk (k:Int):vs=[.int k]->(∀p H',ζ H H'->H p=none->bu H' p (gk k)->Q (.ref p) H')->NQ vs H Q E
theorem Ds(T:Txt K mg):Def P w K mg base true 1 "_law_order" ["_law_k"] NQ:=by
 show Γ (N:=["_law_k"]) T.Ds (λ_ _ _ _ _ H vs Q E y h=>?_);intro X _;let#[k,rfl,q]:=h;let hsz:=ϱ;let one:∀(o:Ord)(t p:δ),H t=none->(upd H t (.tup [.str o.1,.bl o.2])) p=none->gk k=[o]->Q (.ref p) (upd (upd H t (.tup [.str o.1,.bl o.2])) p (.lst [.ref t])):=λo t p c a e=>by
  let i:ζ H (upd H t (.tup [.str o.1,.bl o.2])):=ζ.upd c;let g:=ζ.upd (o:=.lst [.ref t]) a;show q p _ (i.trans g) (i.free a) (by rw[e];show#[_,υ,.cons #[t,rfl,g _ _ υ] .nil])
 let j:∀(o f:Ord)(t u p:δ),H t=none->(upd H t (.tup [.str o.1,.bl o.2])) u=none->(upd (upd H t (.tup [.str o.1,.bl o.2])) u (.tup [.str f.1,.bl f.2])) p=none->gk k=[o,f]->Q (.ref p) (upd (upd (upd H t (.tup [.str o.1,.bl o.2])) u (.tup [.str f.1,.bl f.2])) p (.lst [.ref t,.ref u])):=λo f t u p c l a e=>by
  let i:ζ H (upd H t (.tup [.str o.1,.bl o.2])):=ζ.upd c;let g:=ζ.upd (o:=.tup [.str f.1,.bl f.2]) l;let m:=ζ.upd (o:=.lst [.ref t,.ref u]) a;show q p _ ((i.trans g).trans m) ((i.trans g).free a) (by rw[e];show#[_,υ,.cons #[t,rfl,(g.trans m) _ _ υ] (.cons #[u,rfl,m _ _ υ] .nil)])
 w_up;show Κ ?_;lk;show Ζ (λh1=>?_) (λh1=>?_)
 .let e:k=1:=by injection h1
  f_len;show ω ?_;lk;show#[Δ,λt c=>?_];lk;show#[Δ,λp a=>?_];show one (Ϫ "size",true) t p c a (by rw[e];rfl)
 let n1:¬k=1:=λe=>h1 (by rw[e])
 show Ε ?_;w_up;show Κ ?_;lk;show Ζ (λh2=>?_) (λh2=>?_)
 .let e:k=2:=by injection h2
  f_len;show ω ?_;lk;show#[Δ,λt c=>?_];lk;show#[Δ,λp a=>?_];show one (Ϫ "word",false) t p c a (by rw[e];rfl)
 let n2:¬k=2:=λe=>h2 (by rw[e])
 show Ε ?_;w_up;show Κ ?_;lk;show Ζ (λn=>?_) (λn=>?_)
 .let e:k=3:=by injection n
  f_len;show ω ?_;lk;show#[Δ,λt c=>?_];lk;show#[Δ,λu l=>?_];lk;show#[Δ,λp a=>?_];show j (Ϫ "size",false) (Ϫ "word",true) t u p c l a (by rw[e];rfl)
 let v:¬k=3:=λe=>n (by rw[e])
 show Ε ?_;w_up;show Κ ?_;lk;show Ζ (λs=>?_) (λs=>?_)
 .let e:k=4:=by injection s
  f_len;show ω ?_;lk;show#[Δ,λt c=>?_];lk;show#[Δ,λu l=>?_];lk;show#[Δ,λp a=>?_];show j (Ϫ "word",true) (Ϫ "size",true) t u p c l a (by rw[e];rfl)
 let x:¬k=4:=λe=>s (by rw[e])
 show Ε ?_;f_len;show ω ?_;lk;show#[Δ,λp a=>?_];show q p _ (ζ.upd a) a ?_;rw[show gk k=[]by unfold gk;rw[if_neg n1,if_neg n2,if_neg v,if_neg x]];show#[_,υ,.nil]
theorem Ag(T:Txt K mg):Def P w K mg base true 1 "_law_order_words" ["_law_order_here"] Gw:=by
 show Γ (N:=["_law_order_here"]) T.Ag (λ_ _ _ _ _ H vs Q E hr h=>?_);intro X _;let#[a,os,rfl,#[vs,L,e],hl,z,q]:=h;let M:(["_law_one"]:List Str).Nodup:=by fin2
 let hsz:=ϱ;let O:=e.len;let B:("+":Str).length=1:=by fin2
 let D:("-":Str).length=1:=by fin2
 let R:(" ":Str).length=1:=by fin2
 f_len;show ω ?_;show dF F.plainAttrs_str F.slot_str_join F.type_str_join (h:=?_);f_are;show#[by rfl,d8 (by rfl) ?_];show lN ["_law_one"] (σ':=[none]) (cz (ψ SN)) ?_;f_are;show#[a,vs,rfl,η.of L,(),λG=>∃I,G=[I],λj i u H'=>∃c,os[i]?=some c/\u=.str (ϖ c),#[none,rfl],λj i u H2 S ys _ _ p=>p,λfp j C s3 H0 i G x J S U hi m f W Y=>?_,λj J ys U n s Z f =>?_]
 .let#[I,rfl]:=m;let#[bB,rfl]:=Y;let#[c,v,t,rfl,y]:=e.get bB;let hcn:=z c (aaq v);show Β M (by rfl) (.inl rfl) (.inr rfl) ?_;lk;show Χ (ρ.of (f _ _ y)) (show Ω [V.str c.1,V.bl c.2] 1=some (V.bl c.2)from rfl) ?_;lk;show iu (λh=>?_) (λh=>?_)
  .lk;show Χ (ρ.of (f _ _ y)) (show Ω [V.str c.1,V.bl c.2] 0=some (V.str c.1)from rfl) ?_;show jW (by rw[B];omega) ?_;show#[#[_,rfl],#[c,v,by unfold ϖ;rw[if_pos h]],ζ.refl _]
  .lk;show Χ (ρ.of (f _ _ y)) (show Ω [V.str c.1,V.bl c.2] 0=some (V.str c.1)from rfl) ?_;show jW (by rw[D];omega) ?_;show#[#[_,rfl],#[c,v,by unfold ϖ;rw[if_neg (by rw[h];show aaA)]],ζ.refl _]
 .let ey:=jx (ys:=os) (λc=>V.str (ϖ c)) (by rw[n,O]) s;let jw:ys=(os.map ϖ).map V.str:=by rw[ey,agr];rfl
  subst jw;cbv;show sJ (η.of Z) ?_ (q J f);rw[R,aaz];let g:∀l:List Ord,(∀o∈l,o.1.length<=1000)->((l.map ϖ).map (·.length)).sum<=l.length*1001:=by
   intro l;induction l with
   |nil=>intro _;simp
   |cons o l ih=>
    intro h;let h1:=ih λx hx=>h x (by simp[hx])
    let h2:=h o (by simp);let h3:(ϖ o).length<=1001:=by
     unfold ϖ;rw[len_app];split
     .rw[B];omega
     .rw[D];omega
    simp only[adF,anZ,acS];omega
  have:=g os z;omega
inductive WR (vs:List V) (H:Hp) (Q:VK) (E:XK):Prop
 |mk (k:Nat):vs=[.int (k:Nat)]->k<4->(∀H',ζ H H'->Q (.str (ae5 " " (wT (Λ ι) (Ϛ k)))) H')->WR vs H Q E
theorem Gv(T:Txt K mg):Def P w K mg base true 1 "_law_sieve_words" ["_law_sieve"] WR:=by
 show Γ (N:=["_law_sieve"]) T.Gv (λ_ _ _ _ _ H vs Q E e h=>?_);intro X _;let#[k,rfl,a,q]:=h;let hsz:=ϱ;f_len;show ω ?_;lk;show#[Δ,λp c=>?_];lk;show ϡ (η.of (xs:=Ew.map V.str) υ) (v:=.str (ae5 " " (wT (Λ ι) (Ϛ k)))) (aY (by rw[abh,Vz a];rfl)) ?_;show q _ (ζ.upd c)
inductive Ws (vs:List V) (H:Hp) (Q:VK) (E:XK):Prop
 |mk (k:Nat) (l:δ) (r:Row):vs=[.int (k:Nat),.ref l]->k<4->H l=some (.lst r.2)->ό ι r->Q (.bl (Ϙ r.2 (Ϛ k))) H->Ws vs H Q E
theorem Fv(T:Txt K mg):Def P w K mg base true 1 "_law_lets" ["_law_sieve","_law_values_here"] Ws:=by
 show Γ (N:=["_law_sieve","_law_values_here"]) T.Fv (λ_ _ _ _ _ H vs Q E G h=>?_);intro X _;let#[k,l,r,rfl,I,a,B,q]:=h;let#[x,y,C,j,u]:=ZK B;rw[C]at a q;let m:Ω [x,y] 0=some x:=rfl;let n:Ω [x,y] 1=some y:=rfl;let fin:∀b:Bool,b=Ϙ [x,y] (Ϛ k)->Q (.bl b) H:=λb e=>by rw[e];show q
 w_up;show Κ ?_;lk;show Ζ (λh1=>?_) (λh1=>?_)
 .let e:k=1:=by injection h1 with h1;omega
  subst e;f_len;show ω ?_;lk;show ϡ (η.of a) m ?_;obtain rfl|⟨_,i,rfl,_⟩|⟨f,_⟩:=j
  .lk;show fin _ rfl
  .lk;show ϡ (η.of a) m ?_;lk;show fin _ rfl
  .show absurd rfl f
 show Ε ?_;w_up;show Κ ?_;lk;show Ζ (λh2=>?_) (λh2=>?_)
 .let e:k=2:=by injection h2 with h2;omega
  subst e;f_len;show ω ?_;lk;show ϡ (η.of a) n ?_;obtain rfl|⟨f,_⟩|⟨_,z,rfl,_⟩:=u
  .lk;show fin _ rfl
  .show absurd f (by fin2)
  .lk;show fin _ rfl
 show Ε ?_;w_up;show Κ ?_;lk;show Ζ (λg=>?_) (λg=>?_)
 .let e:k=3:=by injection g with g;omega
  subst e;let o:∀b:Bool,b=Ϙ [x,y] (.one (.look .is 0 (.int 0)))->(b=true->Q (.bl true) H):=λb e1 p=>fin _ (by show true=(Ϙ [x,y] (.one (.look .is 0 (.int 0)))||_);rw[<-e1,p];rfl)
  let s:∀b:Bool,b=Ϙ [x,y] (.one (.look .is 0 (.int 0)))->b=false->∀c:Bool,c=Ϙ [x,y] (.one (.look .holds 1 (.str ("a":Str))))->Q (.bl c) H:=λb e1 p c D=>fin _ (by show c=(Ϙ [x,y] (.one (.look .is 0 (.int 0)))||Ϙ [x,y] (.one (.look .holds 1 (.str ("a":Str)))));rw[<-e1,p,D];rfl)
  let ex:∀b:Bool,b=decide (x=.int 0)->b=Ϙ [x,y] (.one (.look .is 0 (.int 0))):=λb e=>by
   rw[e];obtain rfl|⟨_,i,rfl,_⟩|⟨f,_⟩:=j
   .rfl
   .rfl
   .show absurd rfl f
  let F:=j.sc;f_len;show ω ?_;f_are;f_are;f_are;f_are;f_are;show ϡ (η.of a) m ?_;f_are;show Dv (vG F rfl) ?_;walk_at"t";show Ζ (λh=>?_) (λh=>?_)
  .show o _ (ex _ rfl) (decide_eq_true h)
  .lk;show ϡ (η.of a) n ?_;let v:=s _ (ex _ rfl) (decide_eq_false h);obtain rfl|⟨f,_⟩|⟨_,z,rfl,_⟩:=u
   .lk;show v _ rfl
   .show absurd f (by fin2)
   .lk;show ϡ (η.of a) n ?_;lk;show v _ rfl
 show Ε ?_;f_len;show ω ?_;lk;let e:k=0:=by
  have:¬k=1:=λe=>h1 (by rw[e];rfl)
  have:¬k=2:=λe=>h2 (by rw[e];rfl)
  have:¬k=3:=λe=>g (by rw[e];rfl)
  omega
 subst e;show fin _ rfl
inductive V3 (vs:List V) (H:Hp) (Q:VK) (E:XK):Prop
 |mk (b:δ) (u v:V) (os:List Ord) (r q:Row):vs=[.ref b,u,v]->bu H b os->aB ι os->cC H u r->cC H v q->ό ι r->ό ι q->(∀H',ζ H H'->Q (.bl (aW ι os r q)) H')->V3 vs H Q E
theorem Cd(T:Txt K mg):Def P w K mg base true 1 "_law_ahead" ["_law_order_here","_law_one","_law_other"] V3:=by
 show Γ (S:=Wa) T.Cd (λ_ _ A _ s H vs Q E hr h=>?_);intro X _;let#[b,u,v,os,r,q,rfl,#[ws,hb,B],W,#[t1,Y,rfl,C,Z],#[t2,l2,rfl,aO,ab],D,qC,g]:=h;let nd:=Wa.nd;let hsz:=ϱ;let hwl:=B.len;let kr:=b7 D W;let kq:=b7 qC W;let#[x1,x2,x3]:=kr.aH kq;let hlr:=D.len;let hlq:=qC.len;w_up;show wG (by walk_at"po") (by rfl) (by intro _;rfl) ?_;lk;show#[b,ws,rfl,η.of hb,λi σ H'=>(∃o1 o2 o3 o4 o5 o6,σ=[some (.ref b),some (.ref t1),some (.ref t2),o1,o2,o3,o4,o5,o6])/\ζ H H'/\∀j x y,j<i->(ao ι os r.2)[j]?=some x->(ao ι os q.2)[j]?=some y->x=y,#[#[none,none,none,none,none,none,rfl],ζ.refl _,λj x y h=>()],λi σ H' _ G=>η.of (G.2.1 _ _ hb),λi wv σ H' hx G=>?_,λσ H' G=>?_]
 .let#[#[o1,o2,o3,o4,o5,o6,rfl],sm,a]:=G;let#[o,M,tt,rfl,ac]:=B.get hx;let I:=W o (aaq M);let hpl:=qd I;let ex:r.2[Υ ι o.1]?=some (aR ι r.2 o.1):=by
   unfold aR;rw[aab ()];rfl
  let ey:q.2[Υ ι o.1]?=some (aR ι q.2 o.1):=by
   unfold aR;rw[aab ()];rfl
  let O:(ao ι os r.2)[i]?=some (aR ι r.2 o.1):=by
   unfold ao;rw[abh,M];rfl
  let R:(ao ι os q.2)[i]?=some (aR ι q.2 o.1):=by
   unfold ao;rw[abh,M];rfl
  let#[sx,J,f]:=x3 i _ _ O R;let zO:=λU=>Jx (n:=r.1) (k:=q.1) x1 x2 M O R a U
  generalize aR ι r.2 o.1=x at ex O sx f zO;generalize aR ι q.2 o.1=y at ey R J f zO;show aj (ρ.of (sm _ _ ac)) (Θ (Β nd (by rfl) (.inl rfl) (.inl rfl) (Θ (Β nd (by rfl) (.inl rfl) (.inl rfl) (az ?_)))));w_up;f_tup;show dF F.plainAttrs_list F.slot_list_index F.type_list_index (h:=?_);lk;show#[Δ,λp hp=>?_];let s1:ζ H' (upd H' p (.lst ((ι.map Prod.fst).map V.str))):=ζ.upd hp;let e1:(upd H' p (.lst ((ι.map Prod.fst).map V.str))) p=some (.lst ((ι.map Prod.fst).map V.str)):=υ;show#[.inl #[rfl,_,η.of υ],?_];change EA _ _ _ (upd H' p (.lst ((ι.map Prod.fst).map V.str))) _;generalize upd H' p (.lst ((ι.map Prod.fst).map V.str))=H1 at s1 e1⊢;let l :=sm.trans s1;lk;show aaZ (η.of e1) (agU I) (λm y h e=>aeH h e) ?_;k_go;show Χ (ρ.of (l _ _ C)) (show Ω [V.int r.1,V.ref Y] 1=some (V.ref Y)from rfl) ?_;lk;show ϡ (η.of (l _ _ Z)) (aY ex) ?_;k_go;show Χ (ρ.of (l _ _ aO)) (show Ω [V.int q.1,V.ref l2] 1=some (V.ref l2)from rfl) ?_;lk;show ϡ (η.of (l _ _ ab)) (aY ey) ?_;f_len;show Κ ?_;lk;show GD (vG sx J) ?_;lk;show iu (λh=>?_) (λh=>?_)
  .let U:¬x=y:=by simpa using h
   let fin:∀(c:Bool),c=before x y->Q (.bl (decide (V.bl c=V.bl o.2))) H1:=λc ec=>by
    rw[show decide (V.bl c=V.bl o.2)=aW ι os r q by
     show _=aa os (ao ι os r.2) (ao ι os q.2) r.1 q.1;rw[zO U,ec]
     congr 1
     show propext #[λz=>by injection z,λz=>by rw[z]]]
    show g H1 l
   cases x with
   |non=>
    cases y with
    |non=>show absurd rfl U
    |int j=>
     cbv;show fin _ rfl
    |str z=>
     cbv;show fin _ rfl
    |_=>show absurd J aaA
   |int i1=>
    cases y with
    |non=>
     cbv;show fin _ rfl
    |int j=>
     cbv;show fin _ rfl
    |str z=>obtain z|z|⟨_,_,_,z⟩|⟨_,_,z,_⟩:=f<;>cases z
    |_=>show absurd J aaA
   |str z1=>
    cases y with
    |non=>
     cbv;show fin _ rfl
    |int j=>obtain z|z|⟨_,_,z,_⟩|⟨_,_,_,z⟩:=f<;>cases z
    |str z=>
     cbv;show fin _ rfl
    |_=>show absurd J aaA
   |_=>show absurd sx aaA
  .let he:x=y:=by simpa using h
   show Ε #[#[_,_,_,_,_,_,rfl],l,λj x' y' hj e1 L=>?_];by_cases e:j=i
   .subst e;rw[O]at e1;rw[R]at L;cases e1;cases L;show he
   .show a j x' y' () e1 L
 .let#[#[o1,o2,o3,o4,o5,o6,rfl],sm,a]:=G;f_len;show ω ?_;lk;show Χ (ρ.of (sm _ _ C)) (show Ω [V.int r.1,V.ref Y] 0=some (V.int r.1)from rfl) ?_;lk;show Χ (ρ.of (sm _ _ aO)) (show Ω [V.int q.1,V.ref l2] 0=some (V.int q.1)from rfl) ?_;lk;rw[<-O1 (n:=r.1) (k:=q.1) x1 x2 λj x y hj e1 L=>a j x y () e1 L];show g _ sm
def jT:List V:=[.non,.str ("":Str),.str ("a":Str),.str ("ab":Str),.str ("b":Str),.str ("ba":Str)]
theorem akd:∀v∈jT,ϑ ("text":Str) v:=by
 let tx:∀z:Str,z.length<=20/\(∀c∈z.cps.toList,c∈SG)->ϑ ("text":Str) (.str z):=λz h=>.inr (.inr #[by fin2,z,rfl,h.1,h.2])
 intro v a;simp only[jT,aaG,afT,or_false]at a;obtain rfl|rfl|rfl|rfl|rfl|rfl:=a
 .show .inl rfl
 all_goals show tx _ (by fin2)
inductive Ur (K:ϩ) (vs:List V) (H:Hp) (Q:VK) (E:XK):Prop
 |mk (a:δ) (ns:List Int) (k:Int):vs=[.ref a,.int k]->η K H a (ns.map V.int)->ns.length<=63->0<=k->k<=40000->(∀p xs H',ζ H H'->H p=none->H' p=some (.lst xs)->ς (λ(c:ξ) x=>ϑ c.2 x) ι xs->Q (.ref p) H')->Ur K vs H Q E
theorem Fw(T:Txt K mg):Def P w K mg base true 2 "_law_values" ["_law_script","_law_base"] (Ur K):=by
 show Γ (S:=XF) T.Fw (λ_ _ A _ s H vs Q E C h=>?_);intro X _;let#[a,ns,k,rfl,g,i,u,z,q]:=h;let nd:=XF.nd;let hsz:=ϱ;let D:= @jV P w K mg base T;let tail:∀x:V,ϑ ("number":Str) x->Ρ X ((aA HY).drop 2) {nx:=λ_ H'=>Q .non H',rt:=Q} [some (.ref a),some (.int k),some x] H:=by
  intro x B;f_len;show ω ?_;lk;show#[Δ,λp1 f=>?_];let#[c,e1]:=ϋ f (.lst jT);change EV _ _ _ (upd H p1 (.lst jT)) _;generalize upd H p1 (.lst jT)=H1 at c e1⊢;lk;show#[a,ns,k+1,6,rfl,c.seq g,i,(),(),by decide,?_];let e:=gG ns (k+1) (m:=6) (by decide);let c1:=gB ns (k+1) (m:=6) (by decide);generalize bF ns (k+1) 6=d at e c1⊢;let#[j,rfl]:=adi e;let l:j<jT.length:=by show j<6;omega
  show ϡ (η.of e1) (v:=jT[j]) (aY (aab l)) ?_;let n:=akd _ (ahZ l);generalize jT[j]=y at n⊢;lk;show#[Δ,λp o=>?_];show q p _ _ (c.trans (ζ.upd o)) (c.free o) υ (.cons B (.cons n .nil))
 k_go;show#[a,ns,k,6,rfl,g,i,(),(),by decide,?_];let e:=gG ns k (m:=6) (by decide);let c1:=gB ns k (m:=6) (by decide);generalize bF ns k 6=d at e c1⊢;lk;w_up;show Κ ?_;lk;show Ζ (λh=>?_) (λh=>?_)
 .f_len;f_tup;lk;show tail .non (.inl rfl)
 .show Ε (tail _ (.inr (.inl #[rfl,_,rfl,(),()])))
abbrev fQ:=Int×List V×Bool
def jN(H:Hp)(v:V)(r:fQ):=∃t l,v=.ref t/\H t=some (.tup [.int r.1,.ref l,.bl r.2.2])/\H l=some (.lst r.2.1)
theorem jN.same{H H':Hp}{v:V}{r:fQ}(h:jN H v r)(s:ζ H H'):jN H' v r:=by
 let#[t,l,e,a,c]:=h;show#[t,l,e,s _ _ a,s _ _ c]
structure pB where
 rows:List fQ
 back:V
 bj:V
 many:Int
 ahead:Int
 moment:Int
def fO(r:fQ):anq:=.tuple [.int r.1,.list (r.2.1.map dV),.bool r.2.2]
def Yy(x:V):Prop:=j5 x=true/\∀z,x=.str z->gA 4000 z
def layR(rs:List fQ):=∀r∈rs,∀x∈r.2.1,Yy x
theorem RG:∀{rs:List fQ},layR rs->PyData.canLayAll0 (rs.map fO)=true
 |[],_=>rfl
 |r::rs,h=>by
  let a:=RG (rs:=rs) λd hd=>h d (by simp[hd])
  let h1:(PyData.list (r.2.1.map dV)).canLay0=true:=Cq λx c=>h r (by simp) x c
  show((fO r).canLay0&&PyData.canLayAll0 (rs.map fO))=true;rw[a,Bool.and_true];show(true&&((PyData.list (r.2.1.map dV)).canLay0&&(true&&true)))=true;rw[h1];rfl
theorem ai5(r:fQ):(fO r).depth<=4:=by
 have:=BR r.2.1;simp only[fO,PyData.depth,PyData.depthAll];omega
theorem Qz:∀rs:List fQ,PyData.depthAll (rs.map fO)<=4
 |[]=>by show(0:Nat)<=4;omega
 |r::rs=>by
  let a:=Qz rs;let h1:=ai5 r;show max (fO r).depth (PyData.depthAll (rs.map fO))<=4;omega
theorem RL{H:Hp}{vs:List V}{rs:List fQ}(h:ς (jN H) vs rs)(g:layR rs):di K H vs (rs.map fO):=by
 induction h with
 |nil=>show .nil
 |cons r t a=>
  let#[p,l,rfl,h1,h2]:=r;show .cons (.tup (ρ.of h1) (.cons (.int _) (.cons (.lst (η.of h2) (wz ?_)) (.cons (.bl _) .nil)))) (a λr c=>g r (by simp[c]));show acN.mpr λx e=>(g _ (by simp) x e).1
abbrev sT(cs:List ξ)(t:Tr):Str:=ae5 " " (wT (Λ cs) t)
def cN(lv:Bool)(mo:Nat)(os:List Ord)(z:Str):Option Ct->V
 |some (.at_ sd xs n)=>.str (fZ #[lv,mo,os,z,#[sd,n.toNat,xs]])
 |_=>.non
def ie(cs:List ξ)(os:List Ord)(c:Ct):=∃sd xs n,c=.at_ sd xs n/\cQ cs os xs/\0<=n/\n<=1000000000
structure wu(cs:List ξ)(os:List Ord)(t:Tr)(mo:Nat):Prop where
 ok:ώ cs=true
 o4:os.length<=4
 inc:aB cs os
 jh:(os.map Prod.fst).Nodup
 gt:gZ cs t
 dp:t.dep<=20
 Sq:(wT (Λ cs) t).length<=60
 mo:mo<=5000
theorem wu.good{cs:List ξ}{os:List Ord}{t:Tr}{mo:Nat}(h:wu cs os t mo){lv sd:Bool}{xs:List V}{n:Int}(a:cQ cs os xs)(h1:n<=1000000000):bC cs #[lv,mo,os,sT cs t,#[sd,n.toNat,xs]]:=by
 let#[f,g,i,j]:=qZ.good h.ok (z:=sT cs t) (n:=60) (d:=20) #[t,h.gt,h.dp,rfl,h.Sq] (by decide) (by decide);show#[h.mo,h.o4,λo l=>by let#[c,m,e]:=h.inc o l;show ada.mpr #[c,m,e],h.jh,by show n.toNat<=_;omega,a,f,g,i,j]
def fY:Bool->List ξ->List Ord->List Row->Ct->Nat->Lf
 |true=>T7
 |false=>Ls
def qH(cs:List ξ)(os:List Ord)(on:Bool)(c:Ct):Prop:=(on=true/\c=.start)\/(on=false/\c=.fin)\/ie cs os c
theorem qH.ok{cs:List ξ}{os:List Ord}{on:Bool}{c:Ct}(h:qH cs os on c):kO cs os c:=by
 obtain⟨_,rfl⟩|⟨_,rfl⟩|⟨sd,xs,n,rfl,a,_⟩:=h
 .trivial
 .trivial
 .show a
theorem Ux{cs:List ξ}{os:List Ord}{sd:Bool}{rs:List Row}{c:Ct}(e:aB cs os)(f:∀r∈rs,ό cs r)(a:∀r∈rs,0<=r.1/\r.1<=1000000000)(g:rs=[]->ie cs os c):ie cs os (fW cs os sd rs c):=by
 cases rs with
 |nil=>show g rfl
 |cons r rs=>show#[sd,_,_,rfl,b7 (f r (by simp)) e,(a r (by simp)).1,(a r (by simp)).2]
theorem Aq{α:Type}(l:List α){i j:Nat}(h:j<=l.length):(Ξ l i j).length=j-i:=by
 unfold Ξ;rw[ahH,adH];omega
theorem Tq{cs:List ξ}{os:List Ord}{on:Bool}{c:Ct}{rs:List Row}{n:Nat}(h:jR cs os rs)(o:∀r∈rs,0<=r.1/\r.1<=1000000000)(n1:1<=n)(p:qH cs os on c):∀d,(fY on cs os rs c n).back=some d\/(fY on cs os rs c n).bj=some d->ie cs os d:=by
 let s:=yC (cs:=cs) (os:=os) (c:=c) (rs:=rs);let g:∀i j:Nat,i<=j->j<=rs.length->(i=j->(0<i\/j<rs.length)->ie cs os c)->∀d,(Ϣ cs os rs c i j).back=some d\/(Ϣ cs os rs c i j).bj=some d->ie cs os d:=by
  intro i j u v q d hd;let sub:∀r∈ Ξ rs i j,r∈rs:=λr f=>af0 (ahq f)
  let sl:=Aq rs (i:=i) v;obtain hd|hd:=hd
  .let a:(if 0<i then some (fW cs os true ((Ξ rs i j).take 1) c)else none)=some d:=hd;split at a
   .next hi=>
    cases a;show Ux h.inc (λr f=>h.fit r (sub r (ahq f))) (λr f=>o r (sub r (ahq f))) λe=>q ?_ (.inl hi)
    have:=congrArg aoO e;rw[ahH,sl,aoq]at this;omega
   .cases a
  .let a:(if j<rs.length then some (fW cs os false ((Ξ rs i j).drop ((Ξ rs i j).length-1)) c)else none)=some d:=hd;split at a
   .next hi=>
    cases a;show Ux h.inc (λr f=>h.fit r (sub r (af0 f))) (λr f=>o r (sub r (af0 f))) λe=>q ?_ (.inr hi)
    have:=congrArg aoO e;rw[adH,sl,aoq]at this;omega
   .cases a
 cases on with
 |true=>
  show g (ϥ cs os c rs) (min (ϥ cs os c rs+n) rs.length) () (aoh ..) λe l=>?_
  obtain⟨_,rfl⟩|⟨z,_⟩|z:=p
  .let m:ϥ cs os .start rs=0:=rfl;rw[m]at e l;omega
  .cases z
  .show z
 |false=>
  show g (ϥ cs os c rs-n) (ϥ cs os c rs) () s λe l=>?_
  obtain⟨z,_⟩|⟨_,rfl⟩|z:=p
  .cases z
  .let m:ϥ cs os .fin rs=rs.length:=rfl;rw[m]at e l;omega
  .show z
def gU(H H':Hp)(p:δ)(L:pB):=∃q vs,H' p=some (.tup [.ref q,L.back,L.bj,.int L.many,.int L.ahead,.int L.moment])/\H q=none/\H' q=some (.lst vs)/\ς (λv(r:fQ)=>∃t l,v=V.ref t/\H' t=some (.tup [.int r.1,.ref l,.bl r.2.2])/\H l=none/\H' l=some (.lst r.2.1)) vs L.rows
theorem gU.same{H H' H2:Hp}{p:δ}{L:pB}(h:gU H H' p L)(s:ζ H' H2):gU H H2 p L:=by
 let#[q,vs,h1,h2,a,c]:=h;show#[q,vs,s _ _ h1,h2,s _ _ a,c.imp λv r z=>by
  let#[t,l,e,f,g,i]:=z;show#[t,l,e,s _ _ f,g,s _ _ i]]
theorem gU.old{H0 H H':Hp}{p:δ}{L:pB}(h:gU H H' p L)(s:ζ H0 H):gU H0 H' p L:=by
 let#[q,vs,h1,h2,a,c]:=h;show#[q,vs,h1,s.free h2,a,c.imp λv r z=>by
  let#[t,l,e,f,g,i]:=z;show#[t,l,e,f,s.free g,i]]
def gW(H:Hp)(mk:δ)(lv:Bool)(mo:Nat)(os:List Ord)(z:Str)(c:Ct):=∃o v,H mk=some (.tup [.str (dZ lv),.int (mo:Nat),.ref o,.str z,v])/\bu H o os/\dC H v c
theorem gW.same{H H':Hp}{mk:δ}{lv:Bool}{mo:Nat}{os:List Ord}{z:Str}{c:Ct}(h:gW H mk lv mo os z c)(s:ζ H H'):gW H' mk lv mo os z c:=by
 let#[o,v,h1,h2,a]:=h;show#[o,v,s _ _ h1,h2.same s,a.same s]
inductive Yh (vs:List V) (H:Hp) (Q:VK) (E:XK):Prop
 |mk (mk:δ) (v:V) (lv:Bool) (cs:List ξ) (os:List Ord) (t:Tr) (mo:Nat) (c:Ct) (d:Option Ct):vs=[.ref mk,v]->gW H mk lv mo os (sT cs t) c->wu cs os t mo->dh H v d->(∀x,d=some x->ie cs os x)->(∀H',ζ H H'->Q (cN lv mo os (sT cs t) d) H')->Yh vs H Q E
theorem G3(T:Txt K mg):Def P w K mg base true 5 "mark_at" ["mark","cut"] Yh:=by
 show Γ (N:=["mark","cut"]) T.G3 (λ_ _ _ _ _ H vs Q E S h=>?_);intro X _;let#[mk,v,lv,cs,os,t,mo,c,d,rfl,#[o,u,e,G,U],s,y,hd,q]:=h;let hsz:=ϱ;let W:= @Gk P w K mg base T;f_len;show ω ?_;cases d with
 |none=>
  cases y;lk;show q H (ζ.refl _)
 |some x=>
  let#[sd,xs,n,rfl,I,J,n1]:=hd x rfl;let#[tc,k,rfl,f,L,g,i]:=y;lk;show aiZ (ρ.of e) (show ¬(_H.Α 5 0 none=0/\_H.Α 5 5 (some (-1))=5)by decide) λp M=>?_
  let#[B,e1]:=ϋ M (.tup [.str (dZ lv),.int (mo:Nat),.ref o,.str (sT cs t)]);change EV _ _ _ (upd H p (.tup [.str (dZ lv),.int (mo:Nat),.ref o,.str (sT cs t)])) _;generalize upd H p (.tup [.str (dZ lv),.int (mo:Nat),.ref o,.str (sT cs t)])=H1 at B e1⊢;lk;show#[Δ,λp2 j=>?_];let#[l,C]:=ϋ j (.tup [.ref tc]);generalize upd H1 p2 (.tup [.ref tc])=H2 at l C⊢;show bh Zc #[p,p2,_,_,rfl,rfl,ρ.of (l _ _ e1),ρ.of C,by simp,Δ,(λz=>by cases z),λ_ p3 m=>?_];let#[D,F]:=ϋ m (.tup [.str (dZ lv),.int (mo:Nat),.ref o,.str (sT cs t),.ref tc]);change EA _ _ _ (upd H2 p3 (.tup [.str (dZ lv),.int (mo:Nat),.ref o,.str (sT cs t),.ref tc])) _;generalize upd H2 p3 (.tup [.str (dZ lv),.int (mo:Nat),.ref o,.str (sT cs t),.ref tc])=Y at D F⊢;let a:=(B.trans l).trans D;lk;show#[p3,#[lv,mo,os,sT cs t,#[sd,n.toNat,xs]],cs,rfl,#[o,tc,F,G.same a,k,L,a _ _ f,?_,a _ _ i],s.ok,s.good I n1,λO R=>q O (a.trans R)];rw[show(((#[sd,n.toNat,xs]:Cut).row:Nat):Int)=n from aov J];show a _ _ g
abbrev jO:Str:=Ϫ "still"
def bD(B:Bk)(mo:Nat):List Row:=eN B.rows (B.done.drop ((mo:Int)-B.known).toNat)
structure sV(mg:Str->Option ε)(H:Hp)(A:BA)(B:Bk)(mo:Nat):Prop where
 bk:Ν (cB mg) H A B
 mm:qi B
 r1:B.rows.length<1000
 d1:B.done.length<10000
 le:(mo:Int)<=B.now
 un:B.known<=mo->iV B.rows (B.done.drop ((mo:Int)-B.known).toNat)/\(bD B mo).length<64/\((bD B mo).map Prod.fst).Nodup/\∀r∈bD B mo,ό B.heads r/\0<=r.1/\r.1<=1000000000
theorem sV.same{H H':Hp}{A:BA}{B:Bk}{mo:Nat}(h:sV mg H A B mo)(s:ζ H H'):sV mg H' A B mo:=#[h.bk.same s,h.mm,h.r1,h.d1,h.le,h.un]
def mX(mg:Str->Option ε)(B:Bk)(mo:Nat)(H:Hp)(E:XK):Prop:=(mo:Int)<B.known->∀e H',ζ H H'->H' e=some (.xd [("known",.int B.known)])->E (.ref (θ mg "Gone")) (some e,true) H'
theorem mX.same{B:Bk}{mo:Nat}{H H':Hp}{E:XK}(h:mX mg B mo H E)(s:ζ H H'):mX mg B mo H' E:=λa e H2 c g=>h a e H2 (s.trans c) g
inductive Pz (K:ϩ) (mg:Str->Option ε) (t:Tr) (vs:List V) (H:Hp) (Q:VK) (E:XK):Prop
 |mk (A:BA) (B:Bk) (mo:Nat) (a:δ) (z:Str):vs=[.ref A.b,.str jO,.int (mo:Nat),.ref a]->sV mg H A B mo->bY mg H t a z->gZ B.heads t->mX mg B mo H E->(B.known<=mo->∀q ws rs H',ζ H H'->H q=none->H' q=some (.lst ws)->ς (cC H') ws rs->rs.Perm ((bD B mo).filter λr=>Ϙ r.2 t)->Q (.ref q) H')->Pz K mg t vs H Q E
theorem Gn(T:Txt K mg)(t:Tr):Def P w K mg base true (5+t.dep) "rows_of_list" ["book","make","begin","sieve"] (Pz K mg t):=by
 rw[show 5+t.dep=(4+t.dep)+1 by omega];show Γ (S:=JV) T.Gn (λf W Y outer s H vs Q E n h=>?_);intro X _;let#[A,B,mo,a,z,rfl,c,G,o,I,q]:=h;let nd:=JV.nd;let Z:=T.Du;let M1:Ϟ P w K mg base true 4 (cB mg) "rows_at" ["self","moment"] (u6 mg):=(Yx T).meth T.Ϝ T.adJ;let D1:= @Et P w K mg base T t;k_go;show Ζ (λh=>?_) (λ_=>?_)
 .injection h with h
  show absurd h (by fin2)
 show bZ (pl:=_) n ύ (h:=?_);f_are;show#[A.b,cB mg,A.dx,_,true,4,_,u6 mg,rfl,c.bk.ins,by rfl,M1,(),id,?_];lk;show#[A,B,(mo:Nat),rfl,c.bk,c.mm,c.r1,c.d1,I,(λh=>absurd h (by have:=c.le;omega)),λg _=>#[(c.un g).1,(c.un g).2.1,λp1 ys ks H1 p J v L M x=>?_]];let#[_,R7,y,j]:=c.un g;let i:=yZ (rows:=bD B mo) y v;let D:dR H1 p1 (aJ (bD B mo) ks):=#[ys,M,x.imp λu r z=>by
  let#[t,l,e,h1,h2,_]:=z;show#[t,l,e,h1,h2]]
 generalize aJ (bD B mo) ks=rs at i D;let O:=i.length_eq;f_len;show ω ?_;lk;show#[a,p1,z,rs,rfl,G.same p,D,(),λr n=>xY (j r (i.mem_iff.mp n)).1 o,λp2 R H2 F C m U=>?_];show q g p2 R _ H2 (p.trans F) (p.free C) m (U.imp λu r z=>z.row F) (i.filter _)
inductive KJ (vs:List V) (H:Hp) (Q:VK) (E:XK):Prop
 |mk (x y z:V):vs=[x,.str jO,y,z]->Q (.bl true) H->KJ vs H Q E
theorem z9(T:Txt K mg):Def P w K mg base true 1 "is_untouched" ["book","make","begin","row"] KJ:=by
 show Γ (N:=["book","make","begin","row"]) T.z9 (λ_ _ _ _ _ H vs Q E a h=>?_);intro X _;let#[x,y,z,rfl,q]:=h;let c:=T.Tf;f_len;show ω ?_;lk;show Ζ (λ_=>q) (λh=>absurd rfl h)
def qO(mo:Nat)(os:List Ord)(z:Str)(many:Nat)(L:Lf):pB:=#[L.rows.map λr=>(r.1,r.2,true),cN false mo os z L.back,cN false mo os z L.bj,many,L.start,mo]
structure iR(K:ϩ)(mg:Str->Option ε)(H:Hp)(A:BA)(B:Bk)(os:List Ord)(t:Tr)(mo n:Nat):Prop where
 bk:sV mg H A B mo
 li:wu B.heads os t mo
 n1:1<=n
 n2:n<=100
 tb:H (bx K "sorted_by")=some (.tbl gR)
theorem iR.same{H H':Hp}{A:BA}{B:Bk}{os:List Ord}{t:Tr}{mo n:Nat}(h:iR K mg H A B os t mo n)(s:ζ H H'):iR K mg H' A B os t mo n:=#[h.bk.same s,h.li,h.n1,h.n2,s _ _ h.tb]
def pP(B:Bk)(os:List Ord)(t:Tr)(mo n:Nat)(on:Bool)(c:Ct)(H:Hp)(Q:VK):Prop:=B.known<=mo->∀p ls H',ζ H H'->Line B.heads os ls->ls.Perm ((bD B mo).filter λr=>Ϙ r.2 t)->gU H H' p (qO mo os (sT B.heads t) ls.length (fY on B.heads os ls c n))->Q (.ref p) H'
theorem pP.same{B:Bk}{os:List Ord}{t:Tr}{mo n:Nat}{on:Bool}{c:Ct}{H H':Hp}{Q:VK}(h:pP B os t mo n on c H Q)(s:ζ H H'):pP B os t mo n on c H' Q:=λa p ls H2 e h1 h2 f=>h a p ls H2 (s.trans e) h1 h2 (f.old s)
inductive pU (K:ϩ) (mg:Str->Option ε) (t:Tr) (on:Bool) (vs:List V) (H:Hp) (Q:VK) (E:XK):Prop
 |mk (A:BA) (B:Bk) (mk:δ) (os:List Ord) (mo n:Nat) (c:Ct):vs=[.ref A.b,.ref mk,.int (n:Nat),.bl on]->iR K mg H A B os t mo n->gW H mk false mo os (sT B.heads t) c->qH B.heads os on c->mX mg B mo H E->pP B os t mo n on c H Q->pU K mg t on vs H Q E
theorem pI(T:Txt K mg)(hN:cX K mg base "sorted_by")(t:Tr)(on:Bool):Def P w K mg base true (10+2*t.dep) "leaf_from" ["book","mark","size","onward"] (pU K mg t on):=by
 rw[show 10+2*t.dep=(9+2*t.dep)+1 by omega];show Γ (S:=XH) T.pI (λf Ϻ A' outer s H vs Q E i h=>?_);intro X _;let#[A,B,mk,os,mo,n,ct,rfl,a,#[o,v,ab,hO,O],Ez,hE,q]:=h;let nd:=XH.nd;let n1:=T.bN;let g1:=T.Du;let hsz:=ϱ;let R:=a.li.gt;let hok:=a.li.ok;let ϻ:=a.li.inc;let mK:=a.li.o4;let#[c1,c6]:=ajO hok;let M6:(["row","values","book","make","begin"]:List Str).Nodup:=by fin2
 let D1:= @VD P w K mg base T t;let D2:= @Gn P w K mg base T t;let D3:Def P w K mg base true 8 "line_of" ["columns","order","rows"] (Cw K):=Hy T hN;let D4:= @Ei P w K mg base T;let D5:= @HQ P w K mg base T;let D6:= @z9 P w K mg base T;let D7:= @G3 P w K mg base T;let M3:Ϟ P w K mg base true 1 (cB mg) "columns" ["self"] (kW mg):=(Dz T).meth T.Ϝ T.Gg;let hw:=oK hok R;let lW:ϊ 32 (sT B.heads t)=wT (Λ B.heads) t:=xG (Rh (Λ B.heads) t) λz hz=>(hw z hz).2.1
 let amP:=a.li.Sq;let ux:(sT B.heads t).length<=3000:=by
  let h1:=nj (wT (Λ B.heads) t) 21 λp hp=>(hw p hp).1
  let h2:=jL (wT (Λ B.heads) t);show(ae5 " " (wT (Λ B.heads) t)).length<=3000;omega
 let ai:Reads B.heads (wT (Λ B.heads) t) t 0 (wT (Λ B.heads) t).length:=by
  have:=rW hok (ws:=wT (Λ B.heads) t) (t:=t) (s:=0) #[[],by simp] () R;rw[anS]at this;show this
 w_up;show d9 ?_;lk;show aj (ρ.of ab) (Θ (Β nd (by rfl) (by first|show Or.inl rfl|show Or.inr rfl) (by first|show Or.inl rfl|show Or.inr rfl) (Θ (Β nd (by rfl) (by first|show Or.inl rfl|show Or.inr rfl) (by first|show Or.inl rfl|show Or.inr rfl) (Θ (Β nd (by rfl) (.inl rfl) (.inl rfl) (Θ (Β nd (by rfl) (.inl rfl) (.inl rfl) (Θ (Β nd (by rfl) (.inl rfl) (.inl rfl) (az ?_)))))))))));w_up;f_tup;show fL (pl:=_) i ύ ?_;f_are;show⟨A.b,cB mg,A.dx,_,true,1,_,kW mg,rfl,a.bk.bk.ins,by rfl,M3,(),id,A,B,rfl,a.bk.bk,λc H1 s1 hc0 hC=>?_⟩;k_go;show#[c,B.heads,_,rfl,hC,ux,by rw[lW];show λy J=>by have:=(hw y J).1;omega,a.li.dp,by rw[lW];show ai,λsv H2 s2 hv=>?_];generalize bW (ϊ 32 (sT B.heads t)) 0 (ϊ 32 (sT B.heads t)).length=zz at hv;let aU:=s1.trans s2;lk;show#[A,B,mo,sv,zz,rfl,a.bk.same aU,hv,R,hE.same aU,λac p2 HJ rs H3 s3 hp2 ae Zd F=>?_];let#[_,R7,am,Be]:=a.bk.un ac;let c7:=aU.trans s3;let ar:((bD B mo).filter λr=>Ϙ r.2 t).length<=(bD B mo).length:=aib ..;let av:rs.length<64:=afN (aes (amJ F.length_eq) ar) R7;let M:∀r∈rs,r∈bD B mo:=λr i=>(ajV.mp (F.mem_iff.mp i)).1
 let aw:(rs.map Prod.fst).Nodup:=(F.map Prod.fst).nodup_iff.mpr (am.sublist (List.Sublist.map _ aou));lk;show#[c,o,p2,B.heads,os,rs,rfl,hC.same (s2.trans s3),hO.same c7,#[HJ,ae,Zd],c6,(),ϻ,av,λr i=>(Be r (M r i)).1,aw,c7 _ _ a.tb,λln lw ls H4 s4 ig RT Q7 hL bV=>?_];let Y:=c7.trans s4;let lU:=Q7.len;let ax:=bV.trans F;let hll:ls.length=rs.length:=bV.length_eq;let m:∀r∈ls,r∈bD B mo:=λr i=>M r (bV.mem_iff.mp i)
 let Bb:jR B.heads os ls:=#[#[c1,c6],mK,ϻ,λr i=>(Be r (m r i)).1,hL,()];let af:∀r∈ls,0<=r.1/\r.1<=1000000000:=λr i=>(Be r (m r i)).2
 let W4:dR H4 ln ls:=#[lw,RT,Q7.imp λu r z=>by
  let#[t,l,e,_,_,_,h1,h2]:=z;show#[t,l,e,h1,h2]]
 let Ed:=Tq Bb af a.n1 Ez
 let rest:∀(D:δ)(us:List V)(x y:V)(H5:Hp),ζ H4 H5->H4 D=none->H5 D=some (.lst us)->ς (iQ D H4 H5) us (fY on B.heads os ls ct n).rows->dh H5 x (fY on B.heads os ls ct n).back->dh H5 y (fY on B.heads os ls ct n).bj->
   Ρ X ((aA xO).drop 4) {nx:=λ_ H'=>Q .non H',rt:=Q} [some (.ref A.b),some (.ref mk),some (.int (n:Nat)),some (.bl on),some (.str jO),some (.int (mo:Nat)),some (.ref o),some (.str (sT B.heads t)),some v,some (.ref c),some (.ref ln),some (.ref D),some x,some y,some (.int ((fY on B.heads os ls ct n).start:Nat)),none,none] H5:=by
  intro D us x y H5 Z G hq g hx J;generalize ag:fY on B.heads os ls ct n=L at g hx J Ed⊢;let nR:=g.len;let gh:=Y.trans Z;let hLr:L.rows.length<=1000:=by
   have:=g.len;rw[<-ag];cases on
   .show(Ξ ls _ _).length<=1000;unfold Ξ;rw[ahH,adH];omega
   .show(Ξ ls _ _).length<=1000;unfold Ξ;rw[ahH,adH];omega
  w_up;show uB ["row","values","book","make","begin"] (σ':=[none,none,some (.ref A.b),some (.str jO),some (.int (mo:Nat))]) (cz (ψ xO)) nd ?_;lk;show#[D,us,rfl,η.of hq,(),λτ=>∃o1 o2,τ=[o1,o2,some (.ref A.b),some (.str jO),some (.int (mo:Nat))],λE2 j u H'=>u≠.ref E2/\∃r t l,L.rows[j]?=some r/\u=.ref t/\H' t=some (.tup [.int r.1,.ref l,.bl true])/\H4 l=none/\H5 l=some (.lst r.2),#[none,none,rfl],λE2 j u H8 H9 ys hE hk p=>?_,λfp E2 C s9 H8 j τ x H6 H7 aP hi ay Bj U hG=>?_,λq1 H6 Vr aC hl6 aD e6 s6=>?_]
  .let#[h0,r,t,l,i,e,h1,h2,h3]:=p;show#[h0,r,t,l,i,e,hk _ _ (λz=>h0 (by rw[e,z])) h1,h2,h3]
  .let#[o1,o2,rfl]:=ay;let#[bB,rfl]:=hG;let#[r,I,tr,lr,rfl,alf,aE,_,aI,aS]:=g.get bB;let#[ys,U]:=U;show aj (ρ.of (Bj _ _ aI)) (Θ (Β M6 (by rfl) (.inl rfl) (.inr rfl) (Θ (Β M6 (by rfl) (.inl rfl) (.inr rfl) (az ?_)))));lk;show#[_,_,_,rfl,?_];lk;show#[Δ,λt2 aO=>?_];show#[#[_,_,rfl],#[λz=>?_,r,t2,lr,I,rfl,υ,aE,aS],ζ.upd aO];injection z with z
   rw[z,U]at aO;cases aO
  let tD:=gh.trans s6;k_go;show Ζ (λh=>?_) (λ_=>?_)
  .injection h with h
   show absurd h (by fin2)
  lk;let ah:gW H6 mk false mo os (sT B.heads t) ct:=gW.same #[o,v,ab,hO,O] tD;let aT:η K H6 ln lw:=(Z.trans s6).seq (η.of RT);f_len;show ω ?_;lk;show#[mk,x,false,B.heads,os,t,mo,ct,L.back,rfl,ah,a.li,hx.same s6,λd e=>Ed d (.inl e),λH7 W=>?_];lk;show#[mk,y,false,B.heads,os,t,mo,ct,L.bj,rfl,ah.same W,a.li,J.same (s6.trans W),λd e=>Ed d (.inr e),λH8 s8=>?_];let sq8:η K H8 ln lw:=(W.trans s8).seq aT;lk;show#[Δ,λp9 a0=>?_];let s9:=ζ.upd (o:=.tup [.ref q1,cN false mo os (sT B.heads t) L.back,cN false mo os (sT B.heads t) L.bj,.int (lw.length:Nat),.int (L.start:Nat),.int (mo:Nat)]) a0;show q ac p9 ls _ (((tD.trans W).trans s8).trans s9) hL ax ?_;rw[ag];show#[q1,Vr,by rw[υ,lU];rfl,gh.free aC,((W.trans s8).trans s9) _ _ e6,mQ (by show(L.rows.map _).length=_;rw[aaz];omega) λj r' a1=>?_];let Qq:(L.rows.map λr=>(r.1,r.2,true))[j]?=some r':=a1;rw[abh]at Qq;let#[r,i,rfl]:=agJ.mp Qq;let hj:j<Vr.length:=by have:=(aap.mp i).1;omega
  let#[_,r2,t2,l2,I,e,h1,h2,h3]:=aD j _ (aab hj);rw[i]at I;cases I;show#[_,aab hj,t2,l2,e,((W.trans s8).trans s9) _ _ h1,Y.free h2,((s6.trans W).trans (s8.trans s9)) _ _ h3]
 w_up;show Κ ?_;lk;cases on with
 |true=>
  lk;f_len;show d9 ?_;lk;show#[c,o,ln,v,B.heads,os,ls,ct,n,rfl,hC.same ((s2.trans s3).trans s4),hO.same Y,W4,O.same Y,Bb,Ez.ok,a.n1,a.n2,λt4 D us x y H5 Z G Gq hq g hx J=>?_];show aj (ρ.of Gq) (Θ (Β nd (by rfl) (.inl rfl) (.inl rfl) (Θ (Β nd (by rfl) (.inl rfl) (.inl rfl) (Θ (Β nd (by rfl) (.inl rfl) (.inl rfl) (Θ (Β nd (by rfl) (.inl rfl) (.inl rfl) (az ?_)))))))));show rest D us x y H5 Z G hq g hx J
 |false=>
  lk;f_len;show d9 ?_;lk;show#[c,o,ln,v,B.heads,os,ls,ct,n,rfl,hC.same ((s2.trans s3).trans s4),hO.same Y,W4,O.same Y,Bb,Ez.ok,a.n1,a.n2,λt4 D us x y H5 Z G Gq hq g hx J=>?_];show aj (ρ.of Gq) (Θ (Β nd (by rfl) (.inl rfl) (.inl rfl) (Θ (Β nd (by rfl) (.inl rfl) (.inl rfl) (Θ (Β nd (by rfl) (.inl rfl) (.inl rfl) (Θ (Β nd (by rfl) (.inl rfl) (.inl rfl) (az ?_)))))))));show rest D us x y H5 Z G hq g hx J
inductive T6 (mg:Str->Option ε) (vs:List V) (H:Hp) (Q:VK) (E:XK):Prop
 |mk (A:BA) (B:Bk) (zo z:Str) (v:V) (os:List Ord) (c:Ct) (mo:Nat):vs=[.ref A.b,.str jO,.str zo,.str z,v]->Ν (cB mg) H A B->B.now=(mo:Nat)->zo.length<=4000->fB B.heads zo=some os->dC H v c->(∀p H',ζ H H'->gW H' p false mo os z c->Q (.ref p) H')->T6 mg vs H Q E
theorem xV(T:Txt K mg):Def P w K mg base true 4 "begin_of" ["book","make","order","sieve","cut"] (T6 mg):=by
 show Γ (N:=["book","make","order","sieve","cut"]) T.xV (λf M O outer s H vs Q E l h=>?_);intro X _;let#[A,B,x,z,v,os,ct,mo,rfl,a,g,y,m,i,q]:=h;let hsz:=ϱ;let R:= @vY P w K mg base T;let M2:Ϟ P w K mg base true 1 (cB mg) "moment" ["self"] (cY mg Bk.now):=(vQ T).meth T.Ϝ T.yO;let C:Ϟ P w K mg base true 1 (cB mg) "columns" ["self"] (kW mg):=(Dz T).meth T.Ϝ T.Gg;f_len;show ω ?_;lk;show fL (pl:=_) l ύ ?_;f_are;show#[A.b,cB mg,A.dx,_,true,1,_,cY mg Bk.now,rfl,a.ins,by rfl,M2,by decide,id,A,B,rfl,a,?_];lk;show fL (pl:=_) l ύ ?_;f_are;show#[A.b,cB mg,A.dx,_,true,1,_,kW mg,rfl,a.ins,by rfl,C,by decide,id,A,B,rfl,a,λc H1 n D F=>?_];lk;show#[c,B.heads,x,rfl,F,y,(λH' _ e=>by rw[m]at e;cases e),λb G H2 u e I J=>?_];rw[m]at e;cases e;lk;show#[Δ,λp L=>?_];let j:=ζ.upd (o:=.tup [.str jO,.int B.now,.ref b,.str z,v]) L;show q p _ ((n.trans u).trans j) #[b,v,by rw[υ,g];rfl,J.same j,i.same ((n.trans u).trans j)]
def oO(on:Bool):Ct:=if on=true then .start else .fin
inductive ph (K:ϩ) (mg:Str->Option ε) (t:Tr) (on:Bool) (vs:List V) (H:Hp) (Q:VK) (E:XK):Prop
 |mk (A:BA) (B:Bk) (os:List Ord) (zo:Str) (mo n:Nat):vs=[.ref A.b,.str jO,.str zo,.str (sT B.heads t),.int (n:Nat)]->iR K mg H A B os t mo n->B.now=(mo:Nat)->zo.length<=4000->fB B.heads zo=some os->pP B os t mo n on (oO on) H Q->ph K mg t on vs H Q E
theorem vz(T:Txt K mg)(i:cX K mg base "sorted_by")(t:Tr):Def P w K mg base true (11+2*t.dep) "first_leaf" ["book","make","order","sieve","size"] (ph K mg t true):=by
 rw[show 11+2*t.dep=(10+2*t.dep)+1 by omega];show Γ (N:=["book","make","order","sieve","size"]) T.vz (λf v x outer s H vs Q E y h=>?_);intro X _;let#[A,B,os,j,mo,n,rfl,c,e,l,m,q]:=h;let hsz:=ϱ;let z:=T.QK;let C:= @xV P w K mg base T;let D:Def P w K mg base true (10+2*t.dep) "leaf_from" ["book","mark","size","onward"] (pU K mg t true):=pI T i t true;f_len;show ω ?_;lk;show#[Δ,λp o=>?_];let#[a,e1]:=ϋ o (.tup [.str ("start":Str)]);change EA _ _ _ (upd H p (.tup [.str ("start":Str)])) _;generalize upd H p (.tup [.str ("start":Str)])=H1 at a e1⊢;lk;show#[A,B,j,_,_,os,.start,mo,rfl,(c.same a).bk.bk,e,l,m,#[p,rfl,e1],λmk H2 g u=>?_];lk;show#[A,B,mk,os,mo,n,.start,rfl,c.same (a.trans g),u,.inl #[rfl,rfl],(λh=>absurd h (by have:=c.bk.mm.2.1;omega)),q.same (a.trans g)]
theorem zr(T:Txt K mg)(i:cX K mg base "sorted_by")(t:Tr):Def P w K mg base true (11+2*t.dep) "last_leaf" ["book","make","order","sieve","size"] (ph K mg t false):=by
 rw[show 11+2*t.dep=(10+2*t.dep)+1 by omega];show Γ (N:=["book","make","order","sieve","size"]) T.zr (λf v x outer s H vs Q E y h=>?_);intro X _;let#[A,B,os,j,mo,n,rfl,c,e,l,m,q]:=h;let hsz:=ϱ;let z:=T.Qi;let C:= @xV P w K mg base T;let D:Def P w K mg base true (10+2*t.dep) "leaf_from" ["book","mark","size","onward"] (pU K mg t false):=pI T i t false;f_len;show ω ?_;lk;show#[Δ,λp o=>?_];let#[a,e1]:=ϋ o (.tup [.str ("end":Str)]);change EA _ _ _ (upd H p (.tup [.str ("end":Str)])) _;generalize upd H p (.tup [.str ("end":Str)])=H1 at a e1⊢;lk;show#[A,B,j,_,_,os,.fin,mo,rfl,(c.same a).bk.bk,e,l,m,#[p,rfl,e1],λmk H2 g u=>?_];lk;show#[A,B,mk,os,mo,n,.fin,rfl,c.same (a.trans g),u,.inr (.inl #[rfl,rfl]),(λh=>absurd h (by have:=c.bk.mm.2.1;omega)),q.same (a.trans g)]
inductive Uo (mg:Str->Option ε) (vs:List V) (H:Hp) (Q:VK) (E:XK):Prop
 |mk (A:BA) (B:Bk) (M:Mk):vs=[.ref A.b,.str (fZ M)]->Ν (cB mg) H A B->ώ B.heads=true->bC B.heads M->(M.moment:Int)<=B.now->(∀p H',ζ H H'->gW H' p M.living M.moment M.os M.sieve (.at_ M.cut.ahead M.cut.xs M.cut.row)->Q (.ref p) H')->Uo mg vs H Q E
theorem vO(T:Txt K mg):Def P w K mg base true 53 "read_good_mark" ["book","text"] (Uo mg):=by
 show Γ (S:=Uh) T.vO (λf O R outer s H vs Q E j h=>?_);intro X _;let#[A,B,M,rfl,a,hok,n,u,q]:=h;let nd:=Uh.nd;let U:= @HB P w K mg base T;let M2:Ϟ P w K mg base true 1 (cB mg) "moment" ["self"] (cY mg Bk.now):=(vQ T).meth T.Ϝ T.yO;let x:Ϟ P w K mg base true 1 (cB mg) "columns" ["self"] (kW mg):=(Dz T).meth T.Ϝ T.Gg;w_up;generalize hz:fZ M=z;f_tup;lk;show fL (pl:=_) j ύ ?_;f_are;show#[A.b,cB mg,A.dx,_,true,1,_,kW mg,rfl,a.ins,by rfl,x,by decide,id,A,B,rfl,a,λc H1 y C D=>?_];lk;show#[c,M,B.heads,by rw[hz],D,hok,n,λp o l k v H2 F m W G e I J L _=>?_];let g:=y.trans F;w_up;show Κ ?_;lk;show Χ (ρ.of m) (i:=1) rfl ?_;lk;show fL (pl:=_) j ύ ?_;f_are;show#[A.b,cB mg,A.dx,_,true,1,_,cY mg Bk.now,rfl,(a.same g).ins,by rfl,M2,by decide,id,A,B,rfl,a.same g,?_];lk;show Ζ (λh=>?_) (λ_=>?_)
 .show absurd h ()
 show Ε ?_;f_len;show ω ?_;lk;show q p H2 g #[o,.ref l,m,G,l,k,rfl,e,v,I,L]
inductive ur (K:ϩ) (mg:Str->Option ε) (t:Tr) (on:Bool) (vs:List V) (H:Hp) (Q:VK) (E:XK):Prop
 |mk (A:BA) (B:Bk) (os:List Ord) (mo n:Nat) (sd:Bool) (xs:List V) (k:Int):vs=[.ref A.b,cN false mo os (sT B.heads t) (some (.at_ sd xs k)),.int (n:Nat)]->iR K mg H A B os t mo n->cQ B.heads os xs->0<=k->k<=1000000000->t.dep<=20->mX mg B mo H E->pP B os t mo n on (.at_ sd xs k) H Q->ur K mg t on vs H Q E
theorem DW(T:Txt K mg)(i:cX K mg base "sorted_by")(t:Tr)(j:t.dep<=20):Def P w K mg base true 54 "turn_forth" ["book","mark","size"] (ur K mg t true):=by
 show Γ (N:=["book","mark","size"]) T.DW (λf u v outer s H vs Q E x h=>?_);intro X _;let#[A,B,os,mo,n,sd,xs,k,rfl,a,g,k0,k1,_,l,q]:=h;let y:= @vO P w K mg base T;let C:Def P w K mg base true (10+2*t.dep) "leaf_from" ["book","mark","size","onward"] (pU K mg t true):=pI T i t true;let m:(((k.toNat:Nat):Int))=k:=aov k0;let o:=a.li.good (lv:=false) (sd:=sd) g k1;f_len;show ω ?_;generalize hz:cN false mo os (sT B.heads t) (some (.at_ sd xs k))=z;lk;show#[A,B,#[false,mo,os,sT B.heads t,#[sd,k.toNat,xs]],by first|rfl|(rw[<-hz];rfl),a.bk.bk,a.li.ok,o,a.bk.le,λmk H1 e p=>?_];lk;show#[A,B,mk,os,mo,n,.at_ sd xs k,rfl,a.same e,?_,.inr (.inr #[sd,xs,k,rfl,g,k0,k1]),l.same e,q.same e];let c:gW H1 mk false mo os (sT B.heads t) (.at_ sd xs ((k.toNat:Nat):Int)):=p;rw[m]at c;show c
theorem De(T:Txt K mg)(i:cX K mg base "sorted_by")(t:Tr)(j:t.dep<=20):Def P w K mg base true 54 "turn_back" ["book","mark","size"] (ur K mg t false):=by
 show Γ (N:=["book","mark","size"]) T.De (λf u v outer s H vs Q E x h=>?_);intro X _;let#[A,B,os,mo,n,sd,xs,k,rfl,a,g,k0,k1,_,l,q]:=h;let y:= @vO P w K mg base T;let C:Def P w K mg base true (10+2*t.dep) "leaf_from" ["book","mark","size","onward"] (pU K mg t false):=pI T i t false;let m:(((k.toNat:Nat):Int))=k:=aov k0;let o:=a.li.good (lv:=false) (sd:=sd) g k1;f_len;show ω ?_;generalize hz:cN false mo os (sT B.heads t) (some (.at_ sd xs k))=z;lk;show#[A,B,#[false,mo,os,sT B.heads t,#[sd,k.toNat,xs]],by first|rfl|(rw[<-hz];rfl),a.bk.bk,a.li.ok,o,a.bk.le,λmk H1 e p=>?_];lk;show#[A,B,mk,os,mo,n,.at_ sd xs k,rfl,a.same e,?_,.inr (.inr #[sd,xs,k,rfl,g,k0,k1]),l.same e,q.same e];let c:gW H1 mk false mo os (sT B.heads t) (.at_ sd xs ((k.toNat:Nat):Int)):=p;rw[m]at c;show c
abbrev rM:Int:=30
theorem abO:rM<=90:=by decide
theorem CQ:0<rM:=by decide
structure Tb(mg:Str->Option ε)(F:List δ)(A:BA)(d:δ)(H:Hp)(B:Bk):Prop where
 bk:Ν (cB mg) H A B
 ro:yo F H d B.rows
structure FQ(A:BA)(d:δ)(F:List δ):Prop where
 nd:d∉A.six
 inF:∀x∈d::A.fp,x∈F
theorem R0{A:BA}:∀x∈A.fp,x∈A.six:=λx c=>by
 let a:x=A.b\/x=A.r\/x=A.t\/x=A.d:=by simpa [BA.fp]using c
 obtain rfl|rfl|rfl|rfl:=a<;>simp[BA.six]
section
variable{F:List δ}{A:BA}{d:δ}{H H':Hp}{B B':Bk}
theorem Tb.same(h:Tb mg F A d H B)(sm:ζ H H'):Tb mg F A d H' B:=by
 let#[k1,e1,h1]:=h.ro;show#[h.bk.same sm,#[k1,sm _ _ e1,dU h1 λv x z=>z.stay λb ys _ e=>sm _ _ e]]
theorem Tb.rG(ap:FQ A d F)(c:Ν (cB mg) H A B){k0 Ϸ:List (Key×V)}(e:H d=some (.dK k0))(f:ς (PR (LR F H)) Ϸ B.rows):Tb mg F A d (upd H d (.dK Ϸ)) B:=by
 show#[c.out (S:=[d]) (Out.upd (by simp)) (λy a ys z=>by rw[abx.mp a,e]at z;cases z) λy a hz=>?_,#[Ϸ,υ,dU f λv x z=>z.stay λb ys c e=>?_]]
 .rw[abx.mp hz]at a;show ap.nd a
 .rw[ο (λz=>c (by rw[z];show ap.inF _ (by simp)))];show e
theorem Tb.book(ap:FQ A d F)(h:Tb mg F A d H B)(o:Out A.fp H H'):yo F H' d B.rows:=by
 let#[k1,e1,h1]:=h.ro;show#[k1,o _ _ (λz=>ap.nd (R0 _ z)) e1,dU h1 λv x z=>z.stay λb ys a e=>o _ _ (λz=>a (ap.inF _ (by simp[z]))) e]
end
structure jQ(B:Bk)(i:Nat):Prop where
 heads:B.heads=ι
 nd:(B.rows.map (·.1)).Nodup
 wf:nQ B
 ok:∀p∈B.rows,ό ι p
 keys:∀p∈B.rows,0<=p.1/\p.1<90
 rl:B.rows.length<=i
 tl:B.touched.length<=i
 dl:B.done.length<=i
theorem O8{α:Type}{m:List (Int×α)}{i:Int}{x:α}{p:Int×α}(h:p∈aZ m i x):p∈m/\¬p.1=i\/p=(i,x):=by
 unfold aZ at h;split at h
 .let#[q,c,e]:=ada.mp h;split at e
  .next a=>show .inr (by rw[<-e,a])
  .next a=>show .inl (by rw[<-e];show#[c,a])
 .next f=>
  obtain h|h:=afH.mp h
  .show .inl #[h,λe=>f (anN.mpr #[p,h,decide_eq_true e])]
  .show .inr (abx.mp h)
theorem QC{α:Type}(m:List (Int×α))(i:Int)(x:α):(aZ m i x).length<=m.length+1:=by
 unfold aZ;split
 .rw[aaz];omega
 .rw[abu,ael];omega
theorem Mz{α:Type}(m:List (Int×α))(i:Int):(cD m i).length<=m.length:=aib ..
theorem nQ.deed{B:Bk}(h:nQ B)(row:Int)(o:Option (List V)):nQ (dN B row o):=λi=>by
 cases o with
 |none=>
  show Η (cD B.rows row) i=none↔ Η (cD B.touched row) i=none;rw[tM,tM];by_cases e:i=row
  .rw[if_pos e,if_pos e];show#[λ_=>rfl,λ_=>rfl]
  .rw[if_neg e,if_neg e];show h i
 |some xs=>
  show Η (aZ B.rows row xs) i=none↔ Η (aZ B.touched row (B.now+1)) i=none;rw[qF,qF];by_cases e:i=row
  .rw[if_pos e,if_pos e];show#[(λz=>by cases z),(λz=>by cases z)]
  .rw[if_neg e,if_neg e];show h i
theorem jQ.deed{B:Bk}{i:Nat}(h:jQ B i){row:Int}{o:Option (List V)}(a:0<=row)(h1:row<90)(c:∀xs,o=some xs->ό ι (row,xs)):jQ (dN B row o) (i+1):=by
 let e:=h.tl;let f:=h.dl;let g:=h.rl;let hd:(dN B row o).done.length<=i+1:=by
  show(B.done++[_]).length<=i+1;rw[abu,ael];omega
 cases o with
 |none=>
  show#[h.heads,Ve h.nd,h.wf.deed row none,λp hp=>h.ok p (ajV.mp hp).1,λp hp=>h.keys p (ajV.mp hp).1,?_,?_,hd]
  .show(cD B.rows row).length<=i+1;have:=Mz B.rows row;omega
  .show(cD B.touched row).length<=i+1;have:=Mz B.touched row;omega
 |some xs=>
  show#[h.heads,Wx h.nd,h.wf.deed row (some xs),λp hp=>?_,λp hp=>?_,?_,?_,hd]
  .obtain hp|hp:=O8 hp
   .show h.ok p hp.1
   .rw[hp];show c xs rfl
  .obtain hp|hp:=O8 hp
   .show h.keys p hp.1
   .rw[hp];show#[a,h1]
  .show(aZ B.rows row xs).length<=i+1;have:=QC B.rows row xs;omega
  .show(aZ B.touched row (B.now+1)).length<=i+1;have:=QC B.touched row (B.now+1);omega
theorem jQ.small{B:Bk}{i:Nat}(h:jQ B i)(hi:i<1000000):uf B:=by
 let h1:=h.tl;let h2:=h.dl;let a:=h.rl;show#[(),(),()]
inductive Uy (K:ϩ) (mg:Str->Option ε) (vs:List V) (H:Hp) (Q:VK) (E:XK):Prop
 |mk (F:List δ) (A:BA) (B:Bk) (i:Nat) (sc d:δ) (ns:List Int) (k way:Int):vs=[.ref sc,.int k,.int way,.ref A.b,.ref d]->η K H sc (ns.map V.int)->ns.length<=63->0<=k->k<=10000->Tb mg F A d H B->FQ A d F->(∀x∈F,H x≠none)->jQ B i->i<64->(∀row o H',0<=row->row<90->(∀xs,o=some xs->ό ι (row,xs))->(Η B.rows row=none->o≠none)->Out (d::A.fp) H H'->Tb mg F A d H' (dN B row o)->Q .non H')->Uy K mg vs H Q E
theorem wC(T:Txt K mg):Def P w K mg base true 7 "_law_deed" ["_law_script","_law_k","_law_way","_law_book","_law_table"] (Uy K mg):=by
 show Γ (S:=Oi) T.wC (λf Ϻ A' outer s0 H vs Q E Z h=>?_);intro X _;let#[F,A,B,i,sc,d,ns,k,O,rfl,hS,hl,k0,k1,hT,ap,jd,s,hi,q]:=h;let nd:=Oi.nd;let n2:=T.j9;let n3:=T.bN;let n4:=T.tL;let hsz:=ϱ;let R:_+1<cLine:=afN (ajd (by decide:1<=64) _) Z.units;let C:=s.small ();let hrl:=s.rl;let h6:B.heads.length<=6:=by rw[s.heads];decide
 let D0:= @jV P w K mg base T;let D2:= @Fw P w K mg base T;let M1:Ϟ P w K mg base true 6 (cB mg) "put" ["self","row","values"] (wU mg):=(ahk T).meth T.Ϝ T.aa0;let M2:Ϟ P w K mg base true 6 (cB mg) "change" ["self","row","values"] (vd mg):=(ahv T).meth T.Ϝ T.abF;let M3:Ϟ P w K mg base true 4 (cB mg) "take" ["self","row"] (vA mg):=(aec T).meth T.Ϝ T.aaT;let HD:∀{H2 H3:Hp},Out A.fp H2 H3->Out (d::A.fp) H2 H3:=λo=>o.mono λx hx=>by simp[hx]
 let#[Ϸ,er,hR]:=id hT.ro;let ab:=hR.len
 let tail:∀(row:Int)(v:δ)(xs:List V)(H3:Hp),0<=row->row<90->ό ι (row,xs)->Out (d::A.fp) H H3->Ν (cB mg) H3 A (dN B row (some xs))->yo F H3 d B.rows->H3 v=some (.lst xs)->v∉F->
   Ρ X ((aA wD).drop 4) {nx:=λ_ H'=>Q .non H',rt:=Q} [some (.ref sc),some (.int k),some (.int O),some (.ref A.b),some (.ref d),some (.int row),some (.ref v)] H3:=by
  intro row v xs H3 n r1 hok a ac ae D G;let#[BL,I,U]:=ae;let anh:=U.len;f_len;show wN R ?_;lk;show#[d,_,rfl,iz.k (k:=Sum.inl row) I (),?_];show q row (some xs) _ n r1 (λys e=>by cases e;show hok) (λ_ z=>by cases z) (a.trans (Out.upd (by simp))) (Tb.rG ap ac I (vh U row #[v,rfl,D,G]))
 let rest:∀(row:Int)(H1:Hp),0<=row->row<90->ζ H H1->Ρ X ((aA wD).drop 2) {nx:=λ_ H'=>Q .non H',rt:=Q} [some (.ref sc),some (.int k),some (.int O),some (.ref A.b),some (.ref d),some (.int row),none] H1:=by
  intro row H1 n r1 s1;k_go;show#[sc,ns,300+2*k,rfl,s1.seq hS,hl,(),(),λv xs H2 s2 af D c=>?_];let W:=s1.trans s2;let G:v∉F:=λz=>jd v z (s1.free af)
  let l:=hT.same W;let J:=l.bk;let g2:=aG.k (k:=Sum.inl row) (W _ _ er);let hok:ό ι (row,xs):=c;w_up;show Κ ?_;lk;show V9 R g2 ?_;obtain⟨e1,M⟩|⟨u,x,e1,M,_⟩:=iw hR row
  .rw[show(au Ϸ (Sum.inl row)).isSome=false by rw[e1];rfl];lk;f_len;show aM ?_;show bZ (pl:=_) Z ύ (h:=?_);f_are;show#[A.b,cB mg,A.dx,_,true,6,_,wU mg,rfl,J.ins,by rfl,M1,by decide,id,?_];lk;show jf (.inl (η.of D)) λb hb=>?_
   let#[g,Y]:=ϋ hb (.lst xs);generalize upd H2 b (.lst xs)=H8 at g Y⊢;lk;show#[A,B,row,b,xs,rfl,J.same g,Y,h6,#[n,(),by rw[s.heads];show c],C,λz=>absurd M z,λ_ H3 a k3=>?_];show tail row v xs H3 n r1 hok ((Out.of (W.trans g)).trans (HD a)) k3 ((l.same g).book ap a) (a _ _ (λz=>G (ap.inF _ (by simp[z]))) (g _ _ D)) G
  .rw[show(au Ϸ (Sum.inl row)).isSome=true by rw[e1];rfl];lk;f_len;show Κ ?_;lk;show Ζ (λhw=>?_) (λhw=>?_)
   .w_up;show aM ?_;show bZ (pl:=_) Z ύ (h:=?_);f_are;show#[A.b,cB mg,A.dx,_,true,4,_,vA mg,rfl,J.ins,by rfl,M3,by decide,id,?_];lk;show#[A,B,row,rfl,J,n,(),C,s.wf,(λz=>by rw[M]at z;cases z),λ_ H3 a k3=>?_];let#[BL,I,U]:=l.book ap a;w_up;show aM (yx ?_);lk;show#[d,rfl,.inl #[_,.inl I],?_];lk;let ag:∃v,au BL (Sum.inl row)=some v:=by
     obtain⟨_,z⟩|⟨u,y,z,_⟩:=iw U row
     .rw[M]at z;cases z
     .show#[u,z]
    let#[vv,Ff]:=ag;show#[BL,Sum.inl row,vv,I,rfl,Ff,?_];f_len;show Ka ?_;show q row none _ n r1 (λys e=>by cases e) (λz=>by rw[M]at z;cases z) (((Out.of W).trans (HD a)).trans (Out.upd (by simp))) (Tb.rG ap k3 I (wk U row))
   .f_len;show aM ?_;show bZ (pl:=_) Z ύ (h:=?_);f_are;show#[A.b,cB mg,A.dx,_,true,6,_,vd mg,rfl,J.ins,by rfl,M2,by decide,id,?_];lk;show jf (.inl (η.of D)) λb hb=>?_
    let#[g,Y]:=ϋ hb (.lst xs);generalize upd H2 b (.lst xs)=H8 at g Y⊢;lk;show#[A,B,row,b,xs,rfl,J.same g,Y,h6,#[n,(),by rw[s.heads];show c],C,(λz=>by rw[M]at z;cases z),λ_ H3 a k3=>?_];show tail row v xs H3 n r1 hok ((Out.of (W.trans g)).trans (HD a)) k3 ((l.same g).book ap a) (a _ _ (λz=>G (ap.inF _ (by simp[z]))) (g _ _ D)) G
 k_go;show#[sc,ns,500+k,rM,rfl,hS,hl,(),(),CQ,?_];let j0:=gG ns (500+k) (m:=rM) CQ;let j1:=Int.lt_of_lt_of_le (gB ns (500+k) (m:=rM) CQ) abO;generalize bF ns (500+k) rM=row at j0 j1⊢;w_up;show Κ ?_;lk;show Ζ (λhw=>?_) (λhw=>?_)
 .lk;show TY er ?_;lk;show Ζ (λah=>?_) (λah=>?_)
  .f_len;f_tup;lk;show BX (ks:=B.rows.map (·.1)) er (Cp hR) (by rw[aaz];omega) λL ks hL hp hs=>?_
   let#[eF,eL]:=ϋ hL (.lst (ks.map V.int));generalize upd H L (.lst (ks.map V.int))=H1 at eF eL⊢;let hks:ks.length=Ϸ.length:=by rw[hp.length_eq,aaz,ab]
   lk;show TY (eF _ _ er) ?_;lk;show#[sc,ns,600+k,Ϸ.length,rfl,eF.seq hS,hl,(),(),(),?_];let c0:=gG ns (600+k) (m:=(Ϸ.length:Nat)) ();let c1:=gB ns (600+k) (m:=(Ϸ.length:Nat)) ();generalize bF ns (600+k) (Ϸ.length:Nat)=jj at c0 c1⊢;let#[j,rfl]:=adi c0;let hj:j<ks.length:=()
   show ϡ (η.of eL) (v:=.int ks[j]) (aY (by rw[abh,aab hj];rfl)) ?_;let hm:ks[j]∈B.rows.map (·.1):=hp.mem_iff.mp (ahZ hj);let#[p,ai,e]:=ada.mp hm;let hkk:=s.keys p ai;show rest ks[j] H1 () () eF
  .show Ε (rest row H j0 j1 (ζ.refl _))
 .lk;show Ε (rest row H j0 j1 (ζ.refl _))
end
end _K
namespace _K
open PySem _L PyProof.Rows _M _V _W
section
variable{P:ϯ}{w:ϭ}{K:ϩ}{mg:Str->Option ε}{base:ϫ}
def Hc:List Ϩ->List Ϩ
 |(.For _ _ b _ _)::_=>b
 |_=>[]
def jM(H:Hp)(S:List δ)(H':Hp)(v:V)(r:Row):=∃t l,v=.ref t/\H t=none/\H l=none/\t∉S/\l∉S/\H' t=some (.tup [.int r.1,.ref l])/\H' l=some (.lst r.2)
theorem jM.same{H H' H2:Hp}{S:List δ}{v:V}{r:Row}(h:jM H S H' v r)(s:Out S H' H2):jM H S H2 v r:=by
 let#[t,l,e,h1,h2,a,c,f,g]:=h;show#[t,l,e,h1,h2,a,c,s _ _ a f,s _ _ c g]
theorem jM.row{H H':Hp}{S:List δ}{v:V}{r:Row}(h:jM H S H' v r):cC H' v r:=by
 let#[t,l,e,h1,h2,f,g,a,c]:=h;show#[t,l,e,a,c]
inductive JK (K:ϩ) (vs:List V) (H:Hp) (Q:VK) (E:XK):Prop
 |mk (F:List δ) (d b:δ) (k:Nat) (os:List Ord) (m:List Row):vs=[.ref d,.ref b,.int (k:Nat)]->yo F H d m->bu H b os->aB ι os->k<4->(m.map Prod.fst).Nodup->m.length<64->(∀r∈m,ό ι r)->(∀p ws ls H',ζ H H'->H p=none->H' p=some (.lst ws)->ς (jM H [p] H') ws ls->Line ι os ls->ls.Perm (m.filter λr=>Ϙ r.2 (Ϛ k))->Q (.ref p) H')->JK K vs H Q E
theorem ab0{os:List Ord}(a:aB ι os){r q:Row}(f:ό ι r)(g:ό ι q)(j:¬r.1=q.1)(h:aW ι os r q=false):aW ι os q r=true:=by
 let i:=b7 f a;let c:=b7 g a;let h':aa os (ao ι os r.2) (ao ι os q.2) r.1 q.1=false:=h;show aa os (ao ι os q.2) (ao ι os r.2) q.1 r.1=true;by_cases e:ao ι os r.2=ao ι os q.2
 .rw[e,yz c.len.symm]at h'⊢;have:=of_decide_eq_false h';show decide_eq_true ()
 .rw[Yb i c e,h'];rfl
theorem Pb{os:List Ord}(a:aB ι os){r q p:Row}(c:ό ι r)(e:ό ι q)(f:ό ι p)(h1:aW ι os r q=true)(h2:aW ι os q p=true):aW ι os r p=true:=qK (b7 c a) (b7 e a) (b7 f a) h1 h2
def vy(os:List Ord)(rs:List Row)(i j:Nat):Prop:=j<i/\∀x,rs[j]?=some x->∀m q,m<i->¬m=j->rs[m]?=some q->aW ι os x q=true
theorem vy.next{os:List Ord}{rs:List Row}(s:aB ι os)(p:∀r∈rs,ό ι r)(v:(rs.map Prod.fst).Nodup){i j:Nat}{x y:Row}(h:vy os rs i j)(g:rs[j]?=some x)(n:rs[i]?=some y):vy os rs (i+1) (if aW ι os y x=true then i else j):=by
 let#[h1,h2]:=h;let l:=p x (aaq g);let u:=p y (aaq n);let z:¬y.1=x.1:=λe=>by
  let a:(rs.map Prod.fst)[i]?=some y.1:=by rw[abh,n];rfl
  let b:(rs.map Prod.fst)[j]?=some y.1:=by rw[abh,g,e];rfl
  have:=(apA (aap.mp a).1 v).mp (a.trans b.symm);omega
 split
 .next o=>
  show#[(),λB c m q C D f=>?_];rw[n]at c;cases c;by_cases e:m=j
  .rw[e,g]at f;cases f;show o
  .show Pb s u l (p q (aaq f)) o (h2 x g m q () e f)
 .next o=>
  show#[(),λB c m q C E f=>?_];rw[g]at c;cases c;by_cases e:m=i
  .rw[e,n]at f;cases f;show ab0 s u l z (by simpa using o)
  .show h2 x g m q () E f
theorem J7{α β:Type}{R:α->β->Prop}:∀{l:List α}{m:List β},ς R l m->∀j,ς R (l.eraseIdx j) (m.eraseIdx j)
 |_,_,.nil,_=>.nil
 |_,_,.cons _ t,0=>t
 |_,_,.cons h t,j+1=>.cons h (J7 t j)
structure Fi(H:Hp)(a p:δ)(os:List Ord)(all rs ls:List Row)(ws us:List V)(H':Hp):Prop where
 sm:ζ H H'
 ea:H' a=some (.lst ws)
 ep:H' p=some (.lst us)
 rw_:ς (jM H [a,p] H') ws rs
 lw:ς (jM H [a,p] H') us ls
 pm:(ls++rs).Perm all
 ln:Line ι os ls
 lt:∀r∈ls,∀q∈rs,aW ι os r q=true
theorem zq(T:Txt K mg):Def P w K mg base true 2 "_law_line" ["_law_table","_law_order_here","_law_sieve"] (JK K):=by
 show Γ (S:=Xu) T.zq (λ_ _ A _ s H vs Q E O h=>?_);intro X _;let#[F,d,b,k,os,m,rfl,#[Ϸ,er,hR],hO,ϻ,hk,av,Kz,ae,q]:=h;let nd:=Xu.nd;let n1:=T.tL;let n2:=T.j9;let n3:=T.bN;let hsz:=ϱ;let aw:=afN (ajd (show 1<=64 by decide) _) O.units;let hu:=O.units;let ju:(["_law_row","_law_table","_law_sieve"]:List Str).Nodup:=by fin2
 let D1:= @Cd P w K mg base T;let D2:= @Fv P w K mg base T;w_up;show aht ["_law_row","_law_table","_law_sieve"] (σ':=[none,some (.ref d),some (.int (k:Nat))]) (by rfl) (by rfl) (by rfl) (cz (ψ Cg)) (by intro _;rfl) nd (by rfl) (by rfl) ?_;walk_at"cb";lk;show BX (ks:=m.map Prod.fst) er (Cp hR) (by rw[aaz];show Kz) λL ks f ah hso=>?_
 let#[s1,eL]:=ϋ f (.lst (ks.map V.int));generalize upd H L (.lst (ks.map V.int))=H1 at s1 eL⊢;let hkl:ks.length=m.length:=by rw[ah.length_eq,aaz]
 let a1:(ks.map V.int).length=ks.length:=aaz ..;let a2:=yZ av ah;let a3:∀i row,ks[i]?=some row->∃l xs,au Ϸ (Sum.inl row)=some (.ref l)/\H l=some (.lst xs)/\ό ι (row,xs)/\(aJ m ks).getD i (0,[])=(row,xs):=λi row B=>by
  let ax:row∈m.map Prod.fst:=ah.mem_iff.mp (aaq B);obtain⟨_,z⟩|⟨u,xs,I,af,l,rfl,J,_⟩:=iw hR row
  .show absurd ax (yI.mp z)
  show#[l,xs,I,J,ae _ (Yl af),?_];rw[abA];unfold aJ;rw[abh,B];show(row,(Η m row).getD [])=_;rw[af];rfl
 let a4:(aJ m ks).length=ks.length:=by unfold aJ;rw[aaz]
 show#[L,_,rfl,η.of eL,(),λτ=>∃o1,τ=[o1,some (.ref d),some (.int (k:Nat))],λi=>Ϙ ((aJ m ks).getD i (0,[])).2 (Ϛ k),λg i u H'=>∃t l,u=.ref t/\H t=none/\H l=none/\t≠g/\l≠g/\H' t=some (.tup [.int ((aJ m ks).getD i (0,[])).1,.ref l])/\H' l=some (.lst ((aJ m ks).getD i (0,[])).2),#[none,rfl],λg i v H2 H3 ys hE hk h=>?_,λfp g C s3 H0 i τ x H2 aP hx a5 sm U=>?_,λg H2 us aP e2 hA sm=>?_]
 .let#[t,l,e,h1,h2,h3,h4,h5,h6]:=h;show#[t,l,e,h1,h2,h3,h4,hk _ _ h3 h5,hk _ _ h4 h6]
 .let#[o1,rfl]:=a5;let#[ys,U]:=U;rw[abh]at hx;let#[row,B,rfl]:=agJ.mp hx;let#[l,xs,I,J,uG,pJ]:=a3 i row B;let Ι :=s1.trans sm;let dg:∀{H2:Hp},ζ H H2->aG H2 d (.int row) (some (.ref l)):=λD=>by
   have:=aG.k (k:=Sum.inl row) (D _ _ er);rw[I]at this;show this
  show Β ju (by rfl) (.inl rfl) (.inr rfl) ?_;show Af (λ_=>by rfl) ?_;lk;show Ie aw (dg Ι) ?_;lk;show#[k,l,(row,xs),rfl,hk,Ι _ _ J,uG,?_];show#[_,rfl,(by show Ϙ xs (Ϛ k)=Ϙ ((aJ m ks).getD i (0,[])).2 (Ϛ k);rw[pJ]),#[_,rfl],ζ.refl _,λ_=>?_];lk;show Ie aw (dg Ι) ?_;lk;show jf (.inl (η.of (Ι _ _ J))) λl2 W=>?_
  let#[D,wV]:=ϋ W (.lst xs);generalize upd H2 l2 (.lst xs)=H3 at D wV⊢;lk;show#[Δ,λt ht=>?_];let s3:ζ H3 (upd H3 t (.tup [.int row,.ref l2])):=ζ.upd ht;show#[#[t,l2,rfl,(Ι.trans D).free ht,Ι.free W,λz=>?_,λz=>?_,by rw[pJ];show υ,by rw[pJ];show s3 _ _ wV],D.trans s3]
  .rw[z,D _ _ U]at ht;cases ht
  .rw[z,U]at W;cases W
 rw[a1, <-a4]at hA;let Bw:=xm (R:=λ(u:V)(r:Row)=>∃t l,u=.ref t/\H t=none/\H l=none/\t≠g/\l≠g/\H2 t=some (.tup [.int r.1,.ref l])/\H2 l=some (.lst r.2)) (λi=>(aJ m ks).getD i (0,[])) hA;rw[Ox (aJ m ks) λr=>Ϙ r.2 (Ϛ k)]at Bw;let qL:=a2.filter λr=>Ϙ r.2 (Ϛ k)
 generalize(aJ m ks).filter (λr=>Ϙ r.2 (Ϛ k))=Y at Bw qL;let ag:∀r∈Y,ό ι r:=λr O=>ae r (ajV.mp (qL.mem_iff.mp O)).1
 let a6:(Y.map Prod.fst).Nodup:=(qL.map Prod.fst).nodup_iff.mpr (av.sublist (List.Sublist.map _ aou));let J:Y.length<64:=afN (aes (amJ qL.length_eq) (aib ..)) Kz;k_go;show#[Δ,λp hp=>?_];let#[D,ep]:=ϋ hp (.lst []);generalize upd H2 p (.lst [])=H3 at D ep⊢;let a7:=(s1.trans sm).trans D;let ay:H p=none:=(s1.trans sm).free hp;let Zb:H g=none:=s1.free aP;let RV:g≠p:=λz=>by rw[z,hp]at e2;cases e2
 let a8:Fi H g p os Y Y [] us [] H3:=#[a7,D _ _ e2,ep,Bw.imp λu r z=>by
  let#[t,l,e,h1,h2,h3,h4,h5,h6]:=z;show#[t,l,e,h1,h2,(λz=>by
   obtain z|z:=aaG.mp z
   .show h3 z
   .rw[abx.mp z,hp]at h5;cases h5),(λz=>by
   obtain z|z:=aaG.mp z
   .show h4 z
   .rw[abx.mp z,hp]at h6;cases h6),D _ _ h5,D _ _ h6],.nil,List.Perm.refl _,.nil,(λr O=>by cases O)]
 w_up;show Rg (by walk_at"po") (λmm σ H4=>∃o5 G rs ls ws us,σ=[some (.ref d),some (.ref b),some (.int (k:Nat)),some (.ref g),some (.ref p),o5,G]/\Fi H g p os Y rs ls ws us H4/\mm=rs.length) Y.length #[none,none,Y,[],us,[],rfl,a8,rfl] λmm σ H4 hW=>?_
 let#[o5,G,rs,ls,ws,us,rfl,f,rfl]:=hW;let aC:=f.rw_.len;let nR:=f.lw.len;let a9:=f.pm.length_eq;rw[abu]at a9;let Rv:η K H4 g ws:=η.of f.ea;lk;show Ζ (λaD=>?_) (λaD=>?_)
 .let ba:0<rs.length:=()
  let n:∀r∈rs,ό ι r:=λr O=>ag r (f.pm.mem_iff.mp (aek _ O))
  let hfl:∀r∈ls,ό ι r:=λr O=>ag r (f.pm.mem_iff.mp (aj9 _ O))
  let aE:(rs.map Prod.fst).Nodup:=((f.pm.map Prod.fst).nodup_iff.mpr a6).sublist (List.Sublist.map _ (List.sublist_append_right ls rs));let#[x0,aI,hr0]:=f.rw_.get' (aab ba);show#[λσ' H'=>∃o5 G M ai am ar,σ'=[some (.ref d),some (.ref b),some (.int (k:Nat)),some (.ref g),some (.ref p),o5,G]/\Fi H g p os Y M ai am ar H'/\M.length<rs.length,λσ' H' hN=>?_,?_]
  .let#[o5,G,M,ai,am,ar,e,h1,h2]:=hN;show#[M.length,h2,o5,G,M,ai,am,ar,e,h1,rfl]
  k_go;show ϡ Rv (i:=((0:Nat):Int)) (aY aI) ?_;w_up;show wG (by walk_at"po") (by rfl) (by intro _;rfl) ?_;lk;show kZ Rv λq0 bb=>?_
  rw[show bH ws (some 1) none=ws.drop 1 from Ca ws 1];let#[s5,e5]:=ϋ bb (.lst (ws.drop 1));generalize upd H4 q0 (.lst (ws.drop 1))=H5 at s5 e5⊢;show#[q0,_,rfl,η.of e5,λi σ' H'=>∃j G x,σ'=[some (.ref d),some (.ref b),some (.int (k:Nat)),some (.ref g),some (.ref p),some x,G]/\ζ H5 H'/\vy os rs (i+1) j/\ws[j]?=some x,#[0,G,x0,rfl,ζ.refl _,#[(),λx _ m q hm Ϲ=>absurd (show m=0 by omega) Ϲ],aI],λi σ' H' _ hP=>?_,λi x σ' H' hx hP=>?_,λσ' H' hP=>?_]
  .let#[j,G,x,_,s6,_]:=hP;show η.of (s6 _ _ e5)
  .let#[j,G,x',rfl,s6,bc,hj]:=hP;rw[aoA,Nat.add_comm]at hx;let#[r,o,uL]:=f.rw_.get hx;let#[r',aO,YQ]:=f.rw_.get hj;let Z:=s5.trans s6;show Β nd (by rfl) (.inl rfl) (.inl rfl) ?_;f_len;show Κ ?_;lk;show#[b,x,x',os,r,r',rfl,hO.same (f.sm.trans Z),ϻ,uL.row.same Z,YQ.row.same Z,n r (aaq o),n r' (aaq aO),λH7 s7=>?_];let ab:=bc.next ϻ n aE aO o;cases hlt:aW ι os r r' with
   |true=>
    rw[if_pos hlt]at ab;lk;f_len;f_tup;lk;show#[i+1,some x,x,rfl,s6.trans s7,ab,hx]
   |false=>
    rw[if_neg (by rw[hlt];show aaA)]at ab;lk;show Ε #[j,some x,x',rfl,s6.trans s7,ab,hj]
  let#[j,G,x,rfl,s6,#[bd,aS],hj]:=hP;rw[adH,apt (),aC]at bd;rw[adH,apt (),aC]at aS;let Z:=s5.trans s6;let#[r,o,uL]:=f.rw_.get hj;let aT:=aS r o;let Uw:=Z _ _ f.ea;let be:ς (cC H') ws rs:=f.rw_.imp λu r z=>z.row.same Z
  let ac:r∈rs:=aaq o;w_up;show aM (dF PySem.F.plainAttrs_list PySem.F.slot_list_remove PySem.F.type_list_remove (h:=?_));f_are;show#[.inl #[rfl,_,η.of Uw],?_];lk;let bg:RD K H' x (b8 r):=by
   let#[t,l,rfl,h1,h2]:=uL.row.same Z;show .tup (ρ.of h1) (.cons (.int _) (.cons (.lst (η.of h2) (wz (acN.mpr λx hx=>((n r ac).lay x hx).1))) .nil))
  show aaS (ds:=rs.map b8) (d:=b8 r) (j:=j) hu Uw (Iz be n) bg (λy hy=>?_) (vm (n r ac)) #[b8 r,by rw[abh,o];rfl,SeqAt.eqv_refl _ (vm (n r ac))] (λm y hm hy=>?_) ?_
  .let#[q,hq,rfl]:=ada.mp hy;show#[vm (n q hq),aes (Vn q) (by decide)]
  .rw[abh]at hy;let#[q,hq,rfl]:=agJ.mp hy;let Ϲ:¬q.1=r.1:=λe=>by
    let a:(rs.map Prod.fst)[m]?=some q.1:=by rw[abh,hq];rfl
    let c:(rs.map Prod.fst)[j]?=some q.1:=by rw[abh,o,e];rfl
    have:=(apA (aap.mp a).1 aE).mp (a.trans c.symm);omega
   show((decide (q.1=r.1))&&_)=false;rw[decide_eq_false Ϲ];rfl
  let o7:Out [g,p] H' (upd H' g (.lst (ws.eraseIdx j))):=Out.upd (by simp);let e7:(upd H' g (.lst (ws.eraseIdx j))) g=some (.lst (ws.eraseIdx j)):=υ;let p7:(upd H' g (.lst (ws.eraseIdx j))) p=some (.lst us):=by rw[ο RV.symm];show Z _ _ f.ep
  generalize upd H' g (.lst (ws.eraseIdx j))=H7 at o7 e7 p7⊢;f_len;show aM (dF PySem.F.plainAttrs_list PySem.F.slot_list_append PySem.F.type_list_append (h:=?_));f_are;show#[.inl #[rfl,_,η.of p7],?_];lk;show je Ep #[p,us,_,rfl,rfl,p7,(),?_];let o8:Out [g,p] H7 (upd H7 p (.lst (us++[x]))):=Out.upd (by simp);let out:Out [g,p] H4 (upd H7 p (.lst (us++[x]))):=((Out.of Z).trans o7).trans o8;let aU:(r::rs.eraseIdx j).Perm rs:=by
   let e:rs.drop j=r::rs.drop (j+1):=tZ o;rw[List.eraseIdx_eq_take_drop_succ];show List.perm_middle.symm.trans ?_;rw[<-e,List.take_append_drop]
  let a0:∀z∈rs.eraseIdx j,z∈rs:=λz hz=>List.mem_of_mem_eraseIdx hz
  show#[_,_,rs.eraseIdx j,ls++[r],ws.eraseIdx j,us++[x],rfl,#[λa u e=>?_,by rw[ο RV];show e7,υ,J7 (f.rw_.imp λu r z=>z.same out) j,(f.lw.imp λu r z=>z.same out).app (.cons (uL.same out) .nil),?_,?_,λz hz y hy=>?_],?_]
  .show out _ _ (λz=>by
    obtain z|z:=aaG.mp z
    .rw[z,Zb]at e;cases e
    .rw[abx.mp z,ay]at e;cases e) (f.sm _ _ e)
  .rw[ajF];show(List.Perm.append_left ls aU).trans f.pm
  .show List.pairwise_append.mpr #[f.ln,aoU ..,λz hz y hy=>by rw[abx.mp hy];show f.lt z hz r ac]
  .obtain hz|hz:=afH.mp hz
   .show f.lt z hz y (a0 y hy)
   .rw[abx.mp hz];let#[m,hm,e1,e2]:=List.mem_eraseIdx_iff_getElem.mp hy;show aT m y hm e1 (by rw[aab hm,e2])
  .have :=aU.length_eq;rw[acS]at this;omega
 .let e0:rs=[]:=ame ();subst e0;let WL:=f.pm;rw[ag5]at WL;f_len;show ω ?_;lk;show q p us ls H4 f.sm ay f.ep (f.lw.imp λu r z=>by
   let#[t,l,e,h1,h2,h3,h4,h5,h6]:=z;show#[t,l,e,h1,h2,λz=>h3 (by simp[abx.mp z]),λz=>h4 (by simp[abx.mp z]),h5,h6]) f.ln (WL.trans qL)
def nY(v:V)(c:Prop):Prop:=(v=.non/\c)\/∃z,v=.str z/\¬c
theorem Sx{v:V}{c:Prop}[Decidable c](h:nY v c):decide (v=.non)=decide c:=by
 obtain⟨rfl,h⟩|⟨z,rfl,h⟩:=h
 .rw[decide_eq_true h];rfl
 .rw[decide_eq_false h];rfl
inductive Qj (vs:List V) (H:Hp) (Q:VK) (E:XK):Prop
 |mk (pf ln q0:δ) (ls:List Row) (lw us:List V) (i j:Nat) (mo:Int) (bk fo:V):vs=[.ref pf,.ref ln,.int (i:Nat),.int (j:Nat),.int mo]->H pf=some (.tup [.ref q0,bk,fo,.int (ls.length:Nat),.int (i:Nat),.int mo])->H q0=some (.lst us)->ς (jN H) us ((Ξ ls i j).map λr=>(r.1,r.2,true))->H ln=some (.lst lw)->ς (cC H) lw ls->(∀r∈ls,ό ι r)->ls.length<=1000->i<=j->j<=ls.length->nY bk (i=0)->nY fo (j=ls.length)->(∀H',ζ H H'->Q (.bl true) H')->Qj vs H Q E
theorem zA(T:Txt K mg):Def P w K mg base true 1 "_law_leaf" ["_law_leaf_here","_law_line_here","_law_at","_law_after","_law_moment"] Qj:=by
 show Γ (S:=Lz) T.zA (λ_ _ _ _ _ H vs Q E g h=>?_);intro X _;let#[pf,ln,I,ls,lw,us,i,j,mo,bk,fo,rfl,J,v,L,ig,hA,y,hll,M,O,dI,R,q]:=h;let nd:=Lz.nd;let n1:=T.bN;let hsz:=ϱ;let hu:=g.units;let ju:(["_law_one"]:List Str).Nodup:=by fin2
 let lU:=hA.len;let hsl:(Ξ ls i j).length=j-i:=Aq ls O;w_up;show d9 ?_;lk;show aj (ρ.of J) ?_
 iterate 6 show Θ (Β nd (by rfl) (.inl rfl) (.inl rfl) ?_)
 show az (yE (Κ ?_));lk;show lN ["_law_one"] (σ':=[none]) (cz (ψ Ha)) ?_;lk;show kZ (η.of ig) λp3 U=>?_
 rw[T5 lw i j M ()];let#[W,e4]:=ϋ U (.lst (Ξ lw i j));generalize upd H p3 (.lst (Ξ lw i j))=H4 at W e4⊢;let Ui:ς (cC H) (Ξ lw i j) (Ξ ls i j):=KN hA;let amf:=Ui.len;show#[p3,_,rfl,η.of e4,(),λτ=>∃o1,τ=[o1],λY n u H'=>u≠.ref Y/\∃r t l,(Ξ ls i j)[n]?=some r/\u=.ref t/\H' t=some (.tup [.int r.1,.ref l,.bl true])/\H l=some (.lst r.2),#[none,rfl],λY n u H8 H9 ys hE hk p=>?_,λfp Y C s9 H8 n τ x H6 H7 aP hi Z Τ m hG=>?_,λq1 G Xh hq1 hl8 ab e8 s5=>?_]
 .let#[h0,r,t,l,g,e,h1,h2]:=p;show#[h0,r,t,l,g,e,hk _ _ (λz=>h0 (by rw[e,z])) h1,h2]
 .let#[o1,rfl]:=Z;let#[bB,rfl]:=hG;let#[r,g,tr,lr,rfl,ac,a]:=Ui.get bB;let#[ys,m]:=m;let Om:ρ K H6 tr [.int r.1,.ref lr]:=ρ.of ((W.trans Τ) _ _ ac);show Β ju (by rfl) (.inl rfl) (.inr rfl) ?_;lk;show Χ Om (i:=0) rfl ?_;lk;show Χ Om (i:=1) rfl ?_;lk;show#[Δ,λt2 aO=>?_];show#[#[_,rfl],#[λz=>?_,r,t2,lr,g,rfl,υ,a],ζ.upd aO];injection z with z
  rw[z,m]at aO;cases aO
 let s:=W.trans s5;let tH:ς (jN G) Xh ((Ξ ls i j).map λr=>(r.1,r.2,true)):=mQ (by rw[aaz];omega) λn r' c=>by
  rw[abh]at c;let#[r,g,rfl]:=agJ.mp c;let hj:n<Xh.length:=by have:=(aap.mp g).1;omega
  let#[_,r',t,l,c,e,h1,h2]:=ab n _ (aab hj);rw[g]at c;cases c;show#[_,aab hj,t,l,e,h1,s _ _ h2]
 let a:layR ((Ξ ls i j).map λr=>(r.1,r.2,true)):=λr g x hx=>by
  let#[r0,B,rfl]:=ada.mp g;show(y r0 (af0 (ahq B))).lay x hx
 let Km:=L.imp λu r z=>jN.same z s
 let f:(PyData.list (((Ξ ls i j).map λr=>(r.1,r.2,true)).map fO)).canLay0=true:=RG a;let CP:(PyData.list (((Ξ ls i j).map λr=>(r.1,r.2,true)).map fO)).depth<=60:=by
  have:=Qz ((Ξ ls i j).map λr=>(r.1,r.2,true));simp only[PyData.depth];omega
 show aai hu (.lst (η.of (s _ _ v)) (RL Km a)) (.lst (η.of e8) (RL tH a)) f f CP ?_;rw[SeqAt.eqv_refl _ f];lk;let Ku:η K G I us:=η.of (s _ _ v);let sql:η K G ln lw:=η.of (s _ _ ig);show Ε ?_;w_up;show wG (by walk_at"po") (by rfl) (by intro _;rfl) ?_;lk;show#[I,_,rfl,Ku,λk σ' H'=>(∃o,σ'=[some (.ref pf),some (.ref ln),some (.int (i:Nat)),some (.int (j:Nat)),some (.int mo),some (.ref I),some bk,some fo,some (.int (ls.length:Nat)),some (.int (i:Nat)),some (.int mo),o])/\H'=G,#[#[none,rfl],rfl],λk σ' H' _ D=>?_,λk x σ' H' hx D=>?_,λσ' H' D=>?_]
 .rw[D.2];show Ku
 .let#[#[o,rfl],rfl]:=D;let#[r,F,t,l,rfl,h1,h2]:=Km.get hx;rw[abh]at F;let#[r0,B,rfl]:=agJ.mp F;show Β nd (by rfl) (.inl rfl) (.inl rfl) ?_;f_len;show Κ ?_;lk;show Χ (ρ.of h1) (i:=2) rfl ?_;lk;show aga #[false,rfl,?_];lk;show Ε #[#[_,rfl],rfl]
 let#[#[o,rfl],rfl]:=D;w_up;show Κ (vB ?_);lk;show dJ (λh=>absurd (by rw[lU]) h) (λ_=>?_);lk;show dJ (λh=>absurd rfl h) (λ_=>?_);lk;show dJ (λh=>absurd rfl h) (λ_=>?_);show Ε ?_;f_len;show ω ?_;let e1:V.bl (decide (bk=V.non))=V.bl (decide (V.int (i:Nat)=V.int 0)):=congrArg V.bl ((Sx dI).trans (decide_eq_decide.mpr #[λe=>by rw[e];rfl,λe=>by injection e with e;omega]));let e2:V.bl (decide (fo=V.non))=V.bl (decide (V.int (j:Nat)=V.int (lw.length:Nat))):=congrArg V.bl ((Sx R).trans (decide_eq_decide.mpr #[λe=>by rw[e,lU],λe=>by injection e with e;omega]));lk;show Ζ (λ_=>?_) (λh=>absurd e1 h);lk;rw[decide_eq_true e2];show q _ s
inductive Fo (K:ϩ) (mg:Str->Option ε) (t:Tr) (vs:List V) (H:Hp) (Q:VK) (E:XK):Prop
 |mk (A:BA) (B:Bk) (os:List Ord) (mo n:Nat) (sd:Bool) (xs:List V) (k:Int) (on:Bool):vs=[.ref A.b,cN false mo os (sT B.heads t) (some (.at_ sd xs k)),.int (n:Nat),.bl on]->iR K mg H A B os t mo n->cQ B.heads os xs->0<=k->k<=1000000000->((mo:Int)<B.known->∀p H',ζ H H'->H' p=some (.tup [.int 2,.int B.known])->Q (.ref p) H')->(B.known<=mo->∀p pf ls H',ζ H H'->Line B.heads os ls->ls.Perm ((bD B mo).filter λr=>Ϙ r.2 t)->gU H H' pf (qO mo os (sT B.heads t) ls.length (fY on B.heads os ls (.at_ sd xs k) n))->H' p=some (.tup [.int 1,.ref pf])->Q (.ref p) H')->Fo K mg t vs H Q E
theorem Eu(T:Txt K mg)(R:cX K mg base "sorted_by")(t:Tr)(i:t.dep<=20):Def P w K mg base true 55 "_law_turned" ["_law_book","_law_mark","_law_size","_law_ways"] (Fo K mg t):=by
 show Γ (S:=J6) T.Eu (λf Ϻ A' outer s H vs Q E hr h=>?_);intro X _;let#[A,B,os,mo,n,sd,xs,k,on,rfl,U,W,k0,k1,qg,q]:=h;let nd:=J6.nd;let n1:=T.vC;let c1:Gc mg "Gone" (.ref (θ mg "Gone")):=#[_,T.abK,rfl];let hsz:=ϱ;let D1:Def P w K mg base true 54 "turn_forth" ["book","mark","size"] (ur K mg t true):=DW T R t i;let D2:Def P w K mg base true 54 "turn_back" ["book","mark","size"] (ur K mg t false):=De T R t i;generalize hz:cN false mo os (sT B.heads t) (some (.at_ sd xs k))=z;k_go;show#[Δ,λp0 L=>?_];let#[m,e1]:=ϋ L (.tup [.int 0,.non]);generalize upd H p0 (.tup [.int 0,.non])=H1 at m e1⊢;w_up;show Az (λσ c d H'=>σ=[some (.ref A.b),some z,some (.int (n:Nat)),some (.bl on),some (.ref p0),none]/\ζ H1 H'/\∃E',d=(some E',true)/\c=.ref (θ mg "Gone")/\(mo:Int)<B.known/\H' E'=some (.xd [("known",.int B.known)])) rfl rfl (λF pn xo po=>?_) (λσ c d H' hK=>?_)
 .let fin:∀j ls H2,ζ H1 H2->B.known<=mo->Line B.heads os ls->ls.Perm ((bD B mo).filter λr=>Ϙ r.2 t)->gU H1 H2 j (qO mo os (sT B.heads t) ls.length (fY on B.heads os ls (.at_ sd xs k) n))->∀p,H2 p=none->Q (.ref p) (upd H2 p (.tup [.int 1,.ref j])):=λj ls H2 y a D G g p l=>by
   let Y:=ζ.upd (o:=.tup [.int 1,.ref j]) l;show q a p j ls _ ((m.trans y).trans Y) D G ((g.old m).same Y) υ
  let x:mX mg B mo H1 λc d H'=>[some (.ref A.b),some z,some (.int (n:Nat)),some (.bl on),some (.ref p0),none]=[some (.ref A.b),some z,some (.int (n:Nat)),some (.bl on),some (.ref p0),none]/\ζ H1 H'/\∃E',d=(some E',true)/\c=.ref (θ mg "Gone")/\(mo:Int)<B.known/\H' E'=some (.xd [("known",.int B.known)]):=λh e H' sm J=>#[rfl,sm,e,rfl,rfl,h,J]
  f_len;show Κ ?_;cases on with
  |true=>
   lk;f_len;f_tup;lk;show#[A,B,os,mo,n,sd,xs,k,by rw[hz],U.same m,W,k0,k1,i,x,λa j ls H2 y D G g=>?_];lk;show#[Δ,λp l=>?_];show Ε ?_;f_len;show ω ?_;lk;show fin j ls H2 y a D G g p l
  |false=>
   lk;f_len;f_tup;lk;show#[A,B,os,mo,n,sd,xs,k,by rw[hz],U.same m,W,k0,k1,i,x,λa j ls H2 y D G g=>?_];lk;show#[Δ,λp l=>?_];show Ε ?_;f_len;show ω ?_;lk;show fin j ls H2 y a D G g p l
 .let#[rfl,sm,E',rfl,rfl,M,I]:=hK;show YB nd (by rfl) (by rfl) (by rfl) T.vo.at_ (by decide) (aeL T.uK T.vo) (λe pn J=>?_);let O:(upd H' e (xw e (θ mg "Gone") (some E'))) e=some (xw e (θ mg "Gone") (some E')):=υ;let x:(upd H' e (xw e (θ mg "Gone") (some E'))) E'=some (.xd [("known",.int B.known)]):=by rw[ο (Ψ I J)];show I
  let Z:ζ H (upd H' e (xw e (θ mg "Gone") (some E'))):=(m.trans sm).trans (ζ.upd J);generalize upd H' e (xw e (θ mg "Gone") (some E'))=Hu at O x Z⊢;f_len;show Κ ?_;lk;show agu T.uK.attr O (λE2 z=>by cases z;show#[_,x]) (λu z=>z) (adv T.uK) ?_;lk;f_len;f_tup;lk;show aj5 (e:=e) (C:=θ mg "Gone") (E':=E') (v:=.int B.known) (fs:=[("known",.int B.known)]) (by rfl) T.uK.attr T.ac5 (λu z=>by let#[t,rfl]:=z;rfl) ?_;f_are;show#[rfl,O,x,rfl,?_];lk;show#[Δ,λp l=>?_];show Ρ _ _ _ [some (.ref A.b),some z,some (.int (n:Nat)),some (.bl on),some (.ref p),none] _;f_len;show ω ?_;lk;show qg M p _ (Z.trans (ζ.upd l)) υ
theorem zj{α:Type}{p:α->Bool}:∀{l:List α}{i:Nat},i<=l.length->(∀j x,l[j]?=some x->p x=decide (j<i))->l.countP p=i
 |[],i,hi,_=>by simp at hi;rw[hi];rfl
 |x::l,0,_,h=>api.mpr λy a=>by
  let#[j,c,e]:=aor a;rw[h j y (by rw[aab c,e])];simp
 |x::l,i+1,hi,h=>by
  let f:=h 0 x rfl;rw[aoV (by rw[f];rfl),zj (i:=i) (by simpa using hi) λj y a=>by rw[h (j+1) y (by simpa using a)];simp]
theorem uQ{os:List Ord}{ls:List Row}(h:Line ι os ls){i j:Nat}{r q:Row}(a:i<j)(c:ls[i]?=some r)(e:ls[j]?=some q):aW ι os r q=true:=by
 let#[h1,e1]:=aap.mp c;let#[h2,f]:=aap.mp e;rw[<-e1, <-f];show anH.mp h i j h1 h2 a
theorem zE{os:List Ord}(a:aB ι os){r:Row}(c:ό ι r):aW ι os r r=false:=by
 show aa os _ _ r.1 r.1=false;rw[yz (b7 c a).len.symm];show decide_eq_false ()
theorem Vg{os:List Ord}(c:aB ι os){r q:Row}(a:ό ι r)(f:ό ι q)(h:aW ι os r q=true):aW ι os q r=false:=by
 cases e:aW ι os q r with
 |false=>rfl
 |true=>
  have:=Pb c a f a h e;rw[zE c a]at this;cases this
theorem Nf{os:List Ord}(f:aB ι os){ls:List Row}(l:∀r∈ls,ό ι r)(g:Line ι os ls){i:Nat}{r:Row}(e:ls[i]?=some r)(sd:Bool):ϥ ι os (.at_ sd (ao ι os r.2) r.1) ls=i+(if sd=true then 0 else 1):=by
 let hi:=(aap.mp e).1;let c:=l r (aaq e);cases sd with
 |true=>
  show ϥ ι os (.at_ true (ao ι os r.2) r.1) ls=i;show zj () λj q a=>?_
  show aW ι os q r=decide (j<i);let m:=l q (aaq a);obtain h|h|h:=apB j i
  .rw[uQ g h a e,decide_eq_true h]
  .subst h;rw[e]at a;cases a;rw[zE f c,decide_eq_false ()]
  .rw[Vg f c m (uQ g h e a),decide_eq_false ()]
 |false=>
  show ϥ ι os (.at_ false (ao ι os r.2) r.1) ls=i+1;show zj () λj q a=>?_
  show(!aW ι os r q)=decide (j<i+1);let m:=l q (aaq a);obtain h|h|h:=apB j i
  .rw[Vg f m c (uQ g h a e),decide_eq_true ()];rfl
  .subst h;rw[e]at a;cases a;rw[zE f c,decide_eq_true ()];rfl
  .rw[uQ g h e a,decide_eq_false ()];rfl
theorem akf{os:List Ord}(a:aB ι os){ls:List Row}(f:∀r∈ls,ό ι r)(g:Line ι os ls){i j:Nat}{c:Ct}(m:i<=j)(n:j<=ls.length)(l:i=j->ϥ ι os c ls=i):ϥ ι os (fW ι os true ((Ξ ls i j).take 1) c) ls=i/\ϥ ι os (fW ι os false ((Ξ ls i j).drop ((Ξ ls i j).length-1)) c) ls=j:=by
 let sl:=Aq ls (i:=i) n;by_cases e:i=j
 .let o:Ξ ls i j=[]:=ame ();rw[o];show#[l e,by rw[<-e];show l e]
 .let h1:(Ξ ls i j).take 1=[ls[i]'()]:=by
   unfold Ξ;rw[List.take_take,am7 (),afy ()];rfl
  let h2:(Ξ ls i j).drop ((Ξ ls i j).length-1)=[ls[j-1]'()]:=by
   rw[sl];unfold Ξ;rw[List.drop_take,aoa,show j-i-(j-i-1)=1 by omega,show i+(j-i-1)=j-1 by omega,afy ()];rfl
  rw[h1,h2];show#[(Nf a f g (aab _) true).trans (by simp),(Nf a f g (aab _) false).trans ?_];show j-1+1=j;omega
def cR(on:Bool)(n m i:Nat):Nat×Nat:=if on=true then(i,min (i+n) m)else(i-n,i)
theorem Gy(on:Bool)(os:List Ord)(ls:List Row)(c:Ct)(n:Nat):fY on ι os ls c n=Ϣ ι os ls c (cR on n ls.length (ϥ ι os c ls)).1 (cR on n ls.length (ϥ ι os c ls)).2:=by
 cases on<;>rfl
theorem ah5{on:Bool}{n m i:Nat}(h:i<=m):(cR on n m i).1<=(cR on n m i).2/\(cR on n m i).2<=m:=by
 cases on
 .show#[by show i-n<=i;omega,h]
 .show#[by show i<=min (i+n) m;omega,aoh ..]
theorem abd{on:Bool}{n m i:Nat}(h:i<=m)(n1:1<=n)(e:(cR on n m i).1=(cR on n m i).2):(cR on n m i).1=i:=by
 cases on
 .let a:i-n=i:=e;show a
 .rfl
theorem acu{r1 r2:List Row}(n1:(r1.map (·.1)).Nodup)(n2:(r2.map (·.1)).Nodup)(h:∀i,Η r1 i=Η r2 i):r1.Perm r2:=by
 let j:(r1.map (·.1)).Perm (r2.map (·.1)):=(List.perm_ext_iff_of_nodup n1 n2).mpr λx=>by
  let a:=yI (m:=r1) (i:=x);let b:=yI (m:=r2) (i:=x);rw[h]at a;let c:=a.symm.trans b;show#[λf=>Classical.byContradiction λg=>c.mpr g f,λf=>Classical.byContradiction λg=>c.mp g f]
 let e:=yZ n1 (List.Perm.refl _);rw[Zt h]at e;show e.symm.trans (yZ n2 j)
theorem Jj{all:List ϕ}{B:Bk}(h:mD all B){mo:Nat}(g:mo<=all.length)(j:B.known<=mo):iV B.rows (B.done.drop ((mo:Int)-B.known).toNat)/\(bD B mo).Perm (dW (all.take mo))/\((bD B mo).map Prod.fst).Nodup:=by
 let a:=h.kn;let e:B.done.drop ((mo:Int)-B.known).toNat=all.drop mo:=by
  rw[h.done,aoa]
  congr 1
  omega
 let#[c,f]:=back_eq h.good (all.length-mo) mo ();let nd:((bD B mo).map Prod.fst).Nodup:=by
  unfold bD;rw[h.rows];show TJ (T8 all) _
 show#[by rw[e,h.rows];show f,acu nd (T8 _) λi=>?_,nd];unfold bD;rw[e,h.rows];show c i
theorem Tb.live{F:List δ}{A:BA}{d:δ}{H:Hp}{B:Bk}(h:Tb mg F A d H B):∀x∈d::A.fp,∃o,H x=some o/\∀ys,¬o=.tup ys:=λx hx=>by
 obtain rfl|hx:=aaG.mp hx
 .let#[Ϸ,e,_]:=h.ro;show#[_,e,λys z=>by cases z]
 .obtain⟨fs,z⟩|⟨Ϸ,z⟩|⟨xs,z⟩:=h.bk.Lb hx<;>show⟨_,z,λys z=>by cases z⟩
structure ak(mg:Str->Option ε)(A:BA)(d:δ)(H:Hp)(B:Bk)(all:List ϕ)(i:Nat):Prop where
 tb:Tb mg (d::A.fp) A d H B
 ap:d∉A.six
 dk:jQ B i
 hs:mD all B
 al:all.length<=i
section
variable{A:BA}{d:δ}{H H':Hp}{B:Bk}{all:List ϕ}{i:Nat}
theorem ak.same(h:ak mg A d H B all i)(s:ζ H H'):ak mg A d H' B all i:=#[h.tb.same s,h.ap,h.dk,h.hs,h.al]
theorem ak.yG(h:ak mg A d H B all i)(hi:i<=1000):qi B:=h.hs.yG (by have:=h.al;omega)
theorem ak.live(h:ak mg A d H B all i):∀x∈d::A.fp,H x≠none:=λx a e=>by
 let#[o,z,_]:=h.tb.live x a;rw[e]at z;cases z
theorem ak.deed(h:ak mg A d H B all i){row:Int}{o:Option (List V)}(a:0<=row)(r1:row<90)(hok:∀xs,o=some xs->ό ι (row,xs))(c:Η B.rows row=none->o≠none)(e:Tb mg (d::A.fp) A d H' (dN B row o)):ak mg A d H' (dN B row o) (all++[#[B.now+1,row,Η B.rows row,o]]) (i+1):=#[e,h.ap,h.dk.deed a r1 hok,h.hs.Z9 row o c,by have:=h.al;rw[abu,ael];omega]
theorem ak.go(h:ak mg A d H B all i){d':δ}{x:Int}(p:B.known<x)(j:x<=B.now)(hd:H d'=none)(o:Out [A.b] H H')(m:Ν (cB mg) H' {A with d:=d'} {B with done:=B.done.drop (x-B.known).toNat,known:=x}):ak mg {A with d:=d'} d H' {B with done:=B.done.drop (x-B.known).toNat,known:=x} all i:=by
 let#[Ϸ,e,n]:=h.tb.ro;let kn:=h.hs.kn;let c:d∉[A.b]:=λz=>h.ap (by rw[abx.mp z];simp[BA.six])
 let f:¬d=d':=λz=>by rw[z,hd]at e;cases e
 let dk:=h.dk;show#[#[m,Ϸ,o _ _ c e,dU n λv y z=>?_],λz=>?_,#[dk.heads,dk.nd,dk.wf,dk.ok,dk.keys,dk.rl,dk.tl,?_],#[h.hs.rows,?_,h.hs.now,#[by show 0<=x;omega,j],h.hs.good,h.hs.wf],h.al]
 .let#[l,e1,g,a]:=z;show#[l,e1,o _ _ (λz=>a (by rw[abx.mp z];simp[BA.fp])) g,λz=>?_];let z':l=d\/l=A.b\/l=A.r\/l=A.t\/l=d':=by simpa [BA.fp]using z
  obtain z|z|z|z|z:=z'
  .show a (by rw[z];simp)
  .show a (by rw[z];simp[BA.fp])
  .show a (by rw[z];simp[BA.fp])
  .show a (by rw[z];simp[BA.fp])
  .rw[z,hd]at g;cases g
 .have :=h.ap;simp[BA.six]at this z;obtain z|z|z|z|z|z:=z
  .show this.1 z
  .show this.2.1 z
  .show this.2.2.1 z
  .show f z
  .show this.2.2.2.2.1 z
  .show this.2.2.2.2.2 z
 .show(B.done.drop _).length<=i;have:=dk.dl;rw[adH];omega
 .show B.done.drop (x-B.known).toNat=all.drop x.toNat;rw[h.hs.done,aoa]
  congr 1
  omega
end
theorem Jb{A:BA}{d d' l:δ}{H:Hp}{ys:List V}(h:l∉d::A.fp)(e:H l=some (.lst ys))(hd:d'=A.d\/H d'=none):l∉d::({A with d:=d'}:BA).fp:=λz=>by
 let z':l=d\/l=A.b\/l=A.r\/l=A.t\/l=d':=by simpa [BA.fp]using z
 obtain z|z|z|z|z:=z'
 .show h (by rw[z];simp)
 .show h (by rw[z];simp[BA.fp])
 .show h (by rw[z];simp[BA.fp])
 .show h (by rw[z];simp[BA.fp])
 .obtain q|q:=hd
  .show h (by rw[z,q];simp[BA.fp])
  .rw[z,q]at e;cases e
end
end _K
namespace _K
open PySem _L PyProof.Rows _M _V _W
section
variable{P:ϯ}{w:ϭ}{K:ϩ}{mg:Str->Option ε}{base:ϫ}
inductive Wi (K:ϩ) (mg:Str->Option ε) (vs:List V) (H:Hp) (Q:VK) (E:XK):Prop
 |mk (A:BA) (B:Bk) (all:List ϕ) (i:Nat) (sc d:δ) (ns:List Int) (k mo:Nat):vs=[.ref sc,.int (k:Nat),.ref A.b,.ref d,.int (mo:Nat)]->η K H sc (ns.map V.int)->((∀H',η K H' sc (ns.map V.int))\/sc∉d::A.fp)->ns.length<=63->k<40->ak mg A d H B all i->i<=9+3*min k 8->(mo:Int)<=B.now->(∀(d':δ) B' ds i' H',Out (d::A.fp) H H'->d'=A.d\/H d'=none->ak mg {A with d:=d'} d H' B' (all++ds) i'->i'<=9+3*min (k+1) 8->Q .non H')->Wi K mg vs H Q E
theorem Ai(T:Txt K mg):Def P w K mg base true 8 "_law_between" ["_law_script","_law_k","_law_book","_law_table","_law_moment"] (Wi K mg):=by
 show Γ (S:=Xy) T.Ai (λf Ϻ A' outer s H vs Q E O h=>?_);intro X _;let#[A,B,all,i,sc,d,ns,k,mo,rfl,hS,sZ,G,hk,h9,hi,I,q]:=h;let nd:=Xy.nd;let n1:=T.Gp;let hsz:=ϱ;let D0:= @jV P w K mg base T;let D1:= @wC P w K mg base T;let M1:Ϟ P w K mg base true 4 (cB mg) "let_go" ["self","moment"] (yd mg):=(aj6 T).meth T.Ϝ T.ab3;let M2:Ϟ P w K mg base true 1 (cB mg) "moment" ["self"] (cY mg Bk.now):=(vQ T).meth T.Ϝ T.yO;let L:∀{H1:Hp},Out (d::A.fp) H H1->η K H1 sc (ns.map V.int):=λo=>by
  obtain z|z:=sZ
  .show z _
  .show o.seq z hS
 let rest:∀(y:Option V)(a:Bk)(ds:List ϕ)(D:Nat)(H1:Hp),Out (d::A.fp) H H1->ak mg A d H1 a (all++ds) D->D<=9+3*min (k+1) 8->(mo:Int)<=a.now->Ρ X ((aA Ah).drop 1) {nx:=λ_ H'=>Q .non H',rt:=Q} [some (.ref sc),some (.int (k:Nat)),some (.ref A.b),some (.ref d),some (.int (mo:Nat)),y,none] H1:=by
  intro y a ds D H1 l h1 C g;let dI:=h1.tb.bk;let R:=h1.yG ();f_len;show Κ ?_;lk;show#[sc,ns,5,30,rfl,L l,G,by decide,by decide,by decide,?_];lk;show Ζ (λ_=>?_) (λ_=>?_)
  .w_up;f_tup;lk;show fL (pl:=_) O ύ ?_;f_are;show#[A.b,cB mg,A.dx,_,true,1,_,cY mg Bk.now,rfl,dI.ins,by rfl,M2,(),id,A,a,rfl,dI,?_];lk;show#[Δ,λp hp=>?_];let#[U,e2]:=ϋ hp (.lst [.int (mo:Nat),.int (mo:Nat),.int ((mo:Nat)+1),.int a.now]);generalize upd H1 p (.lst [.int (mo:Nat),.int (mo:Nat),.int ((mo:Nat)+1),.int a.now])=H2 at U e2⊢;let h2:=h1.same U;let F:Out (d::A.fp) H H2:=l.trans (Out.of U);f_len;show aM ?_;show bZ (pl:=_) O ύ (h:=?_);f_are;show#[A.b,cB mg,A.dx,_,true,4,_,yd mg,rfl,h2.tb.bk.ins,by rfl,M1,(),id,?_];lk;show#[sc,ns,6,4,rfl,L F,G,by decide,by decide,by decide,?_];lk;show fL (pl:=_) O ύ ?_;f_are;show#[A.b,cB mg,A.dx,_,true,1,_,cY mg Bk.now,rfl,h2.tb.bk.ins,by rfl,M2,(),id,A,a,rfl,h2.tb.bk,?_];lk;let M:=gG ns 6 (m:=4) (by decide);let c1:=gB ns 6 (m:=4) (by decide);let m0:=ani (bF ns 6 4) (b:=1+a.now-(mo:Nat)) ();let m1:=ak9 (bF ns 6 4) (b:=1+a.now-(mo:Nat)) ();let m2:bF ns 6 4 % (1+a.now-(mo:Nat))<=3:=by
    let h1:=Int.emod_add_mul_ediv (bF ns 6 4) (1+a.now-(mo:Nat));let h2:=Int.mul_nonneg (show 0<=1+a.now-(mo:Nat)by omega) (Int.ediv_nonneg M (show 0<=1+a.now-(mo:Nat)by omega));omega
   generalize bF ns 6 4 % (1+a.now-(mo:Nat))=jj at m0 m1 m2⊢;let#[j,rfl]:=adi m0;let J:∃x:Int,[V.int (mo:Nat),.int (mo:Nat),.int ((mo:Nat)+1),.int a.now][j]?=some (.int x)/\(mo:Int)<=x/\x<=a.now:=by
    obtain _|_|_|_|j:=j
    .show#[_,rfl,(),g]
    .show#[_,rfl,(),g]
    .show#[_,rfl,(),()]
    .show#[_,rfl,g,()]
    .omega
   let#[x,W,hx2,bB]:=J;show ϡ (η.of e2) (v:=.int x) (aY W) ?_;lk;show#[A,a,x,rfl,h2.tb.bk,R,λ_=>?_,(λz=>absurd z ()),λY _ d' H3 n o3 k3=>?_]
   .show q A.d a ds D H2 F (.inl rfl) h2 C
   .let ob:∀x∈[A.b],x∈d::A.fp:=λx J=>by rw[abx.mp J];simp[BA.fp]
    show q d' _ ds D H3 (F.trans (o3.mono ob)) (.inr ?_) (h2.go Y bB n o3 k3) C;cases e:H d' with
    |none=>rfl
    |some u=>
     by_cases hm:d'∈d::A.fp
     .show absurd n (h2.live d' hm)
     .rw[F _ _ hm e]at n;cases n
  .show Ε (q A.d a ds D H1 l (.inl rfl) h1 C)
 w_up;show Κ ?_;lk;show Ζ (λh8=>?_) (λh8=>?_)
 .f_len;show Gz (by walk_at"po") (by rfl) (by rfl) n1 (by rfl) ?_;lk;show#[sc,ns,20+(k:Nat),4,rfl,hS,G,(),(),by decide,?_];let M:=gG ns (20+(k:Nat)) (m:=4) (by decide);let c1:=gB ns (20+(k:Nat)) (m:=4) (by decide);generalize bF ns (20+(k:Nat)) 4=cc at M c1⊢;let#[c,rfl]:=adi M;show#[(c:Nat),rfl,(),(),λj σ H'=>∃y,σ=[some (.ref sc),some (.int (k:Nat)),some (.ref A.b),some (.ref d),some (.int (mo:Nat)),y,none]/\Out (d::A.fp) H H'/\∃a ds,ak mg A d H' a (all++ds) (i+j)/\(mo:Int)<=a.now,#[none,rfl,Out.refl _ _,B,[],by rw[ag5];show h9,I],λj σ' H' hj Z=>?_,λσ' H' Z=>?_]
  .let#[y,rfl,l,a,ds,h1,g]:=Z;show Β nd (by rfl) (.inl rfl) (.inl rfl) ?_;f_len;show aM ?_;lk;show#[sc,ns,40+3*(k:Nat)+(j:Nat),4,rfl,L l,G,(),(),by decide,?_];generalize bF ns (40+3*(k:Nat)+(j:Nat)) 4=ab;lk;show#[d::A.fp,A,a,i+j,sc,d,ns,12+3*(k:Nat)+(j:Nat),ab,rfl,L l,G,(),(),h1.tb,#[h1.ap,λx J=>J],h1.live,h1.dk,(),λrow o H2 r0 r1 hok ho F ac=>?_];show#[_,rfl,l.trans F,_,ds++[#[a.now+1,row,Η a.rows row,o]],by rw[<-ajF];show h1.deed r0 r1 hok ho ac,?_];show(mo:Int)<=a.now+1;omega
  .let#[y,rfl,l,a,ds,h1,g]:=Z;rw[show((c:Nat):Int).toNat=c from aoE c]at h1;show rest y a ds _ H' l h1 () g
 .show Ε (rest none B [] i H (Out.refl _ _) (by rw[ag5];show h9) () I)
def ae7(F:List δ)(H:Hp)(v:V)(r:Row):=∃t l,v=.ref t/\H t=some (.tup [.int r.1,.ref l])/\H l=some (.lst r.2)/\l∉F
structure bQ(K:ϩ)(mg:Str->Option ε)(H0:Hp)(A:BA)(d sc ln:δ)(ns:List Int)(os:List Ord)(kS:Nat)(B:Bk)(all:List ϕ)(ls:List Row)(lw:List V):Prop where
 sF:(∀H',η K H' sc (ns.map V.int))\/sc∉d::A.fp
 scL:η K H0 sc (ns.map V.int)
 nl:ns.length<=63
 tb:H0 (bx K "sorted_by")=some (.tbl gR)
 tbF:bx K "sorted_by"∉d::A.fp
 Zg:H0 ln=some (.lst lw)
 FN:ln∉d::A.fp
 rw_:ς (ae7 (d::A.fp) H0) lw ls
 li:Line ι os ls
 pm:ls.Perm (B.rows.filter λr=>Ϙ r.2 (Ϛ kS))
 st:ak mg A d H0 B all 9
 inc:aB ι os
 o4:os.length<=4
 jh:(os.map Prod.fst).Nodup
 k4:kS<4
section
variable{H0 H:Hp}{A:BA}{d sc ln:δ}{ns:List Int}{os:List Ord}{kS:Nat}{B:Bk}{all:List ϕ}{ls:List Row}{lw:List V}
theorem bQ.nt(c:bQ K mg H0 A d sc ln ns os kS B all ls lw):NT H0 (d::A.fp):=λx a ys e=>by
 let#[o,z,g]:=c.st.tb.live x a;rw[e]at z;cases z;show g _ rfl
theorem bQ.keep(c:bQ K mg H0 A d sc ln ns os kS B all ls lw)(o:Out (d::A.fp) H0 H):η K H sc (ns.map V.int)/\H (bx K "sorted_by")=some (.tbl gR)/\H ln=some (.lst lw)/\ς (cC H) lw ls:=by
 show#[?_,o _ _ c.tbF c.tb,o _ _ c.FN c.Zg,c.rw_.imp λu r z=>?_]
 .obtain z|z:=c.sF
  .show z _
  .show o.seq z c.scL
 .let#[t,l,e,h1,h2,a]:=z;show#[t,l,e,c.nt.tup o _ _ h1,o _ _ a h2]
theorem bQ.fit(c:bQ K mg H0 A d sc ln ns os kS B all ls lw):∀r∈ls,ό ι r:=λr a=>c.st.dk.ok r (ajV.mp (c.pm.mem_iff.mp a)).1
theorem bQ.len(c:bQ K mg H0 A d sc ln ns os kS B all ls lw):ls.length<=9:=aes (amJ c.pm.length_eq) (aes (aib ..) c.st.dk.rl)
theorem bQ.Hv(c:bQ K mg H0 A d sc ln ns os kS B all ls lw):jR ι os ls:=#[by decide,c.o4,c.inc,c.fit,c.li,by have:=c.len;omega]
theorem bQ.num(c:bQ K mg H0 A d sc ln ns os kS B all ls lw):∀r∈ls,0<=r.1/\r.1<=1000000000:=λr a=>by
 have:=c.st.dk.keys r (ajV.mp (c.pm.mem_iff.mp a)).1;omega
theorem Ye(s:ak mg A d H0 B all 9){d':δ}{B':Bk}{ds:List ϕ}{i n:Nat}(h:ak mg {A with d:=d'} d H B' (all++ds) i)(tb:H (bx K "sorted_by")=some (.tbl gR))(inc:aB ι os)(o4:os.length<=4)(jh:(os.map Prod.fst).Nodup)(k4:kS<4)(hi:i<=100)(n1:1<=n)(n2:n<=100):iR K mg H {A with d:=d'} B' os (Ϛ kS) all.length n:=by
 let f:=h.hs.now;rw[abu]at f;let a:=h.dk.heads;let q:=h.dk.rl;let u:=h.dk.dl;let v:=s.dk.rl;let al:=s.al;let#[g,j]:=Bu k4;show#[#[h.tb.bk,h.yG (),(),(),(),λl=>?_],#[by rw[a];show rN,o4,by rw[a];show inc,jh,by rw[a];show abD k4,(),by rw[a];show j,()],n1,n2,tb];let#[m,c,o]:=Jj h.hs (mo:=all.length) (by rw[abu];omega) l;rw[ap1 rfl, <-s.hs.rows]at c;show#[m,by rw[c.length_eq];omega,o,λr p=>?_];let e:=c.mem_iff.mp p;have:=s.dk.keys r e;rw[a];show#[s.dk.ok r e,(),()]
theorem bQ.ins(c:bQ K mg H0 A d sc ln ns os kS B all ls lw)(o:Out (d::A.fp) H0 H){d':δ}{B':Bk}{ds:List ϕ}{i n:Nat}(h:ak mg {A with d:=d'} d H B' (all++ds) i)(hi:i<=100)(n1:1<=n)(n2:n<=100):iR K mg H {A with d:=d'} B' os (Ϛ kS) all.length n:=Ye c.st h (c.keep o).2.1 c.inc c.o4 c.jh c.k4 hi n1 n2
theorem bQ.Qw(c:bQ K mg H0 A d sc ln ns os kS B all ls lw){d':δ}{B':Bk}{ds:List ϕ}{i:Nat}(h:ak mg {A with d:=d'} d H B' (all++ds) i)(g:B'.known<=(all.length:Nat)){a:List Row}(e:Line B'.heads os a)(j:a.Perm ((bD B' all.length).filter λr=>Ϙ r.2 (Ϛ kS))):a=ls:=by
 rw[h.dk.heads]at e;let#[_,f,_]:=Jj h.hs (mo:=all.length) (by rw[abu];omega) g;rw[ap1 rfl, <-c.st.hs.rows]at f;show(XD c.inc c.fit ((c.pm.trans (f.filter _).symm).trans j.symm) c.li e).symm
end
def ik(F:List δ)(H:Hp)(p:δ)(mo:Nat)(os:List Ord)(z:Str)(m:Nat)(L:Lf):=∃q us,H p=some (.tup [.ref q,cN false mo os z L.back,cN false mo os z L.bj,.int (m:Nat),.int (L.start:Nat),.int (mo:Nat)])/\H q=some (.lst us)/\q∉F/\ς (λv(r:Row)=>∃t l,v=V.ref t/\H t=some (.tup [.int r.1,.ref l,.bl true])/\H l=some (.lst r.2)/\l∉F) us L.rows
theorem Ru{F:List δ}{H H':Hp}{p:δ}{mo m:Nat}{os:List Ord}{z:Str}{L:Lf}(c:∀x∈F,H x≠none)(h:gU H H' p (qO mo os z m L)):ik F H' p mo os z m L:=by
 let#[q,us,h1,h2,f,g]:=h;let a:ς (λv(r:fQ)=>∃t l,v=V.ref t/\H' t=some (.tup [.int r.1,.ref l,.bl r.2.2])/\H l=none/\H' l=some (.lst r.2.1)) us (L.rows.map λr=>(r.1,r.2,true)):=g;show#[q,us,h1,f,λz=>c q z h2,mQ (by have:=a.len;rw[aaz]at this;show this.symm) λj r n=>?_];let#[v,o,t,l,e,s,u,y]:=a.get' (i:=j) (b:=(r.1,r.2,true)) (by rw[abh,n];rfl);show#[v,o,t,l,e,s,y,λz=>c l z u]
theorem ik.out{A:BA}{d d':δ}{H H':Hp}{p:δ}{mo m:Nat}{os:List Ord}{z:Str}{L:Lf}(h:ik (d::A.fp) H p mo os z m L)(nt:NT H (d::A.fp))(o:Out (d::A.fp) H H')(hd:d'=A.d\/H d'=none):ik (d::({A with d:=d'}:BA).fp) H' p mo os z m L:=by
 let#[q,us,h1,h2,a,g]:=h;show#[q,us,nt.tup o _ _ h1,o _ _ a h2,Jb a h2 hd,g.imp λv r x=>by
  let#[t,l,e,i,c,f]:=x;show#[t,l,e,nt.tup o _ _ i,o _ _ f c,Jb f c hd]]
theorem ik.same{F:List δ}{H H':Hp}{p:δ}{mo m:Nat}{os:List Ord}{z:Str}{L:Lf}(h:ik F H p mo os z m L)(s:ζ H H'):ik F H' p mo os z m L:=by
 let#[q,us,h1,h2,a,c]:=h;show#[q,us,s _ _ h1,s _ _ h2,a,c.imp λv r x=>by
  let#[t,l,e,f,g,i]:=x;show#[t,l,e,s _ _ f,s _ _ g,i]]
end
end _K
namespace _K
open PySem _L PyProof.Rows _M _V _W
section
variable{P:ϯ}{w:ϭ}{K:ϩ}{mg:Str->Option ε}{base:ϫ}
structure mL(os:List Ord)(ls:List Row)(c:Ct)(i j:Nat):Prop where
 ij:i<=j
 jl:j<=ls.length
 pl:i=j->ϥ ι os c ls=i
 ok:∀d,(Ϣ ι os ls c i j).back=some d\/(Ϣ ι os ls c i j).bj=some d->ie ι os d
theorem G6{os:List Ord}{ls:List Row}{c:Ct}{on:Bool}{n:Nat}(g:jR ι os ls)(i:∀r∈ls,0<=r.1/\r.1<=1000000000)(j:qH ι os on c)(n1:1<=n:=by omega):mL os ls c (cR on n ls.length (ϥ ι os c ls)).1 (cR on n ls.length (ϥ ι os c ls)).2:=by
 let f:=yC (cs:=ι) (os:=os) (c:=c) (rs:=ls);let#[a,b]:=ah5 (on:=on) (n:=n) f;show#[a,b,λe=>(abd f n1 e).symm,?_];rw[<-Gy];show Tq g i n1 j
theorem mL.marks{os:List Ord}{ls:List Row}{c:Ct}{i j:Nat}(l:jR ι os ls)(h:mL os ls c i j)(mo:Nat)(z:Str)(on:Bool):nY (cN false mo os z (if on=true then(Ϣ ι os ls c i j).bj else(Ϣ ι os ls c i j).back)) (if on=true then j=ls.length else i=0)/\
  ∀e,(if on=true then(Ϣ ι os ls c i j).bj else(Ϣ ι os ls c i j).back)=some e->ie ι os e/\ϥ ι os e ls=if on=true then j else i:=by
 let#[p1,p2]:=akf l.inc l.fit l.line h.ij h.jl h.pl;cases on with
 |true=>
  show nY (cN false mo os z (Ϣ ι os ls c i j).bj) (j=ls.length)/\∀e,(Ϣ ι os ls c i j).bj=some e->ie ι os e/\ϥ ι os e ls=j;show#[?_,λe f=>#[h.ok e (.inr f),?_]]
  .by_cases g:j<ls.length
   .let e:(Ϣ ι os ls c i j).bj=some (fW ι os false ((Ξ ls i j).drop ((Ξ ls i j).length-1)) c):=if_pos g;let#[sd,xs,n,m,_]:=h.ok _ (.inr e);rw[e,m];show .inr #[_,rfl,()]
   .let e:(Ϣ ι os ls c i j).bj=none:=if_neg g;rw[e];show .inl #[rfl,by have:=h.jl;omega]
  .let a:(if j<ls.length then some (fW ι os false ((Ξ ls i j).drop ((Ξ ls i j).length-1)) c)else none)=some e:=f;split at a
   .cases a;show p2
   .cases a
 |false=>
  show nY (cN false mo os z (Ϣ ι os ls c i j).back) (i=0)/\∀e,(Ϣ ι os ls c i j).back=some e->ie ι os e/\ϥ ι os e ls=i;show#[?_,λe f=>#[h.ok e (.inl f),?_]]
  .by_cases g:0<i
   .let e:(Ϣ ι os ls c i j).back=some (fW ι os true ((Ξ ls i j).take 1) c):=if_pos g;let#[sd,xs,n,m,_]:=h.ok _ (.inl e);rw[e,m];show .inr #[_,rfl,()]
   .let e:(Ϣ ι os ls c i j).back=none:=if_neg g;rw[e];show .inl #[rfl,()]
  .let a:(if 0<i then some (fW ι os true ((Ξ ls i j).take 1) c)else none)=some e:=f;split at a
   .cases a;show p1
   .cases a
abbrev jm(kS:Nat):Str:=sT ι (Ϛ kS)
def GC(mg:Str->Option ε)(H0:Hp)(A:BA)(d sc ln:δ)(os:List Ord)(kS:Nat)(all:List ϕ)(ls:List Row)(k:Nat)(σ:_L.St)(H:Hp):Prop:=
 ∃(d':δ)(B':Bk)(ds:List ϕ)(a:Nat)(e sp:δ)(c:Ct)(i j:Nat)(f g l m n:Option V),σ=[some (.ref sc),some (.ref A.b),some (.ref d),some (.ref ln),some (.ref e),some (.ref sp),some (.int (all.length:Nat)),f,g,l,m,n]/\Out (d::A.fp) H0 H/\(d'=A.d\/H0 d'=none)/\ak mg {A with d:=d'} d H B' (all++ds) a/\a<=9+3*min k 8/\
  ik (d::({A with d:=d'}:BA).fp) H e all.length os (jm kS) ls.length (Ϣ ι os ls c i j)/\H sp=some (.tup [.int (i:Nat),.int (j:Nat)])/\mL os ls c i j
theorem ak.nt{A:BA}{d:δ}{H:Hp}{B:Bk}{all:List ϕ}{i:Nat}(h:ak mg A d H B all i):NT H (d::A.fp):=λx a ys e=>by
 let#[o,z,g]:=h.tb.live x a;rw[e]at z;cases z;show g _ rfl
theorem ae2{A:BA}{d d' a:δ}{H0 H H':Hp}{B:Bk}{all:List ϕ}{i:Nat}(o:Out (d::A.fp) H0 H)(hd:d'=A.d\/H0 d'=none)(h:ak mg {A with d:=d'} d H B all i)(g:Out (d::({A with d:=d'}:BA).fp) H H')(h2:a=d'\/H a=none):Out (d::A.fp) H0 H'/\(a=A.d\/H0 a=none):=by
 show#[λb u c e=>g _ _ (λz=>?_) (o _ _ c e),?_]
 .let z':b=d\/b=A.b\/b=A.r\/b=A.t\/b=d':=by simpa [BA.fp]using z
  obtain z|z|z|z|z:=z'
  .show c (by rw[z];simp)
  .show c (by rw[z];simp[BA.fp])
  .show c (by rw[z];simp[BA.fp])
  .show c (by rw[z];simp[BA.fp])
  .obtain q|q:=hd
   .show c (by rw[z,q];simp[BA.fp])
   .rw[z,q]at e;cases e
 .obtain rfl|h2:=h2
  .show hd
  .by_cases e:a=A.d
   .show .inl e
   .show .inr ?_;cases q:H0 a with
    |none=>rfl
    |some u=>
     by_cases f:a∈d::A.fp
     .show absurd h2 (h.live a ?_);let z':a=d\/a=A.b\/a=A.r\/a=A.t\/a=A.d:=by simpa [BA.fp]using f
      obtain z|z|z|z|z:=z'
      .rw[z];simp
      .rw[z];simp[BA.fp]
      .rw[z];simp[BA.fp]
      .rw[z];simp[BA.fp]
      .show absurd z e
     .rw[o _ _ f q]at h2;cases h2
theorem ace(T:Txt K mg)(hN:cX K mg base "sorted_by"){f:δ}{Ϻ:ε}{A':ϳ}{outer:List Env}{s0:μ}{H:Hp}{E:XK}(hr:ϒ true 55 (A'.deeper (envOfC "_law_walked" (ψ jn) s0.heap.objs.size f Ϻ))){H0 H1:Hp}{A:BA}{d sc ln:δ}{ns:List Int}{os:List Ord}{kS:Nat}{B:Bk}{all:List ϕ}{ls:List Row}{lw:List V}(a:bQ K mg H0 A d sc ln ns os kS B all ls lw){k:Nat}(hk:k<40){D:Ends}(hD:∀σ' H',GC mg H0 A d sc ln os kS all ls (k+1) σ' H'->D.nx σ' H')(hR:∀H',D.rt (.bl true) H'){d':δ}{B':Bk}{ds:List ϕ}{i':Nat}{x sp:δ}{c:Ct}{i j:Nat}{o9 R C S:Option V}(o1:Out (d::A.fp) H0 H1)(U:d'=A.d\/H0 d'=none)(h1:ak mg {A with d:=d'} d H1 B' (all++ds) i')(ae:i'<=9+3*min k 8)(kY:ik (d::({A with d:=d'}:BA).fp) H1 x all.length os (jm kS) ls.length (Ϣ ι os ls c i j))(L:H1 sp=some (.tup [.int (i:Nat),.int (j:Nat)]))(F:mL os ls c i j):Ρ (gq true P w K mg base yD "_law_walked" (ψ jn) f Ϻ A' outer s0 H E) (Hc ((aA jn).drop 2)) D [some (.ref sc),some (.ref A.b),some (.ref d),some (.ref ln),some (.ref x),some (.ref sp),some (.int (all.length:Nat)),some (.int (k:Nat)),o9,R,C,S] H1:=by
 let nd:=Fe.nd;let hu:=hr.units;let n1:=T.bN;let n2:=T.Ec;let n3:=T.Bo;let hsz:=ϱ;let#[hdp,_]:=Bu a.k4;let hL:=a.Hv;let D0:= @jV P w K mg base T;let D1:= @zA P w K mg base T;let D2:= @Ai P w K mg base T;let D3:Def P w K mg base true 55 "_law_turned" ["_law_book","_law_mark","_law_size","_law_ways"] (Fo K mg (Ϛ kS)):=Eu T hN (Ϛ kS) ();let M2:Ϟ P w K mg base true 1 (cB mg) "oldest" ["self"] (cY mg Bk.known):=(af1 T).meth T.Ϝ T.aeX;let#[kS1,kT1,af,Y9]:=a.keep o1;let hlen:=a.len;let#[q0,us,ag,ah,akz,ai]:=id kY;w_up;show Κ ?_;lk;show Χ (ρ.of L) (i:=0) rfl ?_;lk;show Χ (ρ.of L) (i:=1) rfl ?_;lk;show#[x,ln,q0,ls,lw,us,i,j,(all.length:Nat),_,_,rfl,ag,ah,xm _ (ai.imp λv r z=>by let#[t,l,e,g1,g2,_]:=z;show#[t,l,e,g1,g2]),af,Y9,a.fit,(),F.ij,F.jl,(F.marks hL all.length (jm kS) false).1,(F.marks hL all.length (jm kS) true).1,λH2 s2=>?_];lk;show Ε ?_;let o2:Out (d::A.fp) H0 H2:=o1.trans (Out.of s2);let h2:=h1.same s2;let lO:=h2.hs.now;rw[abu]at lO;let am:(∀H',η K H' sc (ns.map V.int))\/sc∉d::({A with d:=d'}:BA).fp:=by
  obtain z|z:=a.sF
  .show .inl z
  .obtain y|y:=QW a.scL
   .show .inr λq=>?_
    let q':sc=d\/sc=A.b\/sc=A.r\/sc=A.t\/sc=d':=by simpa [BA.fp]using q
    obtain q|q|q|q|q:=q'
    .show z (by rw[q];simp)
    .show z (by rw[q];simp[BA.fp])
    .show z (by rw[q];simp[BA.fp])
    .show z (by rw[q];simp[BA.fp])
    .obtain e|e:=U
     .show z (by rw[q,e];simp[BA.fp])
     .show y (by rw[q];show e)
   .show .inl y
 w_up;show aM ?_;lk;show#[{A with d:=d'},B',all++ds,i',sc,d,ns,k,all.length,rfl,(a.keep o2).1,am,a.nl,hk,h2,ae,(),λM B2 pF i2 H3 o3 W G X=>?_];let#[Y,Jp]:=ae2 o2 U h2 o3 W;let Nu:=(kY.same s2).out h2.nt o3 W;let Ro:=h2.nt.tup o3 _ _ (s2 _ _ L);let ar:=G.hs.now;rw[abu,abu]at ar;let Dh:=(a.keep Y).1;let ug:=(a.keep Y).2.2.1;let hh:=G.dk.heads;let rest:∀on:Bool,Ρ (gq true P w K mg base yD "_law_walked" (ψ jn) f Ϻ A' outer s0 H E) ((Hc ((aA jn).drop 2)).drop 4) D [some (.ref sc),some (.ref A.b),some (.ref d),some (.ref ln),some (.ref x),some (.ref sp),some (.int (all.length:Nat)),some (.int (k:Nat)),some (.bl on),R,C,S] H3:=by
  intro on;let#[q3,us3,Px,hq3,_,ama]:=id Nu;let#[av,Z]:=F.marks hL all.length (jm kS) on;let go:Ρ (gq true P w K mg base yD "_law_walked" (ψ jn) f Ϻ A' outer s0 H E) ((Hc ((aA jn).drop 2)).drop 5) D [some (.ref sc),some (.ref A.b),some (.ref d),some (.ref ln),some (.ref x),some (.ref sp),some (.int (all.length:Nat)),some (.int (k:Nat)),some (.bl on),some (cN false all.length os (jm kS) (if on=true then(Ϣ ι os ls c i j).bj else(Ϣ ι os ls c i j).back)),C,S] H3:=by
   generalize(if on=true then(Ϣ ι os ls c i j).bj else(Ϣ ι os ls c i j).back)=aw at av Z⊢;cases aw with
   |none=>
    let stay:GC mg H0 A d sc ln os kS all ls (k+1) [some (.ref sc),some (.ref A.b),some (.ref d),some (.ref ln),some (.ref x),some (.ref sp),some (.int (all.length:Nat)),some (.int (k:Nat)),some (.bl on),some .non,C,S] H3:=#[M,B2,ds++pF,i2,x,sp,c,i,j,_,_,_,_,_,rfl,Y,Jp,by rw[<-ajF];show G,X,Nu,Ro,F];w_up;show Κ (vB ?_);show EW _ _ [some (.ref sc),some (.ref A.b),some (.ref d),some (.ref ln),some (.ref x),some (.ref sp),some (.int (all.length:Nat)),some (.int (k:Nat)),some (.bl on),some .non,C,S] H3 _;lk;show Ζ (λ_=>?_) (λ_=>?_)
    .f_len;show ω ?_;lk;show hR _
    .show Ε ?_;f_len;show Κ ?_;lk;show Ε (hD _ _ stay)
   |some e=>
    let#[#[sd,xs,n0,rfl,I,g0,g1],ab]:=Z e rfl;let hz:∃z,cN false all.length os (jm kS) (some (.at_ sd xs n0))=.str z:=#[_,rfl];let#[zm,KC]:=hz;rw[KC];w_up;show Κ (vB ?_);lk;show Ε ?_;f_len;show Κ ?_;lk;k_go;show#[sc,ns,120+(k:Nat),4,rfl,Dh,a.nl,(),(),by decide,?_];lk;let c0:=gG ns (120+(k:Nat)) (m:=4) (by decide);let c1:=gB ns (120+(k:Nat)) (m:=4) (by decide);generalize bF ns (120+(k:Nat)) 4=cc at c0 c1⊢;let#[g,rfl]:=adi c0;rw[show(1:Int)+(g:Nat)=((g+1:Nat):Int)by omega];k_go;let O:∀{Q:Hp},ζ H3 Q->Ν (cB mg) Q {A with d:=M} B2:=λs=>G.tb.bk.same s
    show#[{A with d:=M},B2,os,all.length,g+1,sd,xs,n0,on,by rw[hh, <-KC],a.ins Y (by rw[<-ajF];show G) () () (),by rw[hh];show I,g0,g1,λhg p Q u vf=>?_,λax p qX cW Q u G8 bV ac vf=>?_]
    .w_up;show Κ ?_;lk;show fL (pl:=_) hr ύ ?_;f_are;show#[A.b,cB mg,A.dx,_,true,1,_,cY mg Bk.known,rfl,(O u).ins,by rfl,M2,(),id,{A with d:=M},B2,rfl,O u,?_];lk;show Ζ (λ_=>?_) (λh=>absurd hg h);f_len;show ω ?_;lk;show fL (pl:=_) hr ύ ?_;f_are;show#[A.b,cB mg,A.dx,_,true,1,_,cY mg Bk.known,rfl,(O u).ins,by rfl,M2,(),id,{A with d:=M},B2,rfl,O u,?_];lk;show#[Δ,λp5 ay=>?_];let s5:=ζ.upd (o:=.tup [.int 2,.int B2.known]) ay;show Mi (d:=.tuple [.int 2,.int B2.known]) (d':=.tuple [.int 2,.int B2.known]) hu (.tup (ρ.of (s5 _ _ vf)) (.cons (.int _) (.cons (.int _) .nil))) (.tup (ρ.of υ) (.cons (.int _) (.cons (.int _) .nil))) rfl rfl (aob rfl) ?_;rw[SeqAt.eqv_refl _ rfl];show hR _
    .let els:=a.Qw (ds:=ds++pF) (by rw[<-ajF];show G) ax G8 bV;subst els;rw[hh]at ac;let WK:=Ru G.live ac;rw[Gy,ab]at WK;let lU:=a.rw_.len;let sq4:η K Q ln lw:=η.of (u _ _ ug);let ue:=G6 (on:=on) (n:=g+1) hL a.num (.inr (.inr #[sd,xs,n0,rfl,I,g0,g1]));rw[ab]at ue;let hij:=F.ij;let hjl:=F.jl;let fin:∀J H5,ζ Q H5->H5 J=some (.tup [.int ((cR on (g+1) cW.length (if on=true then j else i)).1:Nat),.int ((cR on (g+1) cW.length (if on=true then j else i)).2:Nat)])->∀R C,D.nx [some (.ref sc),some (.ref A.b),some (.ref d),some (.ref ln),some (.ref qX),some (.ref J),some (.int (all.length:Nat)),some (.int (k:Nat)),some (.bl on),R,C,some (.ref p)] H5:=λJ H5 s5 e5 R C=>hD _ _ #[M,B2,ds++pF,i2,qX,J,.at_ sd xs n0,_,_,_,_,_,_,_,rfl,Y.trans (Out.of (u.trans s5)),Jp,by rw[<-ajF];show G.same (u.trans s5),X,WK.same s5,e5,ue]
     w_up;show Κ ?_;lk;show fL (pl:=_) hr ύ ?_;f_are;show#[A.b,cB mg,A.dx,_,true,1,_,cY mg Bk.known,rfl,(O u).ins,by rfl,M2,(),id,{A with d:=M},B2,rfl,O u,?_];lk;show Ζ (λh=>absurd h ()) (λ_=>?_);show Ε ?_;w_up;show Κ ?_;lk;show Χ (ρ.of vf) (i:=0) rfl ?_;lk;show dJ (λh=>absurd rfl h) (λ_=>?_);show Ε ?_;k_go;show Χ (ρ.of vf) (i:=1) rfl ?_;f_len;f_tup;lk;let yH:=u _ _ Ro;cases on with
     |true=>
      lk;show Χ (ρ.of yH) (i:=1) rfl ?_;lk;show Χ (ρ.of yH) (i:=1) rfl ?_;lk;show Ex ?_;lk;show#[Δ,λJ sG=>?_];show fin J _ (ζ.upd sG) ?_ _ _;rw[υ,show(if(j:Int)+((g+1:Nat):Int)<(lw.length:Nat)then(j:Int)+((g+1:Nat):Int)else(lw.length:Nat))=((min (j+(g+1)) cW.length:Nat):Int)by split <;>omega];rfl
     |false=>
      lk;show Χ (ρ.of yH) (i:=0) rfl ?_;lk;show Fj ?_;lk;show Χ (ρ.of yH) (i:=0) rfl ?_;lk;show#[Δ,λJ sG=>?_];show fin J _ (ζ.upd sG) ?_ _ _;rw[υ,show(if(i:Int)-((g+1:Nat):Int)>0 then(i:Int)-((g+1:Nat):Int)else 0)=((i-(g+1):Nat):Int)by split <;>omega];rfl
  k_go;cases on with
  |true=>
   lk;show Χ (ρ.of Px) (i:=2) rfl ?_;show go
  |false=>
   lk;show Χ (ρ.of Px) (i:=1) rfl ?_;show go
 k_go;show#[sc,ns,80+(k:Nat),2,rfl,Dh,a.nl,(),(),by decide,?_];lk;w_up;show Κ ?_;lk;show Ζ (λaC=>?_) (λaC=>?_)
 .f_len;f_tup;lk;show#[sc,ns,7,2,rfl,Dh,a.nl,by decide,by decide,by decide,?_];lk;show rest _
 .show Ε (rest _)
theorem agQ{cs:List ξ}(f:ώ cs=true){os:List Ord}(g:aB cs os)(l:os.length<=4):(bf os).length<=100:=by
 let h1:=nj (os.map ϖ) 9 λp i=>by
  let#[o,j,rfl]:=ada.mp i;let#[c,a,e]:=g o j;have:=sO (lL f (z:=o.1) (ada.mpr #[c,a,e]));let m:("+":Str).length=1:=by fin2
  let n:("-":Str).length=1:=by fin2
  unfold ϖ;rw[len_app];split <;>omega
 let h2:=jL (os.map ϖ);rw[aaz]at h1 h2;unfold bf;omega
theorem Ry{cs:List ξ}(i:ώ cs=true){os:List Ord}(g:aB cs os)(j:os.length<=4)(a:(os.map Prod.fst).Nodup):fB cs (bf os)=some os:=Qt j a g λo l m=>by
 let#[c,f,e]:=g o l;let a:=lL i (z:=o.1) (ada.mpr #[c,f,e]);unfold isName dM at a;rw[aaW,acN]at a;show absurd (of_decide_eq_true (a.2 32 m)) (by fin2)
inductive Bf (K:ϩ) (mg:Str->Option ε) (vs:List V) (H:Hp) (Q:VK) (E:XK):Prop
 |mk (A:BA) (B:Bk) (all:List ϕ) (d sc ln:δ) (ns:List Int) (os:List Ord) (kS:Nat) (ls:List Row) (lw:List V) (pf sp:δ) (c:Ct) (i j:Nat):vs=[.ref sc,.ref A.b,.ref d,.ref ln,.ref pf,.ref sp]->bQ K mg H A d sc ln ns os kS B all ls lw->ik (d::A.fp) H pf all.length os (jm kS) ls.length (Ϣ ι os ls c i j)->H sp=some (.tup [.int (i:Nat),.int (j:Nat)])->mL os ls c i j->(∀H',Q (.bl true) H')->Bf K mg vs H Q E
theorem ajX{j:Nat}(l:j<3):∃f os,[V.str ("-size":Str),.str ("+word":Str),.str ("":Str)][j]?=some (.str f)/\fB ι f=some os/\aB ι os/\os.length<=4/\(os.map Prod.fst).Nodup/\f.length<=4000:=by
 let c:∀os:List Ord,aB ι os->os.length<=4->(os.map Prod.fst).Nodup->(bf os).length<=4000->∃a,fB ι (bf os)=some a/\aB ι a/\a.length<=4/\(a.map Prod.fst).Nodup/\(bf os).length<=4000:=λos h1 h2 g i=>#[os,Ry rN h1 h2 g,h1,h2,g,i]
 obtain _|_|_|j:=j
 .let#[os,h]:=c [(Ϫ "size",false)] (λo e=>by rw[abx.mp e];show#[_,adV ..,rfl]) (by decide) (by fin2) (by fin2);show#[_,os,by rw[show Ϫ "-size"=bf [(Ϫ "size",false)]by fin2];rfl,h]
 .let#[os,h]:=c [(Ϫ "word",true)] (λo e=>by rw[abx.mp e];show#[_,acY _ (adV ..),rfl]) (by decide) (by fin2) (by fin2);show#[_,os,by rw[show Ϫ "+word"=bf [(Ϫ "word",true)]by fin2];rfl,h]
 .let#[os,h]:=c [] (λo e=>by cases e) (by decide) (by fin2) (by fin2);show#[_,os,by rw[show Ϫ ""=bf []by fin2];rfl,h]
 .omega
theorem FZ(T:Txt K mg)(L:cX K mg base "sorted_by"):Def P w K mg base true 56 "_law_walked" ["_law_script","_law_book","_law_table","_law_line_here","_law_leaf_here","_law_span"] (Bf K mg):=by
 show Γ (S:=Fe) T.FZ (λf Ϻ A' outer s H vs Q E M h=>?_);intro X _;let#[A,B,all,d,sc,ln,ns,os,kS,ls,lw,o,sp,c,i,j,rfl,a,u,e,x,q]:=h;let nd:=Fe.nd;let n1:=T.Gp;let hsz:=ϱ;let D0:= @jV P w K mg base T;let D1:Def P w K mg base true 11 "first_leaf" ["book","make","order","sieve","size"] (ph K mg (Ϛ 0) true):=vz T L (Ϛ 0);let M2:Ϟ P w K mg base true 1 (cB mg) "moment" ["self"] (cY mg Bk.now):=(vQ T).meth T.Ϝ T.yO;let O:=a.st.tb.bk;let R:=a.st.hs.now;w_up;f_tup;show fL (pl:=_) M ύ ?_;f_are;show#[A.b,cB mg,A.dx,_,true,1,_,cY mg Bk.now,rfl,O.ins,by rfl,M2,(),id,A,B,rfl,O,?_];rw[R];w_up;show aM ?_;lk;show#[Δ,λp Y=>?_];let#[g,e1]:=ϋ Y (.lst [.str ("-size":Str),.str ("+word":Str),.str ("":Str)]);change EV _ _ _ (upd H p (.lst [.str ("-size":Str),.str ("+word":Str),.str ("":Str)])) _;generalize upd H p (.lst [.str ("-size":Str),.str ("+word":Str),.str ("":Str)])=H1 at g e1⊢;lk;show#[sc,ns,8,3,rfl,g.seq a.scL,a.nl,by decide,by decide,by decide,?_];let U:=gG ns 8 (m:=3) (by decide);let c1:=gB ns 8 (m:=3) (by decide);generalize bF ns 8 3=cc at U c1⊢;let#[m,rfl]:=adi U;let#[W,y,Z,dX,z,C,D,ux]:=ajX (j:=m) ();show ϡ (η.of e1) (v:=.str W) (aY Z) ?_;lk;let F:=a.st.same g;let l:("all":Str)=sT ι (Ϛ 0):=Option.some.inj (Vz (k:=0) (by decide));show#[A,B,y,W,all.length,3,by rw[a.st.dk.heads, <-l];rfl,Ye (d':=A.d) (ds:=[]) a.st (by rw[ag5];show F) (g _ _ a.tb) z C D (by decide) (by decide) (by decide) (by decide),R,ux,by rw[a.st.dk.heads];show dX,λ_ p2 cW H2 s2 _ _ _=>?_];let n:=g.trans s2;w_up;show Gz (by walk_at"po") (by rfl) (by rfl) n1 (by rfl) ?_;lk;show#[by decide,by decide,λk σ H'=>GC mg H A d sc ln os kS all ls k σ H',#[A.d,B,[],9,o,sp,c,i,j,none,none,none,none,none,rfl,Out.of n,.inl rfl,by rw[ag5];show a.st.same n,(),u.same n,n _ _ e,x],λk σ' H' hk G=>?_,λσ' H' G=>?_]
 .let#[d',B',ds,i',o,sp,c,i,j,o8,o9,jk,gn,jF,rfl,o1,I,h1,J,u,e,x]:=G;show Β nd (by rfl) (.inl rfl) (.inl rfl) ?_;show ace T L M a hk (λ_ _ h=>h) q o1 I h1 J u e x
 .let#[d',B',ds,i',o,sp,c,i,j,o8,o9,jk,gn,jF,rfl,_]:=G;f_len;show ω ?_;lk;show q _
theorem afJ(T:Txt K mg)(hN:cX K mg base "sorted_by"){f:δ}{fd:aiF}(F:cj K "law" "law" vU f fd):cG P w K mg base (bL P w) true 60 f fd ["_law_script"] (Dd K "sorted_by" gR):=by
 show zf F Sw (λvs H Q E h=>by let#[a,ns,rfl,_]:=h;rfl) (λϺ A' outer s0 H vs Q E hr h=>?_);let#[a,ns,rfl,hS,J,Jz,q]:=h;let nd:=Sw.nd;let n1:=T.Gp;let hsz:=ϱ;let D0:= @jV P w K mg base T;let D1:= @wC P w K mg base T;let D2:= @Ds P w K mg base T;let D3:= @Ag P w K mg base T;let D4:= @Gv P w K mg base T;let D5:= @zq P w K mg base T;let D8:Def P w K mg base true 56 "_law_walked" ["_law_script","_law_book","_law_table","_law_line_here","_law_leaf_here","_law_span"] (Bf K mg):=FZ T hN;let n2:=T.bN;let n3:=T.Ec;let n4:=T.Bo;let MB:=(af7 (P:=P) (w:=w) (base:=base) T).make T.aaQ T.acE;let af:=QW hS;w_up;f_tup;show j7 MB hr (by decide) (λ_=>rfl) ύ ?_;lk;show#[Δ,λD Z=>?_];lk;show#[Δ,λG aO=>?_];lk;show#[Δ,λlc RX=>?_];let sa:=ζ.upd (o:=.tup [.str ("size":Str),.str ("number":Str)]) Z;let sb:=ζ.upd (o:=.tup [.str ("word":Str),.str ("text":Str)]) aO;let sc:=ζ.upd (o:=.lst [.ref D,.ref G]) RX;let aU:=(sa.trans sb).trans sc;let Qv:ϝ (upd (upd (upd H D (.tup [.str ("size":Str),.str ("number":Str)])) G (.tup [.str ("word":Str),.str ("text":Str)])) lc (.lst [.ref D,.ref G])) lc ι:=#[_,υ,.cons #[D,rfl,(sb.trans sc) _ _ υ] (.cons #[G,rfl,sc _ _ υ] .nil)];change EA _ _ _ (upd (upd (upd H D (.tup [.str ("size":Str),.str ("number":Str)])) G (.tup [.str ("word":Str),.str ("text":Str)])) lc (.lst [.ref D,.ref G])) _;generalize upd (upd (upd H D (.tup [.str ("size":Str),.str ("number":Str)])) G (.tup [.str ("word":Str),.str ("text":Str)])) lc (.lst [.ref D,.ref G])=H2 at aU Qv⊢;clear sa sb sc Z aO RX;lk;intro y dx hy ab Ϲ;let ag:ζ H2 (upd (upd H2 dx (.own y)) y (.ins (cB mg) dx [])):=λb u e=>by
  rw[ο (λz=>by rw[z,hy]at e;cases e),ο (λz=>by rw[z,ab]at e;cases e)];show e
 show#[y,dx,lc,ι,rfl,υ,by rw[ο Ϲ,υ],Qv.same ag,rN,λH3 A eb Bm f1 f2 f3 f4 o3 k3=>?_];let#[s3,ah]:=made hy ab eb Bm f1 f2 f3 f4 o3;subst eb;show#[rfl,?_];let c7:=aU.trans s3;w_up;f_tup;show Hi λd hd=>?_
 let#[s4,ed]:=ϋ hd (.dK []);generalize upd H3 d (.dK [])=H4 at s4 ed⊢;let jg:=c7.trans s4;let k4:=k3.same s4;let ai:d∉A.six:=λz=>k3.YF d z hd
 let qI:∀x∈d::A.fp,H x=none:=λx hx=>by
  obtain rfl|hx:=aaG.mp hx
  .show c7.free hd
  .show aU.free (ah x (R0 x hx))
 let sZ:(∀H',η K H' a (ns.map V.int))\/a∉d::A.fp:=by
  obtain z|z:=af
  .show .inr λy=>z (qI a y)
  .show .inl z
 let tT:bx K "sorted_by"∉d::A.fp:=λz=>by have:=qI _ z;rw[Jz]at this;cases this
 let T4:Tb mg (d::A.fp) A d H4 #[ι,[],[],[],0,0]:=#[k4,[],ed,.nil];let K4:jQ #[ι,[],[],[],0,0] 0:=#[rfl,.nil,λi=>#[λ_=>rfl,λ_=>rfl],(λp hp=>by cases hp),(λp hp=>by cases hp),Ϭ _,Ϭ _,Ϭ _];let S4:ak mg A d H4 #[ι,[],[],[],0,0] [] 0:=#[T4,ai,K4,#[rfl,rfl,rfl,#[aqi _,aqi _],(λj d h=>by cases h),λi=>#[λ_=>rfl,λ_=>rfl]],Ϭ _];let Ey:=jg.seq hS;w_up;show Gz (by walk_at"po") (by rfl) (by rfl) n1 (by rfl) ?_;lk;show#[a,ns,0,10,rfl,Ey,J,by decide,by decide,by decide,?_];let c0:=gG ns 0 (m:=10) (by decide);let c1:=gB ns 0 (m:=10) (by decide);generalize bF ns 0 10=cc at c0 c1⊢;let#[m0,rfl]:=adi c0;show#[(m0:Nat),rfl,(),(),λi σ H'=>∃o4,σ=[some (.ref a),some (.ref A.b),some (.ref d),o4,none,none,none,none,none,none,none,none]/\Out (d::A.fp) H4 H'/\∃B all,ak mg A d H' B all i/\B.known=0,#[none,rfl,Out.refl _ _,_,_,S4,rfl],λi σ' H' hi hP=>?_,λσ' H' hP=>?_]
 .let#[o4,rfl,o5,B,all,v,L]:=hP;let M:η K H' a (ns.map V.int):=by
   obtain z|z:=sZ
   .show z _
   .show o5.seq z Ey
  show Β nd (by rfl) (.inl rfl) (.inl rfl) ?_;f_len;show aM ?_;lk;show#[d::A.fp,A,B,i,a,d,ns,(i:Nat),0,rfl,M,J,(),(),v.tb,#[v.ap,λx hx=>hx],v.live,v.dk,(),λrow o H6 r0 r1 hok ho o6 am=>?_];show#[_,rfl,o5.trans o6,_,_,v.deed r0 r1 hok ho am,L]
 let#[o4,rfl,o5,B,all,v,L]:=hP;rw[show((m0:Nat):Int).toNat=m0 from aoE m0]at v;let O:ak mg A d H' B all 9:=#[v.tb,v.ap,#[v.dk.heads,v.dk.nd,v.dk.wf,v.dk.ok,v.dk.keys,by have:=v.dk.rl;omega,by have:=v.dk.tl;omega,by have:=v.dk.dl;omega],v.hs,by have:=v.al;omega];let M:η K H' a (ns.map V.int):=by
  obtain z|z:=sZ
  .show z _
  .show o5.seq z Ey
 let ar:=o5 _ _ tT (jg _ _ Jz);k_go;show#[a,ns,1,5,rfl,M,J,by decide,by decide,by decide,?_];generalize bF ns 1 5=W;lk;show#[W,rfl,λb H6 s6 hb0 GR=>?_];let ϻ:=afV W;let mK:=ais W;let jh:=abT W;let ac:=acA W;generalize gk W=os at GR ϻ mK jh ac;k_go;show#[b,os,rfl,GR,(),ac,λH7 s7=>?_];let U0:=s6.trans s7;k_go;show#[a,ns,2,4,rfl,U0.seq M,J,by decide,by decide,by decide,?_];let g0:=gG ns 2 (m:=4) (by decide);let g1:=gB ns 2 (m:=4) (by decide);generalize bF ns 2 4=kv at g0 g1⊢;let#[kS,rfl]:=adi g0;let pG:kS<4:=()
 k_go;show#[kS,rfl,pG,λH8 s8=>?_];let DY:=U0.trans s8;k_go;show#[a,ns,3,4,rfl,DY.seq M,J,by decide,by decide,by decide,?_];lk;let e0:=gG ns 3 (m:=4) (by decide);let e1:=gB ns 3 (m:=4) (by decide);generalize bF ns 3 4=kn at e0 e1⊢;let#[g,rfl]:=adi e0;rw[show(1:Int)+(g:Nat)=((g+1:Nat):Int)by omega];let Av:=O.same DY;k_go;show#[d::A.fp,d,b,kS,os,B.rows,rfl,Av.tb.ro,GR.same (s7.trans s8),ϻ,pG,O.dk.nd,by have:=O.dk.rl;omega,O.dk.ok,λln lw ls H9 s9 av ig Mh G8 bV=>?_];let yL:=DY.trans s9;let st:=O.same yL;let FN:ln∉d::A.fp:=λz=>Av.live ln z av
 let CP:=(Bu pG).1;let D6:Def P w K mg base true (11+2*(Ϛ kS).dep) "first_leaf" ["book","make","order","sieve","size"] (ph K mg (Ϛ kS) true):=vz T hN (Ϛ kS);let D7:Def P w K mg base true (11+2*(Ϛ kS).dep) "last_leaf" ["book","make","order","sieve","size"] (ph K mg (Ϛ kS) false):=zr T hN (Ϛ kS);let cx:∀{H2:Hp},ζ H9 H2->bQ K mg H2 A d a ln ns os kS B all ls lw:=λs=>#[sZ,(yL.trans s).seq M,J,(yL.trans s) _ _ ar,tT,s _ _ ig,FN,Mh.imp λu r z=>by
  let#[t,l,e,g1,g2,g3,g4,g5,g6]:=z;show#[t,l,e,s _ _ g5,s _ _ g6,λz=>Av.live l z g2],G8,bV,st.same s,ϻ,mK,jh,pG]
 let c9:=cx (ζ.refl _);let hll:=c9.len;let lU:=Mh.len;let hh:=O.dk.heads;let lO:=O.hs.now;let Js:(bf os).length<=4000:=by have:=agQ rN ϻ mK;omega
 let dX:=Ry rN ϻ mK jh;let ask:∀{H2:Hp},ζ H9 H2->iR K mg H2 A B os (Ϛ kS) all.length (g+1):=λs=>by
  have:=(cx s).ins (d':=A.d) (ds:=[]) (Out.refl _ _) (by rw[ag5];show st.same s) (n:=g+1) (by decide) () ();show this
 let I:∀(on:Bool)(X:δ)(R:List Row)(H2 H3:Hp),ζ H9 H2->Line B.heads os R->R.Perm ((bD B all.length).filter λr=>Ϙ r.2 (Ϛ kS))->gU H2 H3 X (qO all.length os (sT B.heads (Ϛ kS)) R.length (fY on B.heads os R (oO on) (g+1)))->ik (d::A.fp) H3 X all.length os (jm kS) ls.length (Ϣ ι os ls (oO on) (cR on (g+1) ls.length (if on=true then 0 else ls.length)).1 (cR on (g+1) ls.length (if on=true then 0 else ls.length)).2):=λon X R H2 H3 s2 S U C=>by
  let aw:=(cx s2).Qw (d':=A.d) (ds:=[]) (by rw[ag5];show st.same s2) (by rw[L];omega) S U;subst aw;rw[hh]at C;have:=Ru (F:=d::A.fp) (st.same s2).live C;rw[Gy]at this;cases on<;>show this
 let ue:∀on:Bool,mL os ls (oO on) (cR on (g+1) ls.length (if on=true then 0 else ls.length)).1 (cR on (g+1) ls.length (if on=true then 0 else ls.length)).2:=λon=>by
  cases on
  .show G6 (on:=false) (c:=.fin) (n:=g+1) c9.Hv c9.num (.inr (.inl #[rfl,rfl]))
  .show G6 (on:=true) (c:=.start) (n:=g+1) c9.Hv c9.num (.inl #[rfl,rfl])
 k_go;show#[A,B,os,bf os,all.length,g+1,by rw[hh],ask (ζ.refl _),lO,Js,by rw[hh];show dX,λ_ X R lJ uP S U C=>?_];let kY:=I true X R H9 lJ (ζ.refl _) S U C;let amW:η K lJ ln lw:=η.of (uP _ _ ig);k_go;show Ex ?_;lk;show#[Δ,λsp ax=>?_];let yg:=ζ.upd (o:=.tup [.int 0,.int (if((lw.length:Nat):Int)<((g+1:Nat):Int)then((lw.length:Nat):Int)else((g+1:Nat):Int))]) ax;let yR:(upd lJ sp (.tup [.int 0,.int (if((lw.length:Nat):Int)<((g+1:Nat):Int)then((lw.length:Nat):Int)else((g+1:Nat):Int))])) sp=some (.tup [.int ((0:Nat):Int),.int ((min (0+(g+1)) ls.length:Nat):Int)]):=by
  rw[υ,show(if((lw.length:Nat):Int)<((g+1:Nat):Int)then((lw.length:Nat):Int)else((g+1:Nat):Int))=((min (0+(g+1)) ls.length:Nat):Int)by split <;>omega];rfl
 generalize upd lJ sp (.tup [.int 0,.int (if((lw.length:Nat):Int)<((g+1:Nat):Int)then((lw.length:Nat):Int)else((g+1:Nat):Int))])=yK at yg yR⊢;let Y:=uP.trans yg;w_up;show Κ ?_;lk;show#[a,ns,4,2,rfl,(yL.trans Y).seq M,J,by decide,by decide,by decide,?_];lk;show Ζ (λ_=>?_) (λ_=>?_)
 .w_up;f_tup;lk;show#[A,B,os,bf os,all.length,g+1,by rw[hh],ask Y,lO,Js,by rw[hh];show dX,λ_ qX ay Rf ae ug aC aD=>?_];let aE:=I false qX ay yK Rf Y ug aC aD;let ale:η K Rf ln lw:=η.of ((Y.trans ae) _ _ ig);f_len;f_tup;lk;show Fj ?_;lk;show#[Δ,λiM sG=>?_];let Vx:=ζ.upd (o:=.tup [.int (if((lw.length:Nat):Int)-((g+1:Nat):Int)>0 then((lw.length:Nat):Int)-((g+1:Nat):Int)else 0),.int ((lw.length:Nat):Int)]) sG;f_len;show ω ?_;lk;show#[A,B,all,d,a,ln,ns,os,kS,ls,lw,qX,iM,oO false,_,_,rfl,cx ((Y.trans ae).trans Vx),aE.same Vx,?_,ue false,q];rw[υ,show(if((lw.length:Nat):Int)-((g+1:Nat):Int)>0 then((lw.length:Nat):Int)-((g+1:Nat):Int)else 0)=((ls.length-(g+1):Nat):Int)by split <;>omega,lU];rfl
 .show Ε ?_;f_len;show ω ?_;lk;show#[A,B,all,d,a,ln,ns,os,kS,ls,lw,X,sp,oO true,_,_,rfl,cx Y,kY.same yg,yR,ue true,q]
end
end _K
theorem PySem.Challenge.cw_turnleaf_k92_whole_still_list_holds : PySem.Challenge.rw_turnleaf_k92_whole_still_list.Holds := by
 show PySem.Challenge.t0 (by intro P w K mg base;show _K.afJ)
#print axioms PySem.Challenge.cw_turnleaf_k92_whole_still_list_holds
