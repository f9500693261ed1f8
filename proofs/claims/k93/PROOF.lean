import PyProof.Rows.All
import Wide.All
import KE.KDictOf
import KE.KFromBytes
import KE.KIntText
import KE.KNestM
import Wide.FinOn
import Lean
import PyProof.EqAt
import PyProof.EqKinds
import PyProof.TupleCall
import PyProof.NeData
import PyProof.ZipIter
import PyProof.WalksEnum
import PyProof.Rows.SetFrom
import PyProof.StrLawsTight
import PyProof.StrLawsChain
import PyProof.StrCalls2
import PyProof.ListStr
import PyProof.Rows.StrOrd
import KE.KRevIter
import PyProof.ExcInit
import PyProof.InstStoreFacts
import PyProof.ExcArgs
import PyProof.ExcAttrAll.ValueError
import PyProof.NsDelKeeps
import PyProof.RulesAs
import OpenK.KCls
import PyProof.Rows.TupAssign
import PyProof.StrLawsIn
import KE.KDictSum
import PyProof.DictWalks
import PyProof.Rows.CountFlat
import KE.KTryMore
import KE.KxWritten
import KE.KStrOpen
import KE.KSortTup
import KE.KNest
import PyProof.FString5
import KE.KDictList
import PySem.Challenge.RW_turnleaf_k93_whole_to_and_fro
open PySem renaming Addr->δ,Value->ε,Shared->μ,wpAny->ν,wpAny_bind->π,Expr->Ϧ,model->ϧ,Stmt->Ϩ,Heap->ϫ,World->ϭ,Program->Ϯ,wpAny_pure->ϯ,sizeLine->ϰ,Around->ϱ,sizeLine_eq->ϳ,starEach->ϴ,compareOp->adL,wpAny_mono->adR,wpAny_truthy_bool->agC,wpAny_field->agT,wpAny_holding->ahu,Scope->ahw,FuncData->ahC,wpAny_newObj_type->aiC,tupleKind_room_in1->ai1,wpAny_Call_Name_kw->ai2,wpAny_passesOwn->ajl,codeAny_builtin->ajn,codeAny_mono->ajy,wpAny_pyIter_list->ajD,PassesOwn->aj3,SetTable->aj7,wpAny_setField_rec->akt,ExceptHandler->akP,PyData->alp,wpAny_seqItems->alq,swapsWith->alr,call_meets->alC,wpAny_callSpecial?_slot->alE,NameKind->alO,Builtin->alP,wpAny_nextOf_list_item->alQ
open PySem.W renaming Frag->ϩ,findIn->afh,specialIn->ail,mg_of->aiT,emptyDict->akg,hasDictIn->ak9,kia_one->alw,keepIn->alz,instObj->alW,plainGet->al1,mroIn->al3,readsIn->ami,findCls->amj,plainOver->amn,codeIn->amo,takerIn->amE,takesIn->amG,callWith_K->amJ,methodCall_KW->amL,typeIn->amR,plainGet_of->am0,isFn->am1,kitOne->am2,fnOf->am3,cellsFrom_some->ank,methodObj->anw,makesIn->anx,lookIn->anH,nsIn->anQ
open PySem.Str renaming ofString->Ϫ,join->aeq,length->amf,empty->amF
open Nat renaming le_refl->Ϭ,lt_of_lt_of_le->acw,ne_of_lt->ac6,le_trans->aeP,lt_of_le_of_lt->aeW,zero_le->afT,add_le_add_left->ahB,lt_irrefl->aiw,le_add_right->ajj,le_of_eq->aka,ne_of_gt->ak8,min_eq_left->alo,zero_add->alD,le_succ->alS,lt_succ_of_lt->alT,le_of_ble_eq_true->alV,le_of_lt->alX,min_le_right->al0,sub_zero->amc,min_eq_right->amy,min_le_left->amK,mul_le_mul_right->amU,toDigits_ne_nil->amW,sub_add_cancel->am7,lt_trichotomy->ang,lt_succ_self->anj,toDigits->anO,sub_self->anP
open PySem.Heap renaming get?_push_of_some->ϲ,get?_push_size->ab7,lt_size->acr,get?_update_other->ac9,get?_update_self->afG,size_push->aiJ,SameBut->ajr,get?_none_of_le->alu,size_after_update->amB,get?_update_ne->amX,get?_push_ne->anc,size_update->ant,IsList->anA
open List renaming getElem?_eq_getElem->aad,getElem?_eq_some_iff->aai,mem_of_getElem?->aak,mem_cons->aaF,length_map->abd,size_toArray->abe,getElem?_map->aci,getD_eq_getElem?_getD->acn,mem_singleton->acy,all_eq_true->acz,length_append->ac7,mem_map->adw,length_cons->adx,mem_cons_of_mem->adF,map_cons->adI,find?_cons->adN,mem_append_right->adW,length_drop->adX,mem_cons_self->aeh,range->aei,toArray->aeU,mem_of_mem_drop->aeY,mem_append->ae6,length_singleton->afi,mem_of_mem_take->afu,lookup_cons->agb,not_mem_nil->age,map_map->agn,length_take->ag5,drop_eq_getElem_cons->ahr,getElem_mem->ah5,take_of_length_le->ah9,lookup->aia,length_filter_le->aix,mem_filter->aiK,getElem?_append_left->ajG,ne_nil_of_length_eq_add_one->ajK,mem_append_left->ajP,foldl_cons->ajW,any_cons->aki,eq_nil_of_length_eq_zero->akz,replicate->akD,drop_eq_nil_of_le->akQ,dropLast_concat_getLast->akS,nodup_cons->ala,forIn_cons->alm,getElem?_concat_length->aln,getElem?_append_right->als,drop_zero->alx,pairwise_iff_getElem->aly,filter_cons->alA,any_eq_true->alB,mem_filterMap->alF,append_nil->alG,length_nil->alH,length_eq_zero_iff->alK,sum_cons->alM,pairwise_cons->alN,length->alR,forIn_nil->alU,getElem?_eq_none->alY,filterMap_cons->al2,getElem_of_mem->al5,map_congr_left->al7,filter_sublist->al8,exists_cons_of_ne_nil->ama,getElem?_drop->amd,mem_range->ame,length_range->amh,pairwise_map->amk,mapM_toArray->aml,append_assoc->amm,all_cons->amr,map_id->amt,pairwise_singleton->amu,countP_cons_of_pos->amv,cons_append->amw,take_length->amx,drop_length->amz,getElem?_set_self->amA,drop_of_length_le->amC,range_succ_eq_map->amD,of_mem_zip->amH,length_replicate->amI,nil_append->amO,getElem?_reverse->amP,countP_le_length->amQ,getElem?_set_ne->amS,forall_mem_cons->amT,drop_drop->amV,countP_eq_zero->amY,length_pos_iff->amZ,zip_cons_cons->am6,foldl_append->am9,nodup_append->ana,reverse_perm->anb,getElem?_inj->anf,all_map->anh,getElem_inj->ani,zipIdx_cons->anp,ext_getElem->anq,all_toArray->anu,nodup_range->anv,zipIdx_nil->anz,map_append->anB,range_succ->anC,not_lt->anD,lt_irrefl->anE,map->anI,lt_trans->anJ,map_nil->anM
open Bool renaming false_ne_true->abj,and_eq_true->abB,eq_iff_iff->ahe,eq_false_iff->ajY,true_and->akq,false_and->alv,false_eq_true->alI,or_eq_true->alJ,or_false->amq,false_or->ams,not_eq_true->ano,decide_or->anF,true_or->anL
open Int renaming eq_ofNat_of_zero_le->aeN,emod_lt_of_pos->akX,emod_nonneg->alL,toNat_of_nonneg->al9,add_emod->amM,mul_emod->amN,emod_emod->am4,toNat_natCast->am8,emod_eq_of_lt->ane,zero_add->anN
open Option renaming map_eq_some_iff->ah6,isSome_iff_exists->ajR,map_some->al4,isSome_map->amg,getD_none->anl,getD_some->anm
open Array renaming getElem?_setIfInBounds_ne->aim,length_toList->aiQ,getElem?_eq_none->ai9,getElem?_eq_some_iff->ajg,getElem?_toList->alZ,toList_append->al6,perm_iff_toList_perm->amb,forIn_toList->am5,toList_inj->anr,getD->anG,toList->anK
set_option maxHeartbeats 4000000
set_option Elab.async false
set_option linter.all false
set_option maxRecDepth 100000
local macro_rules | `(tactic| walk_at "sc") => `(tactic| exact ⟨rfl, rfl, rfl, by decide +kernel, rfl, by decide +kernel, by decide +kernel⟩)
local macro_rules | `(tactic| omega) => `(tactic| lia)
open Lean Parser.Tactic in
local macro_rules(kind:=Lean.Parser.Tactic.tacticLet__)|s=>do
 let rec g:Nat->Term->MacroM (TSyntax `rcasesPat)
  |0,_=>Macro.throwUnsupported
  |n+1,s=>do match s with
   |`(#[$x,*])=>let y<-x.getElems.mapM λz=>do let z<-g n z;`(rcasesPatLo|$z:rcasesPat)
                `(rcasesPat|⟨$y,*⟩)
   |`(_)=>`(rcasesPat|_)
   |`($i:ident)=>`(rcasesPat|$i:ident)
   |_=>Macro.throwUnsupported
 match s with
 |`(tactic|let $p:term:=$e)=>do
  let q<-g 9 p
  `(tactic|obtain $q:rcasesPat:=$e)
 |_=>return(s.setKind ``tacticHave__).setArg 0 (mkAtom "have")
local macro_rules|`(#[$x,*])=>`(⟨$x,*⟩)
local macro_rules|`(#v[$x,*])=>`(List.toArray [$x,*])
local macro_rules|`(tactic|show $e)=>`(tactic|refine $e)
local macro_rules|`(tactic|lk)=>`(tactic|walk_at "ex")
local macro_rules|`(tactic|cbv)=>`(tactic|walk_at "go")
local macro_rules|`(tactic|f_are)=>`(tactic|walk_at "e")
local macro_rules|`(tactic|f_tup)=>`(tactic|walk_at "s")
local macro_rules|`(tactic|k_go)=>`(tactic|walk_at "A")
local macro_rules|`(tactic|room)=>`(tactic|walk_at "sc")
local macro_rules|`(tactic|w_up)=>`(tactic|walk_at "c")
local macro_rules|`(tactic|f_len)=>`(tactic|walk_at "n")
local macro_rules|`(())=>`(by omega)
local macro_rules|`(tactic|fin2)=>`(tactic|decide+kernel)
namespace L2
open PySem PySem.Spec PyProof.Rows
abbrev Key:=Sum Int Str
def nW:Key->ε->Bool
 |.inl k,v=>Value.isInt k v
 |.inr x,v=>Value.isStrOf x v
def abN(w:ϭ):Key->Int
 |.inl k=>hashInt k
 |.inr x=>hashStr w x
theorem iH:∀{k:Key}{v:ε},nW k v=true->(∃i t,k=Sum.inl i/\v=Value.int i t)\/(∃x t,k=Sum.inr x/\v=Value.str x t)
 |.inl i,v,h=>by
   let#[t,e]:=Value.isInt_shape (k:=i) (v:=v) h;show .inl #[i,t,rfl,e]
 |.inr x,v,h=>by
   let#[t,e]:=Value.isStrOf_shape (x:=x) (v:=v) h;show .inr #[x,t,rfl,e]
theorem aea(i:Int)(t:Tok):nW (.inl i) (.int i t)=true:=by simp[nW,Value.isInt]
theorem adl(x:Str)(t:Tok):nW (.inr x) (.str x t)=true:=by simp[nW,Value.isStrOf]
theorem W7(a b:Int):decide ((Sum.inl a:Key)=Sum.inl b)=(a==b):=by
 by_cases e:a=b
 .subst e;simp
 .let h:¬(Sum.inl a:Key)=Sum.inl b:=λq=>e (Sum.inl.inj q)
  rw[decide_eq_false h];show(beq_eq_false_iff_ne.mpr e).symm
theorem YC(a b:Str):decide ((Sum.inr a:Key)=Sum.inr b)=decide (a=b):=by
 by_cases e:a=b
 .subst e;simp
 .let h:¬(Sum.inr a:Key)=Sum.inr b:=λq=>e (Sum.inr.inj q)
  rw[decide_eq_false h,decide_eq_false e]
theorem afX(a:Int)(b:Str):decide ((Sum.inl a:Key)=Sum.inr b)=false:=decide_eq_false (λq=>nomatch q)
theorem Ze(a:Str)(b:Int):decide ((Sum.inr a:Key)=Sum.inl b)=false:=decide_eq_false (λq=>nomatch q)
def bR(prog:Ϯ)(w:ϭ):PySem.KeyKind prog w Key where
 is:=nW
 hash:=abN w
 inj:=λv a b g f=>by
  obtain⟨i,t,rfl,rfl⟩|⟨x,t,rfl,rfl⟩:=iH g
  .obtain⟨j,u,rfl,e⟩|⟨y,u,rfl,e⟩:=iH f
   .injection e with e1 _;rw[e1]
   .show nomatch e
  .obtain⟨j,u,rfl,e⟩|⟨y,u,rfl,e⟩:=iH f
   .show nomatch e
   .injection e with e1 _;rw[e1]
 byValue:=λk v h=>by
  obtain⟨i,t,rfl,rfl⟩|⟨x,t,rfl,rfl⟩:=iH h<;>rfl
 pyHash:=λc h=>by
  obtain⟨i,t,rfl,rfl⟩|⟨x,t,rfl,rfl⟩:=iH c
  .show wpAny_pyHash_int h
  .show wpAny_pyHash_str h
 eqBool:=λl c h=>by
  obtain⟨i,t,rfl,rfl⟩|⟨x,t,rfl,rfl⟩:=iH l
  .obtain⟨j,u,rfl,rfl⟩|⟨y,u,rfl,rfl⟩:=iH c
   .rw[W7]at h;show wpAny_eqBool_int h
   .rw[afX]at h;show SeqAt.EqAt.int_str i t y u _ _ _ _ h
  .obtain⟨j,u,rfl,rfl⟩|⟨y,u,rfl,rfl⟩:=iH c
   .rw[Ze]at h;show SeqAt.EqAt.str_int x t j u _ _ _ _ h
   .rw[YC]at h;show wpAny_eqBool_str h
 «strs» :=λk x t v h=>by
  obtain⟨i,u,rfl,e⟩|⟨y,u,rfl,e⟩:=iH h
  .show nomatch e
  .injection e with e1 _
   subst e1;cases v<;>rfl
theorem af8(prog:Ϯ)(w:ϭ)(i:Int)(t:Tok):(bR prog w).is (.inl i) (.int i t)=true:=aea i t
theorem abW(prog:Ϯ)(w:ϭ)(x:Str)(t:Tok):(bR prog w).is (.inr x) (.str x t)=true:=adl x t
inductive V where
 |non|bl (b:Bool)|int (i:Int)|str (x:Str)|byt (b:Array UInt8)|flt (b:UInt64)|ref (a:δ)|ty (n:String)
 deriving DecidableEq
def RelV:V->ε->Prop
 |.non,u=>u=Value.none
 |.bl b,u=>u=Value.bool b
 |.int i,u=>∃t,u=Value.int i t
 |.str x,u=>∃t,u=Value.str x t
 |.byt b,u=>∃t,u=Value.bytes b t
 |.flt b,u=>∃t,u=Value.float b t
 |.ref a,u=>u=Value.ref a
 |.ty n,u=>u=Value.type n
abbrev Vals:List V->List ε->Prop:=Paired RelV
theorem Vals.length{xs:List V}{us:List ε}(r:Vals xs us):xs.length=us.length:=Paired.length r
theorem Vals.get:∀{xs:List V}{us:List ε}{i:Nat}{x:V},Vals xs us->xs[i]?=some x->∃u,us[i]?=some u/\RelV x u
 |_,_,_,_,.nil,e=>by simp at e
 |_,_,0,_,.cons r _,e=>by simp at e;subst e;show#[_,rfl,r]
 |_,_,i+1,x,.cons _ t,e=>by
  let#[u,h1,h2]:=Vals.get (i:=i) (x:=x) t (by simpa using e);show#[u,by simpa using h1,h2]
theorem Vals.append:∀{xs ys:List V}{us ws:List ε},Vals xs us->Vals ys ws->Vals (xs++ys) (us++ws)
 |_,_,_,_,.nil,s=>s
 |_,_,_,_,.cons r t,s=>.cons r (Vals.append t s)
theorem Vals.take:∀{xs:List V}{us:List ε}(n:Nat),Vals xs us->Vals (xs.take n) (us.take n)
 |_,_,0,_=>.nil
 |_,_,_+1,.nil=>.nil
 |_,_,n+1,.cons r t=>.cons r (Vals.take n t)
theorem Vals.drop:∀{xs:List V}{us:List ε}(n:Nat),Vals xs us->Vals (xs.drop n) (us.drop n)
 |_,_,0,r=>r
 |_,_,_+1,.nil=>.nil
 |_,_,n+1,.cons _ t=>Vals.drop n t
def bN:Option V->Option ε->Prop
 |some v,some u=>RelV v u
 |none,none=>True
 |_,_=>False
def KV{κ:Type}:List (κ×V)->List (κ×ε)->Prop:=Paired λ(p:κ×V)(q:κ×ε)=>p.1=q.1/\RelV p.2 q.2
def kV:Key->V
 |.inl i=>.int i
 |.inr x=>.str x
inductive HO where
 |lst (xs:List V)
 |tup (xs:List V)
 |dK (Ϸ:List (Key×V))|dT (Ϸ:List (List Key×V))
 |set (S:Int->Bool) (n:Nat)
 |ins (C dx:δ) (fs:List (Str×V))
 |own (x:δ)
 |xd (fs:List (Str×V))
 |met (f x:δ)
 |rng (lo hi:Int)
 |frz (o:Obj) (u:HO)
 |tbl (ps:Array ε)
 |ext (φ:ϫ->Prop)
theorem Δ{n:Nat}(h:n.ble 1000=true:=by rfl):n<=ϰ:=aeP (alV h) (by rw[ϳ];decide)
abbrev Hp:=δ->Option HO
def upd(H:Hp)(a:δ)(o:HO):Hp:=λb=>if b=a then some o else H b
theorem υ{H:Hp}{a:δ}{o:HO}:upd H a o a=some o:=by unfold upd;rw[if_pos rfl]
theorem ρ{H:Hp}{a b:δ}{o:HO}(h:b≠a):upd H a o b=H b:=by unfold upd;rw[if_neg h]
theorem acF{H:Hp}{a b:δ}{o u:HO}(h:H a=some o)(h':H b=some u)(d:o≠u):a≠b:=by
 intro e;subst e;rw[h]at h';show d (Option.some.inj h')
theorem ϐ{H:Hp}{a b:δ}{o:HO}(h:H a=some o)(h':H b=none):a≠b:=by
 intro e;subst e;rw[h]at h';cases h'
section
variable(P:Ϯ)(w:ϭ)
def ϕ(H:Hp)(h:ϫ)(a:δ):HO->Prop
 |.lst xs=>xs.length<=ϰ/\∃(e:List ε)(n:Nat),Vals xs e/\h.get? a=some {cls:=.type "list",data:=.seq e.toArray n}
 |.tup xs=>xs.length<=ϰ/\∃e:List ε,Vals xs e/\IsTup h a e.toArray
 |.dK Ϸ=>Ϸ.length<=ϰ/\(a==sysModules)=false/\∃vs,KV Ϸ vs/\h.DictOf (bR P w) a vs
 |.dT Ϸ=>Ϸ.length<=ϰ/\(a==sysModules)=false/\∃xs:List (List Key×δ×ε),
   Paired (λ(p:List Key×V)(q:List Key×δ×ε)=>p.1=q.1/\H q.2.1=some (.tup (p.1.map kV))/\RelV p.2 q.2.2) Ϸ xs/\
   ∃o es ep,h.get? a=some o/\o.ExactDict/\o.data=.dict es ep/\es.toList=xs.map (entryOfKey (tupleKind (bR P w)))/\(xs.map (·.1)).Nodup
 |.set S n=>h.SetOf (intKind P w) a S n
 |.ins C dx fs=>H dx=some (.own a)/\fs.length<=1000/\dx≠a/\h.get? a=some (alW C dx)/\
   ∃mA,h.Ns1 dx mA/\(∀f,bN (fs.lookup f) (mA f))/\PySem.Within mA (fs.map (·.1))
 |.own _=>∃o,h.get? a=some o
 |.xd fs=>∃mA,h.Ns1 a mA/\∀f,bN (fs.lookup f) (mA f)
 |.rng lo hi=>∃t u v,h.get? a=some {cls:=.type "range",data:=.fields #v[.int lo t,.int hi u,.int 1 v]}
 |.frz o u=>h.get? a=some o/\ϕ H h a u
 |.tbl ps=>∃g:Array ε,h.get? a=some {cls:=.none,data:=.fields g}/\TriplesOk g.toList/\∀(p:Pos)(i:ε),codeAmong p g.toList=some i->∃c oc u q t vs t',i=.ref c/\codeAmong p ps.toList=some (.str q t)/\H c=some (.frz oc u)/\oc.data=.fields vs/\vs[1]?=some (.str q t')
 |.met f x=>h.get? a=some (anw (.ref f) (.ref x))
 |.ext φ=>φ h/\(∃o,h.get? a=some o)/\∀h1 h2:ϫ,φ h1->(∀o,h1.get? a=some o->h2.get? a=some o)->φ h2
def aa(H:Hp)(h:ϫ):=∀a o,H a=some o->ϕ P w H h a o
end
section
variable{P:Ϯ}{w:ϭ}{H H':Hp}{h h':ϫ}{a:δ}{o:HO}
theorem ϕ.there(x:ϕ P w H h a o):∃ob,h.get? a=some ob:=by
 cases o with
 |lst xs=>let#[_,_,_,_,e]:=x;show#[_,e]
 |tup xs=>let#[_,_,_,ob,e,_]:=x;show#[_,e]
 |dK Ϸ=>let#[_,_,_,_,o,_,_,e,_]:=x;show#[_,e]
 |dT Ϸ=>let#[_,_,_,_,o,_,_,e,_]:=x;show#[_,e]
 |set S n=>let#[o,_,_,_,e,_]:=x;show#[_,e]
 |ins C dx fs=>let#[_,_,_,e,_]:=x;show#[_,e]
 |own y=>let#[_,e]:=x;show#[_,e]
 |xd fs=>let#[_,#[_,_,_,e,_],_]:=x;show#[_,e]
 |rng lo hi=>let#[_,_,_,e]:=x;show#[_,e]
 |frz ob u=>let#[e,_]:=x;show#[_,e]
 |tbl ps=>let#[_,e,_]:=x;show#[_,e]
 |met f y=>show#[_,(show h.get? a=some _ from x)]
 |ext φ=>let#[_,#[_,e],_]:=x;show#[_,e]
theorem ϕ.lt(x:ϕ P w H h a o):a<h.objs.size:=by
 let#[_,e]:=x.there;show acr e
theorem Paired.mapP{α β:Type}{F G:α->β->Prop}:∀{c:List α}{e:List β},Paired F c e->(∀a b,F a b->G a b)->Paired G c e
 |_,_,.nil,_=>.nil
 |_,_,.cons r t,f=>.cons (f _ _ r) (Paired.mapP t f)
theorem ϕ.stay(x:ϕ P w H h a o)(k:∀b u,(b=a\/H b=some (.own a))->h.get? b=some u->h'.get? b=some u)(l:∀b,H b=some (.own a)->H' b=some (.own a))(m:∀b xs,H b=some (.tup xs)->H' b=some (.tup xs))(hz:∀b g u,H b=some (.frz g u)->H' b=some (.frz g u):=by show λ_ _ _ q=>q):ϕ P w H' h' a o:=by
 induction o with
 |lst xs=>let#[z,i,n,r,e]:=x;show#[z,i,n,r,k _ _ (.inl rfl) e]
 |tup xs=>let#[z,i,r,g,e,c]:=x;show#[z,i,r,g,k _ _ (.inl rfl) e,c]
 |dK Ϸ=>let#[z,y,vs,r,g,es,ep,e,c]:=x;show#[z,y,vs,r,g,es,ep,k _ _ (.inl rfl) e,c]
 |dT Ϸ=>
  let#[z,y,xs,r,g,es,ep,e,c]:=x;show#[z,y,xs,Paired.mapP r λp q z=>#[z.1,m _ _ z.2.1,z.2.2],g,es,ep,k _ _ (.inl rfl) e,c]
 |set S n=>let#[g,es,ep,t,e,c]:=x;show#[g,es,ep,t,k _ _ (.inl rfl) e,c]
 |ins C dx fs=>
  let#[d,z,ne,e,mA,#[od,es,ep,j,c],r]:=x;show#[l _ d,z,ne,k _ _ (.inl rfl) e,mA,#[od,es,ep,k _ _ (.inr d) j,c],r]
 |own y=>let#[g,e]:=x;show#[g,k _ _ (.inl rfl) e]
 |xd fs=>let#[mA,#[od,es,ep,e,c],r]:=x;show#[mA,#[od,es,ep,k _ _ (.inl rfl) e,c],r]
 |rng lo hi=>let#[t,u,v,e]:=x;show#[t,u,v,k _ _ (.inl rfl) e]
 |frz g u s=>let#[e,q]:=x;show#[k _ _ (.inl rfl) e,s q]
 |tbl ps=>
  let#[B,e,tr,z]:=x;show#[B,k _ _ (.inl rfl) e,tr,λp D E=>?_];let#[c,oc,u,q,t,vs,t',e1,j,F,G]:=z p D E;show#[c,oc,u,q,t,vs,t',e1,j,hz _ _ _ F,G]
 |met f y=>
  let e:h.get? a=some (anw (.ref f) (.ref y)):=x;show h'.get? a=some (anw (.ref f) (.ref y));show k a _ (.inl rfl) e
 |ext φ=>let#[p,#[o,e],st]:=x;show#[st _ _ p λo q=>k _ _ (.inl rfl) q,#[o,k _ _ (.inl rfl) e],st]
theorem aa.lt(x:aa P w H h)(e:H a=some o):a<h.objs.size:=(x a o e).lt
theorem aa.fresh(x:aa P w H h)(e:h.objs.size<=a):H a=none:=by
 cases q:H a with
 |none=>rfl
 |some u=>show absurd (acw (x.lt q) e) (aiw _)
theorem aa.kept(x:aa P w H h)(k:∀b u,h.get? b=some u->h'.get? b=some u):aa P w H h':=λa o e=>
 (x a o e).stay (λb u _ q=>k b u q) (λ_ q=>q) λ_ _ q=>q
theorem aa.laid(x:aa P w H h)(k:∀b u,h.get? b=some u->h'.get? b=some u)(j:h.objs.size<=a)(f:ϕ P w (upd H a o) h' a o):aa P w (upd H a o) h':=λb u e=>by
 let g:=x.fresh j;by_cases i:b=a
 .subst i;rw[υ]at e;cases e;show f
 .rw[ρ i]at e;show(x b u e).stay (λc v _ q=>k c v q) (λc q=>by rw[ρ (ϐ q g)];show q) (λc xs q=>by rw[ρ (ϐ q g)];show q) λc l v q=>by rw[ρ (ϐ q g)];show q
end
def Rd(H:Hp)(a:δ)(u:HO):Prop:=H a=some u\/∃o,H a=some (.frz o u)
theorem Rd.ok{P:Ϯ}{w:ϭ}{H:Hp}{h:ϫ}{a:δ}{u:HO}(r:Rd H a u)(x:aa P w H h):ϕ P w H h a u:=by
 obtain r|⟨o,r⟩:=r
 .show x a u r
 .let#[_,q]:=x a _ r;show q
def sO:Option HO->Prop
 |some (.lst _)=>True
 |some (.dK _)=>True
 |some (.dT _)=>True
 |some (.set _ _)=>True
 |some (.ins _ _ _)=>True
 |some (.ext _)=>True
 |_=>False
section
variable{P:Ϯ}{w:ϭ}{H:Hp}{h h':ϫ}{x e:δ}{o':HO}
theorem aa.write(ok:aa P w H h)(g:sO (H x))(n:e=x\/H e=some (.own x))(k:∀b u,b≠e->h.get? b=some u->h'.get? b=some u)(l:∃u,h'.get? e=some u)(m:ϕ P w (upd H x o') h' x o'):aa P w (upd H x o') h':=λb u q=>by
 let f:∀c y,H c=some (.own y)->c≠x:=λc y r z=>by subst z;rw[r]at g;show g
 let i:∀c xs,H c=some (.tup xs)->c≠x:=λc xs r z=>by subst z;rw[r]at g;show g
 by_cases j:b=x
 .subst j;rw[υ]at q;cases q;show m
 .rw[ρ j]at q;by_cases a:b=e
  .let o:H b=some (.own x):=by
    obtain z|z:=n
    .show absurd (a.trans z) j
    .rw[a];show z
   rw[q]at o;cases o;let#[v,p]:=l;show#[v,by rw[a];show p]
  .show(ok b u q).stay (λc v hc r=>k c v ?_ r) (λc r=>by rw[ρ (f c b r)];show r) (λc xs r=>by rw[ρ (i c xs r)];show r) λc s v r=>by rw[ρ (λz=>by subst z;rw[r]at g;show g)];show r
   obtain rfl|hc:=hc
   .show a
   .rintro rfl
    obtain z|z:=n
    .show f c b hc z
    .rw[hc]at z;cases z;show j rfl
end
structure Un(fs ex:List δ)(H H':Hp)(h h':ϫ):Prop where
 keep:∀b o,h.get? b=some o->H b=none->b∉fs->b∉ex->h'.get? b=some o
 slot:∀b o,h.get? b=some o->H b=none->b∈fs->b∉ex->∃sl,h'.get? b=some {o with slots:=sl}
 free:∀b o,h.get? b=some o->H b=none->b∉ex->H' b=none
 there:∀b o,h.get? b=some o->b∉ex->∃o',h'.get? b=some o'
 tups:∀b xs,H b=some (.tup xs)->H' b=some (.tup xs)
 frzs:∀b o u,H b=some (.frz o u)->H' b=some (.frz o u)
 tbls:∀b ps,H b=some (.tbl ps)->∃more,H' b=some (.tbl (ps++more))
section
variable{fs fs' ex ex':List δ}{H H1 H2:Hp}{h h1 h2 h':ϫ}{a x e:δ}{o:HO}
theorem Un.any(u:Un fs ex H H1 h h1){b:δ}{a:Obj}(q:h.get? b=some a)(n:H b=none)(c:b∉ex):∃sl,h1.get? b=some {a with slots:=sl}:=by
 by_cases e:b∈fs
 .show u.slot b a q n e c
 .show#[a.slots,u.keep b a q n e c]
theorem Un.kept(k:∀b u,h.get? b=some u->h'.get? b=some u):Un fs ex H H h h':=
 #[λb a q _ _ _=>k b a q,λb a q _ _ _=>#[a.slots,k b a q],λ_ _ _ n _=>n,λb a q _=>#[a,k b a q],λ_ _ q=>q,λ_ _ _ q=>q,λ_ ps q=>#[#v[],by rw[q];simp]]
theorem Un.refl:Un fs ex H H h h:=Un.kept λ_ _ q=>q
theorem Un.laid(k:∀b u,h.get? b=some u->h'.get? b=some u)(e:h.objs.size<=a)(c:H a=none):Un fs ex H (upd H a o) h h' where
 keep:=λb u q _ _ _=>k b u q
 slot:=λb u q _ _ _=>#[u.slots,k b u q]
 free:=λb u q n _=>by rw[ρ (ac6 (acw (acr q) e))];show n
 there:=λb u q _=>#[u,k b u q]
 tups:=λb xs q=>by rw[ρ (ϐ q c)];show q
 frzs:=λb u xs q=>by rw[ρ (ϐ q c)];show q
 tbls:=λb ps q=>#[#v[],by rw[ρ (ϐ q c),q];simp]
theorem Un.write(c:sO (H x))(l:e=x\/H e=some (.own x))(k:∀b u,b≠e->h.get? b=some u->h'.get? b=some u)(f:∃u,h'.get? e=some u):Un fs ex H (upd H x o) h h':=by
 let i:∀b,H b=none->b≠x:=λb n z=>by subst z;rw[n]at c;show c
 let j:∀b,H b=none->b≠e:=λb n z=>by
  subst z;obtain r|r:=l
  .show i b n r
  .rw[n]at r;cases r
 let g:∀b u,H b=some u->¬sO (some u)->b≠x:=λb u q nm z=>by subst z;rw[q]at c;show nm c
 show#[λb u q n _ _=>k b u (j b n) q,λb u q n _ _=>#[u.slots,k b u (j b n) q],λb u q n _=>by rw[ρ (i b n)];show n,λb u q _=>?_,
  λb xs q=>by rw[ρ (g b _ q λz=>z)];show q,λb u xs q=>by rw[ρ (g b _ q λz=>z)];show q,λb ps q=>#[#v[],by rw[ρ (g b _ q λz=>z),q];simp]]
 by_cases a:b=e
 .subst a;show f
 .show#[u,k b u a q]
end
def iT(h:ϫ)(H:Hp):List δ:=(aei h.objs.size).filter λa=>(H a).isSome
def ie(h:ϫ)(H:Hp):ϫ:=W.hideAll h (iT h H)
theorem Yz(h:ϫ)(H:Hp):(ie h H).objs.size=h.objs.size:=W.hideAll_size _ _
theorem aha{h:ϫ}{H:Hp}{b:δ}{o:Obj}(e:h.get? b=some o)(n:H b=none):(ie h H).get? b=some o:=
 W.hideAll_get _ e λa=>by
  let q:(H b).isSome=true:=(aiK.mp a).2;rw[n]at q;simp at q
theorem agM{h:ϫ}{H:Hp}{b:δ}{o:Obj}(e:(ie h H).get? b=some o):h.get? b=some o/\H b=none:=by
 let a:h.get? b=some o:=W.of_hideAll (iT h H) e;show#[a,?_];cases q:H b with
 |none=>rfl
 |some x=>
  let c:b∈iT h H:=aiK.mpr #[ame.mpr (acr a),by simp[q]];let z:(ie h H).get? b=none:=W.hideAll_none (iT h H) c;rw[z]at e;cases e
def acH(g h:ϫ)(L:δ):List (δ×Obj):=(aei h.objs.size).filterMap λa=>if a=L\/(g.get? a).isSome=true then none else(h.get? a).map λo=>(a,o)
def rest(g h:ϫ)(L d:δ):List (δ×Obj):=(acH g h L).filter λp=>decide (p.1≠d)
structure Mod(K:ϩ)(mg:Str->Option ε)(base:ϫ):Prop where
 kin:K.In base
 glob:base.Ns mainGlobals mg
 blt:∃mb,base.Ns builtinsNs mb/\∀x:Str,x≠"__name__"->mb x=bootBuiltins x
 nolimit:base.NoLimit
structure Cx where
 prog:Ϯ
 w:ϭ
 K:ϩ
 mg:Str->Option ε
 base:ϫ
 A:ϱ
 N:List Str
 s₀:μ
 H₀:Hp
 env:Env
 outer:List Env
 stack:List Env
 ex:List δ
 fn:Str->Bool
 calm:Bool
 pn:List (δ×Obj)
 xe:ε->μ->Prop
def cD(l:List Env):List δ:=l.filterMap (·.frame)
abbrev Cx.fs(X:Cx):List δ:=cD X.outer
def qR(sc:ahw)(x:Str):Prop:=sc.names.lookup x=some .local\/sc.names.lookup x=some .cell\/sc.names.lookup x=some .free
def Loc(sc:ahw)(x:Str):Prop:=sc.names.lookup x=some .local\/sc.names.lookup x=some .cell
def Look(env:Env)(h:ϫ)(m:Str->Option ε)(x:Str)(u:ε):Prop:=
 (env.kindOf x=some .local/\m x=some u)\/((env.kindOf x=some .cell\/env.kindOf x=some .free)/\∃c,env.cells.lookup x=some c/\h.IsCell c (some u))
structure Cx.Ok(X:Cx):Prop where
 mod:Mod X.K X.mg X.base
 kind:X.env.scope.kind=.function
 glob:X.env.globals=mainGlobals
 blt:X.env.builtins=builtinsNs
 above:X.s₀.heap.objs.size<=X.env.locals
 inj:∀x y c,X.env.cells.lookup x=some c->X.env.cells.lookup y=some c->x=y
 has:∀x,(X.env.kindOf x=some .cell\/X.env.kindOf x=some .free)->∃c,X.env.cells.lookup x=some c
 cab:∀x c,X.fn x=true->X.env.cells.lookup x=some c->X.s₀.heap.objs.size<=c
 hd:X.calm=true->X.A.handled=none
 frames:X.A.frames=some X.stack
 stk:X.stack=X.outer\/(X.stack=X.env::X.outer/\X.env.frame=some X.env.locals)
 exf:∀b∈X.ex,b≠X.env.locals/\∀x c,X.env.cells.lookup x=some c->c≠b
 bs:∀b o,X.base.get? b=some o->X.s₀.heap.get? b=some o/\X.H₀ b=none
 bsz:X.base.objs.size<=X.s₀.heap.objs.size
 noex:∀b o,X.base.get? b=some o->b∉X.ex
 exfs:∀b∈X.ex,b∉X.fs
 funs:X.s₀.heap.FunFrames X.base X.outer
 frf:∀b∈X.fs,X.H₀ b=none
structure Inv(X:Cx)(ϵ:List (δ×Obj))(σ:List (Option V))(H:Hp)(s:μ):Prop where
 ok:X.Ok
 os:s.os=X.s₀.os
 bare:AllBare s.gens
 base:Un X.fs X.ex X.H₀ H X.s₀.heap s.heap
 loc:∃m,s.heap.Ns X.env.locals m/\∀(i:Nat)(x:Str)(v:V),X.N[i]?=some x->σ[i]?=some (some v)->qR X.env.scope x->∃u,RelV v u/\Look X.env s.heap m x u
 cell:∀x c,X.env.cells.lookup x=some c->∃v,s.heap.IsCell c v
 free:H X.env.locals=none
 freeC:∀x c,X.env.cells.lookup x=some c->H c=none
 pin:∀p∈X.pn++ϵ,s.heap.get? p.1=some p.2/\H p.1=none/\p.1≠X.env.locals/\p.1∉X.fs/\∀v,p.2.data≠.cell v
 hok:aa X.prog X.w H s.heap
 len:σ.length=X.N.length
section
variable{X:Cx}{ϵ:List (δ×Obj)}{σ:List (Option V)}{H H':Hp}{s:μ}{h':ϫ}
theorem Cx.Ok.nofr(ok:X.Ok){b:δ}{o:Obj}(e:X.base.get? b=some o):b∉X.fs:=λa=>by
 have:=(ok.funs.mem a).1;rw[e]at this;cases this
theorem Inv.bs(I:Inv X ϵ σ H s):∀b o,X.base.get? b=some o->s.heap.get? b=some o/\H b=none:=λb o e=>
 #[I.base.keep b o (I.ok.bs b o e).1 (I.ok.bs b o e).2 (I.ok.nofr e) (I.ok.noex b o e),I.base.free b o (I.ok.bs b o e).1 (I.ok.bs b o e).2 (I.ok.noex b o e)]
theorem Inv.bk(I:Inv X ϵ σ H s):∀b o,X.base.get? b=some o->s.heap.get? b=some o:=λb o e=>(I.bs b o e).1
theorem Inv.mod(I:Inv X ϵ σ H s):Mod X.K X.mg X.base:=I.ok.mod
theorem Inv.kIn(I:Inv X ϵ σ H s):X.K.In s.heap:=I.ok.mod.kin.keeps I.bk
theorem Inv.nolimit(I:Inv X ϵ σ H s):s.heap.NoLimit:=I.ok.mod.nolimit.keeps I.bk
theorem Inv.lt(I:Inv X ϵ σ H s):X.env.locals<s.heap.objs.size:=let⟨_,hn,_⟩:=I.loc;hn.lt
theorem Inv.sz(I:Inv X ϵ σ H s):X.s₀.heap.objs.size<=s.heap.objs.size:=aeP I.ok.above (alX I.lt)
theorem Inv.nofs(I:Inv X ϵ σ H s){a:δ}(h:s.heap.objs.size<=a):a∉X.fs:=λc=>by
 let#[_,o,e,_]:=I.ok.funs.mem c;show absurd (acw (acr e) (aeP I.sz h)) (aiw _)
theorem Inv.cne(I:Inv X ϵ σ H s):∀x c,X.env.cells.lookup x=some c->c≠X.env.locals:=λx c e z=>by
 let#[v,o,g,hd]:=I.cell x c e;let#[m,#[o',es,ep,a,f,_],_]:=I.loc;rw[z,a]at g;cases g;rw[f]at hd;cases hd
theorem Inv.funs(I:Inv X ϵ σ H s):s.heap.FunFrames X.base X.outer:=by
 let all:∀(l:List Env),(∀b∈cD l,b∈X.fs)->X.s₀.heap.FunFrames X.base l->s.heap.FunFrames X.base l:=by
  intro l;induction l with
  |nil=>intro _ _;trivial
  |cons env r g=>
   intro hs i;let#[j,#[L,o,a,m,n,hd],p]:=i;let c:L∈X.fs:=hs L (by unfold cD;rw[al2,a];show aeh);let#[sl,e]:=I.base.slot L o n (I.ok.frf L c) c λz=>I.ok.exfs L z c
   show#[j,#[L,_,a,m,e,hd],g (λb f=>hs b (by unfold cD;rw[al2,a];show adF _ f)) p]
 show all X.outer (λ_ f=>f) I.ok.funs
theorem Inv.stack(I:Inv X ϵ σ H s):s.heap.FunFrames X.base X.stack:=by
 obtain e|⟨e,a⟩:=I.ok.stk
 .rw[e];show I.funs
 .rw[e];let#[m,c,_]:=I.loc;show .cons (by rw[I.ok.kind];decide) a c ?_ I.funs;show alu (aeP I.ok.bsz I.ok.above)
theorem Inv.stkSub(I:Inv X ϵ σ H s):∀b∈cD X.stack,b∈X.env.locals::X.fs:=λb a=>by
 obtain e|⟨e,c⟩:=I.ok.stk
 .rw[e]at a;show adF _ a
 .rw[e]at a;unfold cD at a;rw[al2,c]at a;show a
theorem Inv.stkFree(I:Inv X ϵ σ H s):∀b∈cD X.stack,H b=none:=λb hb=>by
 rcases aaF.mp (I.stkSub b hb)with e|hb
 .rw[e];show I.free
 .let#[_,o,a,_]:=I.ok.funs.mem hb;show I.base.free b o a (I.ok.frf b hb) λz=>I.ok.exfs b z hb
theorem Inv.step{g':Array GenState}{t':Nat}{d':Drawn}{ch:List δ}(I:Inv X ϵ σ H s)(f:∀b∈ch,(b∈X.ex\/X.s₀.heap.get? b=none)/\b≠X.env.locals/\(∀x c,X.env.cells.lookup x=some c->c≠b)/\∀p∈X.pn++ϵ,p.1≠b)(keep:∀b o,b≠X.env.locals->b∉X.fs->b∉ch->s.heap.get? b=some o->H b=none->h'.get? b=some o)(slot:∀b o,b≠X.env.locals->b∈X.fs->b∉ch->s.heap.get? b=some o->H b=none->∃sl,h'.get? b=some {o with slots:=sl})(free:∀b o,b∉ch->s.heap.get? b=some o->H b=none->H' b=none)(there:∀b o,b∉ch->s.heap.get? b=some o->∃o',h'.get? b=some o')(tups:∀b xs,H b=some (.tup xs)->H' b=some (.tup xs))(frzs:∀b o u,H b=some (.frz o u)->H' b=some (.frz o u))(tbls:∀b ps,H b=some (.tbl ps)->∃D,H' b=some (.tbl (ps++D)))(ns:∀m,s.heap.Ns X.env.locals m->h'.Ns X.env.locals m)(hok:aa X.prog X.w H' h')(O:AllBare g'):Inv X ϵ σ H' {s with heap:=h',gens:=g',drawn:=d',toks:=t'}:=by
 let E:∀b o,X.s₀.heap.get? b=some o->b≠X.env.locals:=λb o e=>ac6 (acw (acr e) I.ok.above)
 let y:∀b o,X.s₀.heap.get? b=some o->b∉X.ex->b∉ch:=λb o e a B=>by
  rcases(f b B).1 with z|z
  .show a z
  .rw[e]at z;cases z
 let g:∀x c,X.env.cells.lookup x=some c->∀v,s.heap.IsCell c v->h'.IsCell c v:=λx c e v ⟨o,C,hd⟩=>by
  let j:c∉ch:=λz=>(f c z).2.2.1 x c e rfl
  by_cases J:c∈X.fs
  .let#[sl,q]:=slot c o (I.cne x c e) J j C (I.freeC x c e);show#[_,q,hd]
  .show#[o,keep c o (I.cne x c e) J j C (I.freeC x c e),hd]
 show#[I.ok,I.os,O,#[λb o e n B a=>?_,λb o e n B a=>?_,λb o e n a=>?_,λb o e a=>?_,λb xs e=>tups b xs (I.base.tups b xs e),λb o xs e=>frzs b o xs (I.base.frzs b o xs e),λb ps e=>?_],?_,λx c e=>?_,?_,λx c e=>?_,λp L=>?_,hok,I.len]
 .show keep b o (E b o e) B (y b o e a) (I.base.keep b o e n B a) (I.base.free b o e n a)
 .let#[sl,e1]:=I.base.slot b o e n B a;let#[G,F]:=slot b _ (E b o e) B (y b o e a) e1 (I.base.free b o e n a);show#[G,F]
 .let#[o',e1]:=I.base.there b o e a;show free b o' (y b o e a) e1 (I.base.free b o e n a)
 .let#[o',e1]:=I.base.there b o e a;show there b o' (y b o e a) e1
 .let#[P,e1]:=I.base.tbls b ps e;let#[Q,F]:=tbls b _ e1;show#[P++Q,by rw[F,Array.append_assoc]]
 .let#[m,R,S]:=I.loc;show#[m,ns m R,λi x v e1 F T=>?_];let#[u,r,l]:=S i x v e1 F T;show#[u,r,?_];obtain l|⟨k,c,e,z⟩:=l
  .show .inl l
  .show .inr #[k,c,e,g x c e _ z]
 .let#[v,z]:=I.cell x c e;show#[v,g x c e v z]
 .let#[m,#[o,_,_,C,_],_]:=I.loc;show free _ o (λz=>(f _ z).2.1 rfl) C I.free
 .let#[v,o,C,hd]:=I.cell x c e;show free c o (λz=>(f c z).2.2.1 x c e rfl) C (I.freeC x c e)
 .let#[e,n,ne,M,d]:=I.pin p L;let j:p.1∉ch:=λz=>(f p.1 z).2.2.2 p L rfl
  show#[keep p.1 p.2 ne M j e n,free p.1 p.2 j e n,ne,M,d]
theorem Inv.un{t':Nat}(I:Inv X ϵ σ H s)(u:Un X.fs [] H H' s.heap h')(hok:aa X.prog X.w H' h'):Inv X ϵ σ H' {s with heap:=h',toks:=t'}:=by
 let#[m,#[o,es,ep,i,r],_]:=id I.loc;let#[sl,j]:=u.any i I.free (by simp);show I.step (g':=s.gens) (d':=s.drawn) (ch:=[]) (λ_ z=>nomatch z) (λb o _ c _ e n=>u.keep b o e n c (by simp)) (λb o _ c _ e n=>u.slot b o e n c (by simp)) (λb o _ e n=>u.free b o e n (by simp)) (λb o _ e=>u.there b o e (by simp)) u.tups u.frzs u.tbls (λm' l=>by
  let#[o',f,g,a,p]:=l;rw[i]at a;cases a;show#[_,f,g,j,p]) hok I.bare
theorem Inv.call{g':Array GenState}{t':Nat}{d':Drawn}{ch:List δ}(I:Inv X ϵ σ H s)(u:Un (cD X.stack) ch H H' s.heap h')(hok:aa X.prog X.w H' h')(v:AllBare g')(f:∀b∈ch,(b∈X.ex\/X.s₀.heap.get? b=none)/\b≠X.env.locals/\(∀x c,X.env.cells.lookup x=some c->c≠b)/\∀p∈X.pn++ϵ,p.1≠b):Inv X ϵ σ H' {s with heap:=h',gens:=g',drawn:=d',toks:=t'}:=by
 let#[m,#[o,es,ep,q,r],_]:=id I.loc;let#[sl,i]:=u.any q I.free λz=>(f _ z).2.1 rfl
 show I.step (ch:=ch) f (λb o i y a e n=>u.keep b o e n (λz=>(aaF.mp (I.stkSub b z)).elim i y) a) (λb o _ _ a e n=>u.any e n a) (λb o a e n=>u.free b o e n a) (λb o a e=>u.there b o e a) u.tups u.frzs u.tbls (λm' B=>by
  let#[o',j,l,g,C]:=B;rw[q]at g;cases g;show#[_,j,l,i,C]) hok v
theorem Inv.turned{t':Nat}{it:δ}(I:Inv X ϵ σ H s)(k:∀b o,b≠it->s.heap.get? b=some o->h'.get? b=some o)(i:H it=none)(g:it≠X.env.locals)(h1:it∈X.ex\/X.s₀.heap.get? it=none)(h2:∀x c,X.env.cells.lookup x=some c->c≠it)(j:∀p∈X.pn++ϵ,p.1≠it):Inv X ϵ σ H {s with heap:=h',toks:=t'}:=by
 let f:∀b u,H b=some u->b≠it:=λb u e z=>by rw[z,i]at e;cases e
 show I.step (g':=s.gens) (d':=s.drawn) (ch:=[it]) (λb l=>?_) (λb o _ _ a e _=>k b o (λz=>a (by simp[z])) e) (λb o _ _ a e _=>#[o.slots,k b o (λz=>a (by simp[z])) e]) (λ_ _ _ _ n=>n)
  (λb o a e=>#[o,k b o (λz=>a (by simp[z])) e]) (λ_ _ e=>e) (λ_ _ _ e=>e) (λb ps e=>#[#v[],by rw[e];simp]) (λm y=>?_) (λb u e=>?_) I.bare
 .let e:b=it:=by simpa using l
  subst e;show#[h1,g,h2,j]
 .let#[o,es,ep,B,r]:=y;show#[o,es,ep,k _ o (Ne.symm g) B,r]
 .show(I.hok b u e).stay (λc v a q=>k c v ?_ q) (λ_ q=>q) λ_ _ q=>q
  obtain z|z:=a
  .rw[z];show f b u e
  .show f c _ z
theorem Inv.tok(I:Inv X ϵ σ H s)(t:Nat):Inv X ϵ σ H {s with toks:=t}:=I.un (h':=s.heap) (t':=t) Un.refl I.hok
theorem Inv.kept{t':Nat}(I:Inv X ϵ σ H s)(k:∀b u,s.heap.get? b=some u->h'.get? b=some u):Inv X ϵ σ H {s with heap:=h',toks:=t'}:=I.un (Un.kept k) (I.hok.kept k)
theorem Inv.laid{a:δ}{o:HO}{t':Nat}(I:Inv X ϵ σ H s)(k:∀b u,s.heap.get? b=some u->h'.get? b=some u)(c:s.heap.objs.size<=a)(e:ϕ X.prog X.w (upd H a o) h' a o):Inv X ϵ σ (upd H a o) {s with heap:=h',toks:=t'}:=I.un (Un.laid k c (I.hok.fresh c)) (I.hok.laid k c e)
theorem Inv.write{x e:δ}{o:HO}{t':Nat}(I:Inv X ϵ σ H s)(f:sO (H x))(g:e=x\/H e=some (.own x))(k:∀b u,b≠e->s.heap.get? b=some u->h'.get? b=some u)(a:∃u,h'.get? e=some u)(c:ϕ X.prog X.w (upd H x o) h' x o):Inv X ϵ σ (upd H x o) {s with heap:=h',toks:=t'}:=I.un (Un.write f g k a) (I.hok.write f g k a c)
theorem Inv.pins_of{pins':List (δ×Obj)}(I:Inv X ϵ σ H s)(h:∀p∈pins',s.heap.get? p.1=some p.2/\H p.1=none/\p.1≠X.env.locals/\p.1∉X.fs/\∀v,p.2.data≠.cell v):Inv X pins' σ H s:=
 #[I.ok,I.os,I.bare,I.base,I.loc,I.cell,I.free,I.freeC,λp a=>(ae6.mp a).elim (λz=>I.pin p (ajP _ z)) (h p),I.hok,I.len]
theorem Vg{N:List Str}(c:N.Nodup){i j:Nat}{x:Str}(a:N[i]?=some x)(b:N[j]?=some x):i=j:=by
 let#[h1,e1]:=aai.mp a;let#[h2,e]:=aai.mp b;show(ani c).mp (e1.trans e.symm)
theorem qT{M:Model}{A:ϱ}{E:ε->μ->Prop}{i:Nat}{x:Str}{v:V}{u:ε}{Q:Unit->μ->Prop}(I:Inv X ϵ σ H s)(hN:X.N.Nodup)(hi:X.N[i]?=some x)(g:Loc X.env.scope x)(r:RelV v u)(h:∀s',Inv X ϵ (σ.set i (some v)) H s'->(∃a,ajr a s.heap s'.heap/\(a=X.env.locals\/X.env.cells.lookup x=some a))->Q PUnit.unit s')(hf:X.fn x=true\/X.env.scope.names.lookup x=some .local:=by first|show .inl rfl|show .inr rfl|assumption):ν M A (storeName X.env x u) Q E s:=by
 let#[m,U,hl]:=id I.loc;let J:(X.env.scope.kind==.class||(X.env.scope.kind==.module&&X.env.locals !=X.env.globals))=false:=by rw[I.ok.kind];rfl
 let C:i<σ.length:=by rw[I.len];show(aai.mp hi).1
 let cne:=I.cne;let f:∀{a:δ}{h':ϫ},(∃o,s.heap.get? a=some o/\H a=none)->ajr a s.heap h'->aa X.prog X.w H h':=λ{a h'} ha hs b ob e=>by
  let#[_,_,l]:=ha;show(I.hok b ob e).stay (λc S hc q=>(hs.2 c ?_).trans q) (λ_ q=>q) λ_ _ q=>q
  rintro rfl
  obtain rfl|hc:=hc
  .rw[l]at e;cases e
  .rw[l]at hc;cases hc
 obtain hk|hk:=g
 .show wpAny_storeName_local hk U (λh' W hs=>?_) J;let#[oL,_,_,Y,_]:=id U;show h _ #[I.ok,I.os,I.bare,#[λb o e n D g=>?_,λb o e n D g=>?_,I.base.free,λb o e g=>?_,I.base.tups,I.base.frzs,I.base.tbls],#[_,W,λj y Z e1 B e3=>?_],λy c e=>?_,I.free,I.freeC,λp hp=>?_,f #[oL,Y,I.free] hs,by simpa using I.len] #[_,hs,.inl rfl]
  .show(hs.2 b (ac6 (acw (acr e) I.ok.above))).trans (I.base.keep b o e n D g)
  .let#[sl,e1]:=I.base.slot b o e n D g;show#[sl,(hs.2 b (ac6 (acw (acr e) I.ok.above))).trans e1]
  .let#[o',e1]:=I.base.there b o e g;show#[o',(hs.2 b (ac6 (acw (acr e) I.ok.above))).trans e1]
  .by_cases F:j=i
   .subst F;rw[hi]at e1;cases e1;rw[amA C]at B;cases B;show#[u,r,.inl #[hk,by simp]]
   .rw[amS (Ne.symm F)]at B;let#[u',r',q]:=hl j y Z e1 B e3;show#[u',r',?_];obtain⟨k,e⟩|⟨k,c,e,z⟩:=q
    .show .inl #[k,?_];have:y≠x:=λe=>F (Vg hN e1 (e▸hi))
     simp[this,e]
    .show .inr #[k,c,e,z.sameBut hs (cne y c e)]
  .let#[S,z]:=I.cell y c e;show#[S,z.sameBut hs (cne y c e)]
  .let#[e,n,ne,nf,d]:=I.pin p hp;show#[(hs.2 p.1 ne).trans e,n,ne,nf,d]
 .let G:X.fn x=true:=by
   obtain z|z:=hf
   .show z
   .rw[z]at hk;cases hk
  let#[c,hc]:=I.ok.has x (.inl hk);let#[S,z]:=I.cell x c hc;show wpAny_storeName_cell I.ok.kind hk hc z (λh' L hs=>?_);let#[oc,O,P]:=id z;show h {s with heap:=h'} #[I.ok,I.os,I.bare,#[λb o e n D g=>?_,λb o e n D g=>?_,I.base.free,λb o e g=>?_,I.base.tups,I.base.frzs,I.base.tbls],#[m,U.sameBut hs (Ne.symm (cne x c hc)),λj y Z e1 B e3=>?_],λy T e=>?_,I.free,I.freeC,λp hp=>?_,f #[oc,O,I.freeC x c hc] hs,by simpa using I.len] #[c,hs,.inr hc]
  .show(hs.2 b (ac6 (acw (acr e) (I.ok.cab x c G hc)))).trans (I.base.keep b o e n D g)
  .let#[sl,e1]:=I.base.slot b o e n D g;show#[sl,(hs.2 b (ac6 (acw (acr e) (I.ok.cab x c G hc)))).trans e1]
  .let#[o',e1]:=I.base.there b o e g;show#[o',(hs.2 b (ac6 (acw (acr e) (I.ok.cab x c G hc)))).trans e1]
  .by_cases F:j=i
   .subst F;rw[hi]at e1;cases e1;rw[amA C]at B;cases B;show#[u,r,.inr #[.inl hk,c,hc,L]]
   .rw[amS (Ne.symm F)]at B;let#[u',r',q]:=hl j y Z e1 B e3;show#[u',r',?_];obtain q|⟨k,T,e,z'⟩:=q
    .show .inl q
    .show .inr #[k,T,e,z'.sameBut hs ?_]
     rintro rfl
     show F (Vg hN e1 (I.ok.inj _ _ _ e hc▸hi))
  .by_cases R:T=c
   .subst R;show#[_,L]
   .let#[w2,z2]:=I.cell y T e;show#[w2,z2.sameBut hs R]
  .let#[e,n,ne,nf,d]:=I.pin p hp;show#[(hs.2 p.1 ?_).trans e,n,ne,nf,d];intro q;rw[q,O]at e;let q':oc=p.2:=Option.some.inj e;show d S (by rw[<-q'];show P)
theorem Ox{M:Model}{A:ϱ}{E:ε->μ->Prop}{i:Nat}{x:Str}{v:V}{u:ε}{Q:Unit->μ->Prop}(I:Inv X ϵ σ H s)(a:X.N.Nodup)(hi:X.N[i]?=some x)(c:Loc X.env.scope x)(r:RelV v u)(h:∀s',Inv X ϵ (σ.set i (some v)) H s'->Q PUnit.unit s')(e:X.fn x=true\/X.env.scope.names.lookup x=some .local:=by first|show .inl rfl|show .inr rfl|assumption):ν M A (storeName X.env x u) Q E s:=
 qT I a hi c r (λs' f _=>h s' f) e
theorem Inv.call'{s':μ}{ch:List δ}(I:Inv X ϵ σ H s)(f:s'.os=s.os)(u:Un (cD X.stack) ch H H' s.heap s'.heap)(hok:aa X.prog X.w H' s'.heap)(g:AllBare s'.gens)(a:∀b∈ch,(b∈X.ex\/X.s₀.heap.get? b=none)/\b≠X.env.locals/\(∀x c,X.env.cells.lookup x=some c->c≠b)/\∀p∈X.pn++ϵ,p.1≠b):Inv X ϵ σ H' s':=by
 let#[h',g',d',t',o']:=s';let e:o'=s.os:=f;subst e;show I.call (g':=g') (t':=t') (d':=d') u hok g a
end
abbrev XK:=ε->Option δ×Bool->Hp->Prop
abbrev St:=List (Option V)
abbrev VK:=V->Hp->Prop
abbrev TE:=St->Hp->VK->Prop
abbrev TT:=St->Hp->(Bool->Hp->Prop)->Prop
abbrev TA:=St->Hp->(List V->Hp->Prop)->Prop
structure Ends where
 nx:St->Hp->Prop
 rt:VK
 bk:St->Hp->Prop:=λ_ _=>False
 ct:St->Hp->Prop:=λ_ _=>False
abbrev TS:=Ends->St->Hp->Prop
def EP(X:Cx)(ϵ:List (δ×Obj))(σ:St)(Q:VK)(u:ε)(s':μ):=∃v H',Inv X ϵ σ H' s'/\RelV v u/\Q v H'
def TP(X:Cx)(ϵ:List (δ×Obj))(σ:St)(Q:Bool->Hp->Prop)(b:Bool)(s':μ):=∃H',Inv X ϵ σ H' s'/\Q b H'
def AP(X:Cx)(ϵ:List (δ×Obj))(σ:St)(Q:List V->Hp->Prop)(us:List ε)(s':μ):=∃vs H',Inv X ϵ σ H' s'/\Vals vs us/\Q vs H'
def SP(X:Cx)(ϵ:List (δ×Obj))(D:Ends)(f:Flow)(s':μ):Prop:=
 match f with
 |.next=>∃σ' H',Inv X ϵ σ' H' s'/\D.nx σ' H'
 |.brk=>∃σ' H',Inv X ϵ σ' H' s'/\D.bk σ' H'
 |.cont=>∃σ' H',Inv X ϵ σ' H' s'/\D.ct σ' H'
 |.ret u=>∃v σ' H',Inv X ϵ σ' H' s'/\RelV v u/\D.rt v H'
def PE(X:Cx)(e:Ϧ)(t:TE):Prop:=
 ∀(ϵ:List (δ×Obj))(s:μ)(σ:St)(H:Hp)(Q:VK),Inv X ϵ σ H s->t σ H Q->ν (ϧ X.prog X.w) X.A (eval e X.env) (EP X ϵ σ Q) X.xe s
def PT(X:Cx)(e:Ϧ)(t:TT):Prop:=
 ∀(ϵ:List (δ×Obj))(s:μ)(σ:St)(H:Hp)(Q:Bool->Hp->Prop),Inv X ϵ σ H s->t σ H Q->ν (ϧ X.prog X.w) X.A (isTrue e X.env (eval e X.env)) (TP X ϵ σ Q) X.xe s
def PW(X:Cx)(e:Ϧ)(t:TT):Prop:=
 ∀(a:Sem ε)(ϵ:List (δ×Obj))(s:μ)(σ:St)(H:Hp)(Q:Bool->Hp->Prop),Inv X ϵ σ H s->t σ H Q->ν (ϧ X.prog X.w) X.A (isTrue e X.env a) (TP X ϵ σ Q) X.xe s
theorem PW.pt{X:Cx}{e:Ϧ}{t:TT}(h:PW X e t):PT X e t:=h _
def PS(X:Cx)(st:Ϩ)(t:TS):Prop:=
 ∀(ϵ:List (δ×Obj))(s:μ)(σ:St)(H:Hp)(D:Ends),Inv X ϵ σ H s->t D σ H->ν (ϧ X.prog X.w) X.A (exec st X.env) (SP X ϵ D) X.xe s
def Bv(X:Cx)(st:List Ϩ)(t:TS):Prop:=
 ∀(ϵ:List (δ×Obj))(s:μ)(σ:St)(H:Hp)(D:Ends),Inv X ϵ σ H s->t D σ H->ν (ϧ X.prog X.w) X.A (execs st X.env) (SP X ϵ D) X.xe s
theorem χ{α:Type}{t:Sem α}{Q c:α->μ->Prop}{M:Model}{A:ϱ}{E:ε->μ->Prop}{s:μ}(h:ν M A t Q E s)(e:∀a s,Q a s->c a s):ν M A t c E s:=adR h e λ_ _ x=>x
section
variable{X:Cx}
def ahP(i:Nat):TE:=λσ H Q=>∃v,σ[i]?=some (some v)/\Q v H
def tC(v:V):TE:=λ_ H Q=>Q v H
theorem ahy{i:Nat}{x:Str}{pos:Pos}(j:X.N[i]?=some x)(n:qR X.env.scope x)(hd:(x==("__debug__":Str))=false:=by decide)(f:(x==("__classdict__":Str))=false:=by decide):PE X (.Name x pos) (ahP i):=by
 intro ϵ s σ H Q I h;let#[v,e,h]:=h;let#[m,o,p]:=I.loc;let#[u,r,l]:=p i x v j e n;let fin:EP X ϵ σ Q u s:=#[v,H,I,r,h];obtain⟨hk,q⟩|⟨hk,c,g,a⟩:=l
 .show wpAny_Name (wpAny_loadName_local I.ok.kind hk o q fin) hd
 .obtain hk|hk:=hk
  .show wpAny_Name (wpAny_loadName_cell I.ok.kind hk g a fin) hd
  .show wpAny_Name (wpAny_loadName_free I.ok.kind hk g a fin f) hd
def Gl(X:Cx)(x:Str):Prop:=X.env.kindOf x=some .globalImplicit
theorem xu{E:ε->μ->Prop}{ϵ:List (δ×Obj)}{s:μ}{σ:St}{H:Hp}{x:Str}{u:ε}{pos:Pos}{Q:ε->μ->Prop}(I:Inv X ϵ σ H s)(a:Gl X x)(c:X.mg x=some u)(h:Q u s)(hd:(x==("__debug__":Str))=false:=by decide):ν (ϧ X.prog X.w) X.A (eval (.Name x pos) X.env) Q E s:=
 Calls.Name_function_global I.ok.kind a (Calls.loadGlobal_global (by rw[I.ok.glob];show I.mod.glob.keeps I.bk) c h) hd
theorem gU{E:ε->μ->Prop}{ϵ:List (δ×Obj)}{s:μ}{σ:St}{H:Hp}{x:Str}{u:ε}{pos:Pos}{Q:ε->μ->Prop}(I:Inv X ϵ σ H s)(a:Gl X x)(c:X.mg x=none)(e:bootBuiltins x=some u)(h:Q u s)(f:x≠"__name__":=by decide)(hd:(x==("__debug__":Str))=false:=by decide):ν (ϧ X.prog X.w) X.A (eval (.Name x pos) X.env) Q E s:=by
 let#[mb,h1,h2]:=I.mod.blt;show Calls.Name_function_global I.ok.kind a (Calls.loadGlobal_builtin (by rw[I.ok.glob];show I.mod.glob.keeps I.bk) c (by rw[I.ok.blt];show h1.keeps I.bk) ((h2 x f).trans e) h) hd
theorem Mw{x:Str}{v:V}{u:ε}{pos:Pos}(a:Gl X x)(c:X.mg x=some u)(r:RelV v u)(hd:(x==("__debug__":Str))=false:=by decide):PE X (.Name x pos) (tC v):=
 λ_ _ _ H _ I h=>xu I a c #[v,H,I,r,h] hd
variable{a b:Ϧ}{ta tb:TE}{pos:Pos}
variable{tA tB':TT}{rest:List Ϧ}
end
def η(K:ϩ)(H:Hp)(a:δ)(xs:List V):Prop:=
 Rd H a (.lst xs)\/
  ∃(o:Obj)(c:Array ε)(n:Nat),K.lookup a=some o/\o.cls=.type "list"/\o.dict=none/\o.data=.seq c n/\c.size<=ϰ/\Vals xs c.toList
def ο(K:ϩ)(H:Hp)(a:δ)(xs:List V):Prop:=
 Rd H a (.tup xs)\/
  ∃(o:Obj)(c:Array ε)(n:Nat),K.lookup a=some o/\o.cls=.type "tuple"/\o.data=.seq c n/\c.size<=ϰ/\Vals xs c.toList
def X4:ε->Option V
 |.none=>some .non
 |.bool b=>some (.bl b)
 |.int i _=>some (.int i)
 |.str x _=>some (.str x)
 |.bytes b _=>some (.byt b)
 |.float b _=>some (.flt b)
 |.ref a=>some (.ref a)
 |.type n=>some (.ty n)
 |_=>none
theorem RelV.abs{x:V}{u:ε}(r:RelV x u):X4 u=some x:=by
 cases x with
 |non=>cases r;rfl
 |bl _=>cases r;rfl
 |int _=>let#[t,rfl]:=r;rfl
 |str _=>let#[t,rfl]:=r;rfl
 |byt _=>let#[t,rfl]:=r;rfl
 |flt _=>let#[t,rfl]:=r;rfl
 |ref _=>cases r;rfl
 |ty _=>cases r;rfl
theorem RelV.inj{x y:V}{u:ε}(r:RelV x u)(q:RelV y u):x=y:=Option.some.inj (r.abs.symm.trans q.abs)
theorem Vals.inj{xs ys:List V}{us:List ε}(h:Vals xs us)(g:Vals ys us):xs=ys:=by
 induction h generalizing ys with
 |nil=>cases g;rfl
 |cons r t a=>cases g with|cons c t'=>rw[r.inj c,a t']
section
variable{X:Cx}{ϵ:List (δ×Obj)}{σ:St}{H:Hp}{s:μ}{a:δ}{xs ys:List V}
theorem η.of{K:ϩ}(h:H a=some (.lst xs)):η K H a xs:=.inl (.inl h)
theorem ο.of{K:ϩ}(h:H a=some (.tup xs)):ο K H a xs:=.inl (.inl h)
theorem Inv.list(I:Inv X ϵ σ H s)(h:η X.K H a xs):∃c:List ε,Vals xs c/\PlainL s.heap a c.toArray/\xs.length<=ϰ:=by
 obtain h|⟨o,c,n,f,g,hd,hs,hz,r⟩:=h
 .let#[z,c,n,r,e]:=h.ok I.hok;show#[c,r,#[_,n,e,rfl,rfl,rfl],z]
 .show#[c.toList,r,#[o,n,I.kIn a o f,g,hd,by simpa using hs],?_];let e:=r.length;simp only[aiQ]at e;omega
theorem Inv.tuple(I:Inv X ϵ σ H s)(h:ο X.K H a xs):∃c:List ε,Vals xs c/\IsTup s.heap a c.toArray/\xs.length<=ϰ:=by
 obtain h|⟨o,c,n,f,g,hs,hz,r⟩:=h
 .let#[z,c,r,p]:=h.ok I.hok;show#[c,r,p,z]
 .show#[c.toList,r,#[o,I.kIn a o f,g,n,by simpa using hs],?_];let e:=r.length;simp only[aiQ]at e;omega
theorem Inv.list_inj(I:Inv X ϵ σ H s)(h:η X.K H a xs)(h':η X.K H a ys):xs=ys:=by
 let#[f,r,#[o,n,e,_,_,d],_]:=I.list h;let#[its',g,#[o',j,c,_,_,d'],_]:=I.list h';rw[e]at c;cases c;rw[d]at d';injection d' with i _
 have:f=its':=by simpa using congrArg anK i
 subst this;show r.inj g
theorem Inv.tuple_inj(I:Inv X ϵ σ H s)(h:ο X.K H a xs)(h':ο X.K H a ys):xs=ys:=by
 let#[f,r,#[o,e,_,n,d],_]:=I.tuple h;let#[its',g,#[o',c,_,j,d'],_]:=I.tuple h';rw[e]at c;cases c;rw[d]at d';injection d' with i _
 have:f=its':=by simpa using congrArg anK i
 subst this;show r.inj g
end
section
variable{X:Cx}{ϵ:List (δ×Obj)}{σ:St}{H:Hp}{s:μ}{E:ε->μ->Prop}
end
section
variable{X:Cx}{st:Ϩ}{rest:List Ϩ}{t u:TS}{e:Ϧ}{te:TE}{pos:Pos}
theorem Inv.quiet{ϵ:List (δ×Obj)}{σ:St}{H:Hp}{s:μ}(I:Inv X ϵ σ H s):interactive X.env=false:=by simp[interactive,I.ok.kind]
end
abbrev TG:=V->St->Hp->(St->Hp->Prop)->Prop
section
variable{X:Cx}{pos:Pos}
end
section
variable{X:Cx}{pos:Pos}
def afC(c:TT)(tb:TS):TS:=λD σ H=>∃W:Nat->St->Hp->Prop,(∃m,W m σ H)/\∀m σ H,W m σ H->
 c σ H λb H1=>if b=true then ∃N:St->Hp->Prop,(∀σ' H',N σ' H'->∃m',m'<m/\W m' σ' H')/\tb {D with nx:=N,ct:=N,bk:=D.nx} σ H1 else D.nx σ H1
theorem Yk{c:Ϧ}{body:List Ϩ}{tc:TT}{tb:TS}(q:aj3 (ϧ X.prog X.w) X.A X.env X.xe)(y:PT X c tc)(z:Bv X body tb):PS X (.While c body [] pos) (afC tc tb):=by
 intro ϵ s σ H D I h;let#[W,#[B,C],turn]:=h;show wpAny_While (codeAny_whileLoop (λn s'=>∃σ' H',Inv X ϵ σ' H' s'/\W n σ' H') ?_ B #[σ,H,I,C])
 rintro n E ⟨e,H1,F,G⟩
 show ajl q (χ (y ϵ E e H1 _ F (turn n e H1 G)) λb J L=>?_);let#[H2,u,i]:=L;cases b with
 |true=>
  let#[N,x,i]:=i;rw[if_pos rfl];show ajl q (χ (z ϵ J e H2 _ u i) λf M j=>?_);cases f with
  |next=>
   let#[a,g,l,m]:=j;let#[m',o,p]:=x a g m;show#[m',o,a,g,l,p]
  |cont=>
   let#[a,g,l,m]:=j;let#[m',o,p]:=x a g m;show#[m',o,a,g,l,p]
  |brk=>show j
  |ret v=>show j
 |false=>
  rw[if_neg abj];show wpAny_execs_nil #[e,H2,u,i]
end
structure It where
 go:Nat->Hp->Prop
 yld:Nat->Hp->V->Hp->Prop
 stop:Nat->Hp->Prop
def aY(X:Cx)(ϵ:List (δ×Obj))(H:Hp)(b:δ):Prop:=
 H b=none/\b≠X.env.locals/\b∉X.fs/\(b∈X.ex\/X.s₀.heap.get? b=none)/\(∀x c,X.env.cells.lookup x=some c->c≠b)/\∀p∈X.pn++ϵ,p.1≠b
theorem Inv.fpOk{X:Cx}{ϵ:List (δ×Obj)}{σ:St}{H H':Hp}{s:μ}{b:δ}(I:Inv X ϵ σ H s)(a:s.heap.objs.size<=b)(f:H' b=none):aY X ϵ H' b:=by
 show#[f,ak8 (acw I.lt a),I.nofs a,.inr (alu (aeP I.sz a)),λx c e z=>?_,λp g z=>?_]
 .let#[v,q]:=I.cell x c e;show absurd (acw q.lt (by rw[z];show a)) (aiw _)
 .show absurd (acw (acr (I.pin p g).1) (by rw[z];show a)) (aiw _)
structure Turn(P:Ϯ)(w:ϭ)(K:ϩ)(tg:Ϧ)(J:It)(fp:List δ)(it:δ)(tn:Nat->ϫ->Prop):Prop where
 mem:it∈fp
 obj:∀i h,tn i h->∀b∈fp,∃o,h.get? b=some o/\∀v,o.data≠.cell v
 keep:∀i h h',tn i h->(∀b∈fp,∀o,h.get? b=some o->h'.get? b=some o)->tn i h'
 item:∀(X:Cx),X.prog=P->X.w=w->X.K=K->X.calm=true->∀(i:Nat)(ϵ:List (δ×Obj))(s:μ)(σ:St)(H:Hp)(E:ε->μ->Prop),Inv X ϵ σ H s->(∀b∈fp,aY X ϵ H b)->tn i s.heap->J.go i H->
  ν (ϧ P w) X.A (pyNext (.ref it)) (λr s1=>∃u,r=some u/\
   ν (ϧ P w) X.A (letOwnedTupleGo tg (.ref it) u) (λ_ s2=>∃x H',Inv X ϵ σ H' s2/\RelV x u/\J.yld i H x H'/\tn (i+1) s2.heap/\∀b∈fp,H' b=none) E s1) E s
 done:∀(X:Cx),X.prog=P->X.w=w->X.K=K->X.calm=true->∀(i:Nat)(ϵ:List (δ×Obj))(s:μ)(σ:St)(H:Hp)(E:ε->μ->Prop),Inv X ϵ σ H s->(∀b∈fp,aY X ϵ H b)->tn i s.heap->J.stop i H->
  ν (ϧ P w) X.A (pyNext (.ref it)) (λr s1=>r=none/\Inv X ϵ σ H s1) E s
 self:∀(A:ϱ)(i:Nat)(s:μ)(Q:ε->μ->Prop)(E:ε->μ->Prop),tn i s.heap->Q (.ref it) s->ν (ϧ P w) A (pyIter (.ref it)) Q E s
abbrev TI:=St->Hp->(It->Hp->Prop)->Prop
def vH(X:Cx)(ϵ:List (δ×Obj))(σ:St)(tg:Ϧ)(R:It->Hp->Prop)(a:ε)(c:μ):Prop:=
 ∃(it:δ)(fp:List δ)(e:Nat->ϫ->Prop)(J:It)(H':Hp),a=.ref it/\Inv X ϵ σ H' c/\Turn X.prog X.w X.K tg J fp it e/\e 0 c.heap/\(∀b∈fp,aY X ϵ H' b)/\R J H'
def PI(X:Cx)(tg iter:Ϧ)(a:TI):Prop:=
 ∀(ϵ:List (δ×Obj))(s:μ)(σ:St)(H:Hp)(R:It->Hp->Prop),Inv X ϵ σ H s->a σ H R->
  ν (ϧ X.prog X.w) X.A (eval iter X.env) (λv c=>ν (ϧ X.prog X.w) X.A (pyIter v) (vH X ϵ σ tg R) X.xe c) X.xe s
theorem rW{M:Model}{A:ϱ}{E:ε->μ->Prop}{s:μ}{tg:Ϧ}{it:δ}{u:ε}{o:Obj}{n:String}{vs:Array ε}{Q:Unit->μ->Prop}(c:s.heap.get? it=some o)(e:o.cls=.type n)(hd:o.data=.fields vs)(f:["enumerate","zip","dict_itemiterator","dict_reverseitemiterator","odict_iterator","itertools.zip_longest","itertools.pairwise"].contains n=false)(a:Q PUnit.unit s):ν M A (letOwnedTupleGo tg (.ref it) u) Q E s:=by
 unfold letOwnedTupleGo;cases tg<;>first
  |show ϯ a
  |(cases u<;>first
   |show ϯ a
   |(show π (wpAny_load c ?_)
     rw[e,hd];show ν M A (if(["enumerate","zip","dict_itemiterator","dict_reverseitemiterator","odict_iterator","itertools.zip_longest","itertools.pairwise"].contains n&&vs[0]?==some (rawInt _))=true then _ else _) Q E s;rw[if_neg (by intro h;rw[f,alv]at h;cases h)];show ϯ a))
def iY(K:ϩ)(a:δ):It:=
 #[λi H=>∃xs x,η K H a xs/\xs[i]?=some x,λi H x H'=>H'=H/\∀xs,η K H a xs->xs[i]?=some x,λi H=>∃xs,η K H a xs/\xs.length<=i]
def oW(K:ϩ)(a:δ):It:=
 #[λi H=>∃xs x,ο K H a xs/\xs[i]?=some x,λi H x H'=>H'=H/\∀xs,ο K H a xs->xs[i]?=some x,λi H=>∃xs,ο K H a xs/\xs.length<=i]
def jD(lo:Int)(n:Nat):It:=#[λi _=>i<n,λi H x H'=>H'=H/\x=.int (lo+i),λi _=>n<=i]
theorem Yt{P:Ϯ}{w:ϭ}{K:ϩ}{tg:Ϧ}(a it:δ):Turn P w K tg (iY K a) [it] it (λi h=>h.IsListIter it a i)where
 mem:=by simp
 obj:=λi h st b f=>by
  let e:b=it:=by simpa using f
  subst e;let#[o,e,c,d]:=st;show#[o,e,λv z=>by rw[d]at z;cases z]
 keep:=λi h h' st k=>st.at λo e=>k it (by simp) o e
 item:=by
  intro X m n q M i ϵ s σ H E I j st y;subst m n q;let#[xs,x,l,B]:=y;let#[O,C,p,hz]:=I.list l;let#[u,Q,R]:=C.get B;let#[D,F,S,G,J,L]:=j it (by simp);show wpAny_pyNext_list_item st p.isList (x:=u) (by simpa using Q) λh' g T=>?_
  let U:Inv X ϵ σ H {s with heap:=h'}:=I.turned (t':=s.toks) (λb o f e=>(T.2 b f).trans e) D F G J L;let#[o,e,c,d]:=id g;show#[u,rfl,rW (s:={s with heap:=h'}) e c d (by decide) #[x,H,U,R,#[rfl,λys W=>by rw[I.list_inj W l];show B],g,λb f=>(j b f).1]]
 done:=by
  intro X m n q M i ϵ s σ H E I j st y;subst m n q;let#[xs,l,B]:=y;let#[O,C,p,hz]:=I.list l;let#[D,F,S,G,J,L]:=j it (by simp);let Z:=C.length;show wpAny_pyNext_list_end (I.ok.hd M) st p.isList (by simp;omega) λh' Y=>#[rfl,I.turned (t':=s.toks) (λb o f e=>Y b o f e) D F G J L]
 self:=λ_ _ _ _ _ st h=>wpAny_pyIter_listiter st h
theorem aae{P:Ϯ}{w:ϭ}{K:ϩ}{tg:Ϧ}(a it:δ):Turn P w K tg (oW K a) [it] it (λi h=>h.IsTupleIter it a i)where
 mem:=by simp
 obj:=λi h st b f=>by
  let e:b=it:=by simpa using f
  subst e;let#[o,e,c,d]:=st;show#[o,e,λv z=>by rw[d]at z;cases z]
 keep:=λi h h' st k=>st.at λo e=>k it (by simp) o e
 item:=by
  intro X m n q O i ϵ s σ H E I j st y;subst m n q;let#[xs,x,l,B]:=y;let#[C,D,p,hz]:=I.tuple l;let#[u,Q,R]:=D.get B;let#[F,G,S,J,L,M]:=j it (by simp);show wpAny_pyNext_tuple_item st (show s.heap.IsTuple a C.toArray from p) (x:=u) (by simpa using Q) λh' g T=>?_
  let U:Inv X ϵ σ H {s with heap:=h'}:=I.turned (t':=s.toks) (λb o f e=>(T.2 b f).trans e) F G J L M;let#[o,e,c,d]:=id g;show#[u,rfl,rW (s:={s with heap:=h'}) e c d (by decide) #[x,H,U,R,#[rfl,λys W=>by rw[I.tuple_inj W l];show B],g,λb f=>(j b f).1]]
 done:=by
  intro X m n q O i ϵ s σ H E I j st y;subst m n q;let#[xs,l,B]:=y;let#[C,D,p,hz]:=I.tuple l;let#[F,G,S,J,L,M]:=j it (by simp);let Z:=D.length;show wpAny_pyNext_tuple_end (I.ok.hd O) st (show s.heap.IsTuple a C.toArray from p) (by simp;omega) λh' Y=>#[rfl,I.turned (t':=s.toks) (λb o f e=>Y b o f e) F G J L M]
 self:=λ_ _ _ _ _ st h=>wpAny_pyIter_tupleiter st h
theorem acT{P:Ϯ}{w:ϭ}{K:PySem.W.Frag}{tg:Ϧ}(it:δ)(lo:Int)(n:Nat):Turn P w K tg (jD lo n) [it] it (λi h=>IsRangeIter h it (lo+(i:Nat)*1) ((n:Int)-(i:Nat)) 1)where
 mem:=by simp
 obj:=λi h st b a=>by
  let e:b=it:=by simpa using a
  subst e;show#[_,st,λv z=>by
   let z':Data.fields _=Data.cell v:=z;cases z']
 keep:=λi h h' st k=>k it (by simp) _ st
 item:=by
  intro X g j l m i ϵ s σ H E I f st p;subst g j l;let#[q,u,C,x,y,B]:=f it (by simp);let W:=Walks.range (prog:=X.prog) (w:=X.w) (I.ok.hd m) it lo 1 n;show W.item i s _ _ p st λv h' tk D c kk=>?_
  let#[t,rfl]:=D;let F:Inv X ϵ σ H {s with heap:=h',toks:=tk}:=I.turned (λb o a e=>kk b o (by simpa using a) e) q u x y B;show#[_,rfl,rW (s:={s with heap:=h',toks:=tk}) (n:="range_iterator") c rfl rfl (by decide) #[.int (lo+i),H,F,#[t,?_],#[rfl,rfl],c,λb a=>(f b a).1]];rw[Int.mul_one]
 done:=by
  intro X g j l m i ϵ s σ H E I f st p;subst g j l;let#[q,u,C,x,y,B]:=f it (by simp);show wpAny_pyNext_range_end (I.ok.hd m) st (by have:n<=i:=p;omega) λh' G=>#[rfl,I.turned (t':=s.toks) (λb o a e=>G b o a e) q u x y B]
 self:=λ_ _ _ _ _ st h=>wpAny_pyIter_rangeiter st h
section
variable{X:Cx}{tg:Ϧ}
theorem Xc{ϵ:List (δ×Obj)}{σ:St}{H:Hp}{s:μ}{R:It->Hp->Prop}{E:ε->μ->Prop}{lo hi:Int}{t u v:Tok}{tk:Nat}(I:Inv X ϵ σ H s)(h1: -(2^62)<=lo)(h2:lo<2^62)(c: -(2^62)<=hi)(f:hi<2^62)(q:R (jD lo (hi-lo).toNat) H):ν (ϧ X.prog X.w) X.A (pyIter (.ref s.heap.objs.size)) (vH X ϵ σ tg R) E {s with heap:=s.heap.push {cls:=.type "range",data:=.fields #v[.int lo t,.int hi u,.int 1 v]},toks:=tk}:=by
 show wpAny_pyIter_range (IsRange.new ..) (small_one h1 h2 c f) ?_;let a:Inv X ϵ σ H {s with heap:=s.heap.push {cls:=.type "range",data:=.fields #v[.int lo t,.int hi u,.int 1 v]},toks:=tk}:=I.kept λb o e=>ϲ _ e
 show#[(s.heap.push {cls:=.type "range",data:=.fields #v[.int lo t,.int hi u,.int 1 v]}).objs.size,[(s.heap.push {cls:=.type "range",data:=.fields #v[.int lo t,.int hi u,.int 1 v]}).objs.size],_,_,H,rfl,
  a.kept (t':=tk) λb o e=>ϲ _ e,acT _ lo (hi-lo).toNat,?_,λb g=>?_,q]
 .let e1:lo+((0:Nat):Int)*1=lo:=by simp
  let i:(((hi-lo).toNat:Nat):Int)-((0:Nat):Int)=Builtin.Range.rangeSize lo hi 1:=by rw[rangeSize_one];split <;>omega
  show IsRangeIter _ _ (lo+((0:Nat):Int)*1) ((((hi-lo).toNat:Nat):Int)-((0:Nat):Int)) 1;rw[e1,i];show ab7 _ rfl
 .let e:b=(s.heap.push {cls:=.type "range",data:=.fields #v[.int lo t,.int hi u,.int 1 v]}).objs.size:=by simpa using g
  subst e;show a.fpOk (Ϭ _) (a.hok.fresh (Ϭ _))
def fU(fp:List δ)(h:ϫ):List (δ×Obj):=fp.filterMap λb=>(h.get? b).map λo=>(b,o)
theorem vJ{fp:List δ}{h:ϫ}{b:δ}{o:Obj}(a:b∈fp)(e:h.get? b=some o):(b,o)∈fU fp h:=alF.mpr #[b,a,by rw[e];rfl]
theorem ahS{fp:List δ}{h:ϫ}{p:δ×Obj}(a:p∈fU fp h):p.1∈fp/\h.get? p.1=some p.2:=by
 let#[b,c,e]:=alF.mp a;cases q:h.get? b with
 |none=>rw[q]at e;cases e
 |some o=>
  rw[q]at e;let f:(b,o)=p:=Option.some.inj e;subst f;show#[c,q]
theorem Inv.pinned{ϵ:List (δ×Obj)}{σ:St}{H:Hp}{s:μ}{fp:List δ}(I:Inv X ϵ σ H s)(f:∀b∈fp,aY X ϵ H b)(g:∀b∈fp,∃o,s.heap.get? b=some o/\∀v,o.data≠.cell v):Inv X (ϵ++fU fp s.heap) σ H s:=
 I.pins_of λp i=>(ae6.mp i).elim (λz=>I.pin p (adW _ z)) λz=>by
  let#[a,e]:=ahS z;let#[j,l,m,_]:=f p.1 a;let#[o,c,d]:=g p.1 a;rw[e]at c;cases c;show#[e,j,l,m,d]
theorem Inv.unpinned{ϵ pl:List (δ×Obj)}{σ:St}{H:Hp}{s:μ}(I:Inv X (ϵ++pl) σ H s):Inv X ϵ σ H s:=I.pins_of λp a=>I.pin p (adW _ (ajP _ a))
end
theorem XJ{K:PySem.W.Frag}{a:δ}{xs:List V}{g:TG}{tb:TS}{D:Ends}{σ:St}{H:Hp}(c:Nat->St->Hp->Prop)(l:c 0 σ H)(n:∀i σ H,i<=xs.length->c i σ H->η K H a xs)(hs:∀i x σ H,xs[i]?=some x->c i σ H->g x σ H λf H2=>tb {D with nx:=c (i+1),ct:=c (i+1),bk:=D.nx} f H2)(hd:∀σ H,c xs.length σ H->D.nx σ H):∃W:Nat->Nat->St->Hp->Prop,(∃m,W 0 m σ H)/\∀i m σ H,W i m σ H->
   ((iY K a).stop i H/\D.nx σ H)\/((iY K a).go i H/\∃N:St->Hp->Prop,(∀σ' H',N σ' H'->∃m',m'<m/\W (i+1) m' σ' H')/\∀x H',(iY K a).yld i H x H'->g x σ H' λf H2=>tb {D with nx:=N,ct:=N,bk:=D.nx} f H2):=by
 show#[λi m σ H=>m=xs.length-i/\i<=xs.length/\c i σ H,#[xs.length,by simp,afT _,l],?_]
 rintro i m σ H ⟨rfl,hi,p⟩
 let q:=n i σ H hi p;by_cases j:i<xs.length
 .show .inr #[#[xs,xs[i],q,by simp[j]],c (i+1),λσ' H' p'=>#[xs.length-(i+1),(),rfl,j,p'],λx H' y=>?_];let#[e,y]:=y;subst e;show hs i x σ _ (y xs q) p
 .let e:i=xs.length:=()
  subst e;show .inl #[#[xs,q,Ϭ _],hd σ H p]
theorem abG{K:PySem.W.Frag}{a:δ}{xs:List V}{g:TG}{tb:TS}{D:Ends}{σ:St}{H:Hp}(c:Nat->St->Hp->Prop)(l:c 0 σ H)(n:∀i σ H,i<=xs.length->c i σ H->ο K H a xs)(hs:∀i x σ H,xs[i]?=some x->c i σ H->g x σ H λf H2=>tb {D with nx:=c (i+1),ct:=c (i+1),bk:=D.nx} f H2)(hd:∀σ H,c xs.length σ H->D.nx σ H):∃W:Nat->Nat->St->Hp->Prop,(∃m,W 0 m σ H)/\∀i m σ H,W i m σ H->
   ((oW K a).stop i H/\D.nx σ H)\/((oW K a).go i H/\∃N:St->Hp->Prop,(∀σ' H',N σ' H'->∃m',m'<m/\W (i+1) m' σ' H')/\∀x H',(oW K a).yld i H x H'->g x σ H' λf H2=>tb {D with nx:=N,ct:=N,bk:=D.nx} f H2):=by
 show#[λi m σ H=>m=xs.length-i/\i<=xs.length/\c i σ H,#[xs.length,by simp,afT _,l],?_]
 rintro i m σ H ⟨rfl,hi,p⟩
 let q:=n i σ H hi p;by_cases j:i<xs.length
 .show .inr #[#[xs,xs[i],q,by simp[j]],c (i+1),λσ' H' p'=>#[xs.length-(i+1),(),rfl,j,p'],λx H' y=>?_];let#[e,y]:=y;subst e;show hs i x σ _ (y xs q) p
 .let e:i=xs.length:=()
  subst e;show .inl #[#[xs,q,Ϭ _],hd σ H p]
theorem Xw{lo:Int}{n:Nat}{g:TG}{tb:TS}{D:Ends}{σ:St}{H:Hp}(a:Nat->St->Hp->Prop)(j:a 0 σ H)(hs:∀i σ H,i<n->a i σ H->g (.int (lo+i)) σ H λc H2=>tb {D with nx:=a (i+1),ct:=a (i+1),bk:=D.nx} c H2)(hd:∀σ H,a n σ H->D.nx σ H):∃W:Nat->Nat->St->Hp->Prop,(∃m,W 0 m σ H)/\∀i m σ H,W i m σ H->
   ((jD lo n).stop i H/\D.nx σ H)\/((jD lo n).go i H/\∃N:St->Hp->Prop,(∀σ' H',N σ' H'->∃m',m'<m/\W (i+1) m' σ' H')/\∀x H',(jD lo n).yld i H x H'->g x σ H' λc H2=>tb {D with nx:=N,ct:=N,bk:=D.nx} c H2):=by
 show#[λi m σ H=>m=n-i/\i<=n/\a i σ H,#[n,by simp,afT _,j],?_]
 rintro i m σ H ⟨rfl,hi,p⟩
 by_cases f:i<n
 .show .inr #[f,a (i+1),λσ' H' p'=>#[n-(i+1),(),rfl,f,p'],λx H' y=>?_];let#[e,y]:=y;subst e y;show hs i σ _ f p
 .let e:i=n:=()
  subst e;show .inl #[Ϭ _,hd σ H p]
abbrev R2:=V->V->Hp->VK->Prop
def aM(X:Cx)(f:ε->ε->Sem ε)(r:R2):Prop:=
 ∀(ϵ:List (δ×Obj))(s:μ)(σ:St)(H:Hp)(x y:V)(v u:ε)(Q:VK),Inv X ϵ σ H s->RelV x v->RelV y u->r x y H Q->
  ν (ϧ X.prog X.w) X.A (f v u) (EP X ϵ σ Q) X.xe s
def xR(X:Cx)(f:ε->Sem ε)(r:V->Hp->VK->Prop):Prop:=
 ∀(ϵ:List (δ×Obj))(s:μ)(σ:St)(H:Hp)(x:V)(v:ε)(Q:VK),Inv X ϵ σ H s->RelV x v->r x H Q->
  ν (ϧ X.prog X.w) X.A (f v) (EP X ϵ σ Q) X.xe s
def iK(X:Cx)(f:ε)(r:List V->Hp->VK->Prop):Prop:=
 ∀(ϵ:List (δ×Obj))(s:μ)(σ:St)(H:Hp)(xs:List V)(us:List ε)(Q:VK),Inv X ϵ σ H s->Vals xs us->r xs H Q->
  ν (ϧ X.prog X.w) X.A (call f us) (EP X ϵ σ Q) X.xe s
def Wl(X:Cx)(r:V->Hp->(Bool->Hp->Prop)->Prop):Prop:=
 ∀(ϵ:List (δ×Obj))(s:μ)(σ:St)(H:Hp)(x:V)(v:ε)(Q:Bool->Hp->Prop),Inv X ϵ σ H s->RelV x v->r x H Q->
  ν (ϧ X.prog X.w) X.A (truthy v) (TP X ϵ σ Q) X.xe s
def rI(C:Int->Int->Prop)(g:Int->Int->V):R2:=λx y H Q=>∃i j,x=.int i/\y=.int j/\C i j/\Q (g i j) H
def jq(g:Int->Int->V):R2:=λx y H Q=>∃i j,x=.int i/\y=.int j/\Q (g i j) H
def rU(g:Int->V):V->Hp->VK->Prop:=λx H Q=>∃i,x=.int i/\Q (g i) H
section
variable{X:Cx}{a b c:Ϧ}{ta tb tc:TE}{pos:Pos}
theorem CK(j:PE X a ta)(l:PE X b tb){ϵ:List (δ×Obj)}{s:μ}{σ:St}{H:Hp}{R:V->V->Hp->Prop}(I:Inv X ϵ σ H s)(h:ta σ H λx H1=>tb σ H1 λy H2=>R x y H2){Q:ε->μ->Prop}{f:ε->ε->Sem ε}(m:∀v u g x y H2,Inv X ϵ σ H2 g->RelV x v->RelV y u->R x y H2->ν (ϧ X.prog X.w) X.A (f v u) Q X.xe g):ν (ϧ X.prog X.w) X.A (eval a X.env) (λv c=>ν (ϧ X.prog X.w) X.A (eval b X.env) (λu e=>ν (ϧ X.prog X.w) X.A (f v u) Q X.xe e) X.xe c) X.xe s:=by
 show χ (j ϵ s σ H _ I h) λv n i=>?_
 let#[x,H1,o,p,q]:=i;show χ (l ϵ n σ H1 _ o q) λu g i=>?_
 let#[y,H2,z,B,C]:=i;show m v u g x y H2 z p B C
theorem zG{f:ε->ε->Sem ε}{C:Int->Int->Prop}{g:Int->Int->Int}(rule:∀(i j:Int)(t u:Tok)(s:μ)(Q:ε->μ->Prop)(E:ε->μ->Prop),C i j->Q (.int (g i j) s.toks) {s with toks:=s.toks+1}->ν (ϧ X.prog X.w) X.A (f (.int i t) (.int j u)) Q E s):aM X f (rI C λi j=>.int (g i j)):=by
 intro ϵ s σ H x y v u Q I rx ry h;let#[i,j,rfl,rfl,a,q]:=h;let#[t,rfl]:=rx;let#[t',rfl]:=ry;show rule i j t t' s _ _ a #[.int (g i j),H,I.tok _,#[_,rfl],q]
theorem Oz{f:ε->ε->Sem ε}{g:Int->Int->Int}(rule:∀(i j:Int)(t u:Tok)(s:μ)(Q:ε->μ->Prop)(E:ε->μ->Prop),Q (.int (g i j) s.toks) {s with toks:=s.toks+1}->ν (ϧ X.prog X.w) X.A (f (.int i t) (.int j u)) Q E s):aM X f (jq λi j=>.int (g i j)):=by
 intro ϵ s σ H x y v u Q I rx ry h;let#[i,j,rfl,rfl,q]:=h;let#[t,rfl]:=rx;let#[t',rfl]:=ry;show rule i j t t' s _ _ #[.int (g i j),H,I.tok _,#[_,rfl],q]
theorem wW{f:ε->ε->Sem ε}{g:Int->Int->Bool}(rule:∀(i j:Int)(t u:Tok)(s:μ)(Q:ε->μ->Prop)(E:ε->μ->Prop),Q (.bool (g i j)) s->ν (ϧ X.prog X.w) X.A (f (.int i t) (.int j u)) Q E s):aM X f (jq λi j=>.bl (g i j)):=by
 intro ϵ s σ H x y v u Q I rx ry h;let#[i,j,rfl,rfl,q]:=h;let#[t,rfl]:=rx;let#[t',rfl]:=ry;show rule i j t t' s _ _ #[.bl (g i j),H,I,rfl,q]
def Js(i j:Int):Prop:=0<j/\j<1073741824
def vd(i j:Int):Prop:=(-(2^64)<i/\i<2^64)\/(-(2^64)<j/\j<2^64)
theorem vd.ok{i j:Int}(h:vd i j):IntMulOk i j:=by
 obtain⟨h1,h2⟩|⟨h1,h2⟩:=h
 .show .of_left (intBits_le_64 h1 h2)
 .show .of_right (intBits_le_64 h1 h2)
theorem afw:aM X (binaryOp .Add) (jq λi j=>.int (i+j)):=Oz λ_ _ _ _ _ _ _ q=>add_int q
theorem aek:aM X (binaryOp .Sub) (jq λi j=>.int (i-j)):=Oz λ_ _ _ _ _ _ _ q=>sub_int q
theorem ahX:aM X (binaryOp .Mult) (rI vd λi j=>.int (i*j)):=zG λ_ _ _ _ _ _ _ a q=>mul_int q a.ok
theorem adp:aM X (binaryOp .FloorDiv) (rI Js λi j=>.int (i / j)):=zG λi j _ _ _ _ _ a q=>by
 let h1:(0:Int)<j:=a.1;let h2:j<1073741824:=a.2;show floordiv_int () (by rw[Int.fdiv_eq_ediv_of_nonneg i ()];show q) (.inl (PyProof.noPylong_small ()))
theorem Z8:aM X (binaryOp .Mod) (rI (λ_ j=>0<j) λi j=>.int (i % j)):=zG λi j _ _ _ _ _ a q=>by
 let h1:(0:Int)<j:=a;show mod_int' () (by rw[Int.fmod_eq_emod_of_nonneg i ()];show q)
theorem unI{f:ε->Sem ε}{g:Int->Int}(rule:∀(i:Int)(t:Tok)(s:μ)(Q:ε->μ->Prop)(E:ε->μ->Prop),Q (.int (g i) s.toks) {s with toks:=s.toks+1}->ν (ϧ X.prog X.w) X.A (f (.int i t)) Q E s):xR X f (rU λi=>.int (g i)):=by
 intro ϵ s σ H x v Q I rx h;let#[i,rfl,q]:=h;let#[t,rfl]:=rx;show rule i t s _ _ #[.int (g i),H,I.tok _,#[_,rfl],q]
theorem Zj:xR X (unaryOp .USub) (rU λi=>.int (-i)):=unI λ_ _ _ _ _ q=>neg_int q
end
def rH:V->V->Bool
 |.non,.non=>true|.non,.int _=>true|.int _,.non=>true|.non,.bl _=>true|.bl _,.non=>true|.non,.str _=>true|.str _,.non=>true
 |.int _,.int _=>true|.bl _,.bl _=>true|.str _,.str _=>true|.byt _,.byt _=>true
 |.int _,.str _=>true|.str _,.int _=>true|.bl _,.str _=>true|.str _,.bl _=>true
 |_,_=>false
def rEq:R2:=λx y H Q=>rH x y=true/\Q (.bl (decide (x=y))) H
def rNe:R2:=λx y H Q=>rH x y=true/\Q (.bl (!decide (x=y))) H
theorem PL{i j:Int}:decide (V.int i=V.int j)=(i==j):=by
 rw[ahe];simp
theorem Uh{i j:Bool}:decide (V.bl i=V.bl j)=(i==j):=by
 rw[ahe];simp
theorem Hi{i j:Str}:decide (V.str i=V.str j)=(i==j):=by
 rw[ahe];simp
theorem MJ{i j:Array UInt8}:decide (V.byt i=V.byt j)=(i.toList==j.toList):=by
 rw[ahe];cases i;cases j;simp
section
variable{X:Cx}{a b c:Ϧ}{ta tb tc:TE}{pos:Pos}
theorem ϝ{ϵ:List (δ×Obj)}{σ:St}{H:Hp}{s:μ}{Q:VK}{k k':Bool}(I:Inv X ϵ σ H s)(q:Q (.bl k) H)(e:k=k'):EP X ϵ σ Q (.bool k') s:=by
 subst e;show#[.bl k,H,I,rfl,q]
theorem WM:aM X (adL .Eq) rEq:=by
 intro ϵ s σ H x y v u Q I rx ry h;let#[hs,q]:=h;cases x with
 |non=>
  cases rx;cases y with
  |non=>cases ry;show PySem.EqNone.eq_none_none (ϝ I q (by simp))
  |bl j=>cases ry;show PySem.EqNone.eq_none_bool (ϝ I q (by simp))
  |int j=>let#[t',rfl]:=ry;show PySem.EqNone.eq_none_int (ϝ I q (by simp))
  |str j=>let#[t',rfl]:=ry;show PySem.EqNone.eq_none_str (ϝ I q (by simp))
  |_=>show absurd (show false=true from hs) abj
 |bl i=>
  cases rx;cases y with
  |non=>cases ry;show PySem.EqNone.eq_bool_none (ϝ I q (by simp))
  |bl j=>cases ry;show eq_bool (ϝ I q Uh)
  |str j=>let#[t',rfl]:=ry;show PySem.EqMixed.eq_bool_str (ϝ I q (by simp))
  |_=>show absurd (show false=true from hs) abj
 |int i=>
  let#[t,rfl]:=rx;cases y with
  |non=>cases ry;show PySem.EqNone.eq_int_none (ϝ I q (by simp))
  |int j=>let#[t',rfl]:=ry;show eq_int (ϝ I q PL)
  |str j=>let#[t',rfl]:=ry;show PySem.EqMixed.eq_int_str (ϝ I q (by simp))
  |_=>show absurd (show false=true from hs) abj
 |str i=>
  let#[t,rfl]:=rx;cases y with
  |non=>cases ry;show PySem.EqNone.eq_str_none (ϝ I q (by simp))
  |bl j=>cases ry;show PySem.EqMixed.eq_str_bool (ϝ I q (by simp))
  |int j=>let#[t',rfl]:=ry;show PySem.EqMixed.eq_str_int (ϝ I q (by simp))
  |str j=>let#[t',rfl]:=ry;show eq_str (ϝ I q Hi)
  |_=>show absurd (show false=true from hs) abj
 |byt i=>
  let#[t,rfl]:=rx;cases y with
  |byt j=>let#[t',rfl]:=ry;show W.eq_bytes (ϝ I q MJ)
  |_=>show absurd (show false=true from hs) abj
 |_=>cases y<;>show absurd (show false=true from hs) abj
theorem X8:aM X (adL .NotEq) rNe:=by
 intro ϵ s σ H x y v u Q I rx ry h;let#[hs,q]:=h;cases x with
 |non=>
  cases rx;cases y with
  |non=>cases ry;show PySem.EqNone.ne_none_none (ϝ I q (by simp))
  |bl j=>cases ry;show PySem.EqNone.ne_none_bool (ϝ I q (by simp))
  |int j=>let#[t',rfl]:=ry;show PySem.EqNone.ne_none_int (ϝ I q (by simp))
  |str j=>let#[t',rfl]:=ry;show PySem.EqNone.ne_none_str (ϝ I q (by simp))
  |_=>show absurd (show false=true from hs) abj
 |bl i=>
  cases rx;cases y with
  |non=>cases ry;show PySem.EqNone.ne_bool_none (ϝ I q (by simp))
  |bl j=>cases ry;show ne_bool (ϝ I q (congrArg not Uh))
  |str j=>let#[t',rfl]:=ry;show PySem.EqMixed.ne_bool_str (ϝ I q (by simp))
  |_=>show absurd (show false=true from hs) abj
 |int i=>
  let#[t,rfl]:=rx;cases y with
  |non=>cases ry;show PySem.EqNone.ne_int_none (ϝ I q (by simp))
  |int j=>let#[t',rfl]:=ry;show ne_int (ϝ I q (congrArg not PL))
  |str j=>let#[t',rfl]:=ry;show PySem.EqMixed.ne_int_str (ϝ I q (by simp))
  |_=>show absurd (show false=true from hs) abj
 |str i=>
  let#[t,rfl]:=rx;cases y with
  |non=>cases ry;show PySem.EqNone.ne_str_none (ϝ I q (by simp))
  |bl j=>cases ry;show PySem.EqMixed.ne_str_bool (ϝ I q (by simp))
  |int j=>let#[t',rfl]:=ry;show PySem.EqMixed.ne_str_int (ϝ I q (by simp))
  |str j=>let#[t',rfl]:=ry;show ne_str (ϝ I q (congrArg not Hi))
  |_=>show absurd (show false=true from hs) abj
 |byt i=>
  let#[t,rfl]:=rx;cases y with
  |byt j=>let#[t',rfl]:=ry;show W.ne_bytes (ϝ I q (congrArg not MJ))
  |_=>show absurd (show false=true from hs) abj
 |_=>cases y<;>show absurd (show false=true from hs) abj
theorem abI:aM X (adL .Lt) (jq λi j=>.bl (decide (i<j))):=wW λ_ _ _ _ _ _ _ q=>lt_int q
theorem YF:aM X (adL .LtE) (jq λi j=>.bl (decide (i<=j))):=wW λ_ _ _ _ _ _ _ q=>le_int q
theorem ahj:aM X (adL .Gt) (jq λi j=>.bl (decide (j<i))):=wW λ_ _ _ _ _ _ _ q=>gt_int q
theorem ZR:aM X (adL .GtE) (jq λi j=>.bl (decide (j<=i))):=wW λ_ _ _ _ _ _ _ q=>ge_int q
theorem Wr:aM X (adL .Lt) (λx y H Q=>∃i j,x=.str i/\y=.str j/\Q (.bl (decide (i.cps.toList<j.cps.toList))) H):=by
 intro ϵ s σ H x y v u Q I rx ry h;let#[i,j,rfl,rfl,q]:=h;let#[t,rfl]:=rx;let#[t',rfl]:=ry;show lt_str (ϝ I q rfl)
theorem adt:aM X (adL .In) (λx y H Q=>∃i j,x=.str i/\y=.str j/\Q (.bl (!(Builtin.Str.occurrences j i 0 j.length 1).isEmpty)) H):=by
 intro ϵ s σ H x y v u Q I rx ry h;let#[i,j,rfl,rfl,q]:=h;let#[t,rfl]:=rx;let#[t',rfl]:=ry;show in_str (ϝ I q rfl)
theorem acj:aM X (adL .Is) (λx y H Q=>y=.non/\Q (.bl (decide (x=.non))) H):=by
 intro ϵ s σ H x y v u Q I rx ry h;let#[rfl,q]:=h;cases ry;show is_none_gen (ϝ I q ?_);cases x<;>first
  |(cases rx;rfl)
  |(let#[t,rfl]:=rx;rfl)
theorem aa2:aM X (adL .IsNot) (λx y H Q=>y=.non/\Q (.bl (!decide (x=.non))) H):=by
 intro ϵ s σ H x y v u Q I rx ry h;let#[rfl,q]:=h;cases ry;show isnot_none_gen (ϝ I q ?_);cases x<;>first
  |(cases rx;rfl)
  |(let#[t,rfl]:=rx;rfl)
theorem Jx(b:Ϧ){op:CmpOp}(h:op≠ .In:=by decide)(h2:op≠ .NotIn:=by decide):behindInMarks op b=false:=by
 let e1:(op==CmpOp.In)=false:=by cases op<;>first|rfl|show absurd rfl h
 let a:(op==CmpOp.NotIn)=false:=by cases op<;>first|rfl|show absurd rfl h2
 cases b<;>simp[behindInMarks,e1,a]
def zO(K:ϩ)(x:V)(H:Hp)(k:Bool):Prop:=
 match x with
 |.non=>k=false
 |.bl b=>k=b
 |.int i=>k=(i !=0)
 |.str y=>y.length<=ϰ/\k=((y.length:Int) !=0)
 |.byt y=>y.size<=ϰ/\k=((y.size:Int) !=0)
 |.ref p=>(∃xs,η K H p xs/\k= !xs.isEmpty)\/(∃xs,ο K H p xs/\k= !xs.isEmpty)\/∃Ϸ,H p=some (.dK Ϸ)/\k= !Ϸ.isEmpty
 |_=>False
theorem aaX{κ:Type}{Ϸ:List (κ×V)}{vs:List (κ×ε)}(r:KV Ϸ vs):(!vs.isEmpty)= !Ϸ.isEmpty:=by
 cases r<;>rfl
theorem U5{xs:List V}{a:List ε}(r:Vals xs a):(!a.toArray.isEmpty)= !xs.isEmpty:=by
 cases r<;>simp
theorem oF:(ϰ:Nat)<2^63:=by rw[ϳ];decide
theorem agx:Wl X (λx H Q=>∃k,zO X.K x H k/\Q k H):=by
 intro ϵ s σ H x v Q I rx h;let#[k,e,q]:=h;let n:=oF;let hs:ϰ=16777216:=ϳ;cases x with
 |non=>
  cases rx;let a:k=false:=e;subst a;show truthy_none #[H,I,q]
 |bl b=>
  cases rx;let a:k=b:=e;subst a;show agC #[H,I,q]
 |int i=>
  let#[t,rfl]:=rx;let a:k=(i !=0):=e;subst a;show PySem.P.truthy_int #[H,I,q]
 |str y=>
  let#[t,rfl]:=rx;obtain⟨g,a⟩:y.length<=ϰ/\k=((y.length:Int) !=0):=e;subst a;show PySem.P.truthy_str () #[H,I.tok _,q]
 |byt y=>
  let#[t,rfl]:=rx;obtain⟨g,a⟩:y.size<=ϰ/\k=((y.size:Int) !=0):=e;subst a;show W.truthy_bytes () #[H,I.tok _,q]
 |ref p=>
  cases rx;let a:(∃xs,η X.K H p xs/\k= !xs.isEmpty)\/(∃xs,ο X.K H p xs/\k= !xs.isEmpty)\/∃Ϸ,H p=some (.dK Ϸ)/\k= !Ϸ.isEmpty:=e;obtain⟨xs,f,a⟩|⟨xs,f,a⟩|⟨Ϸ,f,a⟩:=a
  .subst a;let#[j,r,pl,hz]:=I.list f;let c:=r.length;show wpAny_truthy_list pl.isList (by simp only[abe];omega) #[H,I.tok _,by rw[U5 r];show q]
  .subst a;let#[j,r,pl,hz]:=I.tuple f;let c:=r.length;show truthy_tuple pl (by simp only[abe];omega) #[H,I.tok _,by rw[U5 r];show q]
  .subst a;obtain⟨hz,l,vs,r,m⟩:Ϸ.length<=ϰ/\(p==sysModules)=false/\∃vs,KV Ϸ vs/\s.heap.DictOf (bR X.prog X.w) p vs:=I.hok p _ f;let c:Ϸ.length=vs.length:=Paired.length r;show wpAny_truthy_dict l m () #[H,I.tok _,by rw[aaX r];show q]
 |_=>show(show False from e).elim
theorem acO:aM X (binaryOp .Add) (λx y H Q=>∃i j,x=.str i/\y=.str j/\i.length+j.length<=ϰ/\Q (.str (i++j)) H):=by
 intro ϵ s σ H x y v u Q I rx ry h;let#[i,j,rfl,rfl,hz,q]:=h;let#[t,rfl]:=rx;let#[t',rfl]:=ry;show add_str (λt' tk=>#[.str (i++j),H,I.tok _,#[_,rfl],q]) hz
theorem vals1{x:V}{us:List ε}(r:Vals [x] us):∃u,us=[u]/\RelV x u:=by
 cases r with
 |cons a c=>cases c;show#[_,rfl,a]
theorem vals2{x y:V}{us:List ε}(r:Vals [x,y] us):∃u w',us=[u,w']/\RelV x u/\RelV y w':=by
 cases r with
 |cons a c=>
  cases c with
  |cons e f=>cases f;show#[_,_,rfl,a,e]
theorem Xb(c:X.calm=true):iK X (.builtin "max") (λxs H Q=>∃i j,xs=[.int i,.int j]/\Q (.int (if j>i then j else i)) H):=by
 intro ϵ s σ H xs us Q I r h;let#[i,j,rfl,q]:=h;let#[u,e,rfl,#[t,rfl],#[t',rfl]]:=vals2 r;show max_two_ints (I.ok.hd c) λh' tk k=>#[_,H,I.kept k,?_,q]
 by_cases a:j>i
 .rw[if_pos a,if_pos a];show#[_,rfl]
 .rw[if_neg a,if_neg a];show#[_,rfl]
theorem afs(c:X.calm=true):iK X (.builtin "min") (λxs H Q=>∃i j,xs=[.int i,.int j]/\Q (.int (if j<i then j else i)) H):=by
 intro ϵ s σ H xs us Q I r h;let#[i,j,rfl,q]:=h;let#[u,e,rfl,#[t,rfl],#[t',rfl]]:=vals2 r;show min_two_ints (I.ok.hd c) λh' tk k=>#[_,H,I.kept k,?_,q]
 by_cases a:j<i
 .rw[if_pos a,if_pos a];show#[_,rfl]
 .rw[if_neg a,if_neg a];show#[_,rfl]
theorem Zn:iK X (.type "str") (λxs H Q=>∃i,xs=[.int i]/\i.natAbs.log2<1920/\Q (.str (toString i)) H):=by
 intro ϵ s σ H xs us Q I r h;let#[i,rfl,hz,q]:=h;let#[u,rfl,t,rfl]:=vals1 r;show PySem.P.str_of_int hz #[.str _,H,I.tok _,#[_,rfl],q]
end
structure kJ(h:ϫ)(x dx C:δ)(mA:Str->Option ε):Prop where
 obj:h.get? x=some (alW C dx)
 ns:h.Ns1 dx mA
 ne:dx≠x
theorem acQ{h:ϫ}{dx:δ}{mA:Str->Option ε}(n:h.Ns1 dx mA):∃od,h.get? dx=some od/\∀name,anH name od=some (mA name):=by
 let#[o,es,ep,f,hd,g,_,i]:=n;show#[o,f,λname=>?_];let e:=i name;unfold nsFind findBy at e;rw[<-Array.find?_toList]at e;unfold anH;rw[hd];dsimp only;split
 .rename_i y q;rw[q]at e;show congrArg some e
 .rename_i q;rw[q]at e;let a:es.toList.any (·.refKey)=false:=by
   rw[List.any_eq_false];intro y j;let#[z,t,c]:=g y (Array.mem_toList_iff.mp j);simp[DictEntry.refKey,c]
  let l:¬es.toList.any (·.refKey)=true:=by rw[a];show abj
  rw[if_neg l];show congrArg some e
theorem kJ.look{h:ϫ}{x dx C:δ}{mA:Str->Option ε}(I:kJ h x dx C mA):∃od,W.InstAt h x (alW C dx) C (some od)/\∀name,anH name od=some (mA name):=
 let⟨od,ho,hl⟩:=acQ I.ns
 #[od,#[I.obj,rfl,rfl,ho],hl]
section
variable{prog:Ϯ}{w:ϭ}{A:ϱ}{E:ε->μ->Prop}{s:μ}{K:ϩ}{x dx C f:δ}{mA:Str->Option ε}{name:Str}{v:ε}
theorem get_map{a:Bool}{Q:ε->μ->Prop}(X:K.In s.heap)(I:kJ s.heap x dx C mA)(e:al1 K C name=true)(hh:ak9 K C=true)(f:afh K (.ref C) name=some none)(g:mA name=some v)(c:W.handedIn v=true)(h:Q v {s with toks:=s.toks+1}):ν (ϧ prog w) A (getAttr (.ref x) name a) Q E s:=by
 let#[od,J,i]:=I.look;show W.get_value X J (am0 e).1 (W.findObj_own hh f rfl (by rw[i,g])) c h
theorem ab3{pl:Sem Bool}{Q:ε×List ε->μ->Prop}(X:K.In s.heap)(I:kJ s.heap x dx C mA)(a:al1 K C name=true)(c:afh K (.ref C) name=some (some (.ref f)))(e:am1 K (.ref f)=true)(g:mA name=none)(h:Q (.ref f,[.ref x]) s):ν (ϧ prog w) A (getMethod (.ref x) name pl) Q E s:=by
 let#[od,J,i]:=I.look;show W.method_fn X J (am0 a).1 (am0 a).2 c (beq_iff_eq.mp e) (by show(anH name od).map (·.isSome)=some false;rw[i,g];rfl) h
theorem aaL{ns:List Str}{Q:Unit->μ->Prop}(X:K.In s.heap)(I:kJ s.heap x dx C mA)(hs:afh K (.ref C) "__setattr__"=some (some (.builtin "object.__setattr__")))(l:amn K C=true)(m:amE K C name=some none)(hh:ak9 K C=true)(n:PySem.Within mA ns)(hsz:ns.length<=ϰ)(h:∀h',kJ h' x dx C (λy=>if y=name then some v else mA y)->ajr dx s.heap h'->Q PUnit.unit {s with heap:=h',toks:=s.toks+2}):ν (ϧ prog w) A (setAttr (.ref x) name v) Q E s:=by
 let#[od,J,z]:=I.look;show W.set_plain X J hs (W.osa_open (s:={s with toks:=s.toks+1}) (r:=none) X J l m λb=>?_);let#[cd,o,f]:=W.any_some hh;let p:s.heap.get? x=some #[.ref C,some dx,.plain, #v[]]:=I.obj;show π (ϯ (π (π (wpAny_loadPart p (π (W.Looks.here (s:={s with toks:=s.toks+1}) (W.looks_clsIn X o) ?_))))));rw[f];show ϯ (a:=some dx) (π (ϯ (π ?_)));show wpAny_nsSet1 (s:={s with toks:=s.toks+1}) I.ns λh' c e=>?_
 let#[B,q,u,g,i,j]:=c.count (PySem.Within.cons name v n);show π (wpAny_lookBehind g (by rw[i];show pastItsLine_dict (aeP j (by rw[adx];omega))) ?_);show ϯ (h _ #[(e.2 _ (Ne.symm I.ne)).trans I.obj,c,I.ne] e)
theorem adG{R:Result->μ->Prop}{vs:List ε}{kw:List (Str×ε)}(X:K.In s.heap)(a:anx K C=true)(hi:afh K (.ref C) "__init__"=some (some (.ref f)))(c:amR K (.ref f)=some (.type "function"))(h:codeAny (ϧ prog w) (A.under (.builtin "type.__call__" #[.ref C::vs,kw])) (.call (.ref f) #[.ref (s.heap.objs.size+1)::vs,kw]) (W.InitBack (s.heap.objs.size+1) R)
   {s with heap:=(s.heap.push akg).push (alW C s.heap.objs.size)}):codeAny (ϧ prog w) A (.call (.ref C) #[vs,kw]) R s:=by
 let#[hh,g,d,t,os]:=s;show W.make_core (W.makes_of X a) (W.looks_findIn X hi) (λself=>W.bind_fn X self c) (.inl rfl) h
end
def ϛ(f:Str)(v:V):List (Str×V)->List (Str×V)
 |[]=>[(f,v)]
 |(g,x)::r=>if g=f then(g,v)::r else(g,x)::ϛ f v r
theorem SJ(f g:Str)(v:V):∀fs:List (Str×V),(ϛ f v fs).lookup g=if g=f then some v else fs.lookup g
 |[]=>by
  show aia g [(f,v)]=_;by_cases h:g=f
  .let a:(g==f)=true:=beq_iff_eq.mpr h;simp only[aia,a,if_pos h]
  .let a:(g==f)=false:=beq_eq_false_iff_ne.mpr h;simp only[aia,a,if_neg h]
 |(k,x)::r=>by
  let i:=SJ f g v r;rw[show ϛ f v ((k,x)::r)=(if k=f then(k,v)::r else(k,x)::ϛ f v r)from rfl];by_cases c:k=f
  .rw[if_pos c];by_cases h:g=k
   .let a:(g==k)=true:=beq_iff_eq.mpr h;simp only[aia,a,if_pos (h.trans c)]
   .let a:(g==k)=false:=beq_eq_false_iff_ne.mpr h;simp only[aia,a,if_neg (λe:g=f=>h (e.trans c.symm))]
  .rw[if_neg c];by_cases h:g=k
   .let a:(g==k)=true:=beq_iff_eq.mpr h;simp only[aia,a,if_neg (λe:g=f=>c (h.symm.trans e))]
   .let a:(g==k)=false:=beq_eq_false_iff_ne.mpr h;simp only[aia,a];show i
theorem EY(f:Str)(v:V):∀fs:List (Str×V),f∈(ϛ f v fs).map (·.1)/\∀g,g∈fs.map (·.1)->g∈(ϛ f v fs).map (·.1)
 |[]=>#[by simp[ϛ],λg h=>by simp at h]
 |(k,x)::r=>by
  let#[c,i]:=EY f v r;rw[show ϛ f v ((k,x)::r)=(if k=f then(k,v)::r else(k,x)::ϛ f v r)from rfl];by_cases a:k=f
  .rw[if_pos a];subst a;show#[by simp,λg h=>by simpa using h]
  .rw[if_neg a];show#[?_,λg h=>?_]
   .rw[adI];show adF _ c
   .rw[adI]at h⊢;obtain e|e:=aaF.mp h
    .show aaF.mpr (.inl e)
    .show adF _ (i g e)
theorem jM(f:Str)(v:V):∀fs:List (Str×V),(ϛ f v fs).length<=fs.length+1
 |[]=>by simp[ϛ]
 |(k,x)::r=>by
  let c:=jM f v r;rw[show ϛ f v ((k,x)::r)=(if k=f then(k,v)::r else(k,x)::ϛ f v r)from rfl];by_cases a:k=f
  .rw[if_pos a,adx,adx];omega
  .rw[if_neg a,adx,adx];omega
theorem bN.some_of{v:V}{o:Option ε}(r:bN (some v) o):∃u,o=some u/\RelV v u:=by
 cases o with
 |none=>show(show False from r).elim
 |some u=>show#[u,rfl,r]
theorem bN.none_of{o:Option ε}(r:bN none o):o=none:=by
 cases o with
 |none=>rfl
 |some u=>show(show False from r).elim
theorem Ye{v:V}{u:ε}(r:RelV v u):W.handedIn u=true:=by
 cases v with
 |non=>cases(show u=Value.none from r);rfl
 |bl b=>cases(show u=Value.bool b from r);rfl
 |int i=>let#[t,e]:=(show ∃t,u=Value.int i t from r);cases e;rfl
 |str x=>let#[t,e]:=(show ∃t,u=Value.str x t from r);cases e;rfl
 |byt b=>let#[t,e]:=(show ∃t,u=Value.bytes b t from r);cases e;rfl
 |flt b=>let#[t,e]:=(show ∃t,u=Value.float b t from r);cases e;rfl
 |ref a=>cases(show u=Value.ref a from r);rfl
 |ty n=>cases(show u=Value.type n from r);rfl
section
variable{P:Ϯ}{w:ϭ}{H H':Hp}{h h':ϫ}{a C dx:δ}{fs fs':List (Str×V)}
theorem vm(hok:aa P w H h)(e:H a=some (.ins C dx fs)):∃mA,kJ h a dx C mA/\(∀f,bN (fs.lookup f) (mA f))/\PySem.Within mA (fs.map (·.1))/\fs.length<=1000/\H dx=some (.own a):=by
 let#[d,z,ne,c,mA,n,r,q]:=(show ϕ P w H h a (.ins C dx fs)from hok a _ e);show#[mA,#[c,n,ne],r,q,z,d]
end
structure Ϙ(K:ϩ)(C:δ):Prop where
 pg:al1 K C amF=true
 hd:ak9 K C=true
 po:amn K C=true
 sa:afh K (.ref C) "__setattr__"=some (some (.builtin "object.__setattr__"))
theorem Ϙ.get{K:ϩ}{C:δ}(c:Ϙ K C)(f:Str):al1 K C f=true:=c.pg
def Ρ(K:ϩ)(C:δ)(f:Str):Prop:=afh K (.ref C) f=some none
theorem Ρ.taker{K:ϩ}{C:δ}{f:Str}(n:Ρ K C f):amE K C f=some none:=by
 unfold amE;rw[show afh K (.ref C) f=some none from n];rfl
structure Meth(K:ϩ)(C:δ)(m:Str)(f:δ):Prop where
 at_:afh K (.ref C) m=some (some (.ref f))
 fn:am1 K (.ref f)=true
 kp:alz K (.ref f)=true
section
variable{X:Cx}{ϵ:List (δ×Obj)}{σ:St}{H:Hp}{s:μ}{a C dx:δ}{fs:List (Str×V)}{f:Str}{v:V}{A:ϱ}{E:ε->μ->Prop}
theorem Jb{b:Bool}{Q:ε->μ->Prop}(I:Inv X ϵ σ H s)(e:H a=some (.ins C dx fs))(c:Ϙ X.K C)(n:Ρ X.K C f)(l:fs.lookup f=some v)(h:∀u s',Inv X ϵ σ H s'->RelV v u->Q u s'):ν (ϧ X.prog X.w) A (getAttr (.ref a) f b) Q E s:=by
 let#[mA,O,r,_,_,_]:=vm I.hok e;let#[u,i,g]:=bN.some_of (v:=v) (o:=mA f) (by rw[<-l];show r f);show get_map I.kIn O (c.get f) c.hd n i (Ye g) (h u _ (I.tok _) g)
theorem PB{m:Str}{g:δ}{pl:Sem Bool}{Q:ε×List ε->μ->Prop}(I:Inv X ϵ σ H s)(e:H a=some (.ins C dx fs))(c:Ϙ X.K C)(k:Meth X.K C m g)(l:fs.lookup m=none)(h:Q (.ref g,[.ref a]) s):ν (ϧ X.prog X.w) A (getMethod (.ref a) m pl) Q E s:=by
 let#[mA,O,r,_,_,_]:=vm I.hok e;let f:mA m=none:=bN.none_of (by rw[<-l];show r m);show ab3 I.kIn O (c.get m) k.at_ k.fn f h
theorem Om{y:V}{u:ε}{Q:Unit->μ->Prop}(I:Inv X ϵ σ H s)(e:H a=some (.ins C dx fs))(c:Ϙ X.K C)(n:Ρ X.K C f)(B:fs.length<1000)(ry:RelV y u)(h:∀s',Inv X ϵ σ (upd H a (.ins C dx (ϛ f y fs))) s'->Q PUnit.unit s'):ν (ϧ X.prog X.w) A (setAttr (.ref a) f u) Q E s:=by
 let#[mA,O,r,j,_,l]:=vm I.hok e;let hz:(fs.map (·.1)).length<=ϰ:=by rw[abd,ϳ];omega
 show aaL I.kIn O c.sa c.po n.taker c.hd j hz λh' i m=>h _ ?_
 let hd:∃o,h'.get? dx=some o:=let⟨o,_,_,e',_⟩:=i.ns;#[o,e'];show I.write (x:=a) (e:=dx) (by rw[e];show True.intro) (.inr l) (λb q p z=>(m.2 b p).trans z) hd ?_;show#[by rw[ρ O.ne];show l,?_,O.ne,i.obj,_,i.ns,λg=>?_,λg v=>?_]
 .have :=jM f y fs;omega
 .show bN ((ϛ f y fs).lookup g) (if g=f then some u else mA g);rw[SJ];by_cases q:g=f
  .rw[if_pos q,if_pos q];show ry
  .rw[if_neg q,if_neg q];show r g
 .by_cases q:g=f
  .rw[q];show(EY f y fs).1
  .show(EY f y fs).2 g (j g λz=>v ?_);show(if g=f then some u else mA g)=none;rw[if_neg q];show z
theorem Inv.made(I:Inv X ϵ σ H s):Inv X ϵ σ (upd (upd H s.heap.objs.size (.own (s.heap.objs.size+1))) (s.heap.objs.size+1) (.ins C s.heap.objs.size []))
  {s with heap:=(s.heap.push akg).push (alW C s.heap.objs.size)}:=by
 let e1:(s.heap.push akg).get? s.heap.objs.size=some akg:=ab7 s.heap rfl;let c:((s.heap.push akg).push (alW C s.heap.objs.size)).get? (s.heap.objs.size+1)=some (alW C s.heap.objs.size):=by
  have:=ab7 (s.heap.push akg) (o:=alW C s.heap.objs.size) rfl
  rwa [aiJ]at this
 let f:(s.heap.push akg).Ns s.heap.objs.size (λ_=>none):=#[akg, #v[],_,e1,rfl,(λe g=>absurd g (by simp)),λ_=>rfl];let i:=I.laid (a:=s.heap.objs.size) (o:=.own (s.heap.objs.size+1)) (h':=s.heap.push akg) (t':=s.toks) (λb u q=>ϲ _ q) (Ϭ _) #[_,e1];show i.laid (a:=s.heap.objs.size+1) (o:=.ins C s.heap.objs.size []) (t':=s.toks) (λb u q=>ϲ _ q) (aka (aiJ _ _)) ?_;let ne:s.heap.objs.size≠s.heap.objs.size+1:=ac6 (anj _);show#[by rw[ρ ne,υ],afT _,ne,c,λ_=>none,(Heap.Ns1.of_empty f).at λo q=>ϲ _ q,λ_=>True.intro,λy j=>absurd rfl j]
theorem acb{prog:Ϯ}{w:ϭ}{env:Env}{e:Ϧ}{f:Str}{pos:Pos}{s:μ}{Q:ε->μ->Prop}(c:attributeBase e f env (eval e env)=eval e env)(h:ν (ϧ prog w) A (eval e env) (λo a=>ν (ϧ prog w) A (getAttr o f true) Q E a) E s):ν (ϧ prog w) A (eval (.Attribute e f pos) env) Q E s:=
 Attribute_any_ h (by rw[arm_eval_Attribute,c])
end
def Xu(K:ϩ)(ta tv:TE)(f:Str):TS:=λD σ H=>tv σ H λy H1=>ta σ H1 λx H2=>∃a C dx fs,x=.ref a/\H2 a=some (.ins C dx fs)/\Ϙ K C/\ Ρ K C f/\fs.length<1000/\
 D.nx σ (upd H2 a (.ins C dx (ϛ f y fs)))
def Ob(X:Cx)(op:Operator)(rd:V->V->Hp->VK->Prop):Prop:=
 ∀(ϵ:List (δ×Obj))(s:μ)(σ:St)(H:Hp)(x y:V)(u v:ε)(Q:VK),Inv X ϵ σ H s->RelV x u->RelV y v->rd x y H Q->ν (ϧ X.prog X.w) X.A (inplaceOp op u v) (EP X ϵ σ Q) X.xe s
def abq(K:ϩ)(ta tv:TE)(rd:V->V->Hp->VK->Prop)(f:Str):TS:=λD σ H=>ta σ H λx H1=>∃a C dx fs v,x=.ref a/\H1 a=some (.ins C dx fs)/\Ϙ K C/\ Ρ K C f/\fs.lookup f=some v/\
 tv σ H1 λy H2=>rd v y H2 λz e=>∃c fs',e a=some (.ins C c fs')/\fs'.length<1000/\D.nx σ (upd e a (.ins C c (ϛ f z fs')))
section
variable{X:Cx}{o e value:Ϧ}{f:Str}{pos pos' tpos:Pos}{ta tv:TE}
theorem Ym(e:PE X o ta)(g:PE X value tv)(hs:alr value (some (.Attribute o f pos')) pos.line X.env=pure false):PS X (.Assign [.Attribute o f pos'] value pos) (Xu X.K ta tv f):=by
 intro ϵ s σ H D I h;show plainObj_wpAny_Assign_Attribute (χ (g ϵ s σ H _ I h) λu i ⟨y,H1,j,ry,q⟩=>χ (e ϵ i σ H1 _ j q) λm E p=>?_) hs;let#[x,H2,v,rx,a,C,dx,fs,ex,ea,c,n,l,z]:=p;subst ex;obtain rfl:m=Value.ref a:=rx;show Om v ea c n l ry λF B=>#[σ,_,B,z]
theorem W4{op:Operator}{rd:V->V->Hp->VK->Prop}(j:PE X o ta)(m:PE X value tv)(e:Ob X op rd):PS X (.AugAssign (.Attribute o f tpos) op value pos) (abq X.K ta tv rd f):=by
 intro ϵ s σ H D I h;show wpAny_AugAssign_AttributeAny (χ (j ϵ s σ H _ I h) λp U g=>?_);let#[x,H1,B,rx,a,C,dx,fs,v,ex,ea,c,n,l,q]:=g;subst ex;obtain rfl:p=Value.ref a:=rx;show Jb B ea c n l λu E F G=>χ (m ϵ E σ H1 _ F q) λJ L ⟨y,H2,M,ry,O⟩=>χ (e ϵ L σ H2 v y u J _ M G ry O) λW Y g=>?_
 let#[z,Z,P,Q,R,fs',i,l',S]:=g;show Om P i c n l' Q λs5 T=>#[σ,_,T,S]
def JB:V->V->Hp->VK->Prop:=λx y H Q=>∃i j,x=.int i/\y=.int j/\Q (.int (i+j)) H
theorem afU:Ob X .Add JB:=by
 rintro ϵ s σ H x y u v Q I rx ry ⟨i,j,rfl,rfl,q⟩
 let#[t,rfl]:=(show ∃t,u=Value.int i t from rx);let#[t',rfl]:=(show ∃t',v=Value.int j t' from ry);show PyProof.Rows.iadd_int #[.int (i+j),H,I.tok _,#[_,rfl],q]
end
section
variable{X:Cx}{ϵ:List (δ×Obj)}{σ:St}{H:Hp}{s:μ}{A:ϱ}{E:ε->μ->Prop}{Q:ε->μ->Prop}{c:ε}{b:Bool}
inductive cX (K:ϩ) (H:Hp):V->ε->Prop where
 |non:cX K H .non (.type "NoneType")
 |bl (x:Bool):cX K H (.bl x) (.type "bool")
 |int (i:Int):cX K H (.int i) (.type "int")
 |str (x:Str):cX K H (.str x) (.type "str")
 |flt (x:UInt64):cX K H (.flt x) (.type "float")
 |lst {a:δ} {xs:List V} (e:H a=some (.lst xs)):cX K H (.ref a) (.type "list")
 |frz {a:δ} {o:Obj} {xs:List V} (e:H a=some (.frz o (.lst xs))):cX K H (.ref a) (.type "list")
 |tup {a:δ} {xs:List V} (e:H a=some (.tup xs)):cX K H (.ref a) (.type "tuple")
 |dK {a:δ} {Ϸ:List (Key×V)} (e:H a=some (.dK Ϸ)):cX K H (.ref a) (.type "dict")
 |dT {a:δ} {Ϸ:List (List Key×V)} (e:H a=some (.dT Ϸ)):cX K H (.ref a) (.type "dict")
 |ins {a C dx:δ} {fs:List (Str×V)} (e:H a=some (.ins C dx fs)) (cl:Ϙ K C) (ha:afh K (.ref C) "__class__"=some (some (.builtin "object.__class__")))
  (hn:ail K (.builtin "object.__class__") "__get__"=some (some (.builtin "getset_descriptor.__get__"))) (htk:amG K (.builtin "object.__class__")=some true)
  (hm:al3 K C (.type "object")=some true):cX K H (.ref a) (.ref C)
theorem afD{x:V}{u t:ε}(I:Inv X ϵ σ H s)(rx:RelV x u)(ty:cX X.K H x t)(e:am2 X.K t c=some b)(h:∀tk,Q (.bool b) {s with toks:=tk}):ν (ϧ X.prog X.w) A (call (.builtin "isinstance") [u,c]) Q E s:=by
 cases ty with
 |non=>cases(show u=Value.none from rx);show alw W.kitx_none I.kIn True.intro e (λz=>nomatch z) h
 |bl y=>cases(show u=Value.bool y from rx);show alw W.kitx_bool I.kIn True.intro e (λz=>nomatch z) h
 |int i=>let#[t,q]:=(show ∃t,u=Value.int i t from rx);cases q;show alw W.kitx_int I.kIn True.intro e (λz=>nomatch z) h
 |str y=>let#[t,q]:=(show ∃t,u=Value.str y t from rx);cases q;show alw W.kitx_str I.kIn True.intro e (λz=>nomatch z) h
 |flt y=>let#[t,q]:=(show ∃t,u=Value.float y t from rx);cases q;show alw W.kitx_float I.kIn True.intro e (λz=>nomatch z) h
 | @lst a xs ea=>
   cases(show u=Value.ref a from rx);let#[_,_,n,_,h1]:=(show ϕ X.prog X.w H s.heap a (.lst xs)from I.hok a _ ea);show alw W.kitx_list I.kIn #[_,h1,rfl] e (λz=>nomatch z) h
 | @frz a g xs ea=>
   cases(show u=Value.ref a from rx);let#[_,_,_,n,_,h1]:=(show ϕ X.prog X.w H s.heap a (.frz g (.lst xs))from I.hok a _ ea);show alw W.kitx_list I.kIn #[_,h1,rfl] e (λz=>nomatch z) h
 | @tup a xs ea=>
   cases(show u=Value.ref a from rx);let#[_,_,_,p]:=(show ϕ X.prog X.w H s.heap a (.tup xs)from I.hok a _ ea);let#[o,h1,h2,_]:=p;show alw W.kitx_tuple I.kIn #[o,h1,h2] e (λz=>nomatch z) h
 | @dK a Ϸ ea=>
   cases(show u=Value.ref a from rx);let#[_,_,vs,_,p]:=(show ϕ X.prog X.w H s.heap a (.dK Ϸ)from I.hok a _ ea);let#[o,es,ep,h1,h2,_]:=p;show alw W.kitx_dict I.kIn #[o,h1,h2.1] e (λz=>nomatch z) h
 | @dT a Ϸ ea=>
   cases(show u=Value.ref a from rx);let#[_,_,xs,_,o,es,ep,h1,h2,_]:=(show ϕ X.prog X.w H s.heap a (.dT Ϸ)from I.hok a _ ea);show alw W.kitx_dict I.kIn #[o,h1,h2.1] e (λz=>nomatch z) h
 | @ins a C dx fs ea cl j l f m=>
   cases(show u=Value.ref a from rx);let#[mA,O,_]:=vm I.hok ea;let#[od,J,_]:=O.look;show alw (W.kitx_own (cl.get _) cl.hd j l f m) I.kIn J e (λz=>nomatch z) h
end
structure ϔ(cc:Bool)(k:Nat)(A:ϱ):Prop where
 hd:cc=true->A.handled=none
 dp:A.depth+3*k+5<recursionLimit
 un:A.units+16*k+200<cLine
theorem ϔ.mono{j k:Nat}{A:ϱ}(r:ϔ cc k A)(h:j<=k):ϔ cc j A:=#[r.hd,by have:=r.dp;omega,by have:=r.un;omega]
theorem ϔ.deeper{k:Nat}{A:ϱ}(r:ϔ cc (k+1) A)(env:Env):ϔ cc k (A.deeper env):=
 #[r.hd,by have:=r.dp;show A.depth+1+3*k+5<_;omega,by have:=r.un;show A.units+3+16*k+200<_;omega]
theorem ϔ.in1{k:Nat}{A:ϱ}(r:ϔ cc (k+1) A):ϔ cc k A.in1:=
 #[r.hd,by have:=r.dp;show A.depth+3*k+5<_;omega,by have:=r.un;show A.units+1+16*k+200<_;omega]
theorem afr{A:ϱ}{C:δ}{us:List ε}{kw:List (Str×ε)}:(A.under (.builtin "type.__call__" #[.ref C::us,kw])).depth=A.depth+1:=by
 first|rfl|simp[Around.under,Code.weight,Code.isCreation,Code.isGuard,Code.isCaller,Code.frames,Code.isFrame,guardIds]
theorem agi{A:ϱ}{C:δ}{us:List ε}{kw:List (Str×ε)}:(A.under (.builtin "type.__call__" #[.ref C::us,kw])).units=A.units+1:=by
 first|rfl|simp[Around.under,Code.cUnits,Code.frames,Code.isFrame]
theorem ϔ.make{k:Nat}{A:ϱ}(r:ϔ cc (k+1) A)(C:δ)(us:List ε)(kw:List (Str×ε)):ϔ cc k (A.under (.builtin "type.__call__" #[.ref C::us,kw])):=
 #[r.hd,by have:=r.dp;rw[afr];omega,by have:=r.un;rw[agi];omega]
theorem ϔ.depth{k:Nat}{A:ϱ}(r:ϔ cc k A):A.depth<recursionLimit:=by have:=r.dp;omega
theorem ϔ.units{k:Nat}{A:ϱ}(r:ϔ cc k A):A.units+64<cLine:=by have:=r.un;omega
theorem ϔ.units0{k:Nat}{A:ϱ}(r:ϔ cc k A):A.units<cLine:=by have:=r.un;omega
section
variable{X:Cx}{e:Ϧ}{es:List Ϧ}{te:TE}{t:TA}{pos:Pos}
end
abbrev Sp:=List V->Hp->VK->XK->Prop
abbrev d8:=List Env->Hp->μ->XK->ε->μ->Prop
structure mW(P:Ϯ)(w:ϭ)(K:ϩ)(mg:Str->Option ε)(base:ϫ)(A:ϱ)(outer:List Env)(s:μ)(H:Hp):Prop where
 frames:A.frames=some outer
 mod:Mod K mg base
 bs:∀b o,base.get? b=some o->s.heap.get? b=some o/\H b=none
 bsz:base.objs.size<=s.heap.objs.size
 funs:s.heap.FunFrames base outer
 frf:∀b∈cD outer,H b=none
 hok:aa P w H s.heap
 bare:AllBare s.gens
def CE(outer:List Env)(P:Ϯ)(w:ϭ)(H:Hp)(s:μ)(Q:VK)(u:ε)(s':μ):Prop:=
 ∃v H',s'.os=s.os/\AllBare s'.gens/\Un (cD outer) [] H H' s.heap s'.heap/\aa P w H' s'.heap/\RelV v u/\Q v H'
def CR(CX:d8)(outer:List Env)(P:Ϯ)(w:ϭ)(H:Hp)(s:μ)(Q:VK)(E:XK)(r:Result)(s':μ):Prop:=
 match r with
 |.ok (.ret u)=>CE outer P w H s Q u s'
 |.ok _=>False
 |.error e=>CX outer H s E e s'
structure cG(P:Ϯ)(w:ϭ)(K:ϩ)(mg:Str->Option ε)(base:ϫ)(CX:d8)(cc:Bool)(k:Nat)(f:δ)(fd:ahC)(ps:List Str)(sp:Sp):Prop where
 len:∀vs H Q E,sp vs H Q E->vs.length=ps.length
 run:∀(A:ϱ)(outer:List Env)(s:μ)(H:Hp)(args:Args)(us:List ε)(vs:List V)(Q:VK)(E:XK),ϔ cc k A->mW P w K mg base A outer s H->BindsTo s fd args (ps.zip us)->Vals vs us->sp vs H Q E->
  codeAny (ϧ P w) A (.call (.ref f) args) (CR CX outer P w H s Q E) s
theorem cG.mono{P:Ϯ}{w:ϭ}{K:ϩ}{mg:Str->Option ε}{base:ϫ}{CX:d8}{j k:Nat}{f:δ}{fd:ahC}{ps:List Str}{sp:Sp}(F:cG P w K mg base CX cc j f fd ps sp)(h:j<=k):cG P w K mg base CX cc k f fd ps sp:=#[F.len,λA outer s H a us vs Q E c=>F.run A outer s H a us vs Q E (c.mono h)]
theorem mW.make{P:Ϯ}{w:ϭ}{K:ϩ}{mg:Str->Option ε}{base:ϫ}{A:ϱ}{outer:List Env}{s:μ}{H:Hp}(e:mW P w K mg base A outer s H)(C:δ)(us:List ε)(kw:List (Str×ε)):mW P w K mg base (A.under (.builtin "type.__call__" #[.ref C::us,kw])) outer s H:=#[by first|show e.frames|(simpa [Around.under,Code.envs,Code.isFrame,pushEnvs]using e.frames),e.mod,e.bs,e.bsz,e.funs,e.frf,e.hok,e.bare]
section
variable{X:Cx}{ϵ:List (δ×Obj)}{σ:St}{H:Hp}{s s':μ}
theorem Inv.env0(I:Inv X ϵ σ H s):mW X.prog X.w X.K X.mg X.base X.A X.stack s H:=
 #[I.ok.frames,I.ok.mod,I.bs,aeP I.ok.bsz I.sz,I.stack,I.stkFree,I.hok,I.bare]
theorem Inv.after{Q:VK}{u:ε}(I:Inv X ϵ σ H s)(h:CE X.stack X.prog X.w H s Q u s'):EP X ϵ σ Q u s':=by
 let#[v,H',os,bare,un,hok,r,q]:=h;let#[hh,g,d,t,a]:=s';obtain rfl:a=s.os:=os;show#[v,H',I.call (h':=hh) (g':=g) (d':=d) (t':=t) (ch:=[]) un hok bare (λb z=>absurd z (by simp)),r,q]
end
def Binds(K:ϩ)(fd:ahC)(ps:List Str)(ds:List ε):Prop:=
 ∀(s:μ)(us:List ε),K.In s.heap->(us++ds).length=ps.length->BindsTo s fd #[us,[]] (ps.zip (us++ds))
theorem Binds.all{K:ϩ}{fd:ahC}{ps:List Str}(h:∀us:List ε,us.length=ps.length->bindArgs fd #[us,[]]=pure (ps.zip us)):Binds K fd ps []:=λs us _ a=>by
 rw[alG]at a⊢;show .of_eq (h us a)
section
variable{X:Cx}{CX:d8}{k:Nat}{f C:δ}{fd:ahC}{ps:List Str}{sp:Sp}{dvs:List V}{ds:List ε}{E:XK}{x m:Str}{p pos apos:Pos}{e o:Ϧ}{es:List Ϧ}{ta:TE}{t:TA}
structure Mk(K:ϩ)(C f:δ):Prop where
 makes:anx K C=true
 init:afh K (.ref C) "__init__"=some (some (.ref f))
 fn:am1 K (.ref f)=true
 kp:alz K (.ref C)=true
end
section
variable{X:Cx}{CX:d8}{k:Nat}{f C:δ}{fd:ahC}{ps ks:List Str}{sp:Sp}{E:XK}{x m:Str}{p pos apos kpos:Pos}{e o:Ϧ}{es:List Ϧ}{kws:List Keyword}{te ta:TE}{t tk:TA}{nm:Option Str}
variable{g:List ε->List ε->List ε}{gV:List V->List V->List V}
end
structure Υ(N P:List Str)(sc:ahw):Prop where
 kind:sc.kind=.function
 co:sc.isCoroutine=false
 gen:sc.isGenerator=false
 nd:N.Nodup
 pre:N.take P.length=P
 par:∀x∈P,sc.names.lookup x=some .local\/sc.names.lookup x=some .cell
 nofree:∀y∈sc.names,y.2≠.free
theorem Hj{kindOf:Str->Option alO}{x:Str}:∀{binds:List (Str×ε)}{m:Str->Option ε},(∀v,(x,v)∉binds)->bindL kindOf binds m x=m x
 |[],_,_=>rfl
 |(n,v)::r,m,h=>by
  unfold bindL;rw[Hj λw a=>h w (adF _ a)];split
  .have :x≠n:=by rintro rfl;show h v aeh
   simp[this]
  .rfl
theorem Kc{kindOf:Str->Option alO}{x:Str}:∀{binds:List (Str×ε)}{m:Str->Option ε},(∀v,(x,v)∉binds)->bindC kindOf binds m x=m x
 |[],_,_=>rfl
 |(n,v)::r,m,h=>by
  unfold bindC;rw[Kc λw a=>h w (adF _ a)];split
  .rfl
  .have :x≠n:=by rintro rfl;show h v aeh
   simp[this]
theorem J3{kindOf:Str->Option alO}{x:Str}{v:ε}:∀{P:List Str}{vs:List ε}{i:Nat}{m:Str->Option ε},P.Nodup->P[i]?=some x->vs[i]?=some v->kindOf x=some .local->
  bindL kindOf (P.zip vs) m x=some v
 |[],_,_,_,_,h,_,_=>by simp at h
 |_::_,[],_,_,_,_,h,_=>by simp at h
 |p::P,w::vs,0,m,nd,h1,h2,a=>by
  simp at h1 h2;subst h1;subst h2;show bindL kindOf ((p,w)::P.zip vs) m p=_;unfold bindL;rw[Hj λv c=>(ala.mp nd).1 (amH c).1,if_pos a];simp
 |p::P,w::vs,i+1,m,nd,h1,h2,a=>by
  show bindL kindOf ((p,w)::P.zip vs) m x=_;unfold bindL;show J3 (i:=i) (ala.mp nd).2 (by simpa using h1) (by simpa using h2) a
theorem Jw{kindOf:Str->Option alO}{x:Str}{v:ε}:∀{P:List Str}{vs:List ε}{i:Nat}{m:Str->Option ε},P.Nodup->P[i]?=some x->vs[i]?=some v->kindOf x≠some .local->
  bindC kindOf (P.zip vs) m x=some v
 |[],_,_,_,_,h,_,_=>by simp at h
 |_::_,[],_,_,_,_,h,_=>by simp at h
 |p::P,w::vs,0,m,nd,h1,h2,a=>by
  simp at h1 h2;subst h1;subst h2;show bindC kindOf ((p,w)::P.zip vs) m p=_;unfold bindC;rw[Kc λv c=>(ala.mp nd).1 (amH c).1,if_neg a];simp
 |p::P,w::vs,i+1,m,nd,h1,h2,a=>by
  show bindC kindOf ((p,w)::P.zip vs) m x=_;unfold bindC;show Jw (i:=i) (ala.mp nd).2 (by simpa using h1) (by simpa using h2) a
def start(N:List Str)(vs:List V):St:=vs.map some++akD (N.length-vs.length) none
def jT(cc:Bool)(CX:d8)(P:Ϯ)(w:ϭ)(K:ϩ)(mg:Str->Option ε)(base:ϫ)(N:List Str)(qual:Str)(scope:ahw)(f:δ)(cd:ε)(A:ϱ)(outer:List Env)(s:μ)(H:Hp)(E:XK):Cx where
 prog:=P
 w:=w
 K:=K
 mg:=mg
 base:=base
 A:=A.deeper (envOfC qual scope s.heap.objs.size f cd)
 N:=N
 s₀:=s
 H₀:=H
 env:=envOfC qual scope s.heap.objs.size f cd
 outer:=outer
 stack:=envOfC qual scope s.heap.objs.size f cd::outer
 ex:=[]
 calm:=cc
 fn:=λ_=>true
 pn:=[]
 xe:=λe s'=>ν (ϧ P w) (A.deeper (envOfC qual scope s.heap.objs.size f cd)) (leaving (envOfC qual scope s.heap.objs.size f cd) e) (λ_ a=>CX outer H s E e a) (λc a=>CX outer H s E c a) s'
theorem Hl{sc:ahw}{n:Nat}{x:Str}(h:sc.names.lookup x=some .cell):∃c,(cellsFrom n sc.names []).lookup x=some c:=by
 let q:=ank sc.names n [] (.inl h);show ajR.mp q
theorem aeG{CX:d8}{P:Ϯ}{w:ϭ}{K:ϩ}{mg:Str->Option ε}{base:ϫ}{N ps:List Str}{qual:Str}{scope:ahw}{f:δ}{cd:ε}{A:ϱ}{outer:List Env}{s s1:μ}{H:Hp}{E:XK}{us:List ε}{vs:List V}(S:Υ N ps scope)(hd:cc=true->A.handled=none)(g:mW P w K mg base A outer s H)(G:vs.length=ps.length)(r:Vals vs us)(x:InCallC s s.heap.objs.size (bindL (envOfC qual scope s.heap.objs.size f cd).kindOf (ps.zip us) λ_=>none) (cellsFrom (s.heap.objs.size+1) scope.names []) (bindC (envOfC qual scope s.heap.objs.size f cd).kindOf (ps.zip us) λ_=>none) s1):Inv (jT cc CX P w K mg base N qual scope f cd A outer s H E) [] (start N vs) H s1:=by
 let C:ps.length<=N.length:=by have:=congrArg alR S.pre;rw[ag5]at this;omega
 let#[h1,tk,rfl,o]:=x.done;let j:∀b:δ,b∉(jT cc CX P w K mg base N qual scope f cd A outer s H E).ex:=λb z=>absurd (show b∈([]:List δ)from z) (by simp)
 show#[#[g.mod,S.kind,rfl,rfl,Ϭ _,λy z c h1 h2=>?_,λy hy=>?_,λy c _ h=>?_,hd,Around.frames_deeper g.frames,.inr #[rfl,rfl],λb z=>absurd z (j b),g.bs,g.bsz,λb _ _=>j b,λb z=>absurd z (j b),g.funs,g.frf],
  rfl,g.bare,Un.kept o,#[_,x.toInCall.ns,λi y v h1 h2 I=>?_],λy c h=>#[_,x.cell y c h],g.hok.fresh (Ϭ _),λy c h=>?_,λp l=>absurd (show p∈([]:List (δ×Obj))from l) (by simp),g.hok.kept o,?_]
 .show name_of_addr x.apart (PySem.mem_of_lookup h1) (PySem.mem_of_lookup h2)
 .let hy:scope.names.lookup y=some .cell\/scope.names.lookup y=some .free:=hy;obtain hy|hy:=hy
  .show Hl hy
  .show absurd rfl (S.nofree _ (PySem.mem_of_lookup hy))
 .show alX (x.above y c (PySem.mem_of_lookup h))
 .let hi:i<vs.length:=by
   unfold start at h2;by_cases hi:i<vs.length
   .show hi
   .rw[als (by simpa using hi)]at h2;rw[List.getElem?_replicate]at h2;split at h2<;>cases h2
  let D:vs[i]?=some v:=by
   unfold start at h2;rw[ajG (by simpa using hi),aci]at h2;cases e:vs[i]? with
   |none=>rw[e]at h2;cases h2
   |some a=>rw[e]at h2;cases h2;rfl
  let#[u,B,F]:=r.get D;let l:ps[i]?=some y:=by
   rw[<-S.pre,List.getElem?_take_of_lt ()];show h1
  let m:ps.Nodup:=by rw[<-S.pre];show S.nd.sublist (List.take_sublist _ _)
  show#[u,F,?_];rcases S.par y (aak l)with k|k
  .show .inl #[k,J3 m l B k]
  .let#[c,e]:=Hl (n:=s.heap.objs.size+1) k;show .inr #[.inl k,c,e,?_];let q:=x.cell y c e;rw[Jw m l B (by show scope.names.lookup y≠_;rw[k];decide)]at q;show q
 .show g.hok.fresh (alX (x.above y c (PySem.mem_of_lookup h)))
 .unfold start;show _=N.length;rw[ac7,abd,amI];omega
theorem Kl{CX:d8}{P:Ϯ}{w:ϭ}{K:ϩ}{mg:Str->Option ε}{base:ϫ}{k:Nat}{f:δ}{name qual:Str}{a:Arguments}{body:List Ϩ}{scope:ahw}{dV kV j pm c ct oc:ε}{an od:Option δ}{p:Array (Option ε)}{N ps:List Str}{sp:Sp}(lk:K.lookup f=some #[oc,od,.func (am3 name qual a body scope dV kV j pm an c ct),p])(z:amo K c qual=true)(S:Υ N ps scope)(len:∀vs H Q E,sp vs H Q E->vs.length=ps.length)(g:∀(A:ϱ)(outer:List Env)(s:μ)(H:Hp)(vs:List V)(Q:VK)(E:XK),ϔ cc k (A.deeper (envOfC qual scope s.heap.objs.size f c))->sp vs H Q E->
   ∃t,Bv (jT cc CX P w K mg base N qual scope f c A outer s H E) body t/\t {nx:=λ_ H'=>Q .non H',rt:=Q} (start N vs) H):cG P w K mg base CX cc (k+1) f (am3 name qual a body scope dV kV j pm an c ct) ps sp:=by
 show#[len,λA outer s H F us vs Q E B l L r m=>?_];let M:=len _ _ _ _ m;let G:K.In s.heap:=l.mod.kin.keeps λb o e=>(l.bs b o e).1
 let C:s.heap.NoLimit:=l.mod.nolimit.keeps λb o e=>(l.bs b o e).1
 let i:∀y∈ps.zip us,scope.names.lookup y.1=some .local\/(scope.names.lookup y.1=some .cell/\((cellsFrom (s.heap.objs.size+1) scope.names []).lookup y.1).isSome=true):=λ⟨n,v⟩ O=>by
  obtain q|q:=S.par n (amH O).1
  .show .inl q
  .show .inr #[q,ank _ _ _ (.inl q)]
 show codeAny_call_function B.depth (G _ _ lk) rfl S.co S.gen rfl (W.codeRec_of G z) (L _ _ _ _ ?_);show wpAny_newFunctionEnv_cells S.kind i λenv R s1 x=>?_
 subst R;show#[C.keeps x.toInCall.keep,codeAny_func ?_];let#[t,T,U]:=g A outer s H vs Q E (B.deeper _) m;let I:Inv (jT cc CX P w K mg base N qual scope f c A outer s H E) [] (start N vs) H s1:=aeG S B.hd l M r x;show adR (T [] s1 (start N vs) H _ I U) (λX s' hs=>?_) λe s' hs=>hs
 let fin:∀{σ':St}{H':Hp}{v:V}{u:ε},Inv (jT cc CX P w K mg base N qual scope f c A outer s H E) [] σ' H' s'->RelV v u->Q v H'->CE outer P w H s Q u s':=
  λ{σ' H' v u} J D q=>#[v,H',J.os,J.bare,J.base,J.hok,D,q]
 cases X with
 |ret u=>
  let#[v,σ',H',J,D,q]:=hs;show fin J D q
 |next=>
  let#[σ',H',J,q]:=hs;show fin (v:=V.non) (u:=Value.none) J rfl q
 |brk=>
  let#[_,_,_,q]:=hs;show False.elim q
 |cont=>
  let#[_,_,_,q]:=hs;show False.elim q
section
variable{X:Cx}{x:Str}{p pos:Pos}{e:Ϧ}{es:List Ϧ}{t:TA}{id T:String}{r:List V->Hp->VK->Prop}
end
end L2
namespace HT
open PySem PyProof.Rows
section
open PySem.SeqAt
open PySem.AutoSeq1 (wpAny_loadPart')
open PySem.MeetsSeq PySem.MeetsSeq2 PySem.MeetsSeq3
end
section
variable{prog:Ϯ}{w:ϭ}{A:ϱ}{E:ε->μ->Prop}{s:μ}
theorem acB{t b:δ}{vs ws:List ε}{Q:ε->μ->Prop}(q:IsTup s.heap t vs.toArray)(u:IsTup s.heap b ws.toArray)(m:vs≠[])(h1:ws=[]->Q (.ref t) s)(h2:ws≠[]->Q (.ref s.heap.objs.size) {s with heap:=s.heap.push {cls:=.type "tuple",data:=.seq (vs++ws).toArray}})(hsz:vs.length+ws.length<=ϰ):ν (ϧ prog w) A (binaryOp .Add (.ref t) (.ref b)) Q E s:=by
 let#[#[cls,dd,data,sl],j,o,n,hd]:=id q;let#[#[p,c,data2,f],a,g,n2,i]:=id u;simp only at o hd g i;subst o hd g i;let e:vs.toArray++ws.toArray=(vs++ws).toArray:=by simp
 by_cases l:ws=[]
 .show concat_meets #[_,j,rfl] #[_,a,rfl] noFill_tuple_add seq_tuple_add PySem.F.slot_tuple_add PySem.F.entry_tuple_add (PySem.F.args_tuple_add_2 _ _)
   (tuple_addW1 t b vs.toArray ws.toArray n n2 dd c sl f (by simpa using m) (by simp[l])) #[j,a,h1 l]
 .show concat_meets #[_,j,rfl] #[_,a,rfl] noFill_tuple_add seq_tuple_add PySem.F.slot_tuple_add PySem.F.entry_tuple_add (PySem.F.args_tuple_add_2 _ _)
   (tuple_addW2 t b vs.toArray ws.toArray n n2 dd c sl f (by simpa using m) (by simpa using l) (by rw[abe,abe];show hsz)) #[j,a,?_]
  rw[e];show h2 l
def Α(n d:Nat):Option Int->Nat
 |none=>d
 |some v=>if v<0 then(v+(n:Int)).toNat else min v.toNat n
theorem qj(n d:Nat):Α n d none=d:=rfl
theorem oV(n d k:Nat):Α n d (some (k:Int))=min k n:=by
 show(if(k:Int)<0 then((k:Int)+(n:Int)).toNat else min (k:Int).toNat n)=min k n;rw[if_neg (),am8]
theorem ye(n d:Nat)(hd:d<=n)(o:Option Int):Α n d o<=n:=by
 cases o with
 |none=>show hd
 |some v=>
  show(if v<0 then(v+(n:Int)).toNat else min v.toNat n)<=n;by_cases a:v<0
  .rw[if_pos a];omega
  .rw[if_neg a];show al0 _ _
theorem GX(v:Int)(n d:Nat):(if v<0 then max (v+(n:Int)) 0 else min v (n:Int))=((Α n d (some v):Nat):Int):=by
 show(if v<0 then max (v+(n:Int)) 0 else min v (n:Int))=(((if v<0 then(v+(n:Int)).toNat else min v.toNat n):Nat):Int);by_cases a:v<0
 .simp only[if_pos a];omega
 .simp only[if_neg a];omega
theorem acZ(lo hi:Option Int)(n:Nat):Builtin.Slice.sliceAdjust lo hi 1 (n:Int)=(((Α n 0 lo:Nat):Int),((Α n n hi:Nat):Int)):=by
 let h1:¬((1:Int)<0):=()
 unfold Builtin.Slice.sliceAdjust;simp only[h1,if_false];show Prod.ext ?_ ?_
 .cases lo with
  |none=>rfl
  |some v=>show GX v n 0
 .cases hi with
  |none=>rfl
  |some v=>show GX v n n
theorem Z4(i j:Nat):Builtin.Slice.slicePlaces (i:Int) (j:Int) 1=j-i:=by
 unfold Builtin.Slice.slicePlaces;let h1:(1:Int)>0:=()
 simp only[h1,if_true,Int.ediv_one];split <;>omega
theorem Jm{v:ε}{o:Option Int}{Q:Option Int->μ->Prop}(p:IsPart v o)(h:Q o s):ν (ϧ prog w) A (Builtin.Slice.slicePartIndex v) Q E s:=by
 cases p with
 |none=>show slicePart_none h
 |int i t=>show slicePart_int h
theorem ab5{sl:δ}{e f:ε}{lo hi:Option Int}{n:Nat}{Q:Int×Int×Nat->μ->Prop}(hs:s.heap.IsSliceOf sl e f .none)(pl:IsPart e lo)(g:IsPart f hi)(h:Q (((Α n 0 lo:Nat):Int),1,Α n n hi- Α n 0 lo) s):ν (ϧ prog w) A (Builtin.Slice.sliceApplied (.ref sl) (pure (n:Int))) Q E s:=by
 let#[os,a,i,c]:=id hs;unfold Builtin.Slice.sliceApplied Builtin.Slice.sliceFields;show π (π (agT a c (x:=e) rfl (π (agT a c (x:=f) rfl (π (agT a c (x:=.none) rfl (ϯ ?_)))))));show π (slicePart_none ?_);show ν _ _ (if((1:Int)==0)=true then _ else _) _ _ s;rw[if_neg (by decide)];show π (Jm pl (π (Jm g (π (ϯ ?_)))));show ν _ _ (match Builtin.Slice.sliceAdjust lo hi 1 (n:Int)with|(lo,hi)=>pure (lo,(1:Int),Builtin.Slice.slicePlaces lo hi 1)) _ _ s;rw[acZ lo hi n];show ν _ _ (pure (((Α n 0 lo:Nat):Int),(1:Int),Builtin.Slice.slicePlaces ((Α n 0 lo:Nat):Int) ((Α n n hi:Nat):Int) 1)) _ _ s;rw[Z4];show ϯ h
theorem afz(xs:Array ε)(i k:Nat):((aei k).filterMap λ(m:Nat)=>xs[((i:Int)+(m:Int)*1).toNat]?).toArray=((xs.toList.drop i).take k).toArray:=by
 let e:(λ(m:Nat)=>xs[((i:Int)+(m:Int)*1).toNat]?)=λm=>xs[i+m]? :=by
  funext m;have:((i:Int)+(m:Int)*1).toNat=i+m:=()
  rw[this]
 rw[e];have:=pick_run xs i k;rw[List.filterMap_map]at this;let a:((λx=>xs[x]?)∘λx=>i+x)=λm=>xs[i+m]? :=rfl
 rw[a]at this;rw[this]
theorem ad9{t sl:δ}{a:Array ε}{l n:ε}{lo hi:Option Int}{Q:ε->μ->Prop}(e:IsTup s.heap t a)(hs:s.heap.IsSliceOf sl l n .none)(pl:IsPart l lo)(o:IsPart n hi)(p:¬(Α a.size 0 lo=0/\ Α a.size a.size hi=a.size))(h:Q (.ref s.heap.objs.size) {s with heap:=s.heap.push {cls:=.type "tuple",data:=.seq ((a.toList.drop (Α a.size 0 lo)).take (Α a.size a.size hi- Α a.size 0 lo)).toArray}})(hsz:a.size<=ϰ):ν (ϧ prog w) A (getItem (.ref t) (.ref sl)) Q E s:=by
 let c:sizeOk (.seq ((a.toList.drop (Α a.size 0 lo)).take (Α a.size a.size hi- Α a.size 0 lo)).toArray):=by
  show((a.toList.drop (Α a.size 0 lo)).take (Α a.size a.size hi- Α a.size 0 lo)).toArray.size<=ϰ;rw[abe,ag5,adX,aiQ];omega
 let v:Α a.size a.size hi<=a.size:=ye _ _ (Ϭ _) hi;let#[os,f,g,u]:=id hs;let i:s.TypeIs (.ref sl) "slice":=#[os,f,g];unfold getItem
 try with_reducible show ahu ?_
 first|show π (ϯ ?_)|skip
 show π (wpAny_sequenceKey e.typeIs (by decide) ?_);show π (alE (name:=Ϫ "__getitem__") e.typeIs PyProof.Rows.slot_tuple_getitem
  (wpAny_call_entry PyProof.Rows.slot_tuple_getitem e.typeIs entry_tuple_getitem ?_ (args_tuple_getitem _ _)))
 show ν _ _ (Builtin.Tuple.tupleItemsOf (.ref t)>>=_) _ _ s;show π (tupleItemsOf_ e ?_);show π (wpAny_typeOf i ?_);rw[if_pos (by decide)];show π (ab5 hs pl o ?_);let j:¬((((Α a.size 0 lo:Nat):Int)==0&&(1:Int)==1&&(Α a.size a.size hi- Α a.size 0 lo)==a.size)=true):=by
  intro q;rw[abB,abB]at q;let x:((Α a.size 0 lo:Nat):Int)=0:=eq_of_beq q.1.1;let y:Α a.size a.size hi- Α a.size 0 lo=a.size:=eq_of_beq q.2;show p #[(),()]
 show ν _ _ (if(((Α a.size 0 lo:Nat):Int)==0&&(1:Int)==1&&(Α a.size a.size hi- Α a.size 0 lo)==a.size)=true then _ else _) _ _ s;rw[if_neg j,afz]
 first
  |show π (m:=Builtin.Tuple.tupleExact _) (aiC (ϯ #[_,rfl,ϯ h]) c)
  |show π (m:=Builtin.Tuple.tupleExact _) (aiC (π (ϯ (ϯ #[_,rfl,ϯ h]))) c)
  |show π (π (m:=Builtin.Tuple.tupleExact _) (aiC (ϯ (ϯ #[_,rfl,ϯ h])) c))
  |show π (π (m:=Builtin.Tuple.tupleExact _) (aiC (ϯ #[_,rfl,ϯ h]) c))
end
end HT
namespace L2
open PySem PySem.Spec PyProof.Rows
abbrev TO:=St->Hp->(Option Int->Hp->Prop)->Prop
def PO(X:Cx)(e:Option Ϧ)(t:TO):Prop:=
 ∀(ϵ:List (δ×Obj))(s:μ)(σ:St)(H:Hp)(Q:Option Int->Hp->Prop),Inv X ϵ σ H s->t σ H Q->
  ν (ϧ X.prog X.w) X.A (evalPart e X.env) (λu s'=>∃o H',Inv X ϵ σ H' s'/\IsPart u o/\Q o H') X.xe s
def agr:TO:=λ_ H Q=>Q none H
def ag8(t:TE):TO:=λσ H Q=>t σ H λx H1=>∃i,x=.int i/\Q (some i) H1
section
variable{X:Cx}{e:Ϧ}{te:TE}{lo hi:Option Ϧ}{tl th:TO}{pos p2:Pos}
theorem Zx:PO X none agr:=by
 intro ϵ s σ H Q I h;rw[evalPart_none];show ϯ #[none,H,I,.none,h]
theorem ain(h:PE X e te):PO X (some e) (ag8 te):=by
 intro ϵ s σ H Q I a;rw[evalPart_some];show χ (h ϵ s σ H _ I a) λu l c=>?_
 let#[x,H1,f,g,j]:=c;let#[i,rfl,q]:=j;let#[t,rfl]:=g;show#[some i,H1,f,.int i t,q]
def qz(X:Cx)(r:V->Option Int->Option Int->Hp->VK->Prop):Prop:=
 ∀(ϵ:List (δ×Obj))(s:μ)(σ:St)(H:Hp)(x:V)(v a c:ε)(lo hi:Option Int)(sl:δ)(Q:VK),Inv X ϵ σ H s->RelV x v->s.heap.IsSliceOf sl a c .none->IsPart a lo->IsPart c hi->r x lo hi H Q->
  ∃T id,typeLookup (.type T) "__getitem__"=pure (some (.builtin id))/\s.TypeIs v T/\ν (ϧ X.prog X.w) X.A (getItem v (.ref sl)) (EP X ϵ σ Q) X.xe s
def bu(xs:List V)(lo hi:Option Int):List V:=(xs.drop (HT.Α xs.length 0 lo)).take (HT.Α xs.length xs.length hi-HT.Α xs.length 0 lo)
theorem VN(xs:List V)(lo hi:Option Int):(bu xs lo hi).length<=xs.length:=by
 unfold bu;rw[ag5,adX];omega
def aab(K:ϩ):V->Option Int->Option Int->Hp->VK->Prop:=λx lo hi H Q=>∃a xs,x=.ref a/\ο K H a xs/\
 ¬(HT.Α xs.length 0 lo=0/\HT.Α xs.length xs.length hi=xs.length)/\∀p,H p=none->Q (.ref p) (upd H p (.tup (bu xs lo hi)))
theorem adV:qz X (aab X.K):=by
 intro ϵ s σ H x v l m lo hi sl Q I rx hs pl f h;let#[a,xs,rfl,g,i,q]:=h;cases rx;let#[j,r,e,hz]:=I.tuple g;let c:j.toArray.size=xs.length:=by rw[abe];show r.length.symm
 show#["tuple",_,PyProof.Rows.slot_tuple_getitem.lookup,e.typeIs,?_];show HT.ad9 e hs pl f (by rw[c];show i) ?_ (by rw[c];show hz);rw[c];show#[.ref s.heap.objs.size,_,I.laid (t':=s.toks) (o:=.tup (bu xs lo hi)) (λb n q=>ϲ _ q) (Ϭ _) ?_,rfl,q _ (I.hok.fresh (Ϭ _))];show#[aeP (VN xs lo hi) hz,_,(r.drop (HT.Α xs.length 0 lo)).take (HT.Α xs.length xs.length hi-HT.Α xs.length 0 lo),IsTup.new _ _]
def adU(K:ϩ):R2:=λx y H Q=>∃a b xs ys,x=.ref a/\y=.ref b/\ο K H a xs/\ο K H b ys/\xs≠[]/\xs.length+ys.length<=ϰ/\
 (ys=[]->Q (.ref a) H)/\(ys≠[]->∀p,H p=none->Q (.ref p) (upd H p (.tup (xs++ys))))
theorem Vals.nil_iff{xs:List V}{us:List ε}(r:Vals xs us):us=[]↔xs=[]:=by
 cases r with
 |nil=>simp
 |cons _ _=>simp
theorem afn:aM X (binaryOp .Add) (adU X.K):=by
 intro ϵ s σ H x y v u Q I rx ry h;let#[a,b,xs,ys,rfl,rfl,g,i,j,hz,l,m]:=h;cases rx;cases ry;let#[n,e,p1,_]:=I.tuple g;let#[f,c,p2,_]:=I.tuple i;show HT.acB p1 p2 (λz=>j (e.nil_iff.mp z)) (λz=>#[.ref a,H,I,rfl,l (c.nil_iff.mp z)]) (λz=>?_) (by rw[<-e.length, <-c.length];show hz);show#[.ref s.heap.objs.size,_,I.laid (t':=s.toks) (o:=.tup (xs++ys)) (λb p q=>ϲ _ q) (Ϭ _) ?_,rfl,m (λw=>z (c.nil_iff.mpr w)) _ (I.hok.fresh (Ϭ _))];show#[by rw[ac7];show hz,_,e.append c,IsTup.new _ _]
end
def lL(n:Nat)(i:Int):Option Nat:=if 0<=i then(if i<n then some i.toNat else none)else if -(n:Int)<=i then some (i+n).toNat else none
def Χ{α:Type}(xs:List α)(i:Int):Option α:=(lL xs.length i).bind λj=>xs[j]?
theorem afR{n:Nat}{i:Int}{j:Nat}(h:lL n i=some j):seqIndex? i n=some j/\j<n/\ -(n:Int)<=i/\i<n:=by
 unfold lL at h;by_cases a:0<=i
 .rw[if_pos a]at h;by_cases h1:i<n
  .rw[if_pos h1]at h;let e:i.toNat=j:=Option.some.inj h;show#[by rw[seqIndex_of a h1,e],(),(),h1]
  .rw[if_neg h1]at h;cases h
 .rw[if_neg a]at h;by_cases h1: -(n:Int)<=i
  .rw[if_pos h1]at h;let e:(i+n).toNat=j:=Option.some.inj h;show#[by rw[seqIndex_neg () h1,e],(),h1,()]
  .rw[if_neg h1]at h;cases h
theorem Gq{α:Type}{xs:List α}{i:Int}{v:α}(h:Χ xs i=some v):∃j,seqIndex? i xs.length=some j/\xs[j]?=some v/\j<xs.length/\ -(xs.length:Int)<=i/\i<xs.length:=by
 unfold Χ at h;cases e:lL xs.length i with
 |none=>rw[e]at h;cases h
 |some j=>
  rw[e]at h;let#[h1,h2,a,c]:=afR e;show#[j,h1,h,h2,a,c]
theorem bw{α:Type}{xs:List α}{j:Nat}{v:α}(h:xs[j]?=some v):Χ xs (j:Int)=some v:=by
 let a:j<xs.length:=(aai.mp h).1;let e:lL xs.length (j:Int)=some j:=by
  unfold lL;rw[if_pos (),if_pos ()];simp
 unfold Χ;rw[e];show h
def agU(b:Ϧ):=∀o i,subscripted b false o i=operate [o,i] (getItem o i)
def nH(X:Cx)(r:R2):Prop:=
 ∀(value a:Ϧ)(ϵ:List (δ×Obj))(s:μ)(σ:St)(H:Hp)(x y:V)(v u:ε)(Q:VK),Inv X ϵ σ H s->RelV x v->RelV y u->r x y H Q->
  subscripted a false v u=operate [v,u] (getItem v u)->ν (ϧ X.prog X.w) X.A (subscriptTail value a v u) (EP X ϵ σ Q) X.xe s
def Gj(X:Cx)(id:String)(r:V->List V->Hp->VK->Prop):Prop:=
 ∀(ϵ:List (δ×Obj))(s:μ)(σ:St)(H:Hp)(x:V)(xs:List V)(v:ε)(us:List ε)(Q:VK),Inv X ϵ σ H s->RelV x v->Vals xs us->r x xs H Q->
  ν (ϧ X.prog X.w) X.A (call (.builtin id) (v::us)) (EP X ϵ σ Q) X.xe s
section
variable{X:Cx}{a b:Ϧ}{ta tb:TE}{pos:Pos}
def R3(K:ϩ):R2:=λx y H Q=>∃p xs i v,x=.ref p/\y=.int i/\η K H p xs/\ Χ xs i=some v/\Q v H
def IK(K:ϩ):R2:=λx y H Q=>∃p xs i v,x=.ref p/\y=.int i/\ο K H p xs/\ Χ xs i=some v/\Q v H
def M7:R2:=λx y H Q=>∃z i c,x=.str z/\y=.int i/\z.length<=ϰ/\ Χ z.cps.toList i=some c/\Q (.str #[#v[c]]) H
theorem aa6:nH X (R3 X.K):=by
 intro value a ϵ s σ H x y v u Q I rx ry h hs;let#[p,xs,i,z,rfl,rfl,l,m,q]:=h;cases rx;let#[t,rfl]:=ry;let#[n,r,pl,hz]:=I.list l;let#[j,h1,h2,D,o,B]:=Gq m;let#[w,f,c]:=r.get h2;let C:=r.length;let E:=oF;let fin:EP X ϵ σ Q w s:=#[z,H,I,c,q];by_cases g:0<=i
 .let e:i.toNat=j:=by
   rw[seqIndex_of g B]at h1;show Option.some.inj h1
  show item_listR pl.isList g () (by rw[e];simpa using f) fin hs
 .let e:(i+(n.toArray.size:Int)).toNat=j:=by
   rw[seqIndex_neg () o]at h1;rw[abe, <-C];show Option.some.inj h1
  show subscriptTail_builtinR (x:=w) pl.isList.typeIs slot_list_getitem.lookup
   (wpAny_getItem_list_neg (Q:=λr s'=>r=w/\EP X ϵ σ Q r s') pl.isList () (by rw[abe]<;>omega) () (by rw[e];simpa using f) #[rfl,fin]) hs
theorem abT:nH X (IK X.K):=by
 intro value a ϵ s σ H x y v u Q I rx ry h hs;let#[p,xs,i,z,rfl,rfl,e,f,q]:=h;cases rx;let#[t,rfl]:=ry;let#[m,r,pl,hz]:=I.tuple e;let#[j,h1,h2,n,o,B]:=Gq f;let#[w,g,c]:=r.get h2;let l:=r.length;let C:=oF;let fin:EP X ϵ σ Q w s:=#[z,H,I,c,q];show subscriptTail_builtinR (x:=w) pl.typeIs slot_tuple_getitem.lookup
  (getItem_tuple (j:=j) (Q:=λr s'=>r=w/\EP X ϵ σ Q r s') pl () () (by rw[abe, <-l];show h1) (by simpa using g) #[rfl,fin]) hs
theorem abM:nH X M7:=by
 intro value a ϵ s σ H x y v u Q I rx ry h hs;let#[z,i,c,rfl,rfl,hz,e,q]:=h;let#[t,rfl]:=rx;let#[t',rfl]:=ry;let#[j,h1,h2,n,f,g]:=Gq e;let l:z.cps.toList.length=z.length:=by simp[amf]
 rw[l]at h1 f g;let o:=oF;show tail_any (typeIs_str s z t) slot_str_getitem.lookup (getItem_str (c:=c) (by
  let e1:decide (i< -(2^63:Int))=false:=decide_eq_false ();let m:decide (i≥2^63)=false:=decide_eq_false ();rw[e1,m,amq]) (by rw[h1];simpa using h2) #[.str #[#v[c]],H,I.tok _,#[_,rfl],q]) hs
theorem aaY(lo hi:Option Int)(n:Nat):(sliceBounds lo hi none n).1=((HT.Α n 0 lo:Nat):Int)/\(sliceBounds lo hi none n).2.1=((HT.Α n n hi:Nat):Int)/\(sliceBounds lo hi none n).2.2=1:=by
 show#[?_,?_,rfl]
 .cases lo with
  |none=>simp[sliceBounds,HT.Α]
  |some i=>
   simp only[sliceBounds,HT.Α,anl,show(1:Int)>0 by decide,if_true];by_cases h:i<0
   .simp only[h,if_true]<;>omega
   .simp only[h,if_false]<;>omega
 .cases hi with
  |none=>simp[sliceBounds,HT.Α]
  |some i=>
   simp only[sliceBounds,HT.Α,anl,show(1:Int)>0 by decide,if_true];by_cases h:i<0
   .simp only[h,if_true]<;>omega
   .simp only[h,if_false]<;>omega
theorem aeX(a:List ε)(lo hi:Option Int):slicePick a.toArray lo hi none=((a.drop (HT.Α a.length 0 lo)).take (HT.Α a.length a.length hi-HT.Α a.length 0 lo)).toArray:=by
 let#[h1,h2,c]:=aaY lo hi a.toArray.size;unfold slicePick;rw[h1,h2,c];simp only[sliceRange_one,pick_run,abe]<;>rfl
def aes(K:ϩ):V->Option Int->Option Int->Hp->VK->Prop:=λx lo hi H Q=>∃a xs,x=.ref a/\η K H a xs/\∀p,H p=none->Q (.ref p) (upd H p (.lst (bu xs lo hi)))
theorem Z6:qz X (aes X.K):=by
 intro ϵ s σ H x v i j lo hi sl Q I rx hs pl f h;let#[a,xs,rfl,g,q]:=h;cases rx;let#[l,r,e,hz]:=I.list g;let c:=r.length;show#["list",_,slot_list_getitem.lookup,e.isList.typeIs,?_];show wpAny_getItem_list_slice e.isList hs pl f .none (by simp) ?_ (by rw[abe]<;>omega);rw[aeX, <-c];show#[.ref s.heap.objs.size,_,I.laid (t':=s.toks) (o:=.lst (bu xs lo hi)) (λb m q=>ϲ _ q) (Ϭ _) ?_,rfl,q _ (I.hok.fresh (Ϭ _))];show#[aeP (VN xs lo hi) hz,_,0,(r.drop (HT.Α xs.length 0 lo)).take (HT.Α xs.length xs.length hi-HT.Α xs.length 0 lo),ab7 _ rfl]
def gh:V->Bool
 |.non=>true
 |.bl _=>true
 |.int _=>true
 |.str _=>true
 |_=>false
def eZ:V->V->Bool
 |.non,.non=>true
 |.bl a,.bl b=>a==b
 |.bl a,.int b=>(if a then 1 else 0)==b
 |.int a,.bl b=>a==(if b then 1 else 0)
 |.int a,.int b=>a==b
 |.str a,.str b=>a==b
 |_,_=>false
theorem agg{A:ϱ}{s:μ}{y x:V}{u v:ε}(ry:RelV y u)(rx:RelV x v)(e:gh y=true)(c:gh x=true):SeqAt.EqAt A s u v (eZ y x):=by
 cases y with
 |non=>
  cases ry;cases x with
  |non=>cases rx;show SeqAt.EqAt.same _
  |bl b=>cases rx;show SeqAt.EqAt.none_bool b
  |int b=>let#[t,rfl]:=rx;show SeqAt.EqAt.none_int b t
  |str b=>let#[t,rfl]:=rx;show SeqAt.EqAt.none_str b t
  |_=>show absurd (show false=true from c) abj
 |bl a=>
  cases ry;cases x with
  |non=>cases rx;show SeqAt.EqAt.bool_none a
  |bl b=>cases rx;show SeqAt.EqAt.bool_bool a b
  |int b=>let#[t,rfl]:=rx;show SeqAt.EqAt.bool_int a b t
  |str b=>let#[t,rfl]:=rx;show SeqAt.EqAt.bool_str a b t
  |_=>show absurd (show false=true from c) abj
 |int a=>
  let#[t',rfl]:=ry;cases x with
  |non=>cases rx;show SeqAt.EqAt.int_none a t'
  |bl b=>cases rx;show SeqAt.EqAt.int_bool a t' b
  |int b=>let#[t,rfl]:=rx;show SeqAt.EqAt.int_int a t' b t
  |str b=>let#[t,rfl]:=rx;show SeqAt.EqAt.int_str a t' b t
  |_=>show absurd (show false=true from c) abj
 |str a=>
  let#[t',rfl]:=ry;cases x with
  |non=>cases rx;show SeqAt.EqAt.str_none a t'
  |bl b=>cases rx;show SeqAt.EqAt.str_bool a t' b
  |int b=>let#[t,rfl]:=rx;show SeqAt.EqAt.str_int a t' b t
  |str b=>let#[t,rfl]:=rx;show SeqAt.EqAt.str_str a t' b t
  |_=>show absurd (show false=true from c) abj
 |_=>show absurd (show false=true from e) abj
def dm(x:V)(u:ε):Bool:=match u with
 |.none=>eZ .non x
 |.bool b=>eZ (.bl b) x
 |.int i _=>eZ (.int i) x
 |.str z _=>eZ (.str z) x
 |_=>false
theorem Pr{x y:V}{u:ε}(r:RelV y u)(f:gh y=true):dm x u=eZ y x:=by
 cases y with
 |non=>cases r;rfl
 |bl b=>cases r;rfl
 |int i=>let#[t,rfl]:=r;rfl
 |str z=>let#[t,rfl]:=r;rfl
 |_=>show absurd (show false=true from f) abj
theorem qH{x:V}:∀{xs:List V}{us:List ε},Vals xs us->xs.all gh=true->us.any (dm x)=xs.any λy=>eZ y x
 |_,_,.nil,_=>rfl
 |y::xs,u::us,.cons r t,f=>by
  rw[amr,abB]at f;rw[aki,aki,Pr r f.1,qH t f.2]
theorem qI{A:ϱ}{s:μ}{x:V}{v:ε}(rx:RelV x v)(a:gh x=true):∀{xs:List V}{us:List ε},Vals xs us->xs.all gh=true->∀u∈us,SeqAt.EqAt A s u v (dm x u)
 |_,_,.nil,_=>λu hu=>by cases hu
 |y::xs,u::us,.cons r t,f=>λc hu=>by
  rw[amr,abB]at f;obtain rfl|hu:=aaF.mp hu
  .rw[Pr r f.1];show agg r rx f.1 a
  .show qI rx a t f.2 c hu
def gF(x:V)(xs:List V):Bool:=xs.any λy=>eZ y x
def Ro(K:ϩ)(a:Bool):R2:=λx y H Q=>∃p xs,y=.ref p/\(η K H p xs\/ο K H p xs)/\gh x=true/\xs.all gh=true/\Q (.bl (if a then !gF x xs else gF x xs)) H
theorem Wm:aM X (adL .In) (Ro X.K false):=by
 intro ϵ s σ H x y v u Q I rx ry h;let#[p,xs,rfl,hq,e,fs,q]:=h;cases ry;obtain hq|hq:=hq
 .let#[a,r,pl,hz]:=I.list hq;show SeqAt.in_listAt (dm x) pl.isList (λw c=>qI rx e r fs w (by simpa using c)) #[.bl _,H,I,rfl,?_];rw[show a.toArray.any (dm x)=a.any (dm x)by simp,qH r fs];show q
 .let#[a,r,pl,hz]:=I.tuple hq;show SeqAt.in_tupleAt (dm x) pl (λw c=>qI rx e r fs w (by simpa using c)) #[.bl _,H,I,rfl,?_];rw[show a.toArray.any (dm x)=a.any (dm x)by simp,qH r fs];show q
theorem Xd:aM X (adL .NotIn) (Ro X.K true):=by
 intro ϵ s σ H x y v u Q I rx ry h;let#[p,xs,rfl,hq,e,fs,q]:=h;cases ry;obtain hq|hq:=hq
 .let#[a,r,pl,hz]:=I.list hq;show SeqAt.notIn_listAt (dm x) pl.isList (λw c=>qI rx e r fs w (by simpa using c)) #[.bl _,H,I,rfl,?_];rw[show a.toArray.any (dm x)=a.any (dm x)by simp,qH r fs];show q
 .let#[a,r,pl,hz]:=I.tuple hq;show SeqAt.notIn_tupleAt (dm x) pl (λw c=>qI rx e r fs w (by simpa using c)) #[.bl _,H,I,rfl,?_];rw[show a.toArray.any (dm x)=a.any (dm x)by simp,qH r fs];show q
theorem ac5:iK X (.builtin "len") (λxs H Q=>∃p ys,xs=[.ref p]/\(η X.K H p ys\/ο X.K H p ys)/\Q (.int ys.length) H):=by
 intro ϵ s σ H xs us Q I r h;let#[p,ys,rfl,hq,q]:=h;let#[u,rfl,rx]:=vals1 r;cases rx;let f:=oF;obtain hq|hq:=hq
 .let#[e,c,pl,hz]:=I.list hq;let a:=c.length;show Calls.call_len_list pl.isList (by simp only[abe]<;>omega) #[.int ys.length,H,I.tok _,#[s.toks+1,by rw[abe,a]],q]
 .let#[e,c,pl,hz]:=I.tuple hq;let a:=c.length;show len_tuple pl (by simp only[abe]<;>omega) #[.int ys.length,H,I.tok _,#[s.toks+1,by rw[abe,a]],q]
theorem Wf:iK X (.builtin "len") (λxs H Q=>∃z,xs=[.str z]/\z.length<=ϰ/\Q (.int z.length) H):=by
 intro ϵ s σ H xs us Q I r h;let#[z,rfl,hz,q]:=h;let#[u,rfl,t,rfl]:=vals1 r;let a:=oF;show len_str () #[.int z.length,H,I.tok _,#[_,rfl],q]
theorem agp:iK X (.type "list") (λxs H Q=>∃p ys,xs=[.ref p]/\(η X.K H p ys\/ο X.K H p ys)/\∀l,H l=none->Q (.ref l) (upd H l (.lst ys))):=by
 intro ϵ s σ H xs us Q I r h;let#[p,ys,rfl,hq,q]:=h;let#[u,rfl,rx]:=vals1 r;cases rx
 let fin:∀(a:List ε),Vals ys a->ys.length<=ϰ->∀(h':ϫ)(c:Nat),(∀b o',s.heap.get? b=some o'->h'.get? b=some o')->
   h'.get? s.heap.objs.size=some {cls:=.type "list",dict:=none,data:=.seq a.toArray c,slots:= #v[]}->EP X ϵ σ Q (.ref s.heap.objs.size) {s with heap:=h'}:=λa f hz h' c kp e=>
  #[.ref s.heap.objs.size,_,I.laid (t':=s.toks) kp (Ϭ _) (show ϕ X.prog X.w _ h' _ (.lst ys)from#[hz,a,c,f,e]),rfl,q _ (I.hok.fresh (Ϭ _))]
 obtain hq|hq:=hq
 .let#[a,f,pl,hz]:=I.list hq;let g:=f.length;let#[o,i,j,n,hd]:=pl.isList;show call_list_seq p (.inl rfl) i j hd (λh' c kp e=>fin a f hz h' c kp e) (by simp only[abe]<;>omega)
 .let#[a,f,pl,hz]:=I.tuple hq;let g:=f.length;let#[o,i,j,n,hd]:=pl;show call_list_seq p (.inr rfl) i j hd (λh' c kp e=>fin a f hz h' c kp e) (by simp only[abe]<;>omega)
theorem ab6:iK X (.type "tuple") (λxs H Q=>∃p ys,xs=[.ref p]/\((η X.K H p ys/\∀l,H l=none->Q (.ref l) (upd H l (.tup ys)))\/(ο X.K H p ys/\Q (.ref p) H))):=by
 intro ϵ s σ H xs us Q I r h;let#[p,ys,rfl,h]:=h;let#[u,rfl,rx]:=vals1 r;cases rx;obtain⟨a,q⟩|⟨a,q⟩:=h
 .let#[c,f,pl,hz]:=I.list a;let g:=f.length;show call_tuple_list pl.isList (λh' kp=>?_) (by simp only[abe]<;>omega);let i:Inv X ϵ σ H {s with heap:=h'}:=I.kept (t':=s.toks) kp;let j:Inv X ϵ σ (upd H h'.objs.size (.tup ys)) {s with heap:=h'.push {cls:=.type "tuple",data:=.seq c.toArray}}:=
   i.laid (t':=s.toks) (λb o e=>ϲ _ e) (Ϭ _) (show ϕ X.prog X.w _ _ _ (.tup ys)from#[hz,c,f,IsTup.new _ _])
  show#[.ref h'.objs.size,_,j,rfl,q _ (i.hok.fresh (Ϭ _))]
 .let#[c,f,pl,hz]:=I.tuple a;show call_tuple_same pl #[.ref p,H,I,rfl,q]
def pZ(K:ϩ)(T:String)(x:V)(H:Hp):Prop:=match x with
 |.str _=>T="str"
 |.int _=>T="int"
 |.ref p=>(T="list"/\∃xs,η K H p xs)\/(T="tuple"/\∃o,K.lookup p=some o/\o.cls=.type "tuple"/\o.dict=none)\/
   (T="dict"/\((∃Ϸ,H p=some (.dK Ϸ))\/∃Ϸ,H p=some (.dT Ϸ)))\/(T="set"/\∃S n,H p=some (.set S n))
 |_=>False
theorem agK{ϵ:List (δ×Obj)}{σ:St}{H:Hp}{s:μ}{T:String}{x:V}{v:ε}(I:Inv X ϵ σ H s)(r:RelV x v)(ty:pZ X.K T x H):s.TypeIs v T/\∀a,v=.ref a->∃j,s.heap.get? a=some j/\j.dict=none:=by
 cases x with
 |str z=>
  let#[t,rfl]:=r;cases(show T="str" from ty);show#[typeIs_str s z t,λ_ e=>nomatch e]
 |int i=>
  let#[t,rfl]:=r;cases(show T="int" from ty);show#[typeIs_int s i t,λ_ e=>nomatch e]
 |ref p=>
  cases r;obtain⟨rfl,xs,l⟩|⟨rfl,o,f,m,hd⟩|⟨rfl,f⟩|⟨rfl,S,n,f⟩:=ty
  .let#[q,_,pl,_]:=I.list l;show#[pl.isList.typeIs,λa e=>?_];cases e;let#[o,n,e,c,hd,_]:=pl;show#[o,e,hd]
  .show#[#[o,I.kIn p o f,m],λa e=>?_];cases e;show#[o,I.kIn _ o f,hd]
  .let z:∃o,s.heap.get? p=some o/\o.ExactDict:=by
    obtain⟨Ϸ,f⟩|⟨Ϸ,f⟩:=f
    .let#[_,_,_,_,o,_,_,e,ex,_]:=I.hok p _ f;show#[o,e,ex]
    .let#[_,_,_,_,o,_,_,e,ex,_]:=I.hok p _ f;show#[o,e,ex]
   let#[o,e,ex]:=z;show#[#[o,e,ex.1],λa g=>?_];cases g;show#[o,e,ex.2.1]
  .let#[o,_,_,_,e,ex,_]:=I.hok p _ f;show#[#[o,e,ex.1],λa g=>?_];cases g;show#[o,e,ex.2.1]
 |_=>show False.elim ty
variable{o e:Ϧ}{es:List Ϧ}{to:TE}{t:TA}{name:Str}{apos cpos:Pos}{T id:String}{r:V->List V->Hp->VK->Prop}
end
def MtM(X:Cx)(id:String)(r:V->List V->Hp->VK->Prop):Prop:=
 ∀(ϵ:List (δ×Obj))(s:μ)(σ:St)(H:Hp)(x:V)(xs:List V)(v:ε)(us:List ε)(Q:VK),Inv X ϵ σ H s->RelV x v->Vals xs us->r x xs H Q->
  ν (ϧ X.prog X.w) X.A (call (.builtin id) (v::us)) (EP X ϵ σ Q) X.xe s
theorem Vals.one{x:V}{us:List ε}(h:Vals [x] us):∃u,us=[u]/\RelV x u:=vals1 h
theorem Vals.zero:∀{us:List ε},Vals [] us->us=[]
 |_,.nil=>rfl
section
variable{X:Cx}{ϵ:List (δ×Obj)}{σ:St}{H:Hp}{s:μ}{l b:δ}{xs ys zs:List V}
theorem Inv.lset{a its':List ε}{n:Nat}{f:Array ε->Array ε}{t':Nat}(I:Inv X ϵ σ H s)(c:H l=some (.lst xs))(e:s.heap.get? l=some {cls:=.type "list",data:=.seq a.toArray n})(g:f a.toArray=its'.toArray)(i:Vals ys its')(hz:ys.length<=ϰ):Inv X ϵ σ (upd H l (.lst ys)) {s with heap:=s.heap.update l (Obj.mapSeq f),toks:=t'}:=by
 let q:=PySem.IsL.update e f;rw[g]at q;show I.write (x:=l) (e:=l) (by rw[c];show trivial) (.inl rfl) (λo u j m=>(ac9 s.heap (Obj.mapSeq f) (Ne.symm j)).trans m) #[_,q] ?_;show#[hz,its',_,i,q]
theorem Inv.lnew{a:List ε}{t':Nat}(I:Inv X ϵ σ H s)(c:Vals ys a)(hz:ys.length<=ϰ):Inv X ϵ σ (upd H s.heap.objs.size (.lst ys)) {s with heap:=s.heap.push {cls:=.type "list",data:=.seq a.toArray},toks:=t'}:=
 I.laid (λ_ _ q=>ϲ _ q) (Ϭ _) #[hz,a,0,c,ab7 _ rfl]
theorem Inv.fresh(I:Inv X ϵ σ H s):H s.heap.objs.size=none:=I.hok.fresh (Ϭ _)
theorem Inv.lstM(I:Inv X ϵ σ H s)(c:H l=some (.lst xs)):xs.length<=ϰ/\∃(a:List ε)(n:Nat),Vals xs a/\xs.length=a.length/\s.heap.get? l=some {cls:=.type "list",data:=.seq a.toArray n}:=by
 let#[z,a,n,r,e]:=I.hok l _ c;show#[z,a,n,r,r.length,e]
end
section
variable{X:Cx}
def acI:V->List V->Hp->VK->Prop:=λx vs H Q=>∃l xs y,x=.ref l/\vs=[y]/\H l=some (.lst xs)/\xs.length<ϰ/\Q .non (upd H l (.lst (xs++[y])))
theorem Bo:MtM X "list.append" acI:=by
 intro ϵ s σ H x vs v us Q I rx f h;let#[l,xs,y,rfl,rfl,a,hz,q]:=h;cases rx;let#[u,rfl,g]:=f.one;let#[z,c,n,r,i,e]:=I.lstM a;show alC F.slot_list_append #[_,e,rfl] F.entry_list_append (F.args_list_append_2 _ _) (PySem.list_append l c.toArray n u (by rw[abe];omega)) #[e,?_];show#[.non,_,I.lset (its':=c++[u]) a e (by simp) (r.append (.cons g .nil)) ?_,rfl,q];rw[ac7,afi];omega
def aaV:R2:=λx y H Q=>∃l b xs zs,x=.ref l/\y=.ref b/\H l=some (.lst xs)/\H b=some (.lst zs)/\xs.length+zs.length<=ϰ/\∀p,H p=none->Q (.ref p) (upd H p (.lst (xs++zs)))
theorem aii:aM X (binaryOp .Add) aaV:=by
 intro ϵ s σ H x y v u Q I rx ry h;let#[l,b,xs,zs,rfl,rfl,f,g,hz,q]:=h;cases rx;cases ry;let#[z,c,n,r,o,e]:=I.lstM f;let#[p,a,n2,i,j,m]:=I.lstM g;show PySem.P.add_list e m ?_ (by rw[abe,abe];omega);let ea:c.toArray++a.toArray=(c++a).toArray:=by simp
 rw[ea];show#[.ref _,_,I.lnew (t':=s.toks) (r.append i) (by rw[ac7];omega),rfl,q _ I.fresh]
end
section
variable{prog:Ϯ}{w:ϭ}{A:ϱ}{E:ε->μ->Prop}{s:μ}
end
section
variable{X:Cx}
end
section
variable{κ:Type} [DecidableEq κ]
def ώ(Ϸ:List (κ×V))(k:κ):Option V:=(Ϸ.find? λa=>decide (a.1=k)).map (·.2)
def putK(Ϸ:List (κ×V))(k:κ)(v:V):List (κ×V):=
 if(Ϸ.any λa=>decide (a.1=k))=true then Ϸ.map (λa=>if a.1=k then(a.1,v)else a)else Ϸ++[(k,v)]
def fD(Ϸ:List (κ×V))(k:κ):List (κ×V):=Ϸ.filter λa=>decide (a.1≠k)
theorem gR{p:κ×V}{r:List (κ×V)}{k:κ}(e:p.1=k):ώ (p::r) k=some p.2:=by simp[ώ,adN,e]
theorem gM{p:κ×V}{r:List (κ×V)}{k:κ}(e:¬p.1=k):ώ (p::r) k=ώ r k:=by simp[ώ,adN,e]
theorem wz(k:κ):∀Ϸ:List (κ×V),(Ϸ.any λa=>decide (a.1=k))=(ώ Ϸ k).isSome
 |[]=>rfl
 |p::r=>by
  rw[aki];by_cases e:p.1=k
  .simp only[gR e,decide_eq_true e,anL,Option.isSome_some]
  .rw[gM e,decide_eq_false e,ams];show wz k r
theorem Ml(k j:κ)(y:V):∀Ϸ:List (κ×V),ώ (Ϸ.map λa=>if a.1=k then(a.1,y)else a) j=(ώ Ϸ j).map λx=>if j=k then y else x
 |[]=>rfl
 |p::r=>by
  let c:=Ml k j y r;rw[adI];by_cases h:p.1=k
  .rw[if_pos h];by_cases e:p.1=j
   .rw[gR (p:=(p.1,y)) e,gR e,al4,if_pos (e.symm.trans h)]
   .rw[gM (p:=(p.1,y)) e,gM e,c]
  .rw[if_neg h];by_cases e:p.1=j
   .rw[gR (p:=p) e,gR e,al4,if_neg (λz=>h (e.trans z))]
   .rw[gM (p:=p) e,gM e,c]
theorem UJ(k j:κ)(y:V):∀Ϸ:List (κ×V),ώ Ϸ k=none->ώ (Ϸ++[(k,y)]) j=if j=k then some y else ώ Ϸ j
 |[],_=>by
  by_cases e:k=j
  .rw[if_pos e.symm];show gR (p:=(k,y)) e
  .rw[if_neg (λz=>e z.symm)];show gM (p:=(k,y)) e
 |p::r,a=>by
  rw[amw];let c:¬p.1=k:=λz=>by rw[gR z]at a;cases a
  rw[gM c]at a;let f:=UJ k j y r a;by_cases e:p.1=j
  .rw[gR e,gR e,if_neg (λz=>c (e.trans z))]
  .rw[gM e,gM e,f]
theorem W0(Ϸ:List (κ×V))(k j:κ)(y:V):ώ (putK Ϸ k y) j=if j=k then some y else ώ Ϸ j:=by
 unfold putK;by_cases a:(Ϸ.any λc=>decide (c.1=k))=true
 .rw[if_pos a,Ml];rw[wz]at a;by_cases e:j=k
  .let#[x,f]:=ajR.mp a;rw[if_pos e,e,f,al4,if_pos rfl]
  .rw[if_neg e];cases ώ Ϸ j with
   |none=>rfl
   |some x=>rw[al4,if_neg e]
 .rw[if_neg a];show UJ k j y Ϸ ?_;rw[wz]at a;cases q:ώ Ϸ k with
  |none=>rfl
  |some x=>rw[q]at a;show(a rfl).elim
theorem Fe(Ϸ:List (κ×V))(k:κ)(v:V):(putK Ϸ k v).length<=Ϸ.length+1:=by
 unfold putK;split
 .rw[abd];omega
 .rw[ac7,adx,alH];omega
theorem bN.isSome_eq{o:Option V}{u:Option ε}(r:bN o u):o.isSome=u.isSome:=by
 cases o with
 |none=>cases u with
  |none=>rfl
  |some _=>show(show False from r).elim
 |some _=>cases u with
  |none=>show(show False from r).elim
  |some _=>rfl
theorem bN.getD{o:Option V}{u:Option ε}{d:V}{d':ε}(r:bN o u)(rd:RelV d d'):RelV (o.getD d) (u.getD d'):=by
 cases o with
 |none=>cases u with
  |none=>show rd
  |some _=>show(show False from r).elim
 |some _=>cases u with
  |none=>show(show False from r).elim
  |some _=>show r
theorem KV.val{Ϸ:List (κ×V)}{vs:List (κ×ε)}(r:KV Ϸ vs)(k:κ):bN (ώ Ϸ k) (valueAt vs k):=by
 unfold KV at r;induction r with
 |nil=>show True.intro
 | @cons p q ps a h t f=>
   let#[h1,h2]:=h;by_cases e:p.1=k
   .let c:q.1=k:=h1.symm.trans e;let b:valueAt (q::a) k=some q.2:=by simp[valueAt,adN,c]
    rw[gR e,b];show h2
   .let c:¬q.1=k:=λz=>e (h1.trans z)
    let b:valueAt (q::a) k=valueAt a k:=by simp[valueAt,adN,c]
    rw[gM e,b];show f
theorem KV.any{Ϸ:List (κ×V)}{vs:List (κ×ε)}(r:KV Ϸ vs)(k:κ):(Ϸ.any λa=>decide (a.1=k))=vs.any λa=>decide (a.1=k):=by
 unfold KV at r;induction r with
 |nil=>rfl
 |cons h t c=>rw[aki,aki,c,h.1]
theorem KV.repl{Ϸ:List (κ×V)}{vs:List (κ×ε)}(r:KV Ϸ vs)(k:κ){y:V}{u:ε}(ry:RelV y u):KV (Ϸ.map λa=>if a.1=k then(a.1,y)else a) (vs.map λa=>if a.1=k then(a.1,u)else a):=by
 unfold KV at r⊢;induction r with
 |nil=>show .nil
 | @cons p q ps f h t c=>
   rw[adI,adI];show .cons ?_ c;let#[h1,h2]:=h;by_cases e:p.1=k
   .rw[if_pos e,if_pos (h1.symm.trans e)];show#[h1,ry]
   .rw[if_neg e,if_neg (λz=>e (h1.trans z))];show#[h1,h2]
theorem KV.put{Ϸ:List (κ×V)}{vs:List (κ×ε)}(r:KV Ϸ vs)(k:κ){y:V}{u:ε}(ry:RelV y u):KV (putK Ϸ k y) (stored vs k u):=by
 unfold putK stored;rw[r.any k];by_cases e:(vs.any λa=>decide (a.1=k))=true
 .rw[if_pos e,if_pos e];show r.repl k ry
 .rw[if_neg e,if_neg e];show Paired.snoc r #[rfl,ry]
theorem KV.drop{Ϸ:List (κ×V)}{vs:List (κ×ε)}(r:KV Ϸ vs)(k:κ):KV (fD Ϸ k) (without vs k):=by
 unfold KV at r⊢;unfold fD without;induction r with
 |nil=>show .nil
 | @cons p q ps g h t c=>
   let#[h1,h2]:=h;rw[alA,alA];by_cases e:p.1=k
   .let a:¬decide (p.1≠k)=true:=by simp[e]
    let b:¬decide (q.1≠k)=true:=by simp[h1.symm.trans e]
    rw[if_neg a,if_neg b];show c
   .let f:¬q.1=k:=λz=>e (h1.trans z)
    let a:decide (p.1≠k)=true:=by simp[e]
    let b:decide (q.1≠k)=true:=by simp[f]
    rw[if_pos a,if_pos b];show .cons #[h1,h2] c
theorem KV.keys{Ϸ:List (κ×V)}{vs:List (κ×ε)}(r:KV Ϸ vs):Ϸ.map (·.1)=vs.map (·.1):=by
 unfold KV at r;induction r with
 |nil=>rfl
 |cons h t a=>rw[adI,adI,a,h.1]
theorem KV.length{Ϸ:List (κ×V)}{vs:List (κ×ε)}(r:KV Ϸ vs):Ϸ.length=vs.length:=Paired.length r
theorem abF(Ϸ:List (κ×V))(k:κ):(fD Ϸ k).length<=Ϸ.length:=aix _ _
end
theorem jR{P:Ϯ}{w:ϭ}{k:Key}{u:ε}(r:RelV (kV k) u):(bR P w).is k u=true:=by
 cases k with
 |inl i=>let#[t,e]:=(show ∃t,u=Value.int i t from r);subst e;show af8 P w i t
 |inr x=>let#[t,e]:=(show ∃t,u=Value.str x t from r);subst e;show abW P w x t
theorem Qw{P:Ϯ}{w:ϭ}:∀{ks:List Key}{us:List ε},Vals (ks.map kV) us->ItemsAre (bR P w) ks us
 |[],_,r=>by rw[anM]at r;cases r;show .nil
 |k::ks,_,r=>by
  rw[adI]at r;cases r with
  |cons h t=>show .cons (jR h) (Qw t)
abbrev KT(H:Hp):List (List Key×V)->List (List Key×δ×ε)->Prop:=Paired λp q=>p.1=q.1/\H q.2.1=some (.tup (p.1.map kV))/\RelV p.2 q.2.2
theorem KT.val{H:Hp}{Ϸ:List (List Key×V)}{xs:List (List Key×δ×ε)}(r:KT H Ϸ xs)(k:List Key):bN (ώ Ϸ k) ((atKey xs k).map (·.2)):=by
 induction r with
 |nil=>show True.intro
 | @cons p q ps a h t f=>
   let#[h1,_,h2]:=h;by_cases e:p.1=k
   .let c:q.1=k:=h1.symm.trans e;let b:atKey (q::a) k=some q.2:=by simp[atKey,adN,c]
    rw[gR e,b];show h2
   .let c:¬q.1=k:=λz=>e (h1.trans z)
    let b:atKey (q::a) k=atKey a k:=by simp[atKey,adN,c]
    rw[gM e,b];show f
theorem KT.repl{H:Hp}{Ϸ:List (List Key×V)}{xs:List (List Key×δ×ε)}(r:KT H Ϸ xs)(k:List Key){y:V}{u:ε}(ry:RelV y u):KT H (Ϸ.map λa=>if a.1=k then(a.1,y)else a) (xs.map (putAt k u)):=by
 induction r with
 |nil=>show .nil
 | @cons p q ps g h t c=>
   rw[adI,adI];show .cons ?_ c;let#[h1,h2,f]:=h;unfold putAt;by_cases e:p.1=k
   .rw[if_pos e,if_pos (h1.symm.trans e)];show#[h1,h2,ry]
   .rw[if_neg e,if_neg (λz=>e (h1.trans z))];show#[h1,h2,f]
theorem KT.put{H:Hp}{Ϸ:List (List Key×V)}{xs:List (List Key×δ×ε)}(r:KT H Ϸ xs)(k:List Key){b:δ}{y:V}{u:ε}(a:H b=some (.tup (k.map kV)))(ry:RelV y u):KT H (putK Ϸ k y) (storedH xs k b u):=by
 let e:(Ϸ.any λc=>decide (c.1=k))=(atKey xs k).isSome:=by
  rw[wz,(r.val k).isSome_eq,amg]
 unfold putK storedH;rw[e];by_cases q:(atKey xs k).isSome=true
 .rw[if_pos q,if_pos q];show r.repl k ry
 .rw[if_neg q,if_neg q];show Paired.snoc r #[rfl,a,ry]
theorem KT.keeps{H H':Hp}{Ϸ:List (List Key×V)}{xs:List (List Key×δ×ε)}(r:KT H Ϸ xs)(a:∀b ys,H b=some (.tup ys)->H' b=some (.tup ys)):KT H' Ϸ xs:=
 Paired.mapP r λ_ _ z=>#[z.1,a _ _ z.2.1,z.2.2]
section
variable{P:Ϯ}{w:ϭ}{H:Hp}{h:ϫ}{a:δ}
theorem Og{u:HO}(ok:aa P w H h)(e:Rd H a u):ϕ P w H h a u:=e.ok ok
theorem jo{Ϸ:List (Key×V)}(ok:aa P w H h)(e:Rd H a (.dK Ϸ)):Ϸ.length<=ϰ/\(a==sysModules)=false/\∃vs,KV Ϸ vs/\h.DictOf (bR P w) a vs:=
 show ϕ P w H h a (.dK Ϸ)from Og ok e
theorem CJ{Ϸ:List (Key×V)}(ok:aa P w H h)(e:H a=some (.dK Ϸ)):Ϸ.length<=ϰ/\(a==sysModules)=false/\∃vs,KV Ϸ vs/\h.DictOf (bR P w) a vs:=jo ok (.inl e)
theorem mH{ks:List Key}(ok:aa P w H h)(e:H a=some (.tup (ks.map kV))):(tupleKind (bR P w)).is h ks a:=by
 let#[_,c,r,o,h1,h2,n,f]:=(show ϕ P w H h a (.tup (ks.map kV))from ok a _ e);show#[o,c.toArray,n,h1,h2,f,by simpa using Qw r]
theorem jr{Ϸ:List (List Key×V)}(ok:aa P w H h)(e:Rd H a (.dT Ϸ)):Ϸ.length<=ϰ/\(a==sysModules)=false/\
  ∃xs,KT H Ϸ xs/\h.DictOfH (tupleKind (bR P w)) a xs:=by
 let#[z,y,xs,r,o,es,ep,h1,h2,f,g,i]:=(show ϕ P w H h a (.dT Ϸ)from Og ok e);show#[z,y,xs,r,o,es,ep,h1,h2,f,g,λx hx=>?_,i];let all:∀{l:List (List Key×V)}{m:List (List Key×δ×ε)},KT H l m->∀x∈m,(tupleKind (bR P w)).is h x.1 x.2.1:=by
  intro l m q;induction q with
  |nil=>intro x hx;show nomatch hx
  | @cons p q ps n c t j=>
    intro x hx;obtain e|hx:=aaF.mp hx
    .subst e;show mH ok (by rw[<-c.1];show c.2.1)
    .show j x hx
 show all r x hx
theorem aaW{Ϸ:List (List Key×V)}(ok:aa P w H h)(e:H a=some (.dT Ϸ)):Ϸ.length<=ϰ/\(a==sysModules)=false/\
  ∃xs,KT H Ϸ xs/\h.DictOfH (tupleKind (bR P w)) a xs:=jr ok (.inl e)
end
def Ϟ(H:Hp)(a:δ)(y:V)(r:Option V):Prop:=
 (∃Ϸ k,Rd H a (.dK Ϸ)/\y=kV k/\r=ώ Ϸ k)\/∃Ϸ k b,Rd H a (.dT Ϸ)/\y=.ref b/\H b=some (.tup (k.map kV))/\r=ώ Ϸ k
def eN(H:Hp)(a:δ)(y v:V)(H':Hp):Prop:=
 (∃Ϸ k,H a=some (.dK Ϸ)/\y=kV k/\Ϸ.length<ϰ/\H'=upd H a (.dK (putK Ϸ k v)))\/
 ∃Ϸ k b,H a=some (.dT Ϸ)/\y=.ref b/\H b=some (.tup (k.map kV))/\Ϸ.length<ϰ/\H'=upd H a (.dT (putK Ϸ k v))
theorem Ϟ.k{H:Hp}{a:δ}{Ϸ:List (Key×V)}{k:Key}(e:H a=some (.dK Ϸ)):Ϟ H a (kV k) (ώ Ϸ k):=.inl #[Ϸ,k,.inl e,rfl,rfl]
theorem Ϟ.t{H:Hp}{a b:δ}{Ϸ:List (List Key×V)}{k:List Key}(e:H a=some (.dT Ϸ))(c:H b=some (.tup (k.map kV))):Ϟ H a (.ref b) (ώ Ϸ k):=.inr #[Ϸ,k,b,.inl e,rfl,c,rfl]
theorem eN.k{H:Hp}{a:δ}{Ϸ:List (Key×V)}{k:Key}{v:V}(e:H a=some (.dK Ϸ))(c:Ϸ.length<ϰ):eN H a (kV k) v (upd H a (.dK (putK Ϸ k v))):=.inl #[Ϸ,k,e,rfl,c,rfl]
theorem eN.t{H:Hp}{a b:δ}{Ϸ:List (List Key×V)}{k:List Key}{v:V}(e:H a=some (.dT Ϸ))(c:H b=some (.tup (k.map kV)))(f:Ϸ.length<ϰ):eN H a (.ref b) v (upd H a (.dT (putK Ϸ k v))):=.inr #[Ϸ,k,b,e,rfl,c,f,rfl]
section
variable{X:Cx}{ϵ:List (δ×Obj)}{σ:St}{H:Hp}{s:μ}{a:δ}{y v:V}{u r:ε}{o:Option V}{A:ϱ}{E:ε->μ->Prop}
theorem Inv.big(I:Inv X ϵ σ H s):sysModules<s.heap.objs.size:=by
 let h:mainGlobals<s.heap.objs.size:=(I.mod.glob.keeps I.bk).lt;show Nat.lt_trans (by decide) h
theorem Ry{Q:ε->μ->Prop}(q:A.units+1<cLine)(I:Inv X ϵ σ H s)(g:Ϟ H a y (some v))(ry:RelV y u)(h:∀i s',Inv X ϵ σ H s'->RelV v i->Q i s'):ν (ϧ X.prog X.w) A (getItem (.ref a) u) Q E s:=by
 obtain⟨Ϸ,k,e,j,l⟩|⟨Ϸ,k,b,e,j,x,l⟩:=g
 .subst j;let#[z,hd,vs,c,dd]:=jo I.hok e;let#[i,m,f]:=bN.some_of (v:=v) (o:=valueAt vs k) (by rw[l];show c.val k);show wpAny_getItem_of (jR ry) dd.mapOf m (h i _ (I.tok _) f)
 .subst j;cases(show u=Value.ref b from ry);let#[z,hd,xs,c,dd]:=jr I.hok e;let#[i,m,f]:=bN.some_of (v:=v) (o:=(atKey xs k).map (·.2)) (by rw[l];show c.val k);let#[p,B,n]:=ah6.mp m;show wpAny_getItem_heap (ai1 q) (mH I.hok x) dd B ?_;rw[n];show h i _ (I.tok _) f
theorem afd{Q:ε->μ->Prop}(i:A.units+1<cLine)(I:Inv X ϵ σ H s)(g:Ϟ H a y o)(ry:RelV y u)(h:∀s',Inv X ϵ σ H s'->Q (.bool o.isSome) s'):ν (ϧ X.prog X.w) A (adL .In u (.ref a)) Q E s:=by
 obtain⟨Ϸ,k,e,f,l⟩|⟨Ϸ,k,b,e,f,j,l⟩:=g
 .subst f;let#[z,hd,vs,c,dd]:=jo I.hok e;show wpAny_in_of (jR ry) hd dd.mapOf ?_;rw[<-(c.val k).isSome_eq, <-l];show h _ (I.tok _)
 .subst f;cases(show u=Value.ref b from ry);let#[z,hd,xs,c,dd]:=jr I.hok e;show wpAny_in_heap (ai1 i) (mH I.hok j) hd dd ?_;let q:=(c.val k).isSome_eq;rw[amg]at q;rw[<-q, <-l];show h _ (I.tok _)
theorem ady{Q:ε->μ->Prop}(i:A.units+1<cLine)(I:Inv X ϵ σ H s)(g:Ϟ H a y o)(ry:RelV y u)(h:∀s',Inv X ϵ σ H s'->Q (.bool (!o.isSome)) s'):ν (ϧ X.prog X.w) A (adL .NotIn u (.ref a)) Q E s:=by
 obtain⟨Ϸ,k,e,f,l⟩|⟨Ϸ,k,b,e,f,j,l⟩:=g
 .subst f;let#[z,hd,vs,c,dd]:=jo I.hok e;show wpAny_notIn_of (jR ry) hd dd.mapOf ?_;rw[<-(c.val k).isSome_eq, <-l];show h _ (I.tok _)
 .subst f;cases(show u=Value.ref b from ry);let#[z,hd,xs,c,dd]:=jr I.hok e;show wpAny_notIn_heap (ai1 i) (mH I.hok j) hd dd ?_;let q:=(c.val k).isSome_eq;rw[amg]at q;rw[<-q, <-l];show h _ (I.tok _)
theorem FQ{h':ϫ}{t':Nat}{c:HO}(I:Inv X ϵ σ H s)(g:sO (H a))(hs:ajr a s.heap h')(i:∃q,h'.get? a=some q)(f:ϕ X.prog X.w (upd H a c) h' a c):Inv X ϵ σ (upd H a c) {s with heap:=h',toks:=t'}:=
 I.write (x:=a) (e:=a) g (.inl rfl) (λb q j z=>(hs.2 b j).trans z) i f
theorem yt{P:Ϯ}{w:ϭ}{H':Hp}{h':ϫ}{Ϸ:List (Key×V)}{vs:List (Key×ε)}(z:Ϸ.length<=ϰ)(hd:(a==sysModules)=false)(c:KV Ϸ vs)(dd:h'.DictOf (bR P w) a vs):ϕ P w H' h' a (.dK Ϸ):=#[z,hd,vs,c,dd]
theorem abH{H':Hp}{Q:Unit->μ->Prop}(C:A.units+1<cLine)(I:Inv X ϵ σ H s)(g:eN H a y v H')(ry:RelV y u)(p:RelV v r)(h:∀s',Inv X ϵ σ H' s'->Q PUnit.unit s'):ν (ϧ X.prog X.w) A (setItem (.ref a) u r) Q E s:=by
 obtain⟨Ϸ,k,e,m,l,n⟩|⟨Ϸ,k,b,e,m,x,l,n⟩:=g
 .subst m n;let#[z,hd,vs,f,dd]:=CJ I.hok e;let hz:vs.length<=ϰ:=by rw[<-f.length];show z
  let o:(putK Ϸ k v).length<=ϰ:=by have:=Fe Ϸ k v;omega
  show wpAny_setItem_pairs (hsz:=hz) (jR ry) dd λh' i hs=>h _ ?_
  let D:∃q,h'.get? a=some q:=let⟨q,_,_,j,_⟩:=i;#[q,j];show FQ I (by rw[e];show True.intro) hs D (yt o hd (f.put k p) i)
 .subst m n;cases(show u=Value.ref b from ry);let#[z,hd,xs,f,dd]:=aaW I.hok e;let hz:xs.length<=ϰ:=by rw[<-Paired.length f];show z
  let o:(putK Ϸ k v).length<=ϰ:=by have:=Fe Ϸ k v;omega
  show wpAny_setItem_heap (hsz:=hz) (ai1 C) (mH I.hok x) dd λh' i hs=>h _ ?_
  let#[q,es,ep,j,h2,F,G,_,J]:=i;show FQ I (by rw[e];show True.intro) hs ⟨q,j⟩ ⟨o,hd,_,(f.put k x p).keeps λc ys B=>?_,q,es,ep,j,h2,F,G,J⟩;rw[ρ (acF B e (λz=>nomatch z))];show B
end
section
variable{X:Cx}{ϵ:List (δ×Obj)}{σ:St}{H:Hp}{s:μ}{a:δ}{Ϸ:List (Key×V)}{k:Key}{u:ε}{A:ϱ}{E:ε->μ->Prop}
theorem ad5{v:V}{c:List ε}{Q:ε->μ->Prop}(I:Inv X ϵ σ H s)(e:H a=some (.dK Ϸ))(ry:RelV (kV k) u)(l:ώ Ϸ k=some v)(n:c=[]\/∃x,c=[x])(h:∀g s',Inv X ϵ σ (upd H a (.dK (fD Ϸ k))) s'->RelV v g->Q g s'):ν (ϧ X.prog X.w) A (call (.builtin "dict.pop") (.ref a::u::c)) Q E s:=by
 let#[z,hd,vs,f,dd]:=CJ I.hok e;let#[g,p,m]:=bN.some_of (v:=v) (o:=valueAt vs k) (by rw[<-l];show f.val k);let y:(keyPart u).isSome=true:=by
  cases k with
  |inl i=>let#[t,q]:=(show ∃t,u=Value.int i t from ry);subst q;rfl
  |inr x=>let#[t,q]:=(show ∃t,u=Value.str x t from ry);subst q;rfl
 let B:argsOk "dict.pop" #[.ref a::u::c,[]]:=by
  obtain q|⟨x,q⟩:=n
  .subst q;show F.args_dict_pop_2 _ _
  .subst q;show F.args_dict_pop_3 _ _ _
 show call_meetsIn F.slot_dict_pop dd.typeIs F.entry_dict_pop B (meets_dict_pop_there (bR X.prog X.w) a (jR ry) c n y)
  #[vs,g,dd,by rw[<-f.length];show z,p,λh' j hs=>h g _ ?_ m]
 let C:∃q,h'.get? a=some q:=let⟨q,_,_,hq,_⟩:=j;#[q,hq];show FQ I (by rw[e];show True.intro) hs C (yt (aeP (abF Ϸ k) z) hd (f.drop k) j)
end
def O9(i:Ϧ):=∀a c,subscripted i false a c=operate [a,c] (getItem a c)
theorem aeE{prog:Ϯ}{w:ϭ}{A:ϱ}{E:ε->μ->Prop}{s:μ}{env:Env}{value a:Ϧ}{pos:Pos}{T id:String}{Q:ε->μ->Prop}(m:typeLookup (.type T) "__getitem__"=pure (some (.builtin id)))(hs:O9 a)(h:ν (ϧ prog w) A (eval value env) (λo e=>ν (ϧ prog w) A (eval a env) (λi s₂=>s₂.TypeIs o T/\ν (ϧ prog w) A (getItem o i) Q E s₂) E e) E s):ν (ϧ prog w) A (eval (.Subscript value a pos) env) Q E s:=by
 show Subscript_ (adR h (λo e g=>adR g (λi s₂ c=>?_) λ_ _ x=>x) λ_ _ x=>x);let#[l,c]:=c;unfold subscriptTail;show π ?_;rw[getitemInPython_of_ne l.not_modules];show π (wpAny_specialOf l m ?_);let fin:ν (ϧ prog w) A (subscripted a false o i) (λr f=>ν (ϧ prog w) A (letTemporaryGo value o r>>=λ_=>pure r) Q E f) E s₂:=by
  rw[hs o i];show wpAny_operating (adR c (λr f j=>π (wpAny_letTemporaryGo (ϯ j))) λ_ _ x=>x)
 first
  |show ϯ (π fin)
  |show π (ϯ (π fin))
  |show π fin
theorem Rh{X:Cx}{ϵ:List (δ×Obj)}{σ:St}{H:Hp}{s:μ}{a:δ}{y:V}{o:Option V}(I:Inv X ϵ σ H s)(g:Ϟ H a y o):s.TypeIs (.ref a) "dict":=by
 obtain⟨Ϸ,k,e,_,_⟩|⟨Ϸ,k,b,e,_,_,_⟩:=g
 .let#[_,_,vs,_,dd]:=jo I.hok e;show dd.typeIs
 .let#[_,_,xs,_,dd]:=jr I.hok e;show dd.typeIs
section
variable{X:Cx}{o i e value:Ϧ}{pos pos' tpos:Pos}{td ty tv:TE}
end
theorem ahR{P:Ϯ}{w:ϭ}{H:Hp}(h:ϫ)(a:sysModules<h.objs.size):ϕ P w H (h.push {cls:=.type "dict",data:=.dict #v[]}) h.objs.size (.dK []):=
 #[afT _,beq_eq_false_iff_ne.mpr (Ne.symm (ac6 a)),[],.nil,Heap.DictOf.new h]
theorem ab0{P:Ϯ}{w:ϭ}{H:Hp}(h:ϫ)(a:sysModules<h.objs.size):ϕ P w H (h.push {cls:=.type "dict",data:=.dict #v[]}) h.objs.size (.dT []):=
 #[afT _,beq_eq_false_iff_ne.mpr (Ne.symm (ac6 a)),[],.nil,_, #v[],0,ab7 _ rfl,#[rfl,rfl,rfl],rfl,rfl,List.nodup_nil]
def aaK:TE:=λ_ H Q=>∀p,H p=none->Q (.ref p) (upd H p (.dK []))
def Xp:TE:=λ_ H Q=>∀p,H p=none->Q (.ref p) (upd H p (.dT []))
section
variable{X:Cx}{pos:Pos}
theorem aav:PE X (.Dict [] [] pos) aaK:=λϵ s σ H Q I h=>
 wpAny_Dict_empty #[.ref s.heap.objs.size,_,I.laid (a:=s.heap.objs.size) (o:=.dK []) (t':=s.toks) (λ_ _ q=>ϲ _ q) (Ϭ _) (ahR s.heap I.big),rfl,h _ (I.hok.fresh (Ϭ _))]
theorem ab9:PE X (.Dict [] [] pos) Xp:=λϵ s σ H Q I h=>
 wpAny_Dict_empty #[.ref s.heap.objs.size,_,I.laid (a:=s.heap.objs.size) (o:=.dT []) (t':=s.toks) (λ_ _ q=>ϲ _ q) (Ϭ _) (ab0 s.heap I.big),rfl,h _ (I.hok.fresh (Ϭ _))]
end
structure M1(X:Cx)(o:Ϧ)(m:Str)(apos:Pos)(e:Ϧ)(cpos:Pos):Prop where
 base:attributeBase o m X.env (eval o X.env)=eval o X.env
 few:((backTo cpos (ϴ [e] X.env)).all (λx=> !x.1)&&(backToKw cpos (keywordEach [] X.env)).all (λx=>x.1.isSome)
  &&decide (([e]:List Ϧ).length+([]:List Keyword).length+(if([]:List Keyword).isEmpty then 0 else 1)<30))=true
 line:(apos.endLine==cpos.line)=true
 trees:backTo cpos (ϴ [e] X.env)=[(false,eval e X.env)]
structure M2(X:Cx)(o:Ϧ)(m:Str)(apos:Pos)(e f:Ϧ)(cpos:Pos):Prop where
 base:attributeBase o m X.env (eval o X.env)=eval o X.env
 few:((backTo cpos (ϴ [e,f] X.env)).all (λx=> !x.1)&&(backToKw cpos (keywordEach [] X.env)).all (λx=>x.1.isSome)
  &&decide (([e,f]:List Ϧ).length+([]:List Keyword).length+(if([]:List Keyword).isEmpty then 0 else 1)<30))=true
 line:(apos.endLine==cpos.line)=true
 trees:backTo cpos (ϴ [e,f] X.env)=[(false,eval e X.env),(false,eval f X.env)]
def jV(H:Hp)(a:δ):Prop:=(∃Ϸ,Rd H a (.dK Ϸ))\/∃Ϸ,Rd H a (.dT Ϸ)
theorem BV{X:Cx}{ϵ:List (δ×Obj)}{σ:St}{H:Hp}{s:μ}{a:δ}(I:Inv X ϵ σ H s)(d:jV H a):s.TypeIs (.ref a) "dict"/\(∀b,Value.ref a=.ref b->∃c,s.heap.get? b=some c/\c.dict=none)/\(a==sysModules)=false:=by
 obtain⟨Ϸ,e⟩|⟨Ϸ,e⟩:=d
 .let#[_,hd,vs,_,dd]:=jo I.hok e;show#[dd.typeIs,λb q=>?_,hd];cases q;let#[c,_,_,h1,h2,_]:=dd;show#[c,h1,h2.2.1]
 .let#[_,hd,xs,_,dd]:=jr I.hok e;show#[dd.typeIs,λb q=>?_,hd];cases q;let#[c,_,_,h1,h2,_]:=dd;show#[c,h1,h2.2.1]
section
variable{X:Cx}{ϵ:List (δ×Obj)}{σ:St}{H:Hp}{s:μ}{a:δ}{y d:V}{u r:ε}{o:Option V}{A:ϱ}{E:ε->μ->Prop}
theorem Wv{Q:ε->μ->Prop}(j:A.units+1<cLine)(I:Inv X ϵ σ H s)(g:Ϟ H a y o)(ry:RelV y u)(h:∀i s',Inv X ϵ σ H s'->RelV (o.getD .non) i->Q i s'):ν (ϧ X.prog X.w) A (call (.builtin "dict.get") [.ref a,u]) Q E s:=by
 obtain⟨Ϸ,k,e,f,l⟩|⟨Ϸ,k,b,e,f,m,l⟩:=g
 .subst f;let#[z,hd,vs,c,dd]:=jo I.hok e;show call_meetsIn F.slot_dict_get dd.typeIs F.entry_dict_get (F.args_dict_get_2 _ _) (meets_dict_get (bR X.prog X.w) a (jR ry) hd) #[_,dd.mapOf,h _ _ (I.tok _) ?_];rw[l];show(c.val k).getD rfl
 .subst f;cases(show u=Value.ref b from ry);let#[z,hd,xs,c,dd]:=jr I.hok e;show call_meetsIn F.slot_dict_get dd.typeIs F.entry_dict_get (F.args_dict_get_2 _ _) (meetsH_dict_get (tupleKind (bR X.prog X.w)) a b hd) #[ai1 j,k,xs,mH I.hok m,dd,h _ _ (I.tok _) ?_];rw[l];show(c.val k).getD rfl
theorem aew{Q:ε->μ->Prop}(j:A.units+1<cLine)(I:Inv X ϵ σ H s)(g:Ϟ H a y o)(ry:RelV y u)(rd:RelV d r)(h:∀i s',Inv X ϵ σ H s'->RelV (o.getD d) i->Q i s'):ν (ϧ X.prog X.w) A (call (.builtin "dict.get") [.ref a,u,r]) Q E s:=by
 obtain⟨Ϸ,k,e,f,l⟩|⟨Ϸ,k,b,e,f,m,l⟩:=g
 .subst f;let#[z,hd,vs,c,dd]:=jo I.hok e;show call_meetsIn F.slot_dict_get dd.typeIs F.entry_dict_get (F.args_dict_get_3 _ _ _) (meets_dict_get_default (bR X.prog X.w) a (jR ry) hd r) #[_,dd.mapOf,h _ _ (I.tok _) ?_];rw[l];show(c.val k).getD rd
 .subst f;cases(show u=Value.ref b from ry);let#[z,hd,xs,c,dd]:=jr I.hok e;show call_meetsIn F.slot_dict_get dd.typeIs F.entry_dict_get (F.args_dict_get_3 _ _ _) (meetsH_dict_get_default (tupleKind (bR X.prog X.w)) a b hd r) #[ai1 j,k,xs,mH I.hok m,dd,h _ _ (I.tok _) ?_];rw[l];show(c.val k).getD rd
end
section
variable{X:Cx}{o e f:Ϧ}{apos cpos:Pos}{td ty tx:TE}
end
section
variable{X:Cx}{ϵ:List (δ×Obj)}{σ:St}{H:Hp}{s:μ}{a:δ}{Ϸ:List (Key×V)}{A:ϱ}{E:ε->μ->Prop}
theorem aau{Q:ε->μ->Prop}(I:Inv X ϵ σ H s)(e:Rd H a (.dK Ϸ))(h:∀p s',H p=none->Inv X ϵ σ (upd H p (.dK Ϸ)) s'->Q (.ref p) s'):ν (ϧ X.prog X.w) A (call (.type "dict") [.ref a]) Q E s:=by
 let#[z,hd,vs,c,dd]:=jo I.hok e;show kt_call_dict hd dd (by rw[<-c.length];show z) λh' f hs=>?_
 show h _ _ (I.hok.fresh (Ϭ _)) (I.laid (a:=s.heap.objs.size) (o:=.dK Ϸ) (t':=s.toks) (λb q g=>?_) (Ϭ _) (yt z (beq_eq_false_iff_ne.mpr (Ne.symm (ac6 I.big))) c f));show(hs.2 b (ac6 (acr g))).trans (ϲ _ g)
end
section
variable{X:Cx}{ϵ:List (δ×Obj)}{σ:St}{H:Hp}{s:μ}{a:δ}{y:V}{u:ε}{A:ϱ}{E:ε->μ->Prop}
end
end L2
namespace Att
open PySem PySem.W PySem.Calls PyProof.Rows
theorem aih{P:Params}{h:ϫ}:∀(ns:List Int)(vs:List ε),WellAll P h vs (ns.map WData.int)->IntsAre vs ns:=by
 intro ns;induction ns with
 |nil=>
  intro vs w;rw[anM]at w;cases w;show .nil
 |cons n ns c=>
  intro vs w;rw[adI]at w;cases w with
  |cons a b=>
   cases a;show .cons _ _ (c _ b)
theorem Ws{l:OpenLaw}{n:Nat}(p:l.most=some n){P:Params}{h:ϫ}{args:List WData}{vals:List ε}(c:l.row.toRowW.claim.pre args=true)(j:WellAll P h vals args):∃a vs ns,vals=[Value.ref a]/\args=[WData.list (ns.map WData.int)]/\h.get? a=some {cls:=.type "list",data:=.seq vs.toArray}/\IntsAre vs ns/\ns.length<=n:=by
 let m:WShape.hasAll [] args [.list .int]=true:=(pre_splitW c).1;let o:l.pre.holds [] {args:=args}=true:=(pre_splitW c).2;let#[d,r,rfl,h1,h2]:=hasAllW_cons m;obtain rfl:=hasAllW_nil h2;let#[xs,rfl,s]:=hasW_list h1;let#[ns,rfl]:=items_int s;let e:ns.length<=n:=by
  unfold OpenLaw.pre at o;let g:(WTm.not (.lt (.lit (.int (n:Int))) (.len (.arg 0)))).holds [] {args:=[.list (ns.map .int)]}=true:=by
   let g:=(holds_andW o).1;rw[p]at g;show g
  let i:=condW_of g (w_not (w_lt w_lit (w_len_list (w_arg rfl))));rw[abd]at i;show Nat.le_of_not_lt λq=>?_
  let u:(n:Int)<((ns.length:Nat):Int):=()
  first
   |(rw[decide_eq_true u]at i;show absurd i (by decide))
   |(simp at i;omega)
 cases j with
 |cons v x=>
  cases x;cases v with
  |list y f=>show#[_,_,ns,rfl,rfl,y,aih ns _ f,e]
theorem ZP(l:OpenLaw)(args:List WData):l.row.toRowW.claim.post args (.bool true) args=true:=
 postW_of (r:=l.row.toRowW) (X:=(true==true))
  (show WShape.has [] (.bool true) .bool=true by first|rfl|decide|simp[WShape.has,WShape.arms,WShape.armsAll])
  (show(WTm.eq .res (.lit (.bool true))).value [] {args:=args,res:=some (.bool true),after:=args}=some (.bool (true==true))from w_eq_bool (w_res rfl) w_lit) rfl
theorem ag9{l:OpenLaw}{n:Nat}{q:Ϯ}{e:List Str}{z:(Str->Option ε)->ϫ->Prop}{B:ϭ->ϫ->Prop}{d:DefRec}(F:l.most=some n)(u:d.params.defaults=[])(call:∀(w:ϭ)(s₀ c:μ)(mg mb:Str->Option ε)(j:δ)(o:Obj)(pm cd g:ε)(a:δ)(vs:List ε)(ns:List Int),
   Ground q e [] z w s₀ mg mb c.heap->B w c.heap->
   c.heap.get? j=some o->o.data=.func (docDef d.name d.params d.body d.scope pm cd g)->c.heap.CodeRec cd d.name->mg d.name=some (.ref j)->
   c.heap.get? a=some {cls:=.type "list",data:=.seq vs.toArray}->IntsAre vs ns->ns.length<=n->c.gens= #v[]->
   codeAny (ϧ l.prog w) callerA (.call (.ref j) #[[.ref a],[]]) (λr s'=>r=.ok (.ret (.bool true))/\OldK c.heap s'.heap/\s'.os=c.os/\AllBare s'.gens) c):WalkO q e z B l.row.toRowW d [] (λf vs=>PySem.call f vs):=by
 intro w s₀ c mg mb G Y j o pm cd g dV kV H hd v C x I D vals as m E J y L;obtain rfl:dV=.none:=Dflts.none C u;obtain rfl:kV=.none:=Dflts.noKw C;let#[a,vs,ns,rfl,rfl,p,i,s]:=Ws F m y;show enter_call (ajy (call w s₀ c mg mb j o pm cd g a vs ns G Y H (fd_plain hd) v x p i s I) λr s' M=>?_);let#[rfl,h2,O,P]:=M;show#[.inl #[.bool true,.bool true,[],rfl,λ_=>rfl,.bool true,ZP l _,λ_=>#[List.Pairwise.nil,λ_ Q=>(nomatch Q)]],h2,O,P]
section
variable{prog:Ϯ}{w:ϭ}{A:ϱ}{E:ε->μ->Prop}{s:μ}{K:Frag}
end
end Att
namespace L2
open PySem PySem.Spec PyProof.Rows
theorem Uj:∀{vs:List ε}{ns:List Int},IntsAre vs ns->Vals (ns.map V.int) vs
 |_,_,.nil=>.nil
 |_,_,.cons n t h=>.cons #[t,rfl] (Uj h)
abbrev Ow{K:ϩ}{h:ϫ}(_:K.In h):ϩ:=K
def inClass(s:Ϩ)(j:Nat):Ϩ:=match s with
 |.ClassDef _ _ _ body _ _ _ _ _ _ _=>body.getD j (.Pass #[0,0,0,0])
 |_=>.Pass #[0,0,0,0]
def jA(s:Ϩ):Arguments:=match s with
 |.FunctionDef _ a _ _ _ _ _ _ _ _=>a
 |_=>{posonlyargs:=[],args:=[],vararg:=none,kwonlyargs:=[],kw_defaults:=[],kwarg:=none,defaults:=[]}
def aB(s:Ϩ):List Ϩ:=match s with
 |.FunctionDef _ _ b _ _ _ _ _ _ _=>b
 |_=>[]
def ψ(s:Ϩ):ahw:=match s with
 |.FunctionDef _ _ _ _ _ _ sc _ _ _=>sc
 |_=>{kind:=.function,names:=[],isGenerator:=false,isCoroutine:=false}
structure cj(K:ϩ)(x qual:Str)(st:Ϩ)(f:δ)(fd:ahC):Prop where
 ex:∃(oc:ε)(od:Option δ)(kV doc pm:ε)(an:Option δ)(Ϻ ct:ε)(osl:Array (Option ε)),
  fd=am3 x qual (jA st) (aB st) (ψ st) .none kV doc pm an Ϻ ct/\K.lookup f=some #[oc,od,.func fd,osl]/\amo K Ϻ qual=true
 kp:alz K (.ref f)=true
section
variable{P:Ϯ}{w:ϭ}{K:ϩ}{mg:Str->Option ε}{base:ϫ}
theorem cj.binds{x qual:Str}{st:Ϩ}{f:δ}{fd:ahC}{ps:List Str}(F:cj K x qual st f fd)(h:∀(kV a pm:ε)(an:Option δ)(c ct:ε)(us:List ε),us.length=ps.length->bindArgs (am3 x qual (jA st) (aB st) (ψ st) .none kV a pm an c ct) #[us,[]]=pure (ps.zip us)):Binds K fd ps []:=by
 let#[oc,od,kV,a,pm,an,c,ct,e,rfl,lk,g]:=F.ex;show .all (h kV a pm an c ct)
theorem qX{x qual:Str}{st:Ϩ}{f:δ}{oc:ε}{od an:Option δ}{e:Array (Option ε)}{kV a pm g ct:ε}(l:K.lookup f=some #[oc,od,.func (am3 x qual (jA st) (aB st) (ψ st) .none kV a pm an g ct),e])(c:amo K g qual=true)(k:alz K (.ref f)=true):cj K x qual st f (am3 x qual (jA st) (aB st) (ψ st) .none kV a pm an g ct):=#[#[oc,od,kV,a,pm,an,g,ct,e,rfl,l,c],k]
end
section
variable{X:Cx}
end
theorem ahI{A B:Prop}(h:B):if false=true then A else B:=by
 rw[if_neg abj];show h
theorem Z5{A B:Prop}(h:A):if true=true then A else B:=by
 rw[if_pos rfl];show h
def ζ(H H':Hp):=∀b o,H b=some o->H' b=some o
theorem ζ.refl(H:Hp):ζ H H:=λ_ _ h=>h
theorem ζ.trans{H H1 H2:Hp}(a:ζ H H1)(b:ζ H1 H2):ζ H H2:=λc o h=>b c o (a c o h)
theorem ζ.free{H H':Hp}(e:ζ H H'){l:δ}(h:H' l=Option.none):H l=Option.none:=by
 cases q:H l with
 |none=>rfl
 |some o=>
  rw[e l o q]at h;cases h
theorem ζ.seq{K:ϩ}{H H':Hp}{a:δ}{xs:List V}(e:ζ H H')(h:η K H a xs):η K H' a xs:=by
 rcases h with(h|⟨o,h⟩)|h
 .show .inl (.inl (e _ _ h))
 .show .inl (.inr #[o,e _ _ h])
 .show .inr h
section
variable{X:Cx}
end
section
variable{κ:Type} [DecidableEq κ]
end
def mZ(h:ϫ):Option ε->List δ->Prop
 |c,[]=>c=some .none
 |c,a::r=>c=some (.ref a)/\∃o vs,h.get? a=some o/\o.data=.fields vs/\mZ h vs[2]? r
theorem mZ.stay{h h':ϫ}{e:δ}(k:∀v o ws,v≠e->h.get? v=some o->o.data=.fields ws->∃o' f,h'.get? v=some o'/\o'.data=.fields f/\f[2]?=ws[2]?):∀{l:List δ}{c:Option ε},mZ h c l->e∉l->mZ h' c l
 |[],_,q,_=>q
 |a::r,c,⟨g,o,vs,i,j,m⟩,n=>by
  let#[o',f,k1,k2,k3]:=k a o vs (λz=>n (by simp[z])) i j;show#[g,o',f,k1,k2,?_];rw[k3];show mZ.stay k m λz=>n (by simp[z])
def Ctx(h:ϫ)(e:δ)(b:Bool)(c:Option ε):Prop:=(b=true->c=some .none)/\∃l,mZ h c l/\e∉l/\l.Nodup
theorem Ctx.stay{h h':ϫ}{e:δ}{b:Bool}{c:Option ε}(q:Ctx h e b c)(k:∀v o ws,v≠e->h.get? v=some o->o.data=.fields ws->∃o' a,h'.get? v=some o'/\o'.data=.fields a/\a[2]?=ws[2]?):Ctx h' e b c:=by
 let#[g,l,i,f,j]:=q;show#[g,l,i.stay k f,f,j]
def bL(h:ϫ)(e:δ)(cls:ε)(d:Option δ×Bool)(tb:Option δ)(f:ε):Prop:=
 ∃a vs,h.get? e=some a/\a.cls=cls/\a.dict=d.1/\a.data=.fields vs/\vs[1]?=some (tb.elim Value.none Value.ref)/\2<vs.size/\Ctx h e d.2 vs[2]? /\
  ∀T,tb=some T->T≠e/\∃c ws,h.get? T=some c/\c.data=.fields ws/\ws[3]?=some f
def bU(P:Ϯ)(w:ϭ):d8:=λouter H s E x s'=>∃e tb cls d H',x=.ref e/\s'.os=s.os/\AllBare s'.gens/\Un (cD outer) [] H H' s.heap s'.heap/\aa P w H' s'.heap/\bL s'.heap e cls d tb .none/\
 (∀b∈e::tb.toList,H' b=none/\s.heap.get? b=none)/\E cls d H'
theorem bU.never{P:Ϯ}{w:ϭ}{outer:List Env}{H:Hp}{s s':μ}{e:ε}(h:bU P w outer H s (λ_ _ _=>False) e s'):False:=by
 let#[_,_,_,_,_,_,_,_,_,_,_,_,z]:=h;show z
section
variable{M:Model}{A:ϱ}{E:ε->μ->Prop}{s:μ}
theorem Jk{base:ϫ}{env:Env}{outer:List Env}{L e:δ}{oe:Obj}{vs:Array ε}{head:ε}{c:Bool}{Q:Unit->μ->Prop}(i:A.frames=some (env::outer))(p:s.heap.FunFrames base (env::outer))(z:env.frame=some L)(u:s.heap.get? e=some oe)(hd:oe.data=.fields vs)(hsz:1<vs.size)(k:∀(h':ϫ)(T:δ)(v:Obj)(ws:Array ε),s.heap.objs.size<=h'.objs.size->(∀b o,s.heap.get? b=some o->b≠e->b∉cD (env::outer)->h'.get? b=some o)->
   (∀b o,s.heap.get? b=some o->b≠e->∃sl,h'.get? b=some {o with slots:=sl})->s.heap.objs.size<=T->h'.get? e=some (oe.mapFields (·.setIfInBounds 1 (.ref T)))->
   h'.get? T=some v->v.data=.fields ws->ws[3]?=some (rawInt L)->Q PUnit.unit {s with heap:=h'}):ν M A (do
   let a<-frameOf env;let pl<-entryPlaceOf L c;let b<-EntryCells.newEntry head a .none (rawInt L) .none pl
   setField (.ref e) 1 b) Q E s:=by
 let B:e∉(env::outer).filterMap (·.frame):=λm=>by
  let#[_,o,x,C]:=p.mem m;rw[u]at x;cases x;show C vs hd
 show π (wpAny_frameOf_fun i p z λh1 g=>π (wpAny_entryPlaceOf λpl y=>?_));unfold EntryCells.newEntry newFields;show π (aiC ?_ (y.sizeOk5 _ _ _ _ _));let e1:h1.get? e=some oe:=(g.2.1 e B).trans u;let j:e≠h1.objs.size:=ac6 (acr e1);show wpAny_setField (ϲ _ e1) hd hsz (k _ h1.objs.size {cls:=.type "traceback",dict:=none,data:=.fields (([head,.ref L,.none,rawInt L,.none]:List ε)++(if pl.isEmpty then akD 6 Value.none else pl)).toArray} (([head,.ref L,.none,rawInt L,.none]:List ε)++(if pl.isEmpty then akD 6 Value.none else pl)).toArray ?_ (λb o l f n=>?_) (λb o l f=>?_) (aka g.1.symm) ?_ ?_ ?_ ?_)
 .rw[amB,aiJ,g.1];show alS _
 .rw[ac9 _ _ (Ne.symm f)];show ϲ _ ((g.2.1 b n).trans l)
 .let#[sl,q]:=g.2.2 b o l;show#[sl,by rw[ac9 _ _ (Ne.symm f)];show ϲ _ q]
 .show afG _ (ϲ _ e1) (Obj.isFreed_of_fields (Obj.data_mapFields hd _))
 .rw[ac9 _ _ j];show ab7 h1 rfl
 .show rfl
 .first
   |(simp;done)
   |(obtain rfl|⟨_,_,_,_,_,_,_,rfl⟩:=y<;>simp)
structure rR(h h':ϫ)(ch fs:List δ):Prop where
 keep:∀b o,h.get? b=some o->b∉fs->b∉ch->h'.get? b=some o
 slot:∀b o,h.get? b=some o->b∉ch->∃sl,h'.get? b=some {o with slots:=sl}
 there:∀b o,h.get? b=some o->∃o',h'.get? b=some o'
theorem SN{base:ϫ}{env:Env}{outer:List Env}{L e:δ}{cls:ε}{d:Option δ×Bool}{tb:Option δ}{fl:ε}{Q:Unit->μ->Prop}(p:A.frames=some (env::outer))(hl:s.heap.FunFrames base (env::outer))(I:env.frame=some L)(F:bL s.heap e cls d tb fl)(J:(fl==rawInt L)=false)(k:∀(h':ϫ)(T:δ),rR s.heap h' (e::tb.toList) (cD (env::outer))->s.heap.objs.size<=T->bL h' e cls d (some T) (rawInt L)->Q PUnit.unit {s with heap:=h'}):ν M A (noteFrame (.ref e) env) Q E s:=by
 let#[O,vs,m,hc,P,hd,h1,hz,h2,ht]:=F
 let fin:∀{R:ϫ}{h':ϫ}{T:δ}{n:Obj}{ws:Array ε},(∀v o ws,v≠e->s.heap.get? v=some o->o.data=.fields ws->∃o' u,h'.get? v=some o'/\o'.data=.fields u/\u[2]?=ws[2]?)->R.get? e=some O->R.objs.size<=T->h'.get? e=some (O.mapFields (·.setIfInBounds 1 (.ref T)))->h'.get? T=some n->n.data=.fields ws->
   ws[3]?=some (rawInt L)->bL h' e cls d (some T) (rawInt L):=λ{R h' T n ws} kk e0 hT a g f q4=>by
  let S:=Obj.data_mapFields hd (·.setIfInBounds 1 (Value.ref T));show#[_,_,a,(Obj.cls_mapFields _ _).trans hc,?_,S,?_,by simpa using hz,?_,λT' eT=>?_]
  .let#[c0,d0,dt,sl]:=O;cases hd;show P
  .have :1<vs.size:=()
   simp[this]
  .rw[aim (by decide)];show h2.stay kk
  .cases eT;show#[λz=>aiw _ (acw (acr e0) (z▸hT)),n,ws,g,f,q4]
 unfold noteFrame;simp only[I];cases tb with
 |none=>
  let l:vs[1]?=some Value.none:=h1;show π (agT m hd l ?_);rw[if_neg (by decide)];show Jk p hl I m hd () λh' T n ws a1 U j x y W X Y=>k h' T #[λb o a g f=>U b o a (λz=>f (by simp[z])) g,λb o a f=>j b o a λz=>f (by simp[z]),λb o a=>?_] x (fin (λv o ws G a g=>by let#[sl,q]:=j v o a G;show#[_,ws,q,g,rfl]) m x y W X Y)
  by_cases z:b=e
  .subst z;show#[_,y]
  .let#[sl,q]:=j b o a z;show#[_,q]
 |some i=>
  let#[Ϲ,oT0,Z,B,H,t3]:=ht i rfl;let l:vs[1]?=some (Value.ref i):=h1;show π (agT m hd l ?_);rw[if_pos (show(Value.ref i !=Value.none)=true from by simp)];show π (agT B H t3 ?_);rw[if_neg (by rw[J];show abj)];show π (wpAny_setField B H (ajg.mp t3).1 ?_);let c:∀b,b≠i->(s.heap.update i (Obj.mapFields (·.setIfInBounds 3 Value.none))).get? b=s.heap.get? b:=λb C=>ac9 _ _ (Ne.symm C)
  let Vo:=afG (Obj.mapFields (·.setIfInBounds 3 Value.none)) B (Obj.isFreed_of_fields (Obj.data_mapFields H _));let hsz:(s.heap.update i (Obj.mapFields (·.setIfInBounds 3 Value.none))).objs.size=s.heap.objs.size:=amB ..;let ab:(s.heap.update i (Obj.mapFields (·.setIfInBounds 3 Value.none))).FunFrames base (env::outer):=hl.of_keeps λb o C nf=>#[o,(c b λz=>by
   subst z;rw[B]at C;cases C;show nf Z H).trans C,rfl]
  show Jk (s:={s with heap:=s.heap.update i (Obj.mapFields (·.setIfInBounds 3 Value.none))}) p ab I ((c e (Ne.symm Ϲ)).trans m) hd () λh' T n ws a1 U j x y W X Y=>
   k h' T #[λb o a g f=>U b o ((c b λz=>f (by simp[z])).trans a) (λz=>f (by simp[z])) g,λb o a f=>j b o ((c b λz=>f (by simp[z])).trans a) λz=>f (by simp[z]),λb o a=>?_] (hsz▸x) (fin (λv o ws G a g=>by
     by_cases D:v=i
     .subst D;let#[sl,q]:=j v _ Vo G;rw[B]at a;cases a;show#[_,_,q,Obj.data_mapFields g _,by rw[aim (by decide)]]
     .let#[sl,q]:=j v o ((c v D).trans a) G;show#[_,ws,q,g,rfl]) ((c e (Ne.symm Ϲ)).trans m) x y W X Y)
  by_cases z:b=e
  .subst z;show#[_,y]
  .by_cases D:b=i
   .subst D;let#[sl,q]:=j b _ Vo z;show#[_,q]
   .let#[sl,q]:=j b o ((c b D).trans a) z;show#[_,q]
theorem afx{base:ϫ}{env:Env}{outer:List Env}{L e:δ}{cls:ε}{d:Option δ×Bool}{tb:Option δ}{Q:Unit->μ->Prop}(a:A.frames=some (env::outer))(c:s.heap.FunFrames base (env::outer))(f:env.frame=some L)(F:bL s.heap e cls d tb .none)(k:∀(h':ϫ)(T:δ),rR s.heap h' (e::tb.toList) (cD (env::outer))->s.heap.objs.size<=T->bL h' e cls d (some T) (rawInt L)->Q PUnit.unit {s with heap:=h'}):ν M A (noteFrame (.ref e) env) Q E s:=
 SN a c f F (by simp[rawInt]) k
theorem agh{env:Env}{L e:δ}{cls:ε}{d:Option δ×Bool}{tb:Option δ}{Q:Unit->μ->Prop}(a:env.frame=some L)(F:bL s.heap e cls d tb (rawInt L))(c:tb.isSome=true)(k:Q PUnit.unit s):ν M A (noteFrame (.ref e) env) Q E s:=by
 let#[n,vs,f,o,g,hd,h1,hz,h2,i]:=F;cases tb with
 |none=>cases c
 |some T=>
  let#[_,p,ws,j,l,m]:=i T rfl;show wpAny_noteFrame_inFlight a f hd h1 j l m k
theorem aaD{e T:δ}{cls:ε}{d:Option δ×Bool}{p:ε}{Q:Unit->μ->Prop}(F:bL s.heap e cls d (some T) p)(k:∀h',rR s.heap h' [T] []->bL h' e cls d (some T) .none->Q PUnit.unit {s with heap:=h'}):ν M A (setFlight (.ref e) none) Q E s:=by
 let#[u,vs,i,x,f,hd,h1,hz,h2,y]:=F;let#[j,D,ws,a,c,B]:=y T rfl;let l:3<ws.size:=(ajg.mp B).1;show wpAny_setFlight_none i hd h1 a c l (k _ #[λb o q _ n=>?_,λb o q n=>#[o.slots,?_],λb o q=>?_] ?_)
 .rw[ac9 _ _ (λz=>n (by simp[z]))];show q
 .rw[ac9 _ _ (λz=>n (by simp[z]))];show q
 .by_cases z:b=T
  .subst z;show#[_,afG _ a (Obj.isFreed_of_fields (Obj.data_mapFields c _))]
  .show#[o,by rw[ac9 _ _ (Ne.symm z)];show q]
 .show#[u,vs,?_,x,f,hd,h1,hz,h2.stay λv o ws G g m=>?_,λH C=>?_]
  .rw[ac9 _ _ j];show i
  .by_cases z:v=T
   .subst z;rw[a]at g;cases g;show#[_,_,afG _ a (Obj.isFreed_of_fields (Obj.data_mapFields c _)),Obj.data_mapFields m _,by rw[aim (by decide)]]
   .show#[o,ws,by rw[ac9 _ _ (Ne.symm z)];show g,m,rfl]
  .cases C;show#[j,_,_,afG _ a (Obj.isFreed_of_fields (Obj.data_mapFields c _)),Obj.data_mapFields c _,by simp[l]]
end
section
variable{X:Cx}{ϵ:List (δ×Obj)}{σ:St}{H H':Hp}{s s':μ}
def Ch(X:Cx)(ϵ:List (δ×Obj))(b:δ):Prop:=(b∈X.ex\/X.s₀.heap.get? b=none)/\b≠X.env.locals/\(∀x c,X.env.cells.lookup x=some c->c≠b)/\∀p∈X.pn++ϵ,p.1≠b
theorem Inv.ch(I:Inv X ϵ σ H s){b:δ}(h:s.heap.get? b=none):Ch X ϵ b:=by
 show#[?_,λz=>?_,λx c q z=>?_,λp g z=>?_]
 .by_cases e:b∈X.ex
  .show .inl e
  .show .inr ?_;cases q:X.s₀.heap.get? b with
   |none=>rfl
   |some o=>
    let#[o',f]:=I.base.there b o q e;rw[h]at f;cases f
 .let#[_,#[o,_,_,a,_],_]:=I.loc;rw[<-z,h]at a;cases a
 .let#[_,o,a,_]:=I.cell x c q;rw[z,h]at a;cases a
 .have :=(I.pin p g).1;rw[z,h]at this;cases this
theorem Inv.noted{ch:List δ}{h':ϫ}(I:Inv X ϵ σ H s)(N:rR s.heap h' ch (cD X.stack))(i:∀b∈ch,H b=none/\Ch X ϵ b):Inv X ϵ σ H {s with heap:=h'}:=by
 let iT:∀b u,H b=some u->b∉cD X.stack/\b∉ch:=λb u e=>#[(λz=>by rw[I.stkFree b z]at e;cases e),(λz=>by rw[(i b z).1]at e;cases e)]
 show I.call (g':=s.gens) (d':=s.drawn) (t':=s.toks) (ch:=ch) (h':=h') #[λb o e _ a f=>N.keep b o e a f,λb o e _ _ f=>N.slot b o e f,λ_ _ _ n _=>n,λb o e _=>N.there b o e,λ_ _ e=>e,λ_ _ _ e=>e,λb ps e=>#[#v[],by rw[e];simp]] ?_ I.bare λb a=>(i b a).2
 intro b u e;show(I.hok b u e).stay (λc v g q=>?_) (λ_ q=>q) λ_ _ q=>q
 obtain z|z:=g
 .subst z;show N.keep c v q (iT c u e).1 (iT c u e).2
 .show N.keep c v q (iT c _ z).1 (iT c _ z).2
def tU(X:Cx)(ϵ:List (δ×Obj))(σ:St)(H:Hp)(s:μ)(e:δ)(cls:ε)(d:Option δ×Bool):Prop:=
 Inv X ϵ σ H s/\∃tb a,bL s.heap e cls d tb a/\(a=.none\/(a=rawInt X.env.locals/\tb.isSome=true))/\∀b∈e::tb.toList,H b=none/\Ch X ϵ b
def bY(X:Cx)(Kx:St->XK):=∀(ϵ:List (δ×Obj))(σ:St)(H:Hp)(s:μ)(e:δ)(cls:ε)(d:Option δ×Bool),tU X ϵ σ H s e cls d->Kx σ cls d H->X.xe (.ref e) s
theorem Inv.flown{E:XK}{x:ε}(I:Inv X ϵ σ H s)(c:bU X.prog X.w X.stack H s E x s'):∃e cls d H',x=.ref e/\tU X ϵ σ H' s' e cls d/\E cls d H':=by
 let#[e,tb,cls,d,H',rfl,os,bare,un,hok,F,ch,q]:=c;let f:Inv X ϵ σ H' s':=I.call' (ch:=[]) os un hok bare λb z=>absurd z (by simp)
 show#[e,cls,d,H',rfl,#[f,tb,.none,F,.inl rfl,λb a=>#[(ch b a).1,I.ch (ch b a).2]],q]
theorem Nu(h:X.xe=λ_ _=>False):bY X (λ_ _ _ _=>False):=λ_ _ _ _ _ _ _ _ z=>z.elim
theorem tU.note{M:Model}{E:ε->μ->Prop}{e:δ}{cls:ε}{d:Option δ×Bool}{Q:Unit->μ->Prop}(x:tU X ϵ σ H s e cls d)(a:X.stack=X.env::X.outer)(f:X.env.frame=some X.env.locals)(k:∀s' T,Inv X ϵ σ H s'->bL s'.heap e cls d (some T) (rawInt X.env.locals)->(∀b∈[e,T],H b=none/\Ch X ϵ b)->Q PUnit.unit s'):ν M X.A (noteFrame (.ref e) X.env) Q E s:=by
 let#[I,tb,n,F,c,ch]:=x;obtain z|⟨z,j⟩:=c
 .subst z;let g:=I.stack;rw[a]at g;show afx (base:=X.base) (I.ok.frames.trans (by rw[a])) g f F λh' T N i l=>k _ T (I.noted (by rw[a];show N) ch) l λb m=>?_
  obtain z|z:=aaF.mp m
  .subst z;show ch _ aeh
  .let z':b=T:=by simpa using z
   subst z';show#[I.hok.fresh i,I.ch (alu i)]
 .subst z;cases tb with
  |none=>cases j
  |some T=>show agh f F rfl (k s T I F ch)
theorem Inv.off{M:Model}{E:ε->μ->Prop}{e T:δ}{cls:ε}{d:Option δ×Bool}{a:ε}{Q:Unit->μ->Prop}(I:Inv X ϵ σ H s)(F:bL s.heap e cls d (some T) a)(c:∀b∈[e,T],H b=none/\Ch X ϵ b)(k:∀s',Inv X ϵ σ H s'->bL s'.heap e cls d (some T) .none->Q PUnit.unit s'){A:ϱ}:ν M A (setFlight (.ref e) none) Q E s:=by
 show aaD F λh' N f=>k _ (I.noted (ch:=[T]) #[λb o q _ n=>N.keep b o q (by simp) n,N.slot,N.there] λb g=>?_) f
 let z:b=T:=by simpa using g
 subst z;show c b (by simp)
end
theorem ϑ{cc:Bool}{P:Ϯ}{w:ϭ}{K:ϩ}{mg:Str->Option ε}{base:ϫ}{N:List Str}{qual:Str}{scope:ahw}{f:δ}{cd:ε}{A:ϱ}{outer:List Env}{s₀:μ}{H₀:Hp}{E:XK}:bY (jT cc (bU P w) P w K mg base N qual scope f cd A outer s₀ H₀ E) (λ_=>E):=by
 intro ϵ σ H s e cls d x q;show ν _ _ (leaving _ _) _ _ s;unfold leaving;show π (x.note rfl rfl λl T c g c1=>?_);show c.off g c1 λm a i=>?_
 show#[e,some T,cls,d,H,rfl,a.os,a.bare,a.base,a.hok,i,λb j=>?_,q];let z:=c1 b (by simpa using j);show#[z.1,?_];obtain y|y:=z.2.1
 .show absurd (show b∈([]:List δ)from y) (by simp)
 .show y
theorem aep{cc:Bool}{P:Ϯ}{w:ϭ}{K:ϩ}{mg:Str->Option ε}{base:ϫ}{N:List Str}{qual:Str}{scope:ahw}{f:δ}{cd:ε}{A:ϱ}{outer:List Env}{s₀:μ}{H₀:Hp}{E:XK}:aj3 (ϧ P w) (A.deeper (envOfC qual scope s₀.heap.objs.size f cd)) (envOfC qual scope s₀.heap.objs.size f cd) (jT cc (bU P w) P w K mg base N qual scope f cd A outer s₀ H₀ E).xe:=PassesOwn.leaving
section
variable{X:Cx}{Kx:St->XK}{cc:Bool}{k k':Nat}{f C:δ}{fd:ahC}{ps:List Str}{sp:Sp}{x m:Str}{p pos apos:Pos}{e o:Ϧ}{es:List Ϧ}{σ:St}{H:Hp}{Q:VK}
theorem rQ{ϵ:List (δ×Obj)}{s:μ}{us:List ε}{vs:List V}(F:cG X.prog X.w X.K X.mg X.base (bU X.prog X.w) cc k f fd ps sp)(i:ϔ cc k X.A)(j:Binds X.K fd ps [])(l:bY X Kx)(I:Inv X ϵ σ H s)(r:Vals vs us)(h:sp vs H Q (Kx σ)):ν (ϧ X.prog X.w) X.A (call (.ref f) us) (EP X ϵ σ Q) X.xe s:=by
 let m:us.length=ps.length:=by rw[<-r.length];show F.len _ _ _ _ h
 let c:=j s us I.kIn (by simpa using m);rw[alG]at c;show wpAny_call (ajy (F.run X.A X.stack s H #[us,[]] us vs Q (Kx σ) i I.env0 c r h) λr s' g=>?_);cases r with
 |error e=>
  let#[a,cls,d,H',rfl,n,q]:=I.flown g;show l ϵ σ H' s' a cls d n q
 |ok o=>
  cases o with
  |ret u=>show I.after g
  |next=>show False.elim g
  |brk=>show False.elim g
  |cont=>show False.elim g
end
def EV(X:Cx)(e:Ϧ)(σ:St)(H:Hp)(Q:VK):Prop:=
 ∀(ϵ:List (δ×Obj))(s:μ),Inv X ϵ σ H s->ν (ϧ X.prog X.w) X.A (eval e X.env) (EP X ϵ σ Q) X.xe s
def ET(X:Cx)(e:Ϧ)(σ:St)(H:Hp)(Q:Bool->Hp->Prop):Prop:=
 ∀(ϵ:List (δ×Obj))(s:μ),Inv X ϵ σ H s->ν (ϧ X.prog X.w) X.A (isTrue e X.env (eval e X.env)) (TP X ϵ σ Q) X.xe s
def EW(X:Cx)(e:Ϧ)(σ:St)(H:Hp)(Q:Bool->Hp->Prop):Prop:=
 ∀(a:Sem ε)(ϵ:List (δ×Obj))(s:μ),Inv X ϵ σ H s->ν (ϧ X.prog X.w) X.A (isTrue e X.env a) (TP X ϵ σ Q) X.xe s
def EA(X:Cx)(es:List Ϧ)(σ:St)(H:Hp)(Q:List V->Hp->Prop):Prop:=
 ∀(pos:Pos)(ϵ:List (δ×Obj))(s:μ),Inv X ϵ σ H s->ν (ϧ X.prog X.w) X.A (spliced (backTo pos (ϴ es X.env))) (AP X ϵ σ Q) X.xe s
def EO(X:Cx)(e:Option Ϧ)(σ:St)(H:Hp)(Q:Option Int->Hp->Prop):=∃t,PO X e t/\t σ H Q
def SX(X:Cx)(st:Ϩ)(D:Ends)(σ:St)(H:Hp):Prop:=
 ∀(ϵ:List (δ×Obj))(s:μ),Inv X ϵ σ H s->ν (ϧ X.prog X.w) X.A (exec st X.env) (SP X ϵ D) X.xe s
def Ν(X:Cx)(st:List Ϩ)(D:Ends)(σ:St)(H:Hp):Prop:=
 ∀(ϵ:List (δ×Obj))(s:μ),Inv X ϵ σ H s->ν (ϧ X.prog X.w) X.A (execs st X.env) (SP X ϵ D) X.xe s
def EG(X:Cx)(tg:Ϧ)(v:V)(σ:St)(H:Hp)(Q:St->Hp->Prop):Prop:=
 ∀(ϵ:List (δ×Obj))(s:μ)(u:ε),Inv X ϵ σ H s->RelV v u->ν (ϧ X.prog X.w) X.A (assign tg X.env u) (λ_ s'=>∃σ' H',Inv X ϵ σ' H' s'/\Q σ' H') X.xe s
def rZ(X:Cx)(a:List Ϧ)(vs:List V)(σ:St)(H:Hp)(Q:St->Hp->Prop):Prop:=
 ∀(ϵ:List (δ×Obj))(s:μ)(us:List ε),Inv X ϵ σ H s->Vals vs us->ν (ϧ X.prog X.w) X.A (assignInOrder ((assignEach a X.env).map (·.2)) us) (λ_ s'=>∃σ' H',Inv X ϵ σ' H' s'/\Q σ' H') X.xe s
def EI(X:Cx)(tg iter:Ϧ)(σ:St)(H:Hp)(R:It->Hp->Prop):Prop:=
 ∀(ϵ:List (δ×Obj))(s:μ),Inv X ϵ σ H s->
  ν (ϧ X.prog X.w) X.A (eval iter X.env) (λv a=>ν (ϧ X.prog X.w) X.A (pyIter v) (vH X ϵ σ tg R) X.xe a) X.xe s
def OP(X:Cx)(f:ε->ε->Sem ε)(x y:V)(H:Hp)(Q:VK):=∃r,aM X f r/\r x y H Q
def UN(X:Cx)(f:ε->Sem ε)(x:V)(H:Hp)(Q:VK):=∃r,xR X f r/\r x H Q
def CL(X:Cx)(f:ε)(xs:List V)(H:Hp)(Q:VK):=∃r,iK X f r/\r xs H Q
def IX(X:Cx)(x y:V)(H:Hp)(Q:VK):=∃r,nH X r/\r x y H Q
def SL(X:Cx)(x:V)(lo hi:Option Int)(H:Hp)(Q:VK):=∃r,qz X r/\r x lo hi H Q
def MT(X:Cx)(id:String)(x:V)(xs:List V)(H:Hp)(Q:VK):=∃r,Gj X id r/\r x xs H Q
section
variable{X:Cx}{a b c e:Ϧ}{es:List Ϧ}{σ:St}{H:Hp}{Q:VK}{QT:Bool->Hp->Prop}{QA:List V->Hp->Prop}{D:Ends}{pos p apos:Pos}{x:Str}{v:V}
theorem gO:PE X e (EV X e):=λϵ s _ _ _ I h=>h ϵ s I
theorem XQ:PT X e (ET X e):=λϵ s _ _ _ I h=>h ϵ s I
theorem agw:PW X e (EW X e):=λa ϵ s _ _ _ I h=>h a ϵ s I
theorem Ph{o:Option Ϧ}:PO X o (EO X o):=λϵ s σ H Q I ⟨_,h,q⟩=>h ϵ s σ H Q I q
theorem Fw{st:List Ϩ}:Bv X st (Ν X st):=λϵ s _ _ _ I h=>h ϵ s I
theorem my{f:ε->ε->Sem ε}:aM X f (OP X f):=λϵ s σ H x y v u Q I rx ry ⟨_,h,q⟩=>h ϵ s σ H x y v u Q I rx ry q
theorem Xm{f:ε->Sem ε}:xR X f (UN X f):=λϵ s σ H x v Q I rx ⟨_,h,q⟩=>h ϵ s σ H x v Q I rx q
theorem IV{f:ε}:iK X f (CL X f):=λϵ s σ H xs us Q I rx ⟨_,h,q⟩=>h ϵ s σ H xs us Q I rx q
theorem Z0:nH X (IX X):=λa sl ϵ s σ H x y v u Q I rx ry ⟨_,h,q⟩ hs=>h a sl ϵ s σ H x y v u Q I rx ry q hs
theorem Zh:qz X (SL X):=λϵ s σ H x v a c lo hi sl Q I rx hs pl e ⟨_,h,q⟩=>h ϵ s σ H x v a c lo hi sl Q I rx hs pl e q
theorem Zb{id:String}:Gj X id (MT X id):=λϵ s σ H x xs v us Q I rx rs ⟨_,h,q⟩=>h ϵ s σ H x xs v us Q I rx rs q
theorem qi{t:TE}(h:PE X e t)(q:t σ H Q):EV X e σ H Q:=λϵ s I=>h ϵ s σ H Q I q
theorem af0{t:TT}(h:PT X e t)(q:t σ H QT):ET X e σ H QT:=λϵ s I=>h ϵ s σ H QT I q
def eF:List Str->St->Str->Option V
 |n::N,o::σ,x=>if n=x then o else eF N σ x
 |_,_,_=>none
theorem yO:∀{N:List Str}{σ:St}{x:Str}{v:V},eF N σ x=some v->∃i:Nat,N[i]?=some x/\σ[i]?=some (some v)
 |n::N,o::σ,x,v,h=>by
  unfold eF at h;split at h
  .rename_i e;show#[0,by simp[e],by simp[h]]
  .let#[i,h1,h2]:=yO h;show#[i+1,by simpa using h1,by simpa using h2]
 |[],_,_,_,h=>by simp[eF]at h
 |_::_,[],_,_,h=>by simp[eF]at h
def nameAt:List Str->Str->Option Nat
 |n::N,x=>if n=x then some 0 else(nameAt N x).map (· +1)
 |[],_=>none
theorem sW:∀{N:List Str}{x:Str}{i:Nat},nameAt N x=some i->N[i]?=some x
 |n::N,x,i,h=>by
  unfold nameAt at h;split at h
  .rename_i e;cases h;simp[e]
  .cases q:nameAt N x with
   |none=>rw[q]at h;cases h
   |some j=>
    rw[q]at h;cases h;simpa using sW q
 |[],_,_,h=>by simp[nameAt]at h
theorem ahV(c:eF X.N σ x=some v)(e:qR X.env.scope x)(q:Q v H)(hd:(x==("__debug__":Str))=false)(a:(x==("__classdict__":Str))=false):EV X (.Name x pos) σ H Q:=by
 let#[i,h1,h2]:=yO c;show qi (ahy h1 e hd a) #[v,h2,q]
def Gc(mg:Str->Option ε)(x:Str)(v:V):=∃u,mg x=some u/\RelV v u
theorem Yl(g:Gc X.mg x v)(a:Gl X x)(q:Q v H)(hd:(x==("__debug__":Str))=false):EV X (.Name x pos) σ H Q:=by
 let#[u,h1,h2]:=g;show qi (Mw a h1 h2 hd) q
theorem aeK{T:String}(a:Gl X x)(c:X.mg x=none)(e:bootBuiltins x=some (.type T))(q:Q (.ty T) H)(f:x≠"__name__")(hd:(x==("__debug__":Str))=false):EV X (.Name x pos) σ H Q:=λϵ s I=>gU I a c e #[(.ty T),H,I,rfl,q] f hd
theorem Wo{i:Int}{j}(q:Q (.int i) H):EV X (.Constant (.int i) j pos) σ H Q:=λϵ s I=>wpAny_Constant_int #[.int i,H,I.tok _,#[_,rfl],q]
theorem agP{i:Bool}{j}(q:Q (.bl i) H):EV X (.Constant (.bool i) j pos) σ H Q:=λϵ s I=>Constant_bool #[.bl i,H,I,rfl,q]
theorem agf{j}(q:Q .non H):EV X (.Constant .none j pos) σ H Q:=λϵ s I=>Constant_none #[.non,H,I,rfl,q]
theorem Pa{i:Str}{j}(q:Q (.str i) H):EV X (.Constant (.str i) j pos) σ H Q:=λϵ s I=>Calls.Constant_str #[.str i,H,I.tok _,#[_,rfl],q]
theorem adn{op:Operator}(h:EV X a σ H λx H1=>EV X b σ H1 λy H2=>OP X (binaryOp op) x y H2 Q):EV X (.BinOp a op b pos) σ H Q:=by
 intro ϵ s I;show wpAny_BinOp (CK gO gO I h λv u c x y H2 e rx ry q=>my ϵ c σ H2 x y v u Q e rx ry q)
theorem aeH{op:UnaryOp}(h:EV X a σ H λx H1=>UN X (unaryOp op) x H1 Q):EV X (.UnaryOp op a pos) σ H Q:=by
 intro ϵ s I;show UnaryOp_ (χ (h ϵ s I) λv c ⟨x,H1,e,f,g⟩=>Xm ϵ c σ H1 x v Q e f g)
theorem agk{op:CmpOp}(c:behindInMarks op b=false)(h:EV X a σ H λx H1=>EV X b σ H1 λy H2=>OP X (adL op) x y H2 Q):EV X (.Compare a [op] [b] pos) σ H Q:=by
 intro ϵ s I;show wpAny_Compare1 (CK gO gO I h λv u e x y H2 f rx ry q=>my ϵ e σ H2 x y v u Q f rx ry q) c
theorem ac0{op:CmpOp}(g:behindInMarks op b=false)(h:EV X a σ H λx H1=>EV X b σ H1 λy H2=>OP X (adL op) x y H2 λz f=>∃k,z=.bl k/\QT k f):ET X (.Compare a [op] [b] pos) σ H QT:=by
 intro ϵ s I;show wpAny_isTrue_Compare1 (χ (h ϵ s I) λv i ⟨x,H1,j,l,m⟩=>χ (m ϵ i j) λu n ⟨y,H2,o,p,q⟩=>
  χ (my ϵ n σ H2 x y v u _ o l p q) λc E ⟨z,f,B,C,k,e,D⟩=>?_) g
 subst e;cases C;show agC #[f,B,D]
theorem agy{op f:CmpOp}(o:lastMarks [op,f] [b,c]=false)(h:EV X a σ H λx H1=>EV X b σ H1 λy H2=>OP X (adL op) x y H2 λz g=>∃k,z=.bl k/\(if k=true then EV X c σ g λi j=>OP X (adL f) y i j Q else Q (.bl false) g)):EV X (.Compare a [op,f] [b,c] pos) σ H Q:=by
 intro ϵ s I;show Compare_chain (χ (h ϵ s I) λv p ⟨x,H1,q,B,C⟩=>chain_link (χ (C ϵ p q) λu D ⟨y,H2,E,l,F⟩=>
  χ (my ϵ D σ H2 x y v u _ E B l F) λd G ⟨z,g,m,J,k,e,n⟩=>?_)) o
 subst e;cases J;show agC ?_;cases k with
 |false=>show ite_ff #[.bl false,g,m,rfl,n]
 |true=>show ite_tt (chain_last (χ (n ϵ G m) λi L ⟨z',j,M,O,P⟩=>my ϵ L σ j y z' u i Q M l O P))
theorem aa9{op f:CmpOp}(p:lastMarks [op,f] [b,c]=false)(h:EV X a σ H λx H1=>EV X b σ H1 λy H2=>OP X (adL op) x y H2 λz g=>∃k,z=.bl k/\(if k=true then EV X c σ g λi j=>OP X (adL f) y i j λz' l=>∃k',z'=.bl k'/\QT k' l else ∃k',V.bl false=.bl k'/\QT k' g)):ET X (.Compare a [op,f] [b,c] pos) σ H QT:=by
 intro ϵ s I;show isTrue_chain (χ (h ϵ s I) λv q ⟨x,H1,B,C,D⟩=>test_link (χ (D ϵ q B) λu E ⟨y,H2,F,m,G⟩=>
  χ (my ϵ E σ H2 x y v u _ F C m G) λd J ⟨z,g,n,L,k,e,o⟩=>?_)) p
 subst e;cases L;show agC ?_;cases k with
 |false=>
  let#[k',M,O]:=o;cases M;show ite_ff #[g,n,O]
 |true=>
  show ite_tt (test_last (χ (o ϵ J n) λi P ⟨z',j,Q,R,S⟩=>χ (my ϵ P σ j y z' u i _ Q m R S) λd' s5 T=>?_));let#[z2,l,U,W,k2,Y,Z]:=T;subst Y;cases W;show agC #[l,U,Z]
theorem Gv(c:∀a,isTrue e X.env a=(do let v<-a;standAt e.pos;holding [v] (truthy v)))(h:EV X e σ H λx H'=>∃k,zO X.K x H' k/\QT k H'):ET X e σ H QT:=by
 intro ϵ s I;show isTrue_plain (χ (h ϵ s I) λv f ⟨x,H1,g,i,j⟩=>agx ϵ f σ H1 x v QT g i j) (c _)
theorem Y5(h:ET X a σ H λk H1=>QT (!k) H1):ET X (.UnaryOp .Not a pos) σ H QT:=by
 intro ϵ s I;show isTrue_not (h ϵ s I)
theorem mF(h:EW X e σ H QT):ET X e σ H QT:=af0 agw.pt h
theorem afO{rest:List Ϧ}(h:ET X a σ H λk H1=>if k=true then EW X (.BoolOp .And (b::rest) pos) σ H1 QT else QT false H1):EW X (.BoolOp .And (a::b::rest) pos) σ H QT:=by
 intro g ϵ s I;show isTrue_and (χ (h ϵ s I) λc i j=>?_);let#[H1,e,f]:=j;cases c with
 |true=>show f g ϵ i e
 |false=>show#[H1,e,f]
theorem aax{rest:List Ϧ}(h:ET X a σ H λk H1=>if k=true then QT true H1 else EW X (.BoolOp .Or (b::rest) pos) σ H1 QT):EW X (.BoolOp .Or (a::b::rest) pos) σ H QT:=by
 intro g ϵ s I;show isTrue_or (χ (h ϵ s I) λc i j=>?_);let#[H1,e,f]:=j;cases c with
 |true=>show#[H1,e,f]
 |false=>show f g ϵ i e
theorem Y4(h:ET X a σ H QT):EW X (.BoolOp .And [a] pos) σ H QT:=by
 intro f ϵ s I;show isTrue_and (χ (h ϵ s I) λc g e=>?_);cases c with
 |true=>show isTrue_and_nil e
 |false=>show e
theorem aaS(h:ET X a σ H QT):EW X (.BoolOp .Or [a] pos) σ H QT:=by
 intro f ϵ s I;show isTrue_or (χ (h ϵ s I) λc g e=>?_);cases c with
 |false=>show isTrue_or_nil e
 |true=>show e
theorem Ig{op}(h:EV X a σ H Q):EV X (.BoolOp op [a] pos) σ H Q:=λϵ s I=>BoolOp_one (h ϵ s I)
theorem aar{rest:List Ϧ}(h:EV X a σ H λx H1=>∃k,x=.bl k/\if k=true then EV X (.BoolOp .And (b::rest) pos) σ H1 Q else Q (.bl false) H1):EV X (.BoolOp .And (a::b::rest) pos) σ H Q:=by
 intro ϵ s I;show BoolOp_and (χ (h ϵ s I) λv g i=>?_);let#[x,H1,f,j,e]:=i;let#[c,rfl,e]:=e;cases j;show agC ?_;cases c with
 |true=>show e ϵ g f
 |false=>show#[.bl false,H1,f,rfl,e]
theorem Wb{rest:List Ϧ}(h:EV X a σ H λx H1=>∃k,x=.bl k/\if k=true then Q (.bl true) H1 else EV X (.BoolOp .Or (b::rest) pos) σ H1 Q):EV X (.BoolOp .Or (a::b::rest) pos) σ H Q:=by
 intro ϵ s I;show BoolOp_or (χ (h ϵ s I) λv g i=>?_);let#[x,H1,f,j,e]:=i;let#[c,rfl,e]:=e;cases j;show agC ?_;cases c with
 |false=>show e ϵ g f
 |true=>show#[.bl true,H1,f,rfl,e]
theorem YJ(h:EV X a σ H λx H1=>∃k,x=.bl k/\Q (.bl (!k)) H1):EV X (.UnaryOp .Not a pos) σ H Q:=by
 intro ϵ s I;show UnaryOp_ (χ (h ϵ s I) λv j f=>?_);let#[x,H1,g,i,e]:=f;let#[c,rfl,e]:=e;cases i;show not_of (agC #[.bl (!c),H1,g,rfl,e])
theorem abv(h:ET X c σ H λk H1=>if k=true then EV X a σ H1 Q else EV X b σ H1 Q):EV X (.IfExp c a b pos) σ H Q:=by
 intro ϵ s I;show wpAny_IfExp (χ (h ϵ s I) λd e i=>?_);let#[H1,f,g]:=i;cases d with
 |true=>show g ϵ e f
 |false=>show g ϵ e f
theorem jy(q:QA [] H):EA X [] σ H QA:=λpos ϵ s I=>Calls.spliced_nil #[[],H,I,.nil,q]
theorem dN(hs:ϴ (e::es) X.env=(false,eval e X.env)::ϴ es X.env)(h:EV X e σ H λx H1=>EA X es σ H1 λxs H2=>QA (x::xs) H2):EA X (e::es) σ H QA:=by
 intro pos ϵ s I;rw[hs];show ν _ _ (spliced ((false,eval e X.env)::backTo pos (ϴ es X.env))) _ _ s;show Calls.spliced_cons (χ (h ϵ s I) λu a c=>?_);let#[x,H1,f,g,i]:=c;show χ (i pos ϵ a f) λus n ⟨xs,H2,j,l,m⟩=>#[x::xs,H2,j,.cons g l,m]
theorem PX{x1}(h:EA X es σ H λxs H1=>xs.length<=ϰ/\∀p,H1 p=none->Q (.ref p) (upd H1 p (.tup xs))):EV X (.Tuple es x1 pos) σ H Q:=by
 intro ϵ s I;show wpAny_Tuple_spliced (χ (h pos ϵ s I) λus a ⟨xs,H1,c,r,z,q⟩=>#[by rw[<-r.length];show z,?_]);let f:H1 a.heap.objs.size=none:=c.hok.fresh (Ϭ _);show#[.ref a.heap.objs.size,upd H1 a.heap.objs.size (.tup xs),c.laid (t':=a.toks) (λb u e=>ϲ _ e) (Ϭ _) ?_,rfl,q _ f];show#[z,us,r,#[_,ab7 _ rfl,rfl,_,rfl]]
theorem ahs(h:EA X es σ H λxs H1=>xs.length<=ϰ/\∀p,H1 p=none->Q (.ref p) (upd H1 p (.lst xs))):EV X (.List es pos) σ H Q:=by
 intro ϵ s I;show wpAny_List_spliced (χ (h pos ϵ s I) λus a ⟨xs,H1,c,r,z,q⟩=>#[by rw[<-r.length];show z,?_]);let f:H1 a.heap.objs.size=none:=c.hok.fresh (Ϭ _);show#[.ref a.heap.objs.size,upd H1 a.heap.objs.size (.lst xs),c.laid (t':=a.toks) (λb u e=>ϲ _ e) (Ϭ _) ?_,rfl,q _ f];show#[z,us,0,r,ab7 _ rfl]
theorem ab2{id:String}(f:Gl X x)(g:X.mg x=none)(i:bootBuiltins x=some (.builtin id))(j:x≠"__name__")(a:(x==("__debug__":Str))=false)(l:ϴ (e::es) X.env=(false,eval e X.env)::ϴ es X.env)(c:(backTo pos (ϴ es X.env)).any (·.1)=false)(h:EA X (e::es) σ H λvs H1=>CL X (.builtin id) vs H1 Q):EV X (.Call (.Name x p) (e::es) [] pos) σ H Q:=by
 intro ϵ s I;show ai2 (gU I f g i ?_ j a);show PyProof.Rows.callWith_builtin1 (χ (h pos ϵ s I) λus m ⟨vs,H1,n,o,q⟩=>IV ϵ m σ H1 vs us Q n o q) l c
theorem acK{T:String}(f:Gl X x)(g:X.mg x=none)(i:bootBuiltins x=some (.type T))(j:x≠"__name__")(a:(x==("__debug__":Str))=false)(l:ϴ (e::es) X.env=(false,eval e X.env)::ϴ es X.env)(c:(backTo pos (ϴ es X.env)).any (·.1)=false)(h:EA X (e::es) σ H λvs H1=>CL X (.type T) vs H1 Q):EV X (.Call (.Name x p) (e::es) [] pos) σ H Q:=by
 intro ϵ s I;show ai2 (gU I f g i ?_ j a);show PyProof.Rows.callWith_type1 (χ (h pos ϵ s I) λus m ⟨vs,H1,n,o,q⟩=>IV ϵ m σ H1 vs us Q n o q) l c
structure Def(P:Ϯ)(w:ϭ)(K:ϩ)(mg:Str->Option ε)(base:ϫ)(cc:Bool)(k:Nat)(x:Str)(ps:List Str)(sp:Sp):Prop where
 ex:∃f fd,mg x=some (.ref f)/\alz K (.ref f)=true/\Binds K fd ps []/\cG P w K mg base (bU P w) cc k f fd ps sp
theorem ϔ.rD{cc bx:Bool}{k:Nat}{A:ϱ}(r:ϔ cc k A)(h:bx=true->cc=true):ϔ bx k A:=#[λz=>r.hd (h z),r.dp,r.un]
theorem aaj{Kx:St->XK}{cc bx:Bool}{k k':Nat}{ps:List Str}{sp:Sp}(F:Def X.prog X.w X.K X.mg X.base bx k x ps sp)(j:ϔ cc k' X.A)(l:k<=k')(a:bx=true->cc=true)(m:Gl X x)(n:bY X Kx)(c:(x==("__debug__":Str))=false)(o:ϴ (e::es) X.env=(false,eval e X.env)::ϴ es X.env)(g:(backTo pos (ϴ es X.env)).any (·.1)=false)(h:EA X (e::es) σ H λvs H1=>sp vs H1 Q (Kx σ)):EV X (.Call (.Name x p) (e::es) [] pos) σ H Q:=by
 let#[f,fd,h1,h2,u,v]:=F.ex;intro ϵ s I;show ai2 (xu I m h1 ?_ c);show amJ (h₀:=X.base) I.ok.mod.kin h2 (χ (h pos ϵ s I) λus y ⟨vs,H1,i,r,q⟩=>#[i.kIn,?_]) o g;show rQ v ((j.mono l).rD a) u n i r q
theorem ahM(hs:agU b)(h:EV X a σ H λx H1=>EV X b σ H1 λy H2=>IX X x y H2 Q):EV X (.Subscript a b pos) σ H Q:=by
 intro ϵ s I;show Subscript_ (CK gO gO I h λv u c x y H2 e rx ry q=>Z0 a b ϵ c σ H2 x y v u Q e rx ry q (hs _ _))
theorem abo{QO:Option Int->Hp->Prop}(q:QO none H):EO X none σ H QO:=#[_,Zx,q]
theorem Xv{QO:Option Int->Hp->Prop}(q:EV X e σ H λx H1=>∃i,x=.int i/\QO (some i) H1):EO X (some e) σ H QO:=#[_,ain gO,q]
theorem agG{lo hi:Option Ϧ}{p2:Pos}(h:EV X a σ H λx H1=>EO X lo σ H1 λl H2=>EO X hi σ H2 λu e=>SL X x l u e Q):EV X (.Subscript a (.Slice lo hi none p2) pos) σ H Q:=by
 intro ϵ s I;show Subscript_ (χ (h ϵ s I) λv j i=>?_);let#[x,H1,m,n,o]:=i;show wpAny_Slice (χ (Ph ϵ j σ H1 _ m o) λf p ⟨l,H2,y,pl,z⟩=>χ (Ph ϵ p σ H2 _ y z) λg c i=>?_);let#[u,e,B,C,D]:=i;rw[evalPart_none];show ϯ ?_;let E:Inv X ϵ σ e {c with heap:=c.heap.push {cls:=.type "slice",data:=.fields #v[f,g,.none]}}:=B.kept (t':=c.toks) λb L q=>ϲ _ q
 let#[T,id,F,G,J]:=Zh ϵ {c with heap:=c.heap.push {cls:=.type "slice",data:=.fields #v[f,g,.none]}} σ e x v f g l u c.heap.objs.size Q E n (Heap.IsSliceOf.new ..) pl C D;show ν (ϧ X.prog X.w) X.A (subscriptTail a (.Slice lo hi none p2) v (.ref c.heap.objs.size)) (EP X ϵ σ Q) X.xe {c with heap:=c.heap.push {cls:=.type "slice",data:=.fields #v[f,g,.none]}};show tail_any (ops:=[.ref c.heap.objs.size,v]) G F J (by with_unfolding_all rfl)
theorem dC{T id:String}{name:Str}(o:PlainAttrs T)(slot:Slot T name id)(j:typeOf (.builtin id)=pure (.type "method_descriptor"))(f:attributeBase a name X.env (eval a X.env)=eval a X.env:=by rfl)(i:((backTo pos (ϴ (e::es) X.env)).all (λx=> !x.1)&&(backToKw pos (keywordEach [] X.env)).all (λx=>x.1.isSome)
   &&decide ((e::es).length+([]:List Keyword).length+(if([]:List Keyword).isEmpty then 0 else 1)<30))=true:=by rfl)(g:(apos.endLine==pos.line)=true:=by rfl)(hs:ϴ (e::es) X.env=(false,eval e X.env)::ϴ es X.env:=by rfl)(c:(backTo pos (ϴ es X.env)).any (·.1)=false:=by rfl)(h:EV X a σ H λx H1=>pZ X.K T x H1/\EA X (e::es) σ H1 λxs H2=>MT X id x xs H2 Q):EV X (.Call (.Attribute a name apos) (e::es) [] pos) σ H Q:=by
 intro ϵ s I;show wpAny_Call_method_late f i g rfl (χ (h ϵ s I) λv p q=>?_);let#[x,H1,l,m,ty,u]:=q;let#[h1,h2]:=agK l m ty;show#[T,id,o,slot,j,h1,h2,?_];let n:=u pos ϵ p l;rw[hs]at n⊢;show Calls.callWith_builtin (by show(false||(backTo pos (ϴ es X.env)).any (·.1))=false;rw[c]<;>rfl) (Calls.evalArgs_plain ?_);show χ n λus y ⟨vs,H2,z,B,C⟩=>Zb ϵ y σ H2 x vs v us Q z m B C
theorem Ζ(q:D.nx σ H):Ν X [] D σ H:=λϵ s I=>wpAny_execs_nil #[σ,H,I,q]
theorem Nq{st:Ϩ}{rest:List Ϩ}(h:SX X st {D with nx:=λσ' H'=>Ν X rest D σ' H'} σ H):Ν X (st::rest) D σ H:=by
 intro ϵ s I;show wpAny_execs_cons (χ (h ϵ s I) λf a q=>?_);cases f with
 |next=>
  let#[σ',H',c,q]:=q;show q ϵ a c
 |ret v=>show q
 |brk=>show q
 |cont=>show q
theorem ahf{st:Ϩ}(h:SX X st D σ H):Ν X [st] D σ H:=by
 intro ϵ s I;show wpAny_execs_cons (χ (h ϵ s I) λf a q=>?_);cases f with
 |next=>show wpAny_execs_nil q
 |ret v=>show q
 |brk=>show q
 |cont=>show q
theorem bA(h:EV X e σ H λ_ H1=>D.nx σ H1)(hs:alr e none pos.line X.env=pure false:=by rfl):SX X (.Expr e pos) D σ H:=by
 intro ϵ s I;show wpAny_Expr_any (χ (h ϵ s I) λv f ⟨x,H1,a,g,c⟩=>#[σ,H1,a,c]) I.quiet hs
theorem ω(h:EV X e σ H D.rt):SX X (.Return (some e) pos) D σ H:=by
 intro ϵ s I;show wpAny_Return_some (χ (h ϵ s I) λv g ⟨x,H1,a,c,f⟩=>#[x,σ,H1,a,c,f])
theorem Κ{t u:List Ϩ}(h:ET X c σ H λk H1=>if k=true then Ν X t D σ H1 else Ν X u D σ H1):SX X (.If c t u pos) D σ H:=by
 intro ϵ s I;show wpAny_If (χ (h ϵ s I) λd a g=>?_);let#[H1,e,f]:=g;cases d with
 |true=>show f ϵ a e
 |false=>show f ϵ a e
theorem agc{i:Nat}{p':Pos}(a:X.N.Nodup)(hi:nameAt X.N x=some i)(c:Loc X.env.scope x)(hs:alr e (some (.Name x p')) pos.line X.env=pure false)(f:X.fn x=true\/X.env.scope.names.lookup x=some .local)(h:EV X e σ H λv H1=>D.nx (σ.set i (some v)) H1):SX X (.Assign [.Name x p'] e pos) D σ H:=by
 intro ϵ s I;show wpAny_Assign_Name (χ (h ϵ s I) λv o g=>?_) hs;let#[y,H1,j,l,m]:=g;show Ox j a (sW hi) c l (λp n=>#[_,H1,n,m]) f
theorem Β{i:Nat}{QG:St->Hp->Prop}(a:X.N.Nodup)(hi:nameAt X.N x=some i)(c:Loc X.env.scope x)(e:X.fn x=true\/X.env.scope.names.lookup x=some .local)(q:QG (σ.set i (some v)) H):EG X (.Name x pos) v σ H QG:=by
 intro ϵ s u I r;show wpAny_assign_Name (Ox I a (sW hi) c r (λs' f=>#[_,H,f,q]) e)
theorem aj{QG:St->Hp->Prop}(q:QG σ H):rZ X [] [] σ H QG:=by
 intro ϵ s us I r;cases r;show assignInOrder_nil #[σ,H,I,q]
theorem Ε{a:List Ϧ}{vs:List V}{QG:St->Hp->Prop}(h:EG X e v σ H λσ' H'=>rZ X a vs σ' H' QG)(hs:(assignEach (e::a) X.env).map (·.2)=assign e X.env::(assignEach a X.env).map (·.2):=by rfl):rZ X (e::a) (v::vs) σ H QG:=by
 intro ϵ s us I r;cases r with
 |cons r c=>
  rw[hs];show assignInOrder_cons (χ (h ϵ s _ I r) λ_ f g=>?_);let#[i,H1,j,l]:=g;show l ϵ f _ j c
theorem ao{n:Nat}{k:Nat}{QG:St->Hp->Prop}{q:δ}{xs:List V}(a:ο X.K H q xs)(h:rZ X es xs σ H QG)(g:X.calm=true:=by rfl)(i:(assignEach es X.env).length=n:=by rfl)(c:(assignEach es X.env).findIdx? (·.1)=none:=by rfl)(j:xs.length=n:=by rfl):EG X (.Tuple es k pos) (.ref q) σ H QG:=by
 intro ϵ s u I r;cases r;let#[p,f,a,hz]:=I.tuple a;show assign_Tuple_tuple (I.ok.hd g) a (by simp[i, <-j,f.length]) c λh' l=>?_
 let m:Inv X ϵ σ H {s with heap:=h'}:=I.kept (t':=s.toks) λb o e=>l b o (ac6 (acr e)) e
 show h ϵ _ _ m (by simpa using f)
theorem lD{tg iter:Ϧ}{body:List Ϩ}(B:aj3 (ϧ X.prog X.w) X.A X.env X.xe)(S:X.calm=true)(hs:∀x,foldedSetIterable iter X.env x=pure x)(h:EI X tg iter σ H λJ H1=>∃W:Nat->Nat->St->Hp->Prop,(∃m,W 0 m σ H1)/\∀i m σ H,W i m σ H->
   (J.stop i H/\D.nx σ H)\/(J.go i H/\∃N:St->Hp->Prop,(∀σ' H',N σ' H'->∃m',m'<m/\W (i+1) m' σ' H')/\∀x H',J.yld i H x H'->EG X tg x σ H' λL H2=>Ν X body {D with nx:=N,ct:=N,bk:=D.nx} L H2)):SX X (.For tg iter body [] pos) D σ H:=by
 intro ϵ s I;show wpAny_For (χ (h ϵ s I) λv s1 h1=>χ h1 λitv s2 h2=>?_) hs;let#[it,fp,U,J,H2,e,I2,T,M,Y,W,#[m0,w0],turn]:=h2;subst e;let c:∀{H':Hp},(∀b∈fp,H' b=none)->∀b∈fp,aY X ϵ H' b:=λhn b l=>#[hn b l,(Y b l).2]
 show codeAny_forLoop_any (λn s'=>∃i σ' H',Inv X ϵ σ' H' s'/\U i s'.heap/\(∀b∈fp,H' b=none)/\W i n σ' H') ?_ m0 #[0,σ,H2,I2,M,λb l=>(Y b l).1,w0]
 rintro n Z ⟨i,p,G,I3,C,E,w3⟩
 obtain⟨stop,qn⟩|⟨go,N,hN,step⟩:=turn i n p G w3
 .show ajl B (χ (T.done X rfl rfl rfl S i ϵ Z p G X.xe I3 (c E) C stop) λr s4 y=>?_);let#[O,I4]:=y;subst O;show wpAny_execs_nil #[p,G,I4,qn]
 .show ajl B (χ (T.item X rfl rfl rfl S i ϵ Z p G X.xe I3 (c E) C go) λr s4 y=>?_);let#[u,O,h4]:=y;subst O;show ajl B (χ h4 λ_ s5 y=>?_);let#[x,H5,I5,r5,y5,z,P]:=y;let Q:=I5.pinned (c P) (T.obj _ _ z);show ajl B (χ ((step x H5 y5) _ s5 u Q r5) λ_ s6 y=>?_);let#[σ6,H6,I6,q6]:=y;show ajl B (χ (q6 _ s6 I6) λf R q=>?_);let again:∀{a:St}{g:Hp},Inv X (ϵ++fU fp s5.heap) a g R->N a g->∃m,m<n/\∃i σ' H',Inv X ϵ σ' H' R/\U i R.heap/\(∀b∈fp,H' b=none)/\W i m σ' H':=λ{a g} j F=>by
   let#[m',hm,w7]:=hN a g F;show#[m',hm,i+1,a,g,j.unpinned,T.keep _ _ _ z λb l o e=>(j.pin (b,o) (adW _ (adW _ (vJ l e)))).1,λb l=>?_,w7];let#[o,e,d]:=T.obj _ _ z b l;show(j.pin (b,o) (adW _ (adW _ (vJ l e)))).2.1
  cases f with
  |next=>let#[a,g,j,F]:=q;show again j F
  |cont=>let#[a,g,j,F]:=q;show again j F
  |brk=>let#[a,g,j,q]:=q;show#[a,g,j.unpinned,q]
  |ret v=>let#[x7,a,g,j,r7,q]:=q;show#[x7,a,g,j.unpinned,r7,q]
theorem oH{tg l:Ϧ}{R:It->Hp->Prop}(h:EV X l σ H λx H1=>∃a,x=.ref a/\(∃xs,η X.K H1 a xs)/\R (iY X.K a) H1):EI X tg l σ H R:=by
 intro ϵ s I;show χ (h ϵ s I) λv c g=>?_
 let#[x,H1,f,i,j]:=g;let#[a,e,#[xs,m],q]:=j;subst e;cases i;let#[u,y,p,hz]:=f.list m;show ajD p.isList ?_;show#[c.heap.objs.size,[c.heap.objs.size],_,_,H1,rfl,f.kept (t':=c.toks) λb o e=>ϲ _ e,Yt a _,#[_,ab7 _ rfl,rfl,rfl],λb n=>?_,q];let e:b=c.heap.objs.size:=by simpa using n
 subst e;show f.fpOk (Ϭ _) (f.hok.fresh (Ϭ _))
theorem abZ{tg l:Ϧ}{R:It->Hp->Prop}(h:EV X l σ H λx H1=>∃a,x=.ref a/\(∃xs,ο X.K H1 a xs)/\R (oW X.K a) H1):EI X tg l σ H R:=by
 intro ϵ s I;show χ (h ϵ s I) λv c g=>?_
 let#[x,H1,f,i,j]:=g;let#[a,e,#[xs,m],q]:=j;subst e;cases i;let#[n,y,p,hz]:=f.tuple m;show wpAny_pyIter_tuple (show c.heap.IsTuple a n.toArray from p) ?_;show#[c.heap.objs.size,[c.heap.objs.size],_,_,H1,rfl,f.kept (t':=c.toks) λb o e=>ϲ _ e,aae a _,#[_,ab7 _ rfl,rfl,rfl],λb u=>?_,q];let e:b=c.heap.objs.size:=by simpa using u
 subst e;show f.fpOk (Ϭ _) (f.hok.fresh (Ϭ _))
theorem Xq{tg:Ϧ}{R:It->Hp->Prop}(f:Gl X "range")(g:X.mg "range"=none)(hs:ϴ [a] X.env=[(false,eval a X.env)])(h:EA X [a] σ H λvs H1=>∃j:Int,vs=[.int j]/\ -(2^62)<=j/\j<2^62/\R (jD 0 j.toNat) H1):EI X tg (.Call (.Name "range" p) [a] [] pos) σ H R:=by
 intro ϵ s I;show Call_ (gU I f g boot_range (PyProof.Rows.callWith_type1 (χ (h pos ϵ s I) λus u i=>?_) hs rfl));let#[vs,H1,l,m,c]:=i;let#[j,e,c,n,q]:=c;subst e;cases m with
 |cons r o=>
  cases o;let#[t,rfl]:=r;show call_range_1 (Xc l () () c n (by simpa using q))
theorem az{Q':VK}(h:EV X e σ H Q)(m:∀v H',Q v H'->Q' v H'):EV X e σ H Q':=λϵ s I=>χ (h ϵ s I) λ_ _ ⟨v,H',a,r,q⟩=>#[v,H',a,r,m v H' q]
theorem bf{f:ε->ε->Sem ε}{r:R2}{y z:V}(h:aM X f r)(q:r y z H Q):OP X f y z H Q:=#[r,h,q]
variable{i j:Int}{k k':Bool}{z z':Str}
theorem afc(q:Q (.int (i+j)) H):OP X (binaryOp .Add) (.int i) (.int j) H Q:=bf afw #[i,j,rfl,rfl,q]
theorem agB(q:Q (.int (i-j)) H):OP X (binaryOp .Sub) (.int i) (.int j) H Q:=bf aek #[i,j,rfl,rfl,q]
theorem aeA(c:vd i j)(q:Q (.int (i*j)) H):OP X (binaryOp .Mult) (.int i) (.int j) H Q:=bf ahX #[i,j,rfl,rfl,c,q]
theorem afS(c:Js i j)(q:Q (.int (i / j)) H):OP X (binaryOp .FloorDiv) (.int i) (.int j) H Q:=bf adp #[i,j,rfl,rfl,c,q]
theorem acE(c:0<j)(q:Q (.int (i % j)) H):OP X (binaryOp .Mod) (.int i) (.int j) H Q:=bf Z8 #[i,j,rfl,rfl,c,q]
theorem adv(q:Q (.bl (decide (i<j))) H):OP X (adL .Lt) (.int i) (.int j) H Q:=bf abI #[i,j,rfl,rfl,q]
theorem abC(q:Q (.bl (decide (i<=j))) H):OP X (adL .LtE) (.int i) (.int j) H Q:=bf YF #[i,j,rfl,rfl,q]
theorem WY(q:Q (.bl (decide (j<i))) H):OP X (adL .Gt) (.int i) (.int j) H Q:=bf ahj #[i,j,rfl,rfl,q]
theorem afV(q:Q (.bl (decide (j<=i))) H):OP X (adL .GtE) (.int i) (.int j) H Q:=bf ZR #[i,j,rfl,rfl,q]
theorem Az{y z:V}(s:rH y z=true)(q:Q (.bl (decide (y=z))) H):OP X (adL .Eq) y z H Q:=bf WM #[s,q]
theorem Bf{y z:V}(s:rH y z=true)(q:Q (.bl (!decide (y=z))) H):OP X (adL .NotEq) y z H Q:=bf X8 #[s,q]
theorem aej(q:Q (.bl (decide (z.cps.toList<z'.cps.toList))) H):OP X (adL .Lt) (.str z) (.str z') H Q:=bf Wr #[z,z',rfl,rfl,q]
theorem abx(q:Q (.bl (!(Builtin.Str.occurrences z' z 0 z'.length 1).isEmpty)) H):OP X (adL .In) (.str z) (.str z') H Q:=bf adt #[z,z',rfl,rfl,q]
theorem aeo{y:V}(q:Q (.bl (decide (y=.non))) H):OP X (adL .Is) y .non H Q:=bf acj #[rfl,q]
theorem Z1{y:V}(q:Q (.bl (!decide (y=.non))) H):OP X (adL .IsNot) y .non H Q:=bf aa2 #[rfl,q]
theorem jH(c:z.length+z'.length<=ϰ)(q:Q (.str (z++z')) H):OP X (binaryOp .Add) (.str z) (.str z') H Q:=bf acO #[z,z',rfl,rfl,c,q]
theorem Wa(q:Q (.int (-i)) H):UN X (unaryOp .USub) (.int i) H Q:=#[_,Zj,i,rfl,q]
theorem dZ{f:ε}{r:List V->Hp->VK->Prop}{vs:List V}(h:iK X f r)(q:r vs H Q):CL X f vs H Q:=#[r,h,q]
theorem zB{q:δ}{ys:List V}(h:η X.K H q ys\/ο X.K H q ys)(g:Q (.int ys.length) H):CL X (.builtin "len") [.ref q] H Q:=dZ ac5 #[q,ys,rfl,h,g]
theorem aby(h:z.length<=ϰ)(g:Q (.int z.length) H):CL X (.builtin "len") [.str z] H Q:=dZ Wf #[z,rfl,h,g]
theorem zq(g:Q (.int (if j<i then j else i)) H)(a:X.calm=true:=by rfl):CL X (.builtin "min") [.int i,.int j] H Q:=dZ (afs a) #[i,j,rfl,g]
theorem Dq(g:Q (.int (if j>i then j else i)) H)(a:X.calm=true:=by rfl):CL X (.builtin "max") [.int i,.int j] H Q:=dZ (Xb a) #[i,j,rfl,g]
theorem qC(h:i.natAbs.log2<1920)(g:Q (.str (toString i)) H):CL X (.type "str") [.int i] H Q:=dZ Zn #[i,rfl,h,g]
theorem iW{q:δ}{ys:List V}(h:η X.K H q ys\/ο X.K H q ys)(g:∀l,H l=none->Q (.ref l) (upd H l (.lst ys))):CL X (.type "list") [.ref q] H Q:=dZ agp #[q,ys,rfl,h,g]
theorem uK{r:R2}{y z:V}(h:nH X r)(q:r y z H Q):IX X y z H Q:=#[r,h,q]
theorem ϥ{q:δ}{xs:List V}(h:η X.K H q xs)(e:Χ xs i=some v)(g:Q v H):IX X (.ref q) (.int i) H Q:=uK aa6 #[q,xs,i,v,rfl,rfl,h,e,g]
theorem ύ{q:δ}{xs:List V}(h:ο X.K H q xs)(e:Χ xs i=some v)(g:Q v H):IX X (.ref q) (.int i) H Q:=uK abT #[q,xs,i,v,rfl,rfl,h,e,g]
theorem xG{n:Nat}(h:z.length<=ϰ)(e:Χ z.cps.toList i=some n)(g:Q (.str #[#v[n]]) H):IX X (.str z) (.int i) H Q:=uK abM #[z,i,n,rfl,rfl,h,e,g]
theorem jX{q:δ}{xs:List V}{lo hi:Option Int}(h:η X.K H q xs)(g:∀p,H p=none->Q (.ref p) (upd H p (.lst (bu xs lo hi)))):SL X (.ref q) lo hi H Q:=#[_,Z6,q,xs,rfl,h,g]
theorem abO{q:δ}{xs:List V}{lo hi:Option Int}(h:ο X.K H q xs)(n:¬(HT.Α xs.length 0 lo=0/\HT.Α xs.length xs.length hi=xs.length))(g:∀p,H p=none->Q (.ref p) (upd H p (.tup (bu xs lo hi)))):SL X (.ref q) lo hi H Q:=#[_,adV,q,xs,rfl,h,n,g]
theorem W6{y:V}{t:ε}{T:String}(ty:cX X.K H y t)(e:am2 X.K t (.type T)=some k)(g:Q (.bl k) H):CL X (.builtin "isinstance") [y,.ty T] H Q:=by
 show#[λxs H Q=>∃y t T k,xs=[y,.ty T]/\cX X.K H y t/\am2 X.K t (.type T)=some k/\Q (.bl k) H,?_,y,t,T,k,rfl,ty,e,g];intro ϵ s σ H xs us Q I r h;let#[y,t,T,k,rfl,ty,e,g]:=h;let#[i,a,rfl,c,f]:=vals2 r;cases(show a=Value.type T from f);show afD I c ty e λtk=>#[.bl k,H,I.tok tk,rfl,g]
end
def Li(x:Str):It:=#[λi _=>i<x.cps.size,λi H v H'=>H'=H/\∃c,x.cps[i]?=some c/\v=.str #[#v[c]],λi _=>x.cps.size<=i]
theorem aer{P:Ϯ}{w:ϭ}{K:PySem.W.Frag}{tg:Ϧ}{T:String}(l:T="str_ascii_iterator"\/T="str_iterator")(it:δ)(x:Str)(t:Tok):Turn P w K tg (Li x) [it] it (λi h=>h.IsStrIter it T x t i)where
 mem:=by simp
 obj:=λi h st b a=>by
  let e:b=it:=by simpa using a
  subst e;let#[o,e,c,d]:=st;show#[o,e,λv z=>by rw[d]at z;cases z]
 keep:=λi h h' st k=>by
  let#[o,e,c,d]:=st;show#[o,k it (by simp) o e,c,d]
 item:=by
  intro X D F G g i ϵ s σ H E I m st J;subst D F G;let#[p,q,M,y,B,C]:=m it (by simp);let f:i<x.cps.size:=J;let O:∃W:Nat->ϫ->Prop,Walks X.prog X.w X.A it [it] [it] x.cps.size (SignAt x) W/\W=λi h=>h.IsStrIter it T x t i:=by
   obtain rfl|rfl:=l
   .show#[_,Walks.strAscii (I.ok.hd g) it x t,rfl]
   .show#[_,Walks.strWide (I.ok.hd g) it x t,rfl]
  let#[_,W,rfl]:=O;show W.item i s _ _ f st λv h' tk Q j kk=>?_
  let#[c,u,e1,rfl]:=Q;let R:Inv X ϵ σ H {s with heap:=h',toks:=tk}:=I.turned (λb o a e=>kk b o (by simpa using a) e) p q y B C;let#[o,e,S,d]:=id j;show#[_,rfl,rW (s:={s with heap:=h',toks:=tk}) (n:=T) e S d (by obtain rfl|rfl:=l<;>decide) ⟨.str ⟨#v[c]⟩,H,R,⟨u,rfl⟩,⟨rfl,c,e1,rfl⟩,j,λb a=>(m b a).1⟩]
 done:=by
  intro X D F G g i ϵ s σ H E I m st J;subst D F G;let#[p,q,M,y,B,C]:=m it (by simp);let f:x.cps[i]?=none:=ai9 J;obtain rfl|rfl:=l
  .show wpAny_pyNext_ascii_end (I.ok.hd g) st f λh' L=>#[rfl,I.turned (t':=s.toks) (λb o a e=>L b o a e) p q y B C]
  .show wpAny_pyNext_wide_end (I.ok.hd g) st f λh' L=>#[rfl,I.turned (t':=s.toks) (λb o a e=>L b o a e) p q y B C]
 self:=λ_ _ _ _ _ st h=>by
  obtain rfl|rfl:=l
  .show wpAny_pyIter_striter_ascii st h
  .show wpAny_pyIter_striter_wide st h
section
variable{X:Cx}{tg l:Ϧ}{σ:St}{H:Hp}{R:It->Hp->Prop}
theorem R1(h:EV X l σ H λx H1=>∃z,x=.str z/\R (Li z) H1):EI X tg l σ H R:=by
 intro ϵ s I;show χ (h ϵ s I) λv a f=>?_
 let#[x,H1,c,g,z,e,q]:=f;subst e;let#[t,rfl]:=g
 let fin:∀T:String,(T="str_ascii_iterator"\/T="str_iterator")->
   vH X ϵ σ tg R (.ref a.heap.objs.size) {a with heap:=a.heap.push {cls:=.type T,data:=.fields #v[.str z t,.int 0 0]}}:=λT i=>by
  show#[a.heap.objs.size,[a.heap.objs.size],_,_,H1,rfl,c.kept (t':=a.toks) λb o e=>ϲ _ e,aer i _ z t,#[_,ab7 _ rfl,rfl,rfl],λb j=>?_,q];let e:b=a.heap.objs.size:=by simpa using j
  subst e;show c.fpOk (Ϭ _) (c.hok.fresh (Ϭ _))
 cases ha:z.cps.all (· <128)
 .show wpAny_pyIter_wide ha (fin _ (.inr rfl))
 .show wpAny_pyIter_ascii ha (fin _ (.inl rfl))
end
def cz(N' N:List Str)(σ:St)(scope:ahw):St:=N'.map λx=>if scope.names.lookup x=some .free then eF N σ x else none
def bQ(X:Cx)(N':List Str)(scope:ahw)(cl:List (Str×δ))(C:δ)(s:μ)(H:Hp)(fp:List δ):Cx:=
 {X with N:=N',s₀:=s,H₀:=H,env:=compEnvC scope cl C X.env,outer:=X.stack,stack:=X.stack,ex:=fp,fn:=λ_=>false,pn:=[],xe:=λ_ _=>False}
def FZ(X:Cx)(ifs:List Ϧ)(σ:St)(H:Hp)(Q:Bool->Hp->Prop):Prop:=
 ∀(ϵ:List (δ×Obj))(s:μ),Inv X ϵ σ H s->
  ν (ϧ X.prog X.w) X.A (forIn ifs true λc r=>if r=true then do let ok<-isTrue c X.env (eval c X.env);pure (ForInStep.yield ok)else pure (ForInStep.yield r)) (TP X ϵ σ Q) X.xe s
theorem Cv(env:Env):∀(names:List (Str×alO))(cs:List (Str×δ)),(∀y∈names,y.2=.free->∃c,env.cells.lookup y.1=some c)->
  (forIn names cs (λ(x:Str×alO)(r:List (Str×δ))=>if(x.2==NameKind.free)=true then do let a<-cellOf env x.1;pure (ForInStep.yield ((x.1,a)::r))else pure (ForInStep.yield r)):Sem (List (Str×δ)))=
   pure (names.foldl (λcs y=>if y.2==.free then(y.1,(env.cells.lookup y.1).getD 0)::cs else cs) cs)
 |[],cs,_=>by simp
 |(n,k)::r,cs,h=>by
  rw[alm];by_cases i:k=.free
  .subst i;let#[c,e]:=h (n,.free) aeh rfl;let l:cellOf env n=pure c:=by
    unfold cellOf;let f:env.cells.lookup n=some c:=e;rw[f]
   simp only[beq_self_eq_true,if_true,l,pure_bind];let f:env.cells.lookup n=some c:=e;rw[Cv env r _ λy g=>h y (adF _ g),ajW];simp only[beq_self_eq_true,if_true,f,anm]
  .let j:(k==NameKind.free)=false:=by simpa using i
   simp only[j,alI,if_false,pure_bind];rw[Cv env r _ λy g=>h y (adF _ g),ajW];simp only[j,alI,if_false]
def ϒ(scope:ahw)(env:Env):List (Str×δ):=scope.names.foldl (λcs y=>if y.2==.free then(y.1,(env.cells.lookup y.1).getD 0)::cs else cs) []
theorem Dg{scope:ahw}{env:Env}(h:∀y∈scope.names,y.2=.free->∃c,env.cells.lookup y.1=some c):closureFor scope env=pure (ϒ scope env):=by
 have:=Cv env scope.names [] h;unfold closureFor ϒ;rw[<-this];simp
theorem U9{env:Env}:∀(names:List (Str×alO))(cs:List (Str×δ)),(∀y∈names,y.2=.free->∃c,env.cells.lookup y.1=some c)->
  ∀x c,(names.foldl (λcs y=>if y.2==.free then(y.1,(env.cells.lookup y.1).getD 0)::cs else cs) cs).lookup x=some c->(env.cells.lookup x=some c\/cs.lookup x=some c)
 |[],cs,_,x,c,e=>.inr e
 |(n,k)::r,cs,h,x,c,e=>by
  rw[ajW]at e;rcases U9 r _ (λy i=>h y (adF _ i)) x c e with q|q
  .show .inl q
  .by_cases f:k=.free
   .subst f;let#[c',j]:=h (n,.free) aeh rfl;let g:env.cells.lookup n=some c':=j;simp only[beq_self_eq_true,if_true,g,anm,agb]at q;cases hx:x==n with
    |true=>
     rw[hx]at q;let a:x=n:=by simpa using hx
     subst a;show .inl (g.trans q)
    |false=>rw[hx]at q;show .inr q
   .let l:(k==NameKind.free)=false:=by simpa using f
    rw[if_neg (by simp[l])]at q;show .inr q
theorem Ff{env:Env}:∀(names:List (Str×alO))(cs:List (Str×δ))(x:Str),((x,NameKind.free)∈names\/∃c,cs.lookup x=some c)->
  ∃c,(names.foldl (λcs y=>if y.2==.free then(y.1,(env.cells.lookup y.1).getD 0)::cs else cs) cs).lookup x=some c
 |[],cs,x,h=>by
  obtain h|h:=h
  .cases h
  .show h
 |(n,k)::r,cs,x,h=>by
  rw[ajW];show Ff r _ x ?_;by_cases a:k=.free
  .subst a;simp only[beq_self_eq_true,if_true,agb];cases hx:x==n with
   |true=>show .inr #[_,rfl]
   |false=>
    obtain h|h:=h
    .obtain h|h:=aaF.mp h
     .cases h;simp at hx
     .show .inl h
    .show .inr h
  .let e:(k==NameKind.free)=false:=by simpa using a
   rw[if_neg (by simp[e])];obtain h|h:=h
   .obtain h|h:=aaF.mp h
    .cases h;show absurd rfl a
    .show .inl h
   .show .inr h
theorem O4{env:Env}{x:Str}:∀{names:List (Str×alO)},names.lookup x=some .free->
  (names.map λ(n,k)=>if(k==NameKind.free&&env.scope.kind==.function&&env.kindOf n==some .cell)then(n,NameKind.cell)else(n,k)).lookup x=some .cell\/
  (names.map λ(n,k)=>if(k==NameKind.free&&env.scope.kind==.function&&env.kindOf n==some .cell)then(n,NameKind.cell)else(n,k)).lookup x=some .free
 |[],h=>by simp at h
 |(n,k')::r,h=>by
  let c:= @O4 env x r;show aia x ((if(k'==NameKind.free&&env.scope.kind==.function&&env.kindOf n==some .cell)=true then(n,NameKind.cell)else(n,k'))::_)=_\/aia x ((if(k'==NameKind.free&&env.scope.kind==.function&&env.kindOf n==some .cell)=true then(n,NameKind.cell)else(n,k'))::_)=_;cases hx:x==n with
  |true=>
   simp only[agb,hx]at h;cases h;by_cases a:(NameKind.free==NameKind.free&&env.scope.kind==.function&&env.kindOf n==some .cell)=true
   .rw[if_pos a];left;simp only[agb,hx]
   .rw[if_neg a];right;simp only[agb,hx]
  |false=>
   simp only[agb,hx]at h;by_cases a:(k'==NameKind.free&&env.scope.kind==.function&&env.kindOf n==some .cell)=true
   .rw[if_pos a];simp only[agb,hx];show c h
   .rw[if_neg a];simp only[agb,hx];show c h
theorem Hq{env:Env}{x:Str}:∀{names:List (Str×alO)},(∀y∈names,y.2≠.cell)->
  ((names.map λ(n,k)=>if(k==NameKind.free&&env.scope.kind==.function&&env.kindOf n==some .cell)then(n,NameKind.cell)else(n,k)).lookup x=some .cell\/
  (names.map λ(n,k)=>if(k==NameKind.free&&env.scope.kind==.function&&env.kindOf n==some .cell)then(n,NameKind.cell)else(n,k)).lookup x=some .free)->(x,NameKind.free)∈names
 |[],_,h=>by simp at h
 |(n,k')::r,c,h=>by
  let f:= @Hq env x r λy g=>c y (adF _ g)
  let h':aia x ((if(k'==NameKind.free&&env.scope.kind==.function&&env.kindOf n==some .cell)=true then(n,NameKind.cell)else(n,k'))::(r.map λ(n,k)=>if(k==NameKind.free&&env.scope.kind==.function&&env.kindOf n==some .cell)then(n,NameKind.cell)else(n,k)))=some .cell\/
   aia x ((if(k'==NameKind.free&&env.scope.kind==.function&&env.kindOf n==some .cell)=true then(n,NameKind.cell)else(n,k'))::(r.map λ(n,k)=>if(k==NameKind.free&&env.scope.kind==.function&&env.kindOf n==some .cell)then(n,NameKind.cell)else(n,k)))=some .free:=h
  cases hx:x==n with
  |true=>
   let e:x=n:=by simpa using hx
   subst e;by_cases a:(k'==NameKind.free&&env.scope.kind==.function&&env.kindOf x==some .cell)=true
   .have :k'=.free:=by simp only[abB]at a;simpa using a.1.1
    subst this;show aeh
   .rw[if_neg a]at h';simp only[agb,hx]at h';obtain h'|h':=h'
    .cases h';show absurd rfl (c (x,.cell) aeh)
    .cases h';show aeh
  |false=>
   show adF _ (f ?_);by_cases a:(k'==NameKind.free&&env.scope.kind==.function&&env.kindOf n==some .cell)=true
   .rw[if_pos a]at h';simpa only[agb,hx]using h'
   .rw[if_neg a]at h';simpa only[agb,hx]using h'
theorem aaA{prog:Ϯ}{w:ϭ}{A:ϱ}{R:Result->μ->Prop}{s:μ}{elt a iter:Ϧ}{ifs:List Ϧ}{scope:ahw}{pos:Pos}{it q:ε}{env:Env}(I:Nat->μ->Prop){Er:ε->μ->Prop}(y:∀x s,Er x s->notedBy (ϧ prog w) A env (λx s'=>R (.error x) s') x s)(turn:∀n s,I n s->ν (ϧ prog w) A (pyNext it) (λr e=>match r with
   |none=>R (.ok .next) e
   |some v=>ν (ϧ prog w) A (letOwnedTupleGo a it v) (λ_ f=>ν (ϧ prog w) A (assign a env v) (λ_ i=>
    ν (ϧ prog w) A (forIn ifs true λc r=>if r=true then do let ok<-isTrue c env (eval c env);pure (ForInStep.yield ok)else pure (ForInStep.yield r)) (λok g=>
     if ok=true then ν (ϧ prog w) A (eval elt env) (λx j=>
      ν (ϧ prog w) A (call (.builtin "list.append") [q,x]) (λ_ l=>∃m,m<n/\I m l) Er j) Er g
     else ∃m,m<n/\I m g) Er i) Er f) Er e) Er s)(n:Nat)(h:I n s):codeAny (ϧ prog w) A (.compLoop (.ListComp elt [#[a,iter,ifs,0]] scope pos) 0 it q env) R s:=by
 show codeAny_loop rfl I (λn s D=>?_) n h;show ν _ A ((compTurn (.ListComp elt [#[a,iter,ifs,0]] scope pos) 0 it q env).onRaise (λx=>do noteFrame x env;theTreesLotGoes x)) _ _ s;show wpAny_noted ?_;rw[compTurn_list];show π (wpAny_standAt (π (adR (turn n s D) (λr e o=>?_) y)));cases r with
 |none=>show ϯ o
 |some v=>
  show π (adR o (λ_ f u=>?_) y);show π (adR u (λ_ i z=>π (adR z (λok g p=>?_) y)) y);cases ok with
  |false=>show ϯ #[rfl,p]
  |true=>
   show π (π (adR p (λx j B=>π (adR B (λ_ l C=>ϯ (ϯ #[rfl,C])) y)) y))
def rm(M:Model)(A:ϱ)(E:ε->μ->Prop)(use:Option (ε->Sem Unit))(Q:ε->μ->Prop)(c:ε)(C:Env)(r:Result)(s':μ):Prop:=
 match r,use with
 |.ok _,none=>∃m,s'.heap.Ns C.locals m/\∀h',ajr C.locals s'.heap h'->Q c {s' with heap:=h'}
 |.ok _,some u=>ν M A (u c) (λ_ a=>∃m,a.heap.Ns C.locals m/\∀h',ajr C.locals a.heap h'->Q .none {a with heap:=h'}) E s'
 |.error x,_=>∃m,s'.heap.Ns C.locals m/\∀h',ajr C.locals s'.heap h'->ν M A (passOn "comprehension.variables-let-go" x C:Sem ε) (λ_ _=>False) E {s' with heap:=h'}
theorem yQ{M:Model}{A:ϱ}{E:ε->μ->Prop}{s:μ}{env:Env}{e:Ϧ}{scope:ahw}{pos:Pos}{c first:Sem ε}{g:Comprehension}{R:List Comprehension}{cl:List (Str×δ)}{use:Option (ε->Sem Unit)}{Q:ε->μ->Prop}(L:clausesOf e=g::R)(hs:∀x,foldedSetIterable g.iter env x=pure x)(q:closureFor scope env=pure cl)(a:scope.kind=.function)(j:∀x∈scope.names,x.2=.local->scope.names.lookup x.1=some .local)(h:ν M A first (λx l=>ν M A (pyIter x) (λit n=>ν M A c (λv o=>ν M A (newFunctionEnv scope env.globals cl [] env.qual none .none (some env)) (λcenv p=>
   codeAny M A (.compStart e 0 it v {cenv with scope:=relabel scope env}) (rm M A E use Q v {cenv with scope:=relabel scope env}) p) E o) E n) E l) E s):ν M A (comprehension e scope env pos c false first use) Q E s:=by
 unfold comprehension;rw[q,L];show π (adR h (λx l C=>π (wpAny_standAt (π (wpAny_of_eq (hs x) (π (ahu (adR C (λit n D=>wpAny_standIf (π (adR D (λv o F=>
  π (ϯ (π (adR F (λcenv p G=>?_) λ_ _ z=>z)))) λ_ _ z=>z))) λ_ _ z=>z))))))) λ_ _ z=>z)
 dsimp only;let I:∀x∈(scope.names.filter λx=>(x.2==.local||x.2==.cell)&&x.1 !=(".0":Str)).reverse,x.2=.local->Env.kindOf {cenv with scope:=relabel scope env} x.1=some .local:=
  λx O J=>lookup_relabel_local (j x (aiK.mp (List.mem_reverse.mp O)).1 J)
 let S:∀x∈(scope.names.filter λx=>(x.2==.local||x.2==.cell)&&x.1 !=(".0":Str)).reverse.drop 1++(scope.names.filter λx=>(x.2==.local||x.2==.cell)&&x.1 !=(".0":Str)).reverse.take 1,x.2=.local->Env.kindOf {cenv with scope:=relabel scope env} x.1=some .local:=λx O J=>by
  obtain z|z:=ae6.mp O
  .show I x (aeY z) J
  .show I x (afu z) J
 show ahu (π (wpAny_attempt (ahu (wpAny_run (ajy G λr s' B=>?_)))));cases r with
 |ok f=>
  cases use with
  |none=>
   let#[m,H,B]:=B;show π (ahu (wpAny_comp_letGo (cenv:={cenv with scope:=relabel scope env}) a _ s' m I H λh' m' _ z=>ϯ (B h' z)))
  |some u=>
   show π (wpAny_rule (π (ahu (adR B (λ_ P i=>?_) λ_ _ z=>z))));let#[m,H,i]:=i;show π (wpAny_comp_letGo (cenv:={cenv with scope:=relabel scope env}) a _ P m S H λh' m' _ z=>ϯ (i h' z))
 |error x=>
  let i:∃m,s'.heap.Ns cenv.locals m/\∀h',ajr cenv.locals s'.heap h'->ν M A (passOn "comprehension.variables-let-go" x {cenv with scope:=relabel scope env}:Sem ε) (λ_ _=>False) E {s' with heap:=h'}:=by cases use<;>show B
  let#[m,H,B]:=i;show π (ahu (wpAny_comp_letGo (cenv:={cenv with scope:=relabel scope env}) a _ s' m I H λh' m' _ z=>adR (B h' z) (λ_ _ f=>f.elim) λ_ _ y=>y))
abbrev Cx.tri(X:Cx)(F:ε->μ->Prop)(pn:List (δ×Obj)):Cx:={X with xe:=F,pn:=pn}
section
variable{X:Cx}{ϵ pins':List (δ×Obj)}{σ:St}{H:Hp}{s:μ}{F:ε->μ->Prop}
theorem Cx.Ok.tri(ok:X.Ok)(pn:List (δ×Obj)):(X.tri F pn).Ok:=
 #[ok.mod,ok.kind,ok.glob,ok.blt,ok.above,ok.inj,ok.has,ok.cab,ok.hd,ok.frames,ok.stk,ok.exf,ok.bs,ok.bsz,ok.noex,ok.exfs,ok.funs,ok.frf]
theorem Inv.tri(I:Inv X ϵ σ H s):Inv (X.tri F (X.pn++ϵ)) [] σ H s:=
 #[I.ok.tri _,I.os,I.bare,I.base,I.loc,I.cell,I.free,I.freeC,λp a=>I.pin p (by simpa using a),I.hok,I.len]
theorem Inv.jP(ok:X.Ok)(I:Inv (X.tri F (X.pn++ϵ)) pins' σ H s):Inv X ϵ σ H s:=
 #[ok,I.os,I.bare,I.base,I.loc,I.cell,I.free,I.freeC,λp a=>I.pin p (ajP _ a),I.hok,I.len]
end
abbrev dw(X:Cx)(N':List Str)(scope:ahw)(cl:List (Str×δ))(C:δ)(s:μ)(H:Hp)(fp:List δ)(F:ε->μ->Prop):Cx:=(bQ X N' scope cl C s H fp).tri F []
section
variable{X:Cx}{ϵ:List (δ×Obj)}{σ:St}{H H':Hp}{s s':μ}{scope:ahw}{fp:List δ}{N':List Str}
structure cu(env:Env)(scope:ahw):Prop where
 kind:scope.kind=.function
 free:∀y∈scope.names,y.2=.free->env.kindOf y.1=some .cell\/env.kindOf y.1=some .free
 cell:∀y∈scope.names,y.2≠.cell
 loc:∀y∈scope.names,y.2=.local->scope.names.lookup y.1=some .local
theorem cu.has(S:cu X.env scope)(I:Inv X ϵ σ H s):∀y∈scope.names,y.2=.free->∃c,X.env.cells.lookup y.1=some c:=λy a e=>I.ok.has y.1 (S.free y a e)
theorem cu.cl(S:cu X.env scope)(I:Inv X ϵ σ H s){x:Str}{c:δ}(h:(ϒ scope X.env).lookup x=some c):X.env.cells.lookup x=some c:=by
 obtain q|q:=U9 scope.names [] (S.has I) x c h
 .show q
 .simp at q
theorem ZV(S:cu X.env scope)(I:Inv X ϵ σ H s)(f:∀b∈fp,aY X ϵ H b)(g:∀b∈fp,b<s.heap.objs.size):(bQ X N' scope (ϒ scope X.env) s.heap.objs.size s H fp).Ok where
 mod:=I.ok.mod
 kind:=S.kind
 glob:=I.ok.glob
 blt:=I.ok.blt
 above:=Ϭ _
 inj:=λx y c h1 h2=>I.ok.inj x y c (S.cl I h1) (S.cl I h2)
 has:=λx i=>Ff (env:=X.env) scope.names [] x (.inl (Hq S.cell i))
 cab:=λx c h _=>by cases h
 hd:=I.ok.hd
 frames:=I.ok.frames
 stk:=.inl rfl
 exf:=λb a=>#[ac6 (g b a),λx c h=>(f b a).2.2.2.2.1 x c (S.cl I h)]
 bs:=I.bs
 bsz:=aeP I.ok.bsz I.sz
 noex:=λb o e a=>by
  rcases(f b a).2.2.2.1 with z|z
  .show I.ok.noex b o e z
  .rw[(I.ok.bs b o e).1]at z;cases z
 exfs:=λb a z=>by
  rcases aaF.mp (I.stkSub b z)with e|e
  .show(f b a).2.1 e
  .show(f b a).2.2.1 e
 funs:=I.stack
 frf:=I.stkFree
theorem abl{N:List Str}{i:Nat}{x:Str}{v:V}(h1:N'[i]?=some x)(h2:(cz N' N σ scope)[i]?=some (some v)):scope.names.lookup x=some .free/\eF N σ x=some v:=by
 unfold cz at h2;rw[aci,h1]at h2;let a:(if scope.names.lookup x=some .free then eF N σ x else none)=some v:=by simpa using h2
 split at a
 .rename_i e;show#[e,a]
 .cases a
theorem ahn(S:cu X.env scope)(I:Inv X ϵ σ H s)(D:∀b∈fp,aY X ϵ H b)(g:∀b∈fp,b<s.heap.objs.size){a:ϫ}{m:Str->Option ε}{tk:Nat}(l:a.Ns s.heap.objs.size m)(old:∀b o,s.heap.get? b=some o->a.get? b=some o):Inv (bQ X N' scope (ϒ scope X.env) s.heap.objs.size s H fp) [] (cz N' X.N σ scope) H {s with heap:=a,toks:=tk}where
 ok:=ZV S I D g
 os:=rfl
 bare:=I.bare
 base:=Un.kept old
 loc:=by
  show#[m,l,λi x v h1 h2 O=>?_];let#[e1,E]:=abl h1 h2;let#[j,F,G]:=yO E;let y:(x,NameKind.free)∈scope.names:=PySem.mem_of_lookup e1;let hk:=S.free _ y rfl;let#[P,_,J]:=I.loc;let n:qR X.env.scope x:=.inr hk;let#[u,r,lk]:=J j x v F G n;show#[u,r,.inr #[O4 (env:=X.env) e1,?_]];obtain⟨k,_⟩|⟨_,c,e,z⟩:=lk
  .obtain hk|hk:=hk
   .let f:X.env.kindOf x=some .cell:=hk;rw[f]at k;cases k
   .let f:X.env.kindOf x=some .free:=hk;rw[f]at k;cases k
  .let#[L,B]:=Ff (env:=X.env) scope.names [] x (.inl y);let C:=S.cl I (x:=x) (c:=L) B;rw[e]at C;cases C;let#[o,q,hd]:=z;show#[c,B,o,old _ _ q,hd]
 cell:=λx c h=>by
  let#[v,o,q,hd]:=I.cell x c (S.cl I h);show#[v,o,old _ _ q,hd]
 free:=I.hok.fresh (Ϭ _)
 freeC:=λx c h=>I.freeC x c (S.cl I h)
 pin:=λp M=>absurd (show p∈([]:List (δ×Obj))from M) (by simp)
 hok:=I.hok.kept old
 len:=by show(cz N' X.N σ scope).length=N'.length;unfold cz;rw[abd]
theorem YT{i:St}(I:Inv X ϵ σ H s)(a:∀b∈fp,aY X ϵ H b)(J:Inv (bQ X N' scope (ϒ scope X.env) s.heap.objs.size s H fp) [] i H' s'):Inv X ϵ σ H' s':=by
 let#[hh,g,d,t,f]:=s';let e:f=s.os:=J.os;subst e;show I.call (h':=hh) (g':=g) (d':=d) (t':=t) (ch:=fp) J.base J.hok J.bare λb c=>#[(a b c).2.2.2.1,(a b c).2.1,(a b c).2.2.2.2.1,(a b c).2.2.2.2.2]
variable{elt iter tg:Ϧ}{ifs:List Ϧ}{pos:Pos}
def jm(X Y:Cx)(tg elt:Ϧ)(ifs:List Ϧ)(J:It)(D:δ)(σ':St)(H:Hp)(Q:Hp->Prop):Prop:=
 ∃W:Nat->Nat->St->Hp->Prop,(∃m,W 0 m σ' (upd H D (.lst [])))/\∀i m e H,W i m e H->
  (J.stop i H/\Q H)\/(J.go i H/\∃N:St->Hp->Prop,(∀c H',N c H'->∃m',m'<m/\W (i+1) m' c H')/\∀x H',J.yld i H x H'->
   EG Y tg x e H' λa H2=>FZ Y ifs a H2 λk f=>if k=true then EV Y elt a f λy g=>∃xs,g D=some (.lst xs)/\xs.length<ϰ/\N a (upd g D (.lst (xs++[y])))else N a f)
theorem BJ{R:ε->Env->Result->μ->Prop}{it:δ}{Y:Nat->ϫ->Prop}{J:It}{E:ε->μ->Prop}{Q:δ->Hp->Prop}(Fx:δ->Env->ε->μ->Prop)(hc:X.calm=true)(S:cu X.env scope)(I:Inv X ϵ σ H s)(T:Turn X.prog X.w X.K tg J fp it Y)(st:Y 0 s.heap)(hf:∀b∈fp,aY X ϵ H b)(ar:∀D C x s',Fx D C x s'->notedBy (ϧ X.prog X.w) X.A C (λx s'=>R (.ref D) C (.error x) s') x s')(h:∀(D:δ)(s3:μ),H D=none->Inv X ϵ σ (upd H D (.lst [])) s3->(∀b∈fp,aY X ϵ (upd H D (.lst [])) b)->
   (∀{pins':List (δ×Obj)}{j:St}{H':Hp}{s':μ},Inv (dw X N' scope (ϒ scope X.env) s3.heap.objs.size s3 (upd H D (.lst [])) fp (Fx D (compEnvC scope (ϒ scope X.env) s3.heap.objs.size X.env))) pins' j H' s'->Inv X ϵ σ H' s')->
   jm X (dw X N' scope (ϒ scope X.env) s3.heap.objs.size s3 (upd H D (.lst [])) fp (Fx D (compEnvC scope (ϒ scope X.env) s3.heap.objs.size X.env))) tg elt ifs J D (cz N' X.N σ scope) H (Q D))(hR:∀(D:δ)(C:Env)(H':Hp)(s':μ),H D=none->Q D H'->Inv X ϵ σ H' s'->aY X ϵ H' C.locals->(∃m,s'.heap.Ns C.locals m)->R (.ref D) C (.ok .next) s'):ν (ϧ X.prog X.w) X.A (newList []) (λab ac=>ν (ϧ X.prog X.w) X.A (newFunctionEnv scope X.env.globals (ϒ scope X.env) [] X.env.qual none .none (some X.env)) (λcenv ae=>
   codeAny (ϧ X.prog X.w) X.A (.compStart (.ListComp elt [#[tg,iter,ifs,0]] scope pos) 0 (.ref it) ab {cenv with scope:=relabel scope X.env}) (R ab {cenv with scope:=relabel scope X.env}) ae) E ac) E s:=by
 show aiC ?_;let hD:H s.heap.objs.size=none:=I.hok.fresh (Ϭ _);generalize U:({s with heap:=s.heap.push {cls:=.type "list",dict:=none,data:=.seq ([]:List ε).toArray}}:μ)=s3;let Z:Inv X ϵ σ (upd H s.heap.objs.size (.lst [])) s3:=by
  subst U;show I.laid (t':=s.toks) (λb u e=>ϲ _ e) (Ϭ _) #[afT _,[],0,.nil,ab7 _ rfl]
 let hsz:s3.heap.objs.size=s.heap.objs.size+1:=by subst U;show aiJ ..
 let af:∀b o,s.heap.get? b=some o->s3.heap.get? b=some o:=λb o e=>by subst U;show ϲ _ e
 let Jr:∀b∈fp,b<s.heap.objs.size:=λb a=>by
  let#[o,e,_]:=T.obj _ _ st b a;show acr e
 let mR:∀b∈fp,aY X ϵ (upd H s.heap.objs.size (.lst [])) b:=λb a=>#[by rw[ρ (ac6 (Jr b a))];show(hf b a).1,(hf b a).2]
 let av:Y 0 s3.heap:=T.keep _ _ _ st λb _ o e=>af b o e
 let UW:∀b∈fp,b<s3.heap.objs.size:=λb a=>by rw[hsz];show alT (Jr b a)
 show wpAny_newFunctionEnv S.cell (by intro y hy;simp at hy) (λO aw ax=>?_) S.kind;let uw:∀b o,s3.heap.get? b=some o->O.get? b=some o:=λb o e=>ax.extBut b o (ac6 (acr e)) (ϲ _ e)
 let L:=h s.heap.objs.size s3 hD Z mR;generalize lJ:compEnvC scope (ϒ scope X.env) s3.heap.objs.size X.env=Ce at L;generalize hF:Fx s.heap.objs.size Ce=F at L;let qQ:Ce.locals=s3.heap.objs.size:=by rw[<-lJ];rfl
 generalize l:bQ X N' scope (ϒ scope X.env) s3.heap.objs.size s3 (upd H s.heap.objs.size (.lst [])) fp=B;generalize Hz:({s3 with heap:=O,toks:=s3.toks+([]:List (Str×ε)).length}:μ)=s4;let Ky:Inv B [] (cz N' X.N σ scope) (upd H s.heap.objs.size (.lst [])) s4:=by
  subst Hz;rw[<-l];show ahn S Z mR UW aw uw
 let ag:B.pn=[]:=by rw[<-l];rfl
 let ah:∀{pins':List (δ×Obj)}{j:St}{H':Hp}{s':μ},Inv (B.tri F []) pins' j H' s'->Inv X ϵ σ H' s':=λ{pins' j H' s'} J=>by
  let J2:Inv B [] j H' s':=Inv.jP (X:=B) (ϵ:=[]) (F:=F) (pins':=pins') Ky.ok (by rw[ag];show J);rw[<-l]at J2;show YT Z mR J2
 let hP:(B.tri F []).prog=X.prog:=by rw[<-l];rfl
 let hw:(B.tri F []).w=X.w:=by rw[<-l];rfl
 let hK:(B.tri F []).K=X.K:=by rw[<-l];rfl
 let hA:(B.tri F []).A=X.A:=by rw[<-l];rfl
 let Jd:(B.tri F []).calm=true:=by rw[<-l];show hc
 let ai:(B.tri F []).env=Ce:=by rw[<-l, <-lJ];rfl
 let P:(B.tri F []).env.locals=s3.heap.objs.size:=by rw[ai,qQ]
 rw[show dw X N' scope (ϒ scope X.env) s3.heap.objs.size s3 (upd H s.heap.objs.size (.lst [])) fp F=B.tri F []from by rw[<-l]]at L;let#[W,#[m0,w0],turn]:=L ah;let I4:Inv (B.tri F []) [] (cz N' X.N σ scope) (upd H s.heap.objs.size (.lst [])) s4:=by
  have:=Ky.tri (F:=F);rw[ag]at this;show this
 let Oq:Y 0 s4.heap:=by
  subst Hz;show T.keep _ _ _ av λb _ o e=>uw b o e
 let Ft:∀b∈fp,∀H':Hp,H' b=none->aY (B.tri F []) [] H' b:=λb a H' e=>by
  rw[<-l];show#[e,ac6 (UW b a),λz=>?_,.inl a,λx c q=>(mR b a).2.2.2.2.1 x c (S.cl Z q),λp hp=>absurd (show p∈([]:List (δ×Obj))from hp) (by simp)];rcases aaF.mp (Z.stkSub b z)with e|e
  .show(hf b a).2.1 e
  .show(hf b a).2.2.1 e
 let G:codeAny (ϧ X.prog X.w) X.A (.compLoop (.ListComp elt [#[tg,iter,ifs,0]] scope pos) 0 (.ref it) (.ref s.heap.objs.size) Ce) (R (.ref s.heap.objs.size) Ce) s4:=by
  show aaA (Er:=F) (λn s'=>∃i j H',Inv (B.tri F []) [] j H' s'/\Y i s'.heap/\(∀b∈fp,H' b=none)/\W i n j H') (λx s z=>ar _ _ x s (by rw[hF];show z)) ?_ m0 #[0,_,_,I4,Oq,λb a=>(mR b a).1,w0]
  rintro n s5 ⟨i,j,H5,I5,al,am,w5⟩
  let M:∀{α:Type}{t:Sem α}{Q:α->μ->Prop}{s:μ},ν (ϧ (B.tri F []).prog (B.tri F []).w) (B.tri F []).A t Q (B.tri F []).xe s->ν (ϧ X.prog X.w) X.A t Q F s:=λh=>by
   rw[hP,hw,hA]at h;show h
  rw[<-ai];obtain⟨stop,qn⟩|⟨go,N,hN,step⟩:=turn i n j H5 w5
  .let q:=T.done (B.tri F []) hP hw hK Jd i [] s5 j H5 F I5 (λb a=>Ft b a _ (am b a)) al stop;rw[hA]at q;show χ q λr s6 f=>?_
   let#[hr,I6]:=f;subst hr;show hR _ _ H5 s6 hD qn (ah I6) ?_ ?_
   .rw[P];show Z.fpOk (Ϭ _) ?_;have:=I6.free;rw[P]at this;show this
   .let#[m,hn,_]:=I6.loc;show#[m,hn]
  .let q:=T.item (B.tri F []) hP hw hK Jd i [] s5 j H5 F I5 (λb a=>Ft b a _ (am b a)) al go;rw[hA]at q;show χ q λr s6 f=>?_
   let#[u,hr,h6]:=f;subst hr;show χ h6 λ_ s7 f=>?_
   let#[x,H7,I7,r7,y7,zb,ay]:=f;let aA:=I7.pinned (λb a=>Ft b a _ (ay b a)) (T.obj _ _ zb);let Ng:∀{ap:St}{H8:Hp}{s8:μ},Inv (B.tri F []) ([]++fU fp s7.heap) ap H8 s8->Y (i+1) s8.heap/\∀b∈fp,H8 b=none:=λ{ap H8 s8} I8=>by
    show#[T.keep _ _ _ zb λb a o e=>(I8.pin (b,o) (adW _ (adW _ (vJ a e)))).1,λb a=>?_];let#[o,e,d]:=T.obj _ _ zb b a;show(I8.pin (b,o) (adW _ (adW _ (vJ a e)))).2.1
   show M (χ (step x H7 y7 _ s7 u aA r7) λ_ s8 f=>?_);let#[g,H8,I8,q8]:=f;show M (χ (q8 _ s8 I8) λok s9 f=>?_);let#[H9,I9,q9]:=f;cases ok with
   |false=>
    let Fv:N g H9:=by simpa using q9
    let#[m',hm,w9]:=hN _ _ Fv;let#[k1,k2]:=Ng I9;show ∃m,_;show#[m',hm,i+1,g,H9,I9.unpinned,k1,k2,w9]
   |true=>
    let Fv:EV (B.tri F []) elt g H9 λy H4=>∃xs,H4 s.heap.objs.size=some (.lst xs)/\xs.length<ϰ/\N g (upd H4 s.heap.objs.size (.lst (xs++[y]))):=by simpa using q9
    show ν _ _ _ _ _ _;show M (χ (Fv _ s9 I9) λz aC f=>?_);let#[y,K8,Zy,aE,xs,aI,aK,aN]:=f;show M (χ (Bo _ aC g K8 (.ref s.heap.objs.size) [y] _ [z] (λv Uv=>v=.non/\Uv=upd K8 s.heap.objs.size (.lst (xs++[y]))) Zy rfl (.cons aE .nil) #[_,xs,y,rfl,rfl,aI,aK,rfl,rfl]) λ_ s11 f=>?_);let#[_,Uv,OD,_,_,YL]:=f;subst YL;let#[m',hm,aR]:=hN _ _ aN;let#[k1,k2]:=Ng OD;show#[m',hm,i+1,g,_,OD.unpinned,k1,k2,aR]
 rw[<-lJ]at G;show codeAny_compStart_list G (T.self X.A 0 s4 _ _ Oq G)
theorem vV{Q:VK}(l:X.calm=true)(S:cu X.env scope)(hs:∀x,foldedSetIterable iter X.env x=pure x)(h:EI X tg iter σ H λJ H1=>∀(fp:List δ)(D C:δ)(a:μ),H1 D=none->jm X (bQ X N' scope (ϒ scope X.env) C a (upd H1 D (.lst [])) fp) tg elt ifs J D (cz N' X.N σ scope) H1 (λH'=>Q (.ref D) H')):EV X (.ListComp elt [#[tg,iter,ifs,0]] scope pos) σ H Q:=by
 intro ϵ s I;rw[eval_ListComp];show yQ (use:=none) rfl hs (Dg (S.has I)) S.kind S.loc (χ (h ϵ s I) λv P h1=>χ h1 λn U h2=>?_);let#[it,fp,W,J,H2,e,p,T,c,q,u]:=h2;subst e;show BJ (λ_ _ _ _=>False) (R:=λf C=>rm (ϧ X.prog X.w) X.A X.xe none (EP X ϵ σ Q) f C) (Q:=λD H'=>Q (.ref D) H') l S p T c q (λ_ _ _ _ z=>z.elim) (λD a j _ _ _=>u fp D _ a j) λD C H' s' j y IX B g=>?_
 let#[m,g]:=g;let#[E,F,Y,G,L,M]:=B;show#[m,g,λh' i=>#[.ref D,H',IX.turned (t':=s'.toks) (λb o O e=>i.extBut b o O e) E F G L M,rfl,y]]
theorem S7{D:Ends}{y:Str}{py spos:Pos}{j:Nat}(c:alr (.ListComp elt [#[tg,iter,ifs,0]] scope pos) (some (.Name y py)) spos.line X.env=pure true)(L:X.calm=true)(S:cu X.env scope)(hs:∀x,foldedSetIterable iter X.env x=pure x)(M:X.N.Nodup)(hi:nameAt X.N y=some j)(u:X.env.scope.names.lookup y=some .local)(h:EI X tg iter σ H λJ H1=>∀(fp:List δ)(E C:δ)(f:μ),H1 E=none->jm X (bQ X N' scope (ϒ scope X.env) C f (upd H1 E (.lst [])) fp) tg elt ifs J E (cz N' X.N σ scope) H1 (λH'=>D.nx (σ.set j (some (.ref E))) H')):SX X (.Assign [.Name y py] (.ListComp elt [#[tg,iter,ifs,0]] scope pos) spos) D σ H:=by
 intro ϵ s I;rw[exec_Assign_Name_used _ _ _ _ c];show π (wpAny_standAt (π ?_));show ν _ X.A (do let _<-comprehension (.ListComp elt [#[tg,iter,ifs,0]] scope pos) scope X.env _ (newList []) false (eval iter X.env) (some (assign (.Name y py) X.env))) _ _ s;show π (adR (yQ (use:=some (assign (.Name y py) X.env)) (Q:=λ_ s'=>SP X ϵ D .next s') rfl hs (Dg (S.has I)) S.kind S.loc
  (χ (h ϵ s I) λv s1 h1=>χ h1 λO s2 h2=>?_)) (λ_ s' P=>ϯ (ϯ P)) λ_ _ e=>e)
 let#[it,fp,tn,J,H2,e,U,T,g,W,Y]:=h2;subst e;show BJ (λ_ _ _ _=>False) (R:=λi C=>rm (ϧ X.prog X.w) X.A X.xe (some (assign (.Name y py) X.env)) (λ_ s'=>SP X ϵ D .next s') i C) (Q:=λE H'=>D.nx (σ.set j (some (.ref E))) H') L S U T g W (λ_ _ _ _ z=>z.elim) (λE f B _ _ _=>Y fp E _ f B) λE C H' s' B Z IX fC l=>?_
 let#[m,l]:=l;let#[f0,F,Qm,f3,G,f5]:=fC;show ν _ _ (assign (.Name y py) X.env (.ref E)) _ _ _;show wpAny_assign_Name (qT IX M (sW hi) (.inl u) (v:=.ref E) rfl (λn Dr p=>?_) (.inr u));let#[a,sb,ha]:=p;let Es:C.locals≠a:=by
  obtain ha|ha:=ha
  .rw[ha];show F
  .intro z;show G y a ha z.symm
 show#[m,l.sameBut sb Es,λh' q=>#[σ.set j (some (.ref E)),H',Dr.turned (t':=n.toks) (λb o p e=>q.extBut b o p e) f0 F f3 G f5,Z]]
theorem V7{Q:Bool->Hp->Prop}(q:Q true H):FZ X [] σ H Q:=λϵ s I=>by
 rw[alU];show ϯ #[H,I,q]
theorem aa7{c:Ϧ}{Q:Bool->Hp->Prop}(h:ET X c σ H Q):FZ X [c] σ H Q:=λϵ s I=>by
 rw[alm];simp only[if_true];show π (π (χ (h ϵ s I) λk a q=>ϯ ?_));dsimp only;rw[alU];show ϯ q
end
theorem Θ{c A B:Prop}[Decidable c](h1:c->A)(h2:¬c->B):if decide c=true then A else B:=by
 by_cases h:c
 .rw[if_pos (decide_eq_true h)];show h1 h
 .rw[if_neg (by simpa using h)];show h2 h
theorem cC{c A B:Prop}[Decidable c](q:B)(h:¬c:=by fin2):if decide c=true then A else B:=Θ (λz=>absurd z h) λ_=>q
theorem eU{c A B:Prop}[Decidable c](q:A)(h:c:=by rfl):if decide c=true then A else B:=Θ (λ_=>q) λz=>absurd h z
theorem fj{c A B:Prop}[Decidable c](h1:¬c->A)(h2:c->B):if(!decide c)=true then A else B:=by
 by_cases h:c
 .rw[if_neg (by simp[h])];show h2 h
 .rw[if_pos (by simp[h])];show h1 h
theorem iB{k:Bool}{A B:Prop}(h1:k=true->A)(h2:k=false->B):if k=true then A else B:=by
 cases k with
 |true=>rw[if_pos rfl];show h1 rfl
 |false=>rw[if_neg abj];show h2 rfl
theorem Zq{k:Bool}{A B:Prop}(h1:k=false->A)(h2:k=true->B):if(!k)=true then A else B:=by
 cases k with
 |true=>rw[if_neg (by decide)];show h2 rfl
 |false=>rw[if_pos (by decide)];show h1 rfl
theorem adP{A B:Prop}(h:B):if(!true)=true then A else B:=by rw[if_neg (by decide)];show h
theorem abk{A B:Prop}(h:A):if(!false)=true then A else B:=by rw[if_pos (by decide)];show h
theorem ζ.upd{H:Hp}{p:δ}{o:HO}(h:H p=none):ζ H (L2.upd H p o):=λb u e=>by rw[ρ (ϐ e h)];show e
theorem ϋ{H:Hp}{p:δ}(h:H p=none)(o:HO):ζ H (upd H p o)/\(upd H p o) p=some o:=#[ζ.upd h,υ]
section
variable{X:Cx}{a e:Ϧ}{σ:St}{H:Hp}{Q:VK}{D:Ends}{pos p p':Pos}
theorem Oo{tg:Ϧ}{body:List Ϩ}(j:aj3 (ϧ X.prog X.w) X.A X.env X.xe)(l:X.calm=true)(m:Gl X "range")(o:X.mg "range"=none)(hs:ϴ [a] X.env=[(false,eval a X.env)])(h:EV X a σ H λv H1=>∃n:Int,v=.int n/\ -(2^62)<=n/\n<2^62/\∃c:Nat->St->Hp->Prop,c 0 σ H1/\
   (∀i σ' H',i<n.toNat->c i σ' H'->EG X tg (.int i) σ' H' λe H2=>Ν X body {D with nx:=c (i+1),ct:=c (i+1),bk:=D.nx} e H2)/\∀σ' H',c n.toNat σ' H'->D.nx σ' H'):SX X (.For tg (.Call (.Name "range" p) [a] [] p') body [] pos) D σ H:=by
 show lD j l (by intro _;rfl) (Xq m o hs (dN hs (az h λv H1 q=>?_)));let#[n,rfl,h1,h2,c,s,f,hd]:=q;show jy #[n,rfl,h1,h2,?_];show Xw (g:=EG X tg) (tb:=Ν X body) c s (λi σ' H' hi u=>by rw[anN];show f i σ' H' hi u) hd
theorem zx{tg:Ϧ}{body:List Ϩ}(j:aj3 (ϧ X.prog X.w) X.A X.env X.xe)(l:X.calm=true)(hs:∀x,foldedSetIterable e X.env x=pure x)(h:EV X e σ H λv H1=>∃q xs,v=.ref q/\η X.K H1 q xs/\∃a:Nat->St->Hp->Prop,a 0 σ H1/\(∀i σ' H',i<=xs.length->a i σ' H'->η X.K H' q xs)/\
   (∀i x σ' H',xs[i]?=some x->a i σ' H'->EG X tg x σ' H' λc H2=>Ν X body {D with nx:=a (i+1),ct:=a (i+1),bk:=D.nx} c H2)/\∀σ' H',a xs.length σ' H'->D.nx σ' H'):SX X (.For tg e body [] pos) D σ H:=by
 show lD j l hs (oH (az h λv H1 q=>?_));let#[q,xs,rfl,m,a,n,o,f,hd]:=q;show#[q,rfl,#[xs,m],XJ (g:=EG X tg) (tb:=Ν X body) a n o f hd]
theorem aik{tg:Ϧ}{body:List Ϩ}(l:aj3 (ϧ X.prog X.w) X.A X.env X.xe)(n:X.calm=true)(hs:∀x,foldedSetIterable e X.env x=pure x)(h:EV X e σ H λv H1=>∃z:Str,v=.str z/\∃a:Nat->St->Hp->Prop,a 0 σ H1/\
   (∀i c σ' H',z.cps.toList[i]?=some c->a i σ' H'->EG X tg (.str #[#v[c]]) σ' H' λf H2=>Ν X body {D with nx:=a (i+1),ct:=a (i+1),bk:=D.nx} f H2)/\∀σ' H',a z.cps.toList.length σ' H'->D.nx σ' H'):SX X (.For tg e body [] pos) D σ H:=by
 show lD l n hs (R1 (az h λv H1 q=>?_));let#[z,rfl,a,o,j,hd]:=q;show#[z,rfl,λi m σ H=>m=z.cps.size-i/\i<=z.cps.size/\a i σ H,#[z.cps.size,by simp,afT _,o],?_]
 rintro i m σ' H' ⟨rfl,hi,p⟩
 by_cases g:i<z.cps.size
 .show .inr #[g,a (i+1),λf H2 p2=>#[z.cps.size-(i+1),(),rfl,g,p2],λx H2 y=>?_];let#[e1,c,s,u]:=y;subst e1 u;show j i c σ' _ (by simpa using s) p
 .let e:i=z.cps.size:=()
  subst e;show .inl #[Ϭ _,hd σ' H' (by simpa using p)]
theorem ag7{Y:Cx}{elt:Ϧ}{J:It}{E:δ}{f:St}{Q:Hp->Prop}{y:Str}{py:Pos}{j:Nat}(T:Y.N.Nodup)(U:nameAt Y.N y=some j)(L:Y.env.scope.names.lookup y=some .local)(n:Nat)(hn:n<=ϰ)(q:Nat->V->Prop)(It:Nat->V->Prop)(M:H E=none)(go:∀i H1,ζ (upd H E (.lst [])) (upd H1 E (.lst []))->i<n->J.go i H1)(stop:∀H1,ζ (upd H E (.lst [])) (upd H1 E (.lst []))->J.stop n H1)(yld:∀i H1 x H2,i<n->ζ (upd H E (.lst [])) (upd H1 E (.lst []))->J.yld i H1 x H2->It i x/\H2=H1)(step:∀i x H1,i<n->It i x->ζ H H1->EV Y elt (f.set j (some x)) H1 λv H2=>q i v/\ζ H1 H2)(fin:∀H1 xs,xs.length=n->(∀i v,xs[i]?=some v->q i v)->H1 E=some (.lst xs)->ζ H H1->Q H1):jm X Y (.Name y py) elt [] J E f H Q:=by
 let C:∀{H1:Hp},ζ H H1->ζ (upd H E (.lst [])) (upd H1 E (.lst [])):=λ{H1} s b o e=>by
  by_cases O:b=E
  .subst O;rw[υ]at e⊢;show e
  .rw[ρ O]at e⊢;show s b o e
 show#[λi m B H1=>m=n-i/\i<=n/\ζ H H1/\(B=f\/∃x,B=f.set j (some x))/\∃xs,H1 E=some (.lst xs)/\xs.length=i/\∀k v,xs[k]?=some v->q k v,#[n,by simp,afT _,ζ.upd M,.inl rfl,[],υ,rfl,λk v e=>by simp at e],?_]
 rintro i m B H1 ⟨rfl,hi,p,D,xs,P,F,R⟩
 by_cases g:i<n
 .show .inr #[go i H1 (C p) g,λl H'=>ζ H H'/\(l=f\/∃x,l=f.set j (some x))/\∃xs,H' E=some (.lst xs)/\xs.length=i+1/\∀k v,xs[k]?=some v->q k v,λl H' ⟨a,b,c⟩=>#[n-(i+1),(),rfl,g,a,b,c],λx H2 y=>?_];let#[W,Z]:=yld i H1 x H2 g (C p) y;subst Z;show Β T U (.inl L) (.inr L) (V7 ?_);rw[if_pos rfl];let G:B.set j (some x)=f.set j (some x):=by
   obtain e|⟨z,e⟩:=D
   .rw[e]
   .rw[e,List.set_set]
  rw[G];show az (step i x H2 g W p) λv H3 ⟨pv,S⟩=>#[xs,S _ _ P,(),?_]
  show#[λb o e=>?_,.inr #[x,rfl],xs++[v],υ,by simp[F],λk u e=>?_]
  .rw[ρ (ϐ e M)];show S _ _ (p _ _ e)
  .by_cases hk:k<xs.length
   .rw[ajG hk]at e;show R k u e
   .let I:k=i:=by
     have:=(aai.mp e).1;rw[ac7,afi]at this;omega
    subst I;rw[<-F,aln]at e;cases e;show pv
 .let e:i=n:=()
  subst e;show .inl #[stop H1 (C p),fin H1 xs F R P p]
theorem aeS{elt:Ϧ}{scope:ahw}{y:Str}{py:Pos}{j:Nat}(N':List Str){σ':St}(m:cz N' X.N σ scope=σ')(u:X.calm=true)(S:cu X.env scope)(B:N'.Nodup)(D:nameAt N' y=some j)(F:scope.names.lookup y=some .local)(hs:∀x,foldedSetIterable e X.env x=pure x)(h:EV X e σ H λv H1=>∃z:Str,v=.str z/\z.cps.size<=ϰ/\∃f:Nat->V->Prop,
   (∀(fp:List δ)(E C:δ)(g:μ)(G:Hp)(i c:Nat)(H2:Hp),z.cps.toList[i]?=some c->ζ H1 H2->EV (bQ X N' scope (ϒ scope X.env) C g G fp) elt (σ'.set j (some (.str #[#v[c]]))) H2 λv I=>f i v/\ζ H2 I)/\
   ∀(E:δ)(H2:Hp)(xs:List V),H1 E=none->xs.length=z.cps.size->(∀i v,xs[i]?=some v->f i v)->H2 E=some (.lst xs)->ζ H1 H2->Q (.ref E) H2):EV X (.ListComp elt [#[.Name y py,e,[],0]] scope pos) σ H Q:=by
 show vV (N':=N') u S hs (R1 (az h λv H1 q=>?_));let#[z,rfl,h2,f,n,a]:=q;show#[z,rfl,λfp E C g p=>?_];rw[m];show ag7 (Y:=bQ X N' scope (ϒ scope X.env) C g (upd H1 E (.lst [])) fp) B D (lookup_relabel_local F) z.cps.size h2 f (λi x=>∃c,z.cps.toList[i]?=some c/\x=.str #[#v[c]]) p (λi _ _ hi=>hi) (λ_ _=>Ϭ _) (λi H1 x H2 _ _ J=>?_) (λi x H2 hi ex s=>?_) (λH2 xs l L M s=>a E H2 xs p l L M s)
 .let#[e1,c,o,O]:=J;show#[#[c,by simpa using o,O],e1]
 .let#[c,e1,o]:=ex;subst o;show n fp E C g _ i c H2 e1 s
end
section
variable{P:Ϯ}{w:ϭ}{K:ϩ}{mg:Str->Option ε}{base:ϫ}{cc:Bool}
abbrev dM(cc:Bool)(P:Ϯ)(w:ϭ)(K:ϩ)(mg:Str->Option ε)(base:ϫ)(N:List Str)(qual:Str)(scope:ahw)(f:δ)(cd:ε)(A:ϱ)(outer:List Env)(s:μ)(H:Hp)(E:XK):Cx:=
 jT cc (bU P w) P w K mg base N qual scope f cd A outer s H E
theorem Fo{x qual:Str}{st:Ϩ}{ps N:List Str}{k:Nat}{sp:Sp}{f:δ}{fd:ahC}(F:cj K x qual st f fd)(S:Υ N ps (ψ st))(len:∀vs H Q E,sp vs H Q E->vs.length=ps.length)(body:∀(a:ε)(A:ϱ)(outer:List Env)(s:μ)(H:Hp)(vs:List V)(Q:VK)(E:XK),ϔ cc k (A.deeper (envOfC qual (ψ st) s.heap.objs.size f a))->sp vs H Q E->
   Ν (dM cc P w K mg base N qual (ψ st) f a A outer s H E) (aB st) {nx:=λ_ H'=>Q .non H',rt:=Q} (start N vs) H):cG P w K mg base (bU P w) cc (k+1) f fd ps sp:=by
 let#[oc,od,kV,e,pm,an,a,ct,g,rfl,lk,c]:=id F.ex;show Kl lk c S len λA outer s H vs Q E i h=>#[_,Fw,body a A outer s H vs Q E i h]
theorem Γ{x:Str}{st:Ϩ}{ps N:List Str}{k:Nat}{sp:Sp}(F:∃f fd,cj K x x st f fd/\mg x=some (.ref f))(body:∀(f:δ)(a:ε)(A:ϱ)(outer:List Env)(s:μ)(H:Hp)(vs:List V)(Q:VK)(E:XK),ϔ cc k (A.deeper (envOfC x (ψ st) s.heap.objs.size f a))->sp vs H Q E->
   let X:=dM cc P w K mg base N x (ψ st) f a A outer s H E;let D:Ends:={nx:=λ_ H'=>Q .non H',rt:=Q};Ν X (aB st) D (start N vs) H)(S:Υ N ps (ψ st):=by show#[rfl,rfl,rfl,by fin2,rfl,by fin2,by fin2])(e:∀(kV c pm:ε)(an:Option δ)(a ct:ε)(us:List ε),us.length=ps.length->bindArgs (am3 x x (jA st) (aB st) (ψ st) .none kV c pm an a ct) #[us,[]]=pure (ps.zip us):=by walk_at"bb")(len:∀vs H Q E,sp vs H Q E->vs.length=ps.length:=by walk_at"ln"):Def P w K mg base cc (k+1) x ps sp:=by
 let#[f,fd,F,g]:=F;show#[f,fd,g,F.kp,F.binds e,Fo F S len λa A outer s H vs Q E i h=>body f a A outer s H vs Q E i h]
end
def Ϗ(z:Str)(lo hi:Option Int):Str:=#[((z.cps.toList.drop (HT.Α z.length 0 lo)).take (HT.Α z.length z.length hi-HT.Α z.length 0 lo)).toArray]
theorem vU(n d:Nat)(v:Int):max 0 (min (if v<0 then v+(n:Int)else v) (n:Int))=((HT.Α n d (some v):Nat):Int):=by
 rw[<-HT.GX];split <;>omega
theorem Np(lo hi:Option Int)(n:Nat):Builtin.Str.strSliceIndices lo hi 1 n=(aei (HT.Α n n hi-HT.Α n 0 lo)).map (λm=>HT.Α n 0 lo+m):=by
 let e:Builtin.Str.strSliceIndices lo hi 1 n=sliceRange ((HT.Α n 0 lo:Nat):Int) ((HT.Α n n hi:Nat):Int) 1:=by
  cases lo with
  |none=>
   cases hi with
   |none=>rfl
   |some v=>rw[<-vU n n v];rfl
  |some u=>
   cases hi with
   |none=>rw[<-vU n 0 u];rfl
   |some v=>rw[<-vU n 0 u, <-vU n n v];rfl
 rw[e];generalize HT.Α n 0 lo=a;generalize HT.Α n n hi=b;by_cases h:a<=b
 .have :=StrLaws.strSliceIndices_plain (len:=b) h (Ϭ b);rw[<-this];let c:Builtin.Str.strSliceIndices (some (a:Int)) (some (b:Int)) 1 b=sliceRange (a:Int) (b:Int) 1:=by
   let h1:¬((a:Int)<0):=()
   let h2:¬((b:Int)<0):=()
   let e1:max (0:Int) (min (a:Int) (b:Int))=a:=()
   let c:max (0:Int) (min (b:Int) (b:Int))=b:=()
   simp only[Builtin.Str.strSliceIndices,h1,h2,if_false,e1,c,show((1:Int)>0)=True from by simp,if_true]
  rw[c]
 .let f:b-a=0:=()
  rw[f];have:¬((a:Int)<b):=()
  simp[sliceRange,this]
theorem ahN(z:Str)(lo hi:Option Int):(#[((Builtin.Str.strSliceIndices lo hi 1 z.length).filterMap (z.cps[·]?)).toArray]:Str)=Ϗ z lo hi:=by
 rw[Np];unfold Ϗ;let h1:=HT.ye z.length z.length (Ϭ _) hi;let c:z.cps.toList.length=z.length:=by simp[amf]
 by_cases h:HT.Α z.length 0 lo<=HT.Α z.length z.length hi
 .have :=StrLaws.picks z.cps.toList (HT.Α z.length z.length hi-HT.Α z.length 0 lo) (HT.Α z.length 0 lo) ();rw[<-this];simp
 .let a:HT.Α z.length z.length hi-HT.Α z.length 0 lo=0:=()
  rw[a];simp
theorem HS{v:ε}{o:Option Int}(h:IsPart v o):∃l:Option (Int×Tok),v=partValue l/\l.map (·.1)=o:=by
 cases h with
 |none=>show#[none,rfl,rfl]
 |int i t=>show#[some (i,t),rfl,rfl]
theorem ad1{X:Cx}:qz X (λx lo hi H Q=>∃z,x=.str z/\z.length<=ϰ/\Q (.str (Ϗ z lo hi)) H):=by
 intro ϵ s σ H x v D E lo hi sl Q I rx hs pl m h;let#[z,rfl,hz,q]:=h;let#[t,rfl]:=rx;show#["str",_,F.slot_str_getitem.lookup,typeIs_str s z t,?_];let#[l,rfl,rfl]:=HS pl;let#[u,rfl,rfl]:=HS m;let g:s.heap.IsSlice sl l u none:=by
  let#[o,n,p,hd]:=hs;show#[o,n,p,hd]
 show wpAny_getItem_str_slice g rfl ?_;let e:(slicePicked z l u none)=Builtin.Str.strSliceIndices (l.map (·.1)) (u.map (·.1)) 1 z.length:=rfl;unfold sliceMade;let i:(#[((slicePicked z l u none).filterMap (z.cps[·]?)).toArray]:Str)=Ϗ z (l.map (·.1)) (u.map (·.1)):=by rw[e];show ahN z _ _
 split
 .rename_i hh;let f:(slicePicked z l u none).length=z.length:=by
   simp only[abB,beq_iff_eq]at hh;show hh.2
  let a:Ϗ z (l.map (·.1)) (u.map (·.1))=z:=by
   rw[e,Np,abd,amh]at f;let h1:=HT.ye z.length z.length (Ϭ _) (u.map (·.1));let G:z.cps.toList.length=z.length:=by simp[amf]
   unfold Ϗ;by_cases y:z.length=0
   .have :z.cps.toList=[]:=akz ();rw[this];let j:z.cps= #v[]:=by
     have:=congrArg aeU this;simpa using this
    let#[c]:=z;simp at j;subst j;simp
   .let B:HT.Α z.length 0 (l.map (·.1))=0:=()
    let C:HT.Α z.length z.length (u.map (·.1))=z.length:=()
    rw[B,C,alx,amc,ah9 ()]
  show#[.str (Ϗ z (l.map (·.1)) (u.map (·.1))),H,I,#[t,by rw[a]],q]
 .rw[i];show#[?_,.str (Ϗ z (l.map (·.1)) (u.map (·.1))),H,I.tok _,#[_,rfl],q];have:(Ϗ z (l.map (·.1)) (u.map (·.1))).length<=z.length:=by
   unfold Ϗ amf;simp;omega
  omega
section
variable{X:Cx}{H:Hp}{Q:VK}{z y:Str}
theorem mD{lo hi:Option Int}(g:Q (.str (Ϗ z lo hi)) H)(h:z.length<=ϰ:=by omega):SL X (.str z) lo hi H Q:=#[_,ad1,z,rfl,h,g]
theorem iU{id:String}{r:V->List V->Hp->VK->Prop}{x:V}{xs:List V}(h:Gj X id r)(q:r x xs H Q):MT X id x xs H Q:=#[r,h,q]
theorem Qg{ys:List Str}:∀{us:List ε},Vals (ys.map V.str) us->StrsAre us ys:=by
 induction ys with
 |nil=>intro us r;cases r;show .nil
 |cons y ys a=>
  intro us r;cases r with
  |cons r c=>
   let#[t,rfl]:=r;show .cons y t (a c)
theorem rN{q:δ}{ys:List Str}(h:η X.K H q (ys.map V.str))(a:(ys.map (·.length)).sum+ys.length*z.length<=16777216)(g:Q (.str (aeq z ys)) H):MT X "str.join" (.str z) [.ref q] H Q:=by
 show iU (r:=λx xs H Q=>∃z q ys,x=.str z/\xs=[.ref q]/\η X.K H q (ys.map V.str)/\(ys.map (·.length)).sum+ys.length*z.length<=16777216/\Q (.str (aeq z ys)) H) ?_ #[z,q,ys,rfl,rfl,h,a,g];intro ϵ s σ H x xs v us Q I rx rs h;let#[z,q,ys,rfl,rfl,h,a,g]:=h;let#[t,rfl]:=rx;let#[u,rfl,c]:=vals1 rs;cases(show u=Value.ref q from c);let#[i,f,pl,_]:=I.list h;show join_list pl.isList (by simpa using Qg f) a λt' k=>#[.str (aeq z ys),H,I.tok k,#[t',?_],g]
 let e:Txt.join z ys=aeq z ys:=by
  unfold Txt.join;cases ys with
  |nil=>rfl
  |cons y r=>show StrLaws.glued_cons z r y
 rw[e]
theorem J0(g:Q (.bl (Txt.startswith z y)) H):MT X "str.startswith" (.str z) [.str y] H Q:=by
 show iU (r:=λx xs H Q=>∃z y,x=.str z/\xs=[.str y]/\Q (.bl (Txt.startswith z y)) H) ?_ #[z,y,rfl,rfl,g];intro ϵ s σ H x xs v us Q I rx rs h;let#[z,y,rfl,rfl,g]:=h;let#[t,rfl]:=rx;let#[u,rfl,a]:=vals1 rs;let#[t',rfl]:=a;show SC.startswith #[.bl _,H,I,rfl,g]
theorem KC{q:δ}{bs:List Bool}(z:X.calm=true)(h:η X.K H q (bs.map V.bl))(g:Q (.bl (bs.all id)) H):CL X (.builtin "all") [.ref q] H Q:=by
 show dZ (r:=λxs H Q=>∃q bs,xs=[.ref q]/\η X.K H q (bs.map V.bl)/\Q (.bl (bs.all id)) H) ?_ #[q,bs,rfl,h,g];intro ϵ s σ H xs us Q I r h;let#[q,bs,rfl,h,g]:=h;let#[u,rfl,B]:=vals1 r;cases(show u=Value.ref q from B);let#[c,y,pl,hz]:=I.list h;show call_all_walk (ajD pl.isList ?_);let m:q<s.heap.objs.size:=by
  let#[o,n,_]:=pl.isList;show acr n
 let a:c.length=bs.length:=by have:=y.length;rw[abd]at this;show this.symm
 show#[s.heap.objs.size,[s.heap.objs.size,q],[s.heap.objs.size],c.toArray.size,(λi v=>c.toArray[i]?=some v),(λi h=>h.IsListIter s.heap.objs.size q i/\h.IsList q c.toArray),λi=>bs.getD i true,rfl,Walks.list (A:=X.A.in1) (show X.A.in1.handled=none from I.ok.hd z) s.heap.objs.size q (ac6 m) c.toArray,#[#[_,ab7 _ rfl,rfl,rfl],?_],?_,λh' tk C=>?_]
 .let#[o,n,r]:=pl.isList;show#[o,ϲ _ n,r]
 .intro i v s Q E D m;let f:c[i]?=some v:=by simpa using D
  let hi:i<bs.length:=by rw[<-a];show(aai.mp f).1
  let#[u,e1,F]:=y.get (i:=i) (x:=V.bl bs[i]) (by simp[hi]);rw[f]at e1;cases e1;cases(show v=Value.bool bs[i]from F);show agC ?_;have:bs.getD i true=bs[i]:=by simp[hi]
  let j:Q (bs.getD i true) s:=m;rw[this]at j;show j
 .let e:(aei c.toArray.size).all (λi=>bs.getD i true)=bs.all id:=by
   rw[abe,a,ahe,acz,acz];constructor
   .intro h b p;let#[i,hi,e]:=al5 p;have:=h i (by simpa using hi);simpa [hi,e]using this
   .intro h i hi;let l:i<bs.length:=by simpa using hi
    have:=h bs[i] (ah5 l);simpa [l]using this
  rw[e];let fp:=I.fpOk (Ϭ _) (I.hok.fresh (Ϭ _));let G:Inv X ϵ σ H {s with heap:=s.heap.push {cls:=.type "list_iterator",data:=.fields #v[.ref q,.int 0 0]}}:=I.kept (t':=s.toks) λb o e=>ϲ _ e
  show#[.bl _,H,G.turned (it:=s.heap.objs.size) (λb o p e=>C b o (by simpa using p) e) (I.hok.fresh (Ϭ _)) fp.2.1 fp.2.2.2.1 fp.2.2.2.2.1 fp.2.2.2.2.2,rfl,g]
end
theorem b7{env:Env}{scope:ahw}(sc:ahw)(c:env.scope=sc:=by rfl)(f:scope.kind=.function:=by rfl)(h:(scope.names.all λy=>(if y.2==.free then(sc.names.lookup y.1==some .cell||sc.names.lookup y.1==some .free)else true)&&y.2 !=.cell&&(if y.2==.local then scope.names.lookup y.1==some .local else true))=true:=by fin2):cu env scope:=by
 let h':=acz.mp h;show#[f,λy a e=>?_,λy a e=>?_,λy a e=>?_]
 .let q:=h' y a;simp only[e,beq_self_eq_true,if_true,abB,alJ,beq_iff_eq]at q;show env.scope.names.lookup y.1=_\/env.scope.names.lookup y.1=_;rw[c];show q.1.1
 .let q:=h' y a;rw[e]at q;simp at q
 .let q:=h' y a;simp only[e,abB,beq_iff_eq,beq_self_eq_true,if_true]at q;show q.2
theorem iV{α:Type}{xs:List V}{ys:List α}(f:α->V)(g:xs.length=ys.length)(h:∀(i:Nat) v,xs[i]?=some v->∃c,ys[i]?=some c/\v=f c):xs=ys.map f:=by
 apply List.ext_getElem?;intro i;rw[aci];cases e:xs[i]? with
 |none=>
  have:xs.length<=i:=List.getElem?_eq_none_iff.mp e;rw[alY ()];rfl
 |some v=>
  let#[c,e1,a]:=h i v e;rw[e1,a];rfl
section
variable{X:Cx}{H:Hp}{Q:VK}
end
def EJ(X:Cx)(vs:List Ϧ)(out:Str)(σ:St)(H:Hp)(Q:VK):Prop:=
 ∀(ϵ:List (δ×Obj))(s:μ),Inv X ϵ σ H s->ν (ϧ X.prog X.w) X.A (joinParts out (evalEach vs X.env)) (EP X ϵ σ Q) X.xe s
section
variable{X:Cx}{σ:St}{H:Hp}{Q:VK}{v v₁ v₂:Ϧ}{rest:List Ϧ}{pos:Pos}{out:Str}
end
def vh(X:Cx)(vs:List Ϧ)(n:Nat)(σ:St)(H:Hp)(R:Hp->Prop):=∀out:Str,out.length<=n->∀Q:VK,(∀z H',R H'->Q (.str z) H')->EJ X vs out σ H Q
section
variable{X:Cx}{σ:St}{H:Hp}{Q:VK}{R:Hp->Prop}{v v₁ v₂:Ϧ}{rest:List Ϧ}{pos:Pos}{n:Nat}
end
abbrev qm:List ε:=[.type "ValueError",.type "Exception",.type "BaseException",.type "object"]
def ξ(mg:Str->Option ε)(x:Str):δ:=match mg x with
 |some (.ref C)=>C
 |_=>0
theorem bW{mg:Str->Option ε}{x:Str}{C:δ}(h:mg x=some (.ref C)):ξ mg x=C:=by unfold ξ;rw[h]
structure QD(K:ϩ)(mg:Str->Option ε)(x:Str):Prop where
 at_:mg x=some (.ref (ξ mg x))
 ex:W.excIn K (ξ mg x) qm "ValueError.__new__"=true
theorem acf{K:ϩ}{mg:Str->Option ε}{x:Str}{C:δ}(h:mg x=some (.ref C))(e:W.excIn K C qm "ValueError.__new__"=true):QD K mg x:=by
 let z:ξ mg x=C:=by unfold ξ;rw[h]
 show#[by rw[z];show h,by rw[z];show e]
def afP(K:ϩ)(C:δ)(i:Option ε):Bool:=match K.lookup C with
 |some ⟨.type "type",_,.cls cd,sl⟩=>(match cd.mro,sl.toList with
  |.ref a::bm,[_,_,_,_,some (.builtin n),_]=>a==C&&n=="ValueError.__new__"&& !cd.hasDel&&W.tailIn K qm bm&&W.nsOkIn K cd.ns&&anQ K cd.ns "__init__"==some i
  |_,_=>false)
 |_=>false
section
variable{X:Cx}{Kx:St->XK}{D:Ends}{σ:St}{H:Hp}{x:Str}{np cpos pos:Pos}{e:Ϧ}{es:List Ϧ}
end
section
variable{X:Cx}{ϵ pins':List (δ×Obj)}{σ:St}{H:Hp}{s:μ}{F:ε->μ->Prop}{e:ε}
theorem Ch.jP{b:δ}(c:Ch (X.tri F (X.pn++ϵ)) pins' b):Ch X ϵ b:=#[c.1,c.2.1,c.2.2.1,λp a=>c.2.2.2 p (ajP _ a)]
end
def EH(X:Cx)(hs:List akP)(D:Ends)(σ:St)(cls:ε)(d:Option δ×Bool)(H:Hp):Prop:=
 ∀(ϵ:List (δ×Obj))(s:μ)(e T:δ),Inv X ϵ σ H s->bL s.heap e cls d (some T) .none->(∀b∈[e,T],H b=none/\Ch X ϵ b)->
  ν (ϧ X.prog X.w) X.A (handleBy (.ref e) X.env hs) (SP X ϵ D) X.xe s
section
variable{X:Cx}{D:Ends}{σ:St}{H:Hp}{h₀:akP}{hs rest:List akP}{body orelse suite:List Ϩ}{b₀:Ϩ}{pos np:Pos}{x n:Str}{cls c:ε}{d:Option δ×Bool}
theorem VR(Kx:St->XK)(c:X.stack=X.env::X.outer)(l:X.env.frame=some X.env.locals)(a:∀F pn,bY (X.tri F pn) Kx->aj3 (ϧ X.prog X.w) X.A X.env F->Ν (X.tri F pn) body {D with nx:=λσ' H'=>Ν X orelse D σ' H'} σ H)(hh:∀σ' cls d H',Kx σ' cls d H'->EH X (h₀::hs) D σ' cls d H'):SX X (.Try body (h₀::hs) orelse [] pos) D σ H:=by
 intro ϵ s I;show wpAny_Try_except ?_;show adR (a (λe g=>ν (ϧ X.prog X.w) X.A (noteFrame e X.env) (λ_ j=>ν (ϧ X.prog X.w) X.A (setFlight e none) (λ_ m=>ν (ϧ X.prog X.w) X.A (handleBy e X.env (h₀::hs)) (SP X ϵ D) X.xe m) X.xe j) X.xe g)
  (X.pn++ϵ) ?_ PassesOwn.looking [] s I.tri) (λf g q=>?_) λ_ _ q=>q
 .intro pins' σ' H' s' e cls d n q;let#[o,tb,p,x,i,ch]:=n;let y:=Inv.jP I.ok o;show tU.note (X:=X) (ϵ:=ϵ) #[y,tb,p,x,i,λb a=>#[(ch b a).1,(ch b a).2.jP]] c l λj T z F3 c3=>?_
  show z.off F3 c3 λB C E=>hh σ' cls d H' q ϵ B e T C E c3
 .cases f with
  |next=>
   let#[σ',H',J,q]:=q;show q ϵ g (Inv.jP I.ok J)
  |brk=>
   let#[σ',H',J,q]:=q;show#[σ',H',Inv.jP I.ok J,q]
  |cont=>
   let#[σ',H',J,q]:=q;show#[σ',H',Inv.jP I.ok J,q]
  |ret u=>
   let#[v,σ',H',J,r,q]:=q;show#[v,σ',H',Inv.jP I.ok J,r,q]
end
mutual
inductive RD (K:ϩ) (H:Hp):V->alp->Prop
 |non:RD K H .non .none
 |bl (b:Bool):RD K H (.bl b) (.bool b)
 |int (i:Int):RD K H (.int i) (.int i)
 |str (x:Str):RD K H (.str x) (.str x)
 |lst {a:δ} {xs:List V} {ds:List alp} (h:η K H a xs) (r:cW K H xs ds):RD K H (.ref a) (.list ds)
 |tup {a:δ} {xs:List V} {ds:List alp} (h:ο K H a xs) (r:cW K H xs ds):RD K H (.ref a) (.tuple ds)
inductive cW (K:ϩ) (H:Hp):List V->List alp->Prop
 |nil:cW K H [] []
 |cons {x:V} {d:alp} {xs:List V} {ds:List alp} (h:RD K H x d) (r:cW K H xs ds):cW K H (x::xs) (d::ds)
end
mutual
theorem RD.reads{X:Cx}{ϵ:List (δ×Obj)}{σ:St}{H:Hp}{s:μ}(I:Inv X ϵ σ H s):∀{v:V}{d:alp}{u:ε},RD X.K H v d->RelV v u->∃as,Reads s.heap u d as
 |_,_,_,.non,e=>by cases(show _=Value.none from e);show#[_,.none]
 |_,_,_,.bl b,e=>by cases(show _=Value.bool b from e);show#[_,.bool b]
 |_,_,_,.int i,e=>by let#[t,rfl]:=e;show#[_,.int i t]
 |_,_,_,.str x,e=>by let#[t,rfl]:=e;show#[_,.str x t]
 |_,_,_,.lst h r,e=>by
  cases(show _=Value.ref _ from e);let#[g,a,pl,_]:=I.list h;let#[as,q]:=cW.reads I r a;let#[o,c,f,n,hd]:=pl.isList;show#[_,.list c f hd (by simpa using q)]
 |_,_,_,.tup h r,e=>by
  cases(show _=Value.ref _ from e);let#[g,a,tp,_]:=I.tuple h;let#[as,q]:=cW.reads I r a;let#[o,c,f,n,hd]:=tp;show#[_,.tuple c f hd (by simpa using q)]
theorem cW.reads{X:Cx}{ϵ:List (δ×Obj)}{σ:St}{H:Hp}{s:μ}(I:Inv X ϵ σ H s):∀{vs:List V}{ds:List alp}{us:List ε},cW X.K H vs ds->Vals vs us->∃as,ReadsAll s.heap us ds as
 |_,_,_,.nil,.nil=>#[_,.nil]
 |_,_,_,.cons h r,.cons e t=>by
  let#[as,q]:=RD.reads I h e;let#[bs,a]:=cW.reads I r t;show#[_,.cons q a]
end
section
variable{X:Cx}{H:Hp}{Q:VK}{x y:V}{d d':alp}
theorem aex(g:X.A.units+64<cLine)(a:RD X.K H x d)(c:RD X.K H y d')(h1:d.canLay0=true)(h2:d'.canLay0=true)(hd:d.depth<=60)(q:Q (.bl (PyData.eqv d d')) H):OP X (adL .Eq) x y H Q:=by
 show#[λx y H Q=>RD X.K H x d/\RD X.K H y d'/\Q (.bl (PyData.eqv d d')) H,?_,a,c,q];intro ϵ s σ H x y v u Q I rx ry ⟨a,c,q⟩;let#[as,e]:=RD.reads I a rx;let#[bs,f]:=RD.reads I c ry;show SeqAt.rcAt_reads e f h1 h2 (by have:=amK d.depth d'.depth;omega) X.prog X.w X.xe _ #[.bl _,H,I,rfl,q]
theorem zu(g:X.A.units+64<cLine)(a:RD X.K H x d)(c:RD X.K H y d')(h1:d.canLay0=true)(h2:d'.canLay0=true)(hd:d.depth<=60)(q:Q (.bl (!PyData.eqv d d')) H):OP X (adL .NotEq) x y H Q:=by
 show#[λx y H Q=>RD X.K H x d/\RD X.K H y d'/\Q (.bl (!PyData.eqv d d')) H,?_,a,c,q];intro ϵ s σ H x y v u Q I rx ry ⟨a,c,q⟩;let#[as,e]:=RD.reads I a rx;let#[bs,f]:=RD.reads I c ry;show SeqAt.rcNeAt_reads e f h1 h2 (by have:=amK d.depth d'.depth;omega) X.prog X.w X.xe _ #[.bl _,H,I,rfl,q]
end
def ahZ(l:List Ϩ)(i:Nat):Ϩ:=l.getD i (.Pass #[0,0,0,0])
theorem ahO{A B:Prop}(h:A):if decide (V.non=V.non)=true then A else B:=by rw[if_pos (by decide)];show h
theorem aeF{A B:Prop}{i:Int}(h:B):if decide (V.int i=V.non)=true then A else B:=by rw[if_neg (by simp)];show h
theorem aet{A B:Prop}{i:Str}(h:B):if decide (V.str i=V.non)=true then A else B:=by rw[if_neg (by simp)];show h
theorem Xy{A B:Prop}{i:δ}(h:B):if decide (V.ref i=V.non)=true then A else B:=by rw[if_neg (by simp)];show h
theorem ab1{A B:Prop}(h:B):if(!decide (V.non=V.non))=true then A else B:=by rw[if_neg (by decide)];show h
theorem ahH{A B:Prop}{i:Int}(h:A):if(!decide (V.int i=V.non))=true then A else B:=by rw[if_pos (by simp)];show h
theorem aaE{A B:Prop}{i:Str}(h:A):if(!decide (V.str i=V.non))=true then A else B:=by rw[if_pos (by simp)];show h
theorem YW{X:Cx}{H:Hp}{Q:VK}{z:Str}{n:Int}(a:intText? z=some n)(c:z.length<=640)(q:Q (.int n) H):CL X (.type "int") [.str z] H Q:=by
 show dZ (r:=λxs H Q=>∃z n,xs=[.str z]/\intText? z=some n/\z.length<=640/\Q (.int n) H) ?_ #[z,n,rfl,a,c,q];intro ϵ s σ H xs us Q I r h;let#[z,n,rfl,a,c,q]:=h;let#[u,rfl,e]:=vals1 r;let#[t,rfl]:=e;show W.KIN.call_text a c #[.int n,H,I.tok _,#[_,rfl],q]
section
variable{X:Cx}{e:Ϧ}{es:List Ϧ}{σ:St}{H:Hp}{Q:VK}{pos p:Pos}
def DG:List (Str×String):=[("len","len"),("isinstance","isinstance"),("all","all"),("any","any"),("min","min"),("max","max"),("abs","abs"),("sum","sum"),("sorted","sorted"),("ord","ord"),("divmod","divmod")]
def vQ:List (Str×String):=[("str","str"),("list","list"),("tuple","tuple"),("int","int"),("set","set"),("bool","bool"),("dict","dict")]
theorem vL{x:Str}{i:String}{P:Str×String->Prop}:∀{l:List (Str×String)},l.lookup x=some i->(∀p∈l,P p)->P (x,i)
 |[],e,_=>by cases e
 |(y,k)::l,e,h=>by
  rw[agb]at e;split at e
  .next q=>cases e;rw[beq_iff_eq.mp q];show h _ (by simp)
  .show vL e λp a=>h p (by simp[a])
theorem agO:∀p∈DG,bootBuiltins p.1=some (.builtin p.2)/\p.1≠"__name__"/\(p.1==("__debug__":Str))=false:=by
 simp only[DG,amT];show#[#[PySem.boot_len,by decide,by decide],#[PyProof.Rows.boot_isinstance,by decide,by decide],#[PyProof.Rows.boot_all,by decide,by decide],#[PyProof.Rows.boot_any,by decide,by decide],#[PyProof.Rows.boot_min,by decide,by decide],#[PyProof.Rows.boot_max,by decide,by decide],#[PyProof.Rows.boot_abs,by decide,by decide],#[PyProof.Rows.boot_sum,by decide,by decide],#[PyProof.Rows.boot_sorted,by decide,by decide],#[PyProof.Rows.boot_ord,by decide,by decide],#[PyProof.Rows.boot_divmod,by decide,by decide],(λ_ h=>by cases h)]
theorem MF:∀p∈vQ,bootBuiltins p.1=some (.type p.2)/\p.1≠"__name__"/\(p.1==("__debug__":Str))=false:=by
 simp only[vQ,amT];show#[#[PyProof.Rows.boot_str,by decide,by decide],#[PyProof.Rows.boot_list,by decide,by decide],#[PyProof.Rows.boot_tuple,by decide,by decide],#[PyProof.Rows.boot_int,by decide,by decide],#[PyProof.Rows.boot_set,by decide,by decide],#[PyProof.Rows.boot_bool,by decide,by decide],#[PyProof.Rows.boot_dict,by decide,by decide],(λ_ h=>by cases h)]
variable{x:Str}{i:String}
theorem afY(g:DG.lookup x=some i)(j:Gl X x)(l:X.mg x=none)(m:ϴ (e::es) X.env=(false,eval e X.env)::ϴ es X.env)(f:(backTo pos (ϴ es X.env)).any (·.1)=false)(h:EA X (e::es) σ H λvs H1=>CL X (.builtin i) vs H1 Q):EV X (.Call (.Name x p) (e::es) [] pos) σ H Q:=by
 let#[a,b,c]:=vL g agO;show ab2 j l a b c m f h
theorem acd(g:vQ.lookup x=some i)(j:Gl X x)(l:X.mg x=none)(m:ϴ (e::es) X.env=(false,eval e X.env)::ϴ es X.env)(f:(backTo pos (ϴ es X.env)).any (·.1)=false)(h:EA X (e::es) σ H λvs H1=>CL X (.type i) vs H1 Q):EV X (.Call (.Name x p) (e::es) [] pos) σ H Q:=by
 let#[a,b,c]:=vL g MF;show acK j l a b c m f h
theorem ahz(e:vQ.lookup x=some i)(f:Gl X x)(g:X.mg x=none)(q:Q (.ty i) H):EV X (.Name x pos) σ H Q:=by
 let#[a,b,c]:=vL e MF;show aeK f g a q b c
def Qi:V->Option ε
 |.non=>some (.type "NoneType")|.bl _=>some (.type "bool")|.int _=>some (.type "int")|.str _=>some (.type "str")|_=>none
theorem WN{K:ϩ}{y:V}{t:ε}(h:Qi y=some t):cX K H y t:=by
 cases y<;>cases h
 .show .non
 .show .bl _
 .show .int _
 .show .str _
theorem KD{y:V}{t:ε}{T:String}{k:Bool}(q:Q (.bl k) H)(h:Qi y=some t:=by rfl)(e:am2 X.K t (.type T)=some k:=by rfl):CL X (.builtin "isinstance") [y,.ty T] H Q:=W6 (WN h) e q
def Vn(X:Cx)(x:Str)(σ:St):Option V:=match X.env.scope.names.lookup x with
 |some .local=>if(x==("__debug__":Str))||(x==("__classdict__":Str))then none else eF X.N σ x
 |some .cell=>if(x==("__debug__":Str))||(x==("__classdict__":Str))then none else eF X.N σ x
 |some .free=>if(x==("__debug__":Str))||(x==("__classdict__":Str))then none else eF X.N σ x
 |_=>none
theorem af6{v:V}(h:Vn X x σ=some v)(q:Q v H):EV X (.Name x pos) σ H Q:=by
 let a:qR X.env.scope x->(if(x==("__debug__":Str))||(x==("__classdict__":Str))then none else eF X.N σ x)=some v->EV X (.Name x pos) σ H Q:=λe h=>by
  split at h
  .cases h
  .next c=>
   rw[alJ,not_or,ano,ano]at c;show ahV h e q c.1 c.2
 unfold Vn at h;split at h
 .show a (.inl ‹_›) h
 .show a (.inr (.inl ‹_›)) h
 .show a (.inr (.inr ‹_›)) h
 .cases h
end
section
variable{X:Cx}{ϵ:List (δ×Obj)}{σ:St}{H:Hp}{s:μ}
theorem Inv.Dc{ch:List δ}{T:δ}{xs:List V}{us:List ε}{h':ϫ}{tk:Nat}(I:Inv X ϵ σ H s)(g:∀b∈ch,aY X ϵ H b)(l:s.heap.objs.size<=T)(k:∀b o,b∉ch->s.heap.get? b=some o->h'.get? b=some o)(hz:xs.length<=ϰ)(m:Vals xs us)(tp:IsTup h' T us.toArray):Inv X ϵ σ (upd H T (.tup xs)) {s with heap:=h',toks:=tk}:=by
 let f:=I.hok.fresh l;let neT:∀b o,s.heap.get? b=some o->b≠T:=λb o e z=>aiw _ (acw (acr e) (z▸l))
 let i:∀b u,H b=some u->b∉ch:=λb u e z=>by rw[(g b z).1]at e;cases e
 show I.call (g':=s.gens) (d':=s.drawn) (t':=tk) (ch:=ch) (h':=h') #[λb o e _ _ j=>k b o j e,λb o e _ _ j=>#[o.slots,k b o j e],λb o e n _=>?_,λb o e j=>#[o,k b o j e],λb ys e=>?_,λb o u e=>?_,λb ps e=>#[#v[],?_]] ?_ I.bare
  λb a=>#[(g b a).2.2.2.1,(g b a).2.1,(g b a).2.2.2.2.1,(g b a).2.2.2.2.2]
 .rw[ρ (neT b o e)];show n
 .rw[ρ (ϐ e f)];show e
 .rw[ρ (ϐ e f)];show e
 .rw[ρ (ϐ e f),e];simp
 .intro b u e;by_cases a:b=T
  .subst a;rw[υ]at e;cases e;show#[hz,us,m,tp]
  .rw[ρ a]at e;show(I.hok b u e).stay (λc v p q=>k c v ?_ q) (λc q=>by rw[ρ (ϐ q f)];show q) (λc ys q=>by rw[ρ (ϐ q f)];show q) λc x v q=>by rw[ρ (ϐ q f)];show q
   obtain z|z:=p
   .subst z;show i c u e
   .show i c _ z
end
def Cm(K:ϩ)(l:δ):It:=
 #[λi H=>∃xs x,η K H l xs/\xs[i]?=some x,λi H v H'=>∃T x,v=.ref T/\H T=none/\H'=upd H T (.tup [.int i,x])/\∀xs,η K H l xs->xs[i]?=some x,λi H=>∃xs,η K H l xs/\xs.length<=i]
theorem adg{P:Ϯ}{w:ϭ}{K:PySem.W.Frag}{elts:List Ϧ}{k:Nat}{pos:Pos}(l e it:δ)(F:e≠it)(G:l≠e)(J:l≠it):Turn P w K (.Tuple elts k pos) (Cm K l) [e,it] e (λi h=>(∃old,IsEnum h e it i old)/\h.IsListIter it l i)where
 mem:=by simp
 obj:=λi h st b c=>by
  let#[#[old,a],o,f,_,hd]:=st;obtain z|z:=aaF.mp c
  .subst z;show#[_,a,λv z=>by cases z]
  .let z':b=it:=by simpa using z
   subst z';show#[o,f,λv z=>by rw[hd]at z;cases z]
 keep:=λi h h' st kk=>by
  let#[#[old,a],o,f,r]:=st;show#[#[old,kk e (by simp) _ a],o,kk it (by simp) _ f,r]
 item:=by
  intro X L M O R i ϵ s σ H E I B st S;subst L M O;let#[#[old,a],g]:=st;let#[xs,x,C,j]:=S;let#[m,D,pl,hz]:=I.list C;let W:=WalksT.enumerate (prog:=X.prog) (w:=X.w) (A:=X.A) (I.ok.hd R) e it l F G J m.toArray;let hi:i<m.toArray.size:=by
   rw[abe, <-D.length];show(aai.mp j).1
  let#[u,hu,ru]:=D.get j;show W.item i s _ _ hi #[#[old,a],g,pl.isList] λT vals h1 tk hp U tup n keep=>#[.ref T,rfl,?_]
  let#[t,y,ey,rfl]:=hp;let Yd:y=u:=by
   have:m[i]?=some y:=by simpa using ey
   rw[hu]at this;show(Option.some.inj this).symm
  subst Yd;show W.go elts k pos i T {s with heap:=h1,toks:=tk} _ _ n λh2 Y mq=>?_
  let#[#[Z,ab],p,_]:=Y;let sI:IsTup h2 T [Value.int i t,y].toArray:=by
   let#[o,f,r]:=tup;show#[o,mq T o (W.apart i T h1 n) f,r]
  show#[.ref T,upd H T (.tup [.int i,x]),I.Dc (ch:=[e,it]) (tk:=tk) B U (λb o c q=>mq b o c (keep b o c q)) Δ (.cons #[t,rfl] (.cons ru .nil)) sI,rfl,?_,?_,λb c=>?_]
  .show#[T,x,rfl,I.hok.fresh U,rfl,λys hy=>?_];rw[<-I.list_inj C hy];show j
  .show#[#[Z,by simpa using ab],p]
  .have :b≠T:=λz=>by
    obtain⟨o,f,_⟩:∃o,s.heap.get? b=some o/\True:=by
     obtain z|z:=aaF.mp c
     .subst z;show#[_,a,trivial]
     .let z':b=it:=by simpa using z
      subst z';let#[o,f,_]:=g;show#[o,f,trivial]
    show aiw _ (acw (acr f) (z▸U))
   rw[ρ this];show(B b c).1
 done:=by
  intro X L M O R i ϵ s σ H E I B st S;subst L M O;let#[#[old,a],g]:=st;let#[xs,C,j]:=S;let#[m,D,pl,hz]:=I.list C;let hn:m.toArray[i]?=none:=ai9 (by rw[abe, <-D.length];show j);show wpAny_pyNext_enum_end (I.ok.hd R) a g pl.isList hn λh' hk=>#[rfl,?_]
  let#[f0,f1,f2,f3,f4,f5]:=B it (by simp);show I.turned (t':=s.toks) (it:=it) (λb o c q=>hk b o c q) f0 f1 f3 f4 f5
 self:=λA i s Q E st h=>by
  let#[#[old,a],_]:=st;show wpAny_pyIter_enum a h
section
variable{X:Cx}{σ:St}{H:Hp}{a b:Ϧ}{elts:List Ϧ}{k:Nat}{tp p pos:Pos}{R:It->Hp->Prop}
theorem aaN(x:Gl X "enumerate")(y:X.mg "enumerate"=none)(hs:ϴ [a] X.env=[(false,eval a X.env)])(h:EV X a σ H λv H1=>∃l xs,v=.ref l/\H1 l=some (.lst xs)/\R (Cm X.K l) H1):EI X (.Tuple elts k tp) (.Call (.Name "enumerate" p) [a] [] pos) σ H R:=by
 intro ϵ s I;show Call_ (gU I x y boot_enumerate (PyProof.Rows.callWith_type1 (χ (dN (es:=[]) (QA:=λvs H1=>∃l xs,vs=[.ref l]/\H1 l=some (.lst xs)/\R (Cm X.K l) H1) hs (az h λv H1 ⟨l,xs,e,B,C⟩=>jy #[l,xs,by rw[e],B,C]) pos ϵ s I) λus c D=>?_) hs rfl));let#[vs,H1,f,E,l,xs,e,F,q]:=D;subst e;let#[u,rfl,G]:=vals1 E;cases(show u=Value.ref l from G);let#[hz,M,n,O,m]:=f.hok l _ F;show call_enumerate_1 m λh' o i hsz J=>?_
 show wpAny_pyIter_enum o ?_;let g:l<c.heap.objs.size:=acr m;show#[c.heap.objs.size+1,[c.heap.objs.size+1,c.heap.objs.size],_,_,H1,rfl,f.kept (t':=c.toks) J,adg l _ _ (Nat.succ_ne_self _) (ac6 (alT g)) (ac6 g),#[#[_,o],i],λb L=>?_,q];let j:b=c.heap.objs.size+1\/b=c.heap.objs.size:=by simpa using L
 obtain z|z:=j<;>subst z
 .show f.fpOk (alS _) (f.hok.fresh (alS _))
 .show f.fpOk (Ϭ _) (f.hok.fresh (Ϭ _))
end
section
variable{X:Cx}{ϵ:List (δ×Obj)}{σ:St}{H:Hp}{s:μ}
theorem Inv.Uu{ch:List δ}{h':ϫ}{tk:Nat}(I:Inv X ϵ σ H s)(a:∀b∈ch,aY X ϵ H b)(k:∀b o,b∉ch->s.heap.get? b=some o->h'.get? b=some o):Inv X ϵ σ H {s with heap:=h',toks:=tk}:=by
 let f:∀b u,H b=some u->b∉ch:=λb u e z=>by rw[(a b z).1]at e;cases e
 show I.call (g':=s.gens) (d':=s.drawn) (t':=tk) (ch:=ch) (h':=h') #[λb o e _ _ g=>k b o g e,λb o e _ _ g=>#[o.slots,k b o g e],λb o e n _=>n,λb o e g=>#[o,k b o g e],λb ys e=>e,λb o u e=>e,λb ps e=>#[#v[],?_]] ?_ I.bare
  λb i=>#[(a b i).2.2.2.1,(a b i).2.1,(a b i).2.2.2.2.1,(a b i).2.2.2.2.2]
 .rw[e];simp
 .intro b u e;show(I.hok b u e).stay (λc v j q=>k c v ?_ q) (λc q=>q) λc ys q=>q
  obtain z|z:=j
  .subst z;show f c u e
  .show f c _ z
end
def Fg(K:ϩ)(l m:δ):It:=
 #[λi H=>∃xs ys x y,η K H l xs/\η K H m ys/\xs[i]?=some x/\ys[i]?=some y,
  λi H v H'=>∃T x y,v=.ref T/\H T=none/\H'=upd H T (.tup [x,y])/\(∀xs,η K H l xs->xs[i]?=some x)/\∀ys,η K H m ys->ys[i]?=some y,
  λi H=>∃xs ys,η K H l xs/\η K H m ys/\min xs.length ys.length<=i]
theorem aic{P:Ϯ}{w:ϭ}{K:PySem.W.Frag}{elts:List Ϧ}{k:Nat}{pos:Pos}(z TI TO j n l m:δ)(D:ZipApart z TI TO j n l m):Turn P w K (.Tuple elts k pos) (Fg K l m) [z,TI,TO,j,n] z (λi h=>IsZip h z TI TO .none/\IsPair h TI (.ref j) (.ref n)/\(∃a b,IsPair h TO a b)/\h.IsListIter j l i/\h.IsListIter n m i)where
 mem:=by simp
 obj:=λi h st b g=>by
  let#[hz,f,#[a,Y,c],#[Z,h1,_,d1],#[o2,h2,_,d2]]:=st;simp only[aaF,age,or_false]at g;obtain e|e|e|e|e:=g<;>subst e
  .show#[_,hz,λv z=>by cases z]
  .show#[_,f,λv z=>by cases z]
  .show#[_,c,λv z=>by cases z]
  .show#[_,h1,λv z=>by rw[d1]at z;cases z]
  .show#[_,h2,λv z=>by rw[d2]at z;cases z]
 keep:=λi h h' st kk=>by
  let#[hz,f,#[a,Y,c],#[Z,h1,r1],#[o2,h2,r2]]:=st;show#[kk z (by simp) _ hz,kk TI (by simp) _ f,#[a,Y,kk TO (by simp) _ c],#[Z,kk j (by simp) _ h1,r1],#[o2,kk n (by simp) _ h2,r2]]
 item:=by
  intro X hP hw hK hc i ϵ s σ H E I O st hg;subst hP hw hK;let#[hz,f,c,h1,h2]:=st;let#[xs,ys,x,y,R,p,S,hy]:=hg;let#[C,U,pl,hsz]:=I.list R;let#[its',B,Al,F]:=I.list p;let W:=WalksT.zip2 (prog:=X.prog) (w:=X.w) (A:=X.A) (I.ok.hd hc) z TI TO j n l m D C.toArray its'.toArray;let hi:i<min C.toArray.size its'.toArray.size:=by
   rw[abe, <-U.length,abe, <-B.length];show Nat.lt_min.mpr #[(aai.mp S).1,(aai.mp hy).1]
  let#[u,hu,ru]:=U.get S;let#[u',ab,Dz]:=B.get hy;show W.item i s _ _ hi #[hz,f,c,h1,h2,pl.isList,Al.isList] λT vals hh tk hp hT tup G keep=>#[.ref T,rfl,?_]
  let#[v,v',ev,ac,rfl]:=hp;let e1:v=u:=by
   have:C[i]?=some v:=by simpa using ev
   rw[hu]at this;show(Option.some.inj this).symm
  let e2:v'=u':=by
   have:its'[i]?=some v':=by simpa using ac
   rw[ab]at this;show(Option.some.inj this).symm
  subst e1 e2;show W.go elts k pos i T {s with heap:=hh,toks:=tk} _ _ G λh3 ae mq=>?_
  let#[gz,Xk,af,g1,g2,_]:=ae;let J:∀b,b∉[z,TI,TO,j,n]->b∉[z,TO,j,n]:=λb g L=>g (by simp at L⊢;obtain e|e|e|e:=L<;>simp[e])
  let sI:IsTup h3 T [v,v'].toArray:=by
   let#[o,ho,r]:=tup;show#[o,mq T o (W.apart i T hh G) ho,r]
  show#[.ref T,upd H T (.tup [x,y]),I.Dc (ch:=[z,TI,TO,j,n]) (tk:=tk) O hT (λb o g q=>mq b o (J b g) (keep b o (J b g) q)) Δ (.cons ru (.cons Dz .nil)) sI,rfl,?_,#[gz,Xk,af,g1,g2],λb g=>?_]
  .show#[T,x,y,rfl,I.hok.fresh hT,rfl,λa ha=>?_,λa ha=>?_]
   .rw[<-I.list_inj R ha];show S
   .rw[<-I.list_inj p ha];show hy
  .have :b≠T:=λq=>by
    obtain⟨o,ho⟩:∃o,s.heap.get? b=some o:=by
     let#[a,Y,c]:=c;let#[Z,h1,_]:=h1;let#[o2,h2,_]:=h2;simp only[aaF,age,or_false]at g;obtain e|e|e|e|e:=g<;>subst e
     .show#[_,hz]
     .show#[_,f]
     .show#[_,c]
     .show#[_,h1]
     .show#[_,h2]
    show aiw _ (acw (acr ho) (q▸hT))
   rw[ρ this];show(O b g).1
 done:=by
  intro X hP hw hK hc i ϵ s σ H E I O st hg;subst hP hw hK;let#[hz,f,#[a,b,c],h1,h2]:=st;let#[xs,ys,R,p,S]:=hg;let#[C,U,pl,hsz]:=I.list R;let#[its',B,Al,F]:=I.list p;let M:C.toArray[i]?=none\/its'.toArray[i]?=none:=by
   by_cases q:xs.length<=i
   .show .inl (ai9 (by rw[abe, <-U.length];show q))
   .show .inr (ai9 (by rw[abe, <-B.length];omega))
  show wpAny_pyNext_zip_end (I.ok.hd hc) D hz f c h1 h2 pl.isList Al.isList M λh' hk=>#[rfl,?_]
  show I.Uu (tk:=s.toks) O λb o g q=>hk b o (λe=>g (by simp[e])) (λe=>g (by simp[e])) (λe=>g (by simp[e])) (λe=>g (by simp[e])) q
 self:=λA i s Q E st h=>wpAny_pyIter_zip st.1 h
theorem ab4(n l m:Nat)(h1:l<n)(h2:m<n):ZipApart (n+4) (n+2) (n+3) n (n+1) l m:=by
 constructor<;>(intro e;let a:(_:Nat)=_:=e;omega)
section
variable{X:Cx}{σ:St}{H:Hp}{a b:Ϧ}{elts:List Ϧ}{k:Nat}{tp p pos:Pos}{R:It->Hp->Prop}
theorem Xx(B:Gl X "zip")(C:X.mg "zip"=none)(hs:ϴ [a,b] X.env=[(false,eval a X.env),(false,eval b X.env)])(c:ϴ [b] X.env=[(false,eval b X.env)])(h:EV X a σ H λv H1=>EV X b σ H1 λx H2=>∃l m xs ys,v=.ref l/\x=.ref m/\H2 l=some (.lst xs)/\H2 m=some (.lst ys)/\R (Fg X.K l m) H2):EI X (.Tuple elts k tp) (.Call (.Name "zip" p) [a,b] [] pos) σ H R:=by
 intro ϵ s I;show Call_ (gU I B C boot_zip (PyProof.Rows.callWith_type1 (χ (dN (es:=[b]) (QA:=λvs H1=>∃l m xs ys,vs=[.ref l,.ref m]/\H1 l=some (.lst xs)/\H1 m=some (.lst ys)/\R (Fg X.K l m) H1) (by rw[hs,c]) (az h λv H1 q=>dN (es:=[]) c (az q λx H2 ⟨l,m,xs,ys,e,D,E,F,G⟩=>jy #[l,m,xs,ys,by rw[e,D],E,F,G])) pos ϵ s I) λus f J=>?_) (by rw[hs,c]) (by rw[c];rfl)));let#[vs,H1,g,L,l,m,xs,ys,e,M,o,q]:=J;subst e;let#[u,O,rfl,P,Q]:=vals2 L;cases(show u=Value.ref l from P);cases(show O=Value.ref m from Q);let#[hz,S,n,rv,y]:=g.hok l _ M;let#[T,its',n',U,i]:=g.hok m _ o;show call_zip_2 (xs:=S.toArray) (ys:=its'.toArray) #[_,y,rfl,_,rfl] #[_,i,rfl,_,rfl] λh' h1 h2 W Y Z hsz hk=>?_
 show wpAny_pyIter_zip h1 ?_;show#[f.heap.objs.size+4,[f.heap.objs.size+4,f.heap.objs.size+2,f.heap.objs.size+3,f.heap.objs.size,f.heap.objs.size+1],_,_,H1,rfl,g.kept (t':=f.toks) hk,aic _ _ _ _ _ l m (ab4 _ _ _ (acr y) (acr i)),#[h1,h2,#[_,_,W],Y,Z],λb z=>?_,q];let j:f.heap.objs.size<=b:=by
  simp only[aaF,age,or_false]at z;obtain e|e|e|e|e:=z<;>subst e
  .show ajj _ _
  .show ajj _ _
  .show ajj _ _
  .show Ϭ _
  .show ajj _ _
 show g.fpOk j (g.hok.fresh j)
end
section
variable{X:Cx}{a e:Ϧ}{σ:St}{H:Hp}{Q:VK}{D:Ends}{pos p p':Pos}
theorem JP{Y:Cx}{tg elt:Ϧ}{J:It}{E:δ}{z:St}{Q:Hp->Prop}(n:Nat)(hn:n<=ϰ)(B:St->Prop)(W:B z)(f:Nat->V->Hp->Prop)(U:H E=none)(mono:∀i v H1 H2 ys,H1 E=some (.lst ys)->(∀b o,b≠E->H1 b=some o->H2 b=some o)->f i v H1->f i v H2)(go:∀i H1,ζ H H1->i<n->J.go i H1)(stop:∀H1,ζ H H1->J.stop n H1)(step:∀i l x H1 H2,i<n->B l->ζ H H1->(∃ys,H1 E=some (.lst ys)/\ys.length=i/\∀k v,ys[k]?=some v->f k v H1)->J.yld i H1 x H2->EG Y tg x l H2 λg O=>EV Y elt g O λv p=>B g/\f i v p/\ζ H1 p)(fin:∀H1 xs,xs.length=n->(∀i v,xs[i]?=some v->f i v H1)->H1 E=some (.lst xs)->ζ H H1->Q H1):jm X Y tg elt [] J E z H Q:=by
 show#[λi m l H1=>m=n-i/\i<=n/\ζ H H1/\B l/\∃xs,H1 E=some (.lst xs)/\xs.length=i/\∀k v,xs[k]?=some v->f k v H1,#[n,by simp,afT _,ζ.upd U,W,[],υ,rfl,λk v e=>by simp at e],?_]
 rintro i m l H1 ⟨rfl,hi,C,P,xs,D,G,R⟩
 by_cases j:i<n
 .show .inr #[go i H1 C j,λF H'=>ζ H H'/\B F/\∃xs,H' E=some (.lst xs)/\xs.length=i+1/\∀k v,xs[k]?=some v->f k v H',λF H' ⟨a,b,c⟩=>#[n-(i+1),(),rfl,j,a,b,c],λx H2 y=>?_];intro ϵ s u I r;show χ (step i l x H1 H2 j P C #[xs,D,G,R] y ϵ s u I r) λ_ s' ⟨g,O,Z,q3⟩=>#[g,O,Z,V7 ?_]
  rw[if_pos rfl];show az q3 λv p ⟨t2,pv,L⟩=>#[xs,L _ _ D,(),?_]
  let mm:∀k M,f k M p->f k M (upd p E (.lst (xs++[v]))):=λk M q=>mono k M p _ xs (L _ _ D) (λb o S e=>by rw[ρ S];show e) q
  show#[λb o e=>?_,t2,xs++[v],υ,by simp[G],λk u e=>?_]
  .rw[ρ (ϐ e U)];show L _ _ (C _ _ e)
  .by_cases hk:k<xs.length
   .rw[ajG hk]at e;show mono k u H1 _ xs D (λb o S e=>?_) (R k u e);rw[ρ S];show L _ _ e
   .let T:k=i:=by
     have:=(aai.mp e).1;rw[ac7,afi]at this;omega
    subst T;rw[<-G,aln]at e;cases e;show mm _ _ pv
 .let e:i=n:=()
  subst e;show .inl #[stop H1 C,fin H1 xs G R D C]
variable{tg elt iter:Ϧ}{scope:ahw}{σ':St}
def uo(X:Cx)(N':List Str)(scope:ahw)(tg elt:Ϧ)(σ':St)(H1:Hp)(Q:VK)(n:Nat)(G:Nat->Hp->V->Hp->Prop):Prop:=
 ∃(f:St->Prop)(e:δ->Nat->V->Hp->Prop),f σ'/\
  (∀E i v H2 a ys,H2 E=some (.lst ys)->(∀b o,b≠E->H2 b=some o->a b=some o)->e E i v H2->e E i v a)/\
  (∀(fp:List δ)(E C:δ)(g:μ)(j:Hp)(i:Nat)(l:St)(x:V)(H2 a:Hp),H1 E=none->i<n->f l->ζ H1 H2->(∃ys,H2 E=some (.lst ys))->G i H2 x a->
   EG (bQ X N' scope (ϒ scope X.env) C g j fp) tg x l a λc p=>EV (bQ X N' scope (ϒ scope X.env) C g j fp) elt c p λv m=>f c/\e E i v m/\ζ H2 m)/\
  ∀(E:δ)(H2:Hp)(xs:List V),H1 E=none->xs.length=n->(∀i v,xs[i]?=some v->e E i v H2)->H2 E=some (.lst xs)->ζ H1 H2->Q (.ref E) H2
theorem Ca{N':List Str}{J:It}{n:Nat}{G:Nat->Hp->V->Hp->Prop}(f:n<=ϰ)(go:∀i H2,ζ H H2->i<n->J.go i H2)(stop:∀H2,ζ H H2->J.stop n H2)(g:∀i H2 x e,i<n->ζ H H2->J.yld i H2 x e->G i H2 x e)(h:uo X N' scope tg elt σ' H Q n G):∀(fp:List δ)(D C:δ)(a:μ),H D=none->jm X (bQ X N' scope (ϒ scope X.env) C a (upd H D (.lst [])) fp) tg elt [] J D σ' H (λH'=>Q (.ref D) H'):=by
 intro fp E C a c;let#[j,m,t0,mono,step,fin]:=h;show JP n f j t0 (m E) c (λi v H1 H2 ys=>mono E i v H1 H2 ys) go stop (λi o x H1 H2 hi p hs q y=>step fp E C a _ i o x H1 H2 c hi p hs (q.imp λ_ z=>z.1) (g i H1 x H2 hi hs y)) λH1 xs l u B s=>fin E H1 xs c l u B s
theorem lG(N':List Str)(S:cu X.env scope)(h:EV X e σ H λv H1=>∃l xs,v=.ref l/\η X.K H1 l xs/\xs.length<=ϰ/\uo X N' scope tg elt σ' H1 Q xs.length λi H2 x f=>xs[i]?=some x/\H2=f)(c:cz N' X.N σ scope=σ':=by rfl)(g:X.calm=true:=by rfl)(hs:∀x,foldedSetIterable e X.env x=pure x:=by intro _;rfl):EV X (.ListComp elt [#[tg,e,[],0]] scope pos) σ H Q:=by
 show vV (N':=N') g S hs (oH (az h λv H1 q=>?_));let#[l,xs,rfl,a,hz,j]:=q;show#[l,rfl,#[xs,a],?_];rw[c];show Ca hz (λi H2 s hi=>#[xs,xs[i],ζ.seq s a,aad hi]) (λH2 s=>#[xs,ζ.seq s a,Ϭ _]) (λi H2 x f hi s y=>#[y.2 xs (ζ.seq s a),y.1.symm]) j
theorem Nr{b:Ϧ}{elts:List Ϧ}{k:Nat}{tp:Pos}(N':List Str)(S:cu X.env scope)(D:X.mg "zip"=none)(h:EV X a σ H λv H1=>EV X b σ H1 λo H2=>∃l m xs ys,v=.ref l/\o=.ref m/\H2 l=some (.lst xs)/\H2 m=some (.lst ys)/\min xs.length ys.length<=ϰ/\
   uo X N' scope (.Tuple elts k tp) elt σ' H2 Q (min xs.length ys.length) λi c x B=>∃T y z,x=.ref T/\c T=none/\B=upd c T (.tup [y,z])/\xs[i]?=some y/\ys[i]?=some z)(f:cz N' X.N σ scope=σ':=by rfl)(E:X.calm=true:=by rfl)(F:Gl X "zip":=by rfl)(hs:ϴ [a,b] X.env=[(false,eval a X.env),(false,eval b X.env)]:=by rfl)(g:ϴ [b] X.env=[(false,eval b X.env)]:=by rfl):EV X (.ListComp elt [#[.Tuple elts k tp,.Call (.Name "zip" p) [a,b] [] p',[],0]] scope pos) σ H Q:=by
 show vV (N':=N') E S (by intro _;rfl) (Xx F D hs g (az h λv H1 q=>az q λo H2 q=>?_));let#[l,m,xs,ys,e1,G,C,e,h2,I]:=q;show#[l,m,xs,ys,e1,G,C,e,?_];rw[f];let j:η X.K H2 l xs:=.inl (.inl C);let n:η X.K H2 m ys:=.inl (.inl e);show Ca h2 (λi c s hi=>#[xs,ys,xs[i]'(),ys[i]'(),ζ.seq s j,ζ.seq s n,aad _,aad _]) (λc s=>#[xs,ys,ζ.seq s j,ζ.seq s n,Ϭ _]) (λi c x B hi s y=>?_) I;let#[T,u,J,L,M,O,P,R]:=y;show#[T,u,J,L,M,O,P xs (ζ.seq s j),R ys (ζ.seq s n)]
theorem acp{elts:List Ϧ}{k:Nat}{tp:Pos}{body:List Ϩ}(o:aj3 (ϧ X.prog X.w) X.A X.env X.xe)(s:X.calm=true)(z:Gl X "enumerate")(B:X.mg "enumerate"=none)(hs:ϴ [a] X.env=[(false,eval a X.env)])(h:EV X a σ H λv H1=>∃l xs,v=.ref l/\H1 l=some (.lst xs)/\∃c:Nat->St->Hp->Prop,c 0 σ H1/\(∀i σ' H',i<=xs.length->c i σ' H'->η X.K H' l xs)/\
   (∀i x T σ' H',xs[i]?=some x->c i σ' H'->H' T=none->EG X (.Tuple elts k tp) (.ref T) σ' (upd H' T (.tup [.int i,x])) λf H2=>Ν X body {D with nx:=c (i+1),ct:=c (i+1),bk:=D.nx} f H2)/\∀σ' H',c xs.length σ' H'->D.nx σ' H'):SX X (.For (.Tuple elts k tp) (.Call (.Name "enumerate" p) [a] [] p') body [] pos) D σ H:=by
 show lD o s (by intro _;rfl) (aaN z B hs (az h λv H1 q=>?_));let#[l,xs,rfl,C,c,E,F,j,hd]:=q;show#[l,xs,rfl,C,λi m σ H=>m=xs.length-i/\i<=xs.length/\c i σ H,#[xs.length,by simp,afT _,E],?_]
 rintro i m σ' H' ⟨rfl,hi,p⟩
 let n:=F i σ' H' hi p;by_cases g:i<xs.length
 .show .inr #[#[xs,xs[i],n,aad g],c (i+1),λf H2 p2=>#[xs.length-(i+1),(),rfl,g,p2],λx H2 y=>?_];let#[T,u,e1,G,I,J]:=y;subst e1 I;show j i u T σ' H' (J xs n) p G
 .let e:i=xs.length:=()
  subst e;show .inl #[#[xs,n,Ϭ _],hd σ' H' p]
end
section
variable{Kt:Type} [DecidableEq Kt] [BEq Kt] [LawfulBEq Kt]
def dH(ks:List Kt):List Kt:=ks.foldl (λa k=>if k∈a then a else a++[k]) []
theorem qY(ks:List Kt)(k:Kt):dH (ks++[k])=if k∈dH ks then dH ks else dH ks++[k]:=by
 unfold dH;rw[am9];rfl
theorem xQ:∀n (ks:List Kt),ks.length=n->(dH ks).length<=ks.length
 |0,ks,h=>by rw[alK.mp h];show Ϭ _
 |n+1,ks,h=>by
  obtain⟨l,k,rfl⟩:∃l k,ks=l++[k]:=#[_,_,(akS (ajK h)).symm];let a:l.length=n:=by simpa using h
  let c:=xQ n l a;rw[qY];split <;>simp <;>omega
theorem Ia:∀n (ks:List Kt),ks.length=n->∀k,k∈dH ks↔k∈ks
 |0,ks,h=>by rw[alK.mp h];intro k;show Iff.rfl
 |n+1,ks,h=>by
  obtain⟨l,x,rfl⟩:∃l k,ks=l++[k]:=#[_,_,(akS (ajK h)).symm];let c:l.length=n:=by simpa using h
  let a:=Ia n l c;intro k;rw[qY,ae6,acy];split
  .rename_i f;rw[a];constructor
   .show .inl
   .rintro(e|e)
    .show e
    .rw[e];show(a x).mp f
  .rw[ae6,acy,a]
theorem yJ:∀n (ks:List Kt),ks.length=n->((dH ks).length=ks.length↔ks.Nodup)
 |0,ks,h=>by rw[alK.mp h];simp[dH]
 |n+1,ks,h=>by
  obtain⟨l,x,rfl⟩:∃l k,ks=l++[k]:=#[_,_,(akS (ajK h)).symm];let c:l.length=n:=by simpa using h
  let g:=yJ n l c;let le:=xQ n l c;let i:=Ia n l c x;rw[qY,ana];split
  .rename_i f;constructor
   .intro e;simp at e;omega
   .intro e;show absurd rfl (e.2.2 x (i.mp f) x (by simp))
  .rename_i f;rw[ac7,ac7,afi];constructor
   .intro e;show#[g.mp (),by simp,λa j b m=>?_];rw[acy.mp m];intro o;show f (i.mpr (o▸j))
   .intro e;rw[g.mpr e.1]
end
section
variable{prog:Ϯ}{w:ϭ}{A:ϱ}{E:ε->μ->Prop}{s:μ}{zs:List Str}{us:Array ε}
def strAt(us:Array ε)(zs:List Str):=∀(i:Nat)(v:ε),us[i]?=some v->∃t z,v=.str z t/\zs[i]?=some z
def iz(prog:Ϯ)(w:ϭ)(h:ϫ)(S:δ)(zs:List Str):Prop:=h.SetOf (strKind prog w) S (λk=>decide (k∈dH zs)) (dH zs).length
theorem iz.stay{h h':ϫ}{S:δ}(x:iz prog w h S zs)(k:∀o,h.get? S=some o->h'.get? S=some o):iz prog w h' S zs:=by
 let#[o,es,ep,t,a,rest]:=x;show#[o,es,ep,t,k _ a,rest]
theorem adZ{R:Result->μ->Prop}{it:δ}{fp wr:List δ}{G:Array GenState->Array GenState->Prop}{St:Nat->μ->Prop}(W:WalksS prog w A.in1 it fp wr G us.size (λi v=>us[i]?=some v) St)(S:δ)(D:S∉fp)(hz:strAt us zs)(I:us.size=zs.length)(a:us.size+1<scanBound)(d:Nat):∀(i:Nat)(s:μ),d+i=us.size->St i s->iz prog w s.heap S (zs.take i)->
   (∀s',Moved (S::wr) G s s'->iz prog w s'.heap S zs->R (.ok (.ret .none)) s')->codeAny (ϧ prog w) A (.builtin "set.update.loop" #[[.ref S,.ref it],[]]) R s:=by
 let c:S∉wr:=λh=>D (W.sub _ h)
 let up:∀b∈wr,b∈S::wr:=λb a=>adF _ a
 induction d with
 |zero=>
  intro i s hi st j n;let e:i=us.size:=()
  subst e;show ajn F.entry_set_update_loop ?_;rw[Around.under_plainId F.plain_set_update_loop _];show π (m:=pyNext (.ref it)) (W.done s _ _ st λs' f=>?_);show ϯ (n s' (f.mono up) ?_);rw[I,amx]at j;show j.stay λo p=>f.heap S o c p
 |succ d J=>
  intro i s hi st j n;show ajn F.entry_set_update_loop ?_;rw[Around.under_plainId F.plain_set_update_loop _];show π (m:=pyNext (.ref it)) (W.item i s _ _ () st λv s' L q f=>?_);let#[t,z,rfl,M]:=hz i v L;let u:=j.stay (h':=s'.heap) λo p=>f.heap S o c p
  show ν _ A.in1 (holding [Value.str z t] (setAdd S (.str z t))>>=_) _ _ s';show π (ahu ?_);unfold setAdd;show ahu (π ((strKind prog w).pyHash (k:=z) (strKind_is _ _ _ _) ?_));let E:zs.take (i+1)=zs.take i++[z]:=by rw[List.take_add_one,M];rfl
  let g:(dH (zs.take i)).length+1<scanBound:=by
   have:=xQ _ (zs.take i) rfl;have:(zs.take i).length<=zs.length:=by simp;omega
   omega
  show wpAny_setAddHashed_of (knd:=strKind prog w) (s:={s' with toks:=s'.toks+1}) (strKind_is _ _ _ _) rfl u g λh' H x=>?_
  let y:iz prog w h' S (zs.take (i+1)):=by
   show SetOf_congr x (λk=>?_) ?_
   .rw[E,qY];split
    .rename_i l;by_cases e:k=z
     .subst e;simp[l]
     .simp[e]
    .by_cases e:k=z
     .subst e;simp
     .simp[e]
   .rw[E,qY];by_cases l:z∈dH (zs.take i)
    .simp[l]
    .simp[l]
  show ϯ #[plainId_quiet F.plain_set_update_loop _,J (i+1) _ () (W.frame _ s' _ _ q (alS _) λb a o e=>?_) y λO B C=>?_]
  .rw[H.2 b (λh:b=S=>D (h▸a))];show e
  .show n O (Moved.trans W.gtrans ((f.mono up).then_heap (alS _) λb o a e=>?_) B) C;rw[H.2 b (λh:b=S=>a (h▸aeh))];show e
abbrev newSet(h:ϫ)(led:Bool):ϫ:=h.push {cls:=.type "set",dict:=none,data:=.set #v[] 0 (.fresh 0 0 led)}
set_option maxRecDepth 100000 in
theorem af9{l S:δ}{Q:ε->μ->Prop}(hh:A.handled=none)(v:s.heap.IsList l us)(f:∃a,s.heap.get? S=some {cls:=.type "set",dict:=none,data:=.set #v[] 0 (.fresh 0 0 a)})(hz:strAt us zs)(y:us.size=zs.length)(j:us.size+1<scanBound)(h:∀(h':ϫ)(tk:Nat),iz prog w h' S zs->(∀b o,b≠S->s.heap.get? b=some o->h'.get? b=some o)->Q .none {s with heap:=h',toks:=tk}):codeAny (ϧ prog w) A (.call (.builtin "set.__init__") #[[.ref S,.ref l],[]]) (wants Q E) s:=by
 let#[a,f]:=f;let z:s.TypeIs (.ref S) "set":=#[_,f,rfl];show codeAny_call_builtin F.called_set.init.plain F.entry_set_init (check_set_init_1 z ?_);let g:=v;let#[#[oc,od,m,os],c,x,nl,hd]:=v;simp only at x hd;subst x hd;let L:=F.sub_list_set;let M:=F.sub_list_frozenset;let O:(Value.type "list"==Value.type "dict")=false:=by decide
 unfold alP.«set.__init__» noKeywords Builtin.Frozenset.updateFrom;generalize n:pyIter=PI
 wp_walk
 subst n;show ajD g (π (wpAny_runValue ?_));let B:S<s.heap.objs.size:=acr f;let C:l<s.heap.objs.size:=acr c;let D:A.in1.in1.handled=none:=by simp[hh]
 let p:S≠l:=λe=>by subst e;rw[f]at c;simp at c
 show adZ (us:=us) ((Walks.list D _ l (ac6 C) us).toS) S (by simp only[aaF,age,or_false,not_or];show#[ac6 B,p]) hz y j us.size 0 {s with heap:=s.heap.push {cls:=.type "list_iterator",data:=.fields #v[.ref l,.int 0 0]}} ()
  #[#[_,ab7 _ rfl,rfl,rfl],(g.push _)] ?_ ?_
 .let hget:=ϲ {cls:=.type "list_iterator",data:=.fields #v[.ref l,.int 0 0]} f;show SetOf_congr ((setObjOf_fresh (knd:=strKind prog w) a).setOf hget (by unfold scanBound;omega)) (λ_=>rfl) rfl
 .intro s' i G;let#[h',g',d',q,u]:=s';let H:g'=s.gens:=i.gens;let I:d'=s.drawn:=i.drawn;let J:u=s.os:=i.os;subst H I J;show ϯ ?_;show ν _ _ (ret Value.none) _ _ _;show ϯ (h h' q G λb o j e=>?_);show i.heap b o ?_ (ϲ _ e);simp only[aaF,age,or_false,not_or];show#[j,ac6 (acr e)]
set_option maxRecDepth 100000 in
theorem adq{l:δ}{Q:ε->μ->Prop}(hh:A.handled=none)(x:s.heap.IsList l us)(hz:strAt us zs)(y:us.size=zs.length)(z:us.size+1<scanBound)(h:∀(h':ϫ)(tk:Nat),iz prog w h' s.heap.objs.size zs->(∀b o,s.heap.get? b=some o->h'.get? b=some o)->Q (.ref s.heap.objs.size) {s with heap:=h',toks:=tk}):ν (ϧ prog w) A (call (.type "set") [.ref l]) Q E s:=by
 let#[c,tl,q]:=F.called_set.mro;let m:=F.called_set.made;let u:=F.called_set.sub;let h1:=F.called_set.notType;let h2:=F.called_set.canCreate;let B:=F.typeCall_set_1 (.ref l);show wpAny_call (codeAny_of_tree ?_);show ν _ _ (callAny (.type "set") _) _ _ _;show ϯ #[Code.quiet_builtin _ (by fin2),ajn F.entry_type_call ?_];rw[Around.under_plain (weight_type_call_type "set" [.ref l] []) rfl]
 repeat (any_goals (first|assumption|wp_step))
 show ajy (code_set_new_1 (.ref l) (E:=E) (Q₁:=λobj g=>∃a:Bool,obj=.ref s.heap.objs.size/\g={s with heap:=newSet s.heap a}) λa=>#[a,rfl,rfl]) λr g n=>?_
 rcases r with e|(_|_|_|obj)
 all_goals first|show n|show n.elim|skip
 let#[a,rfl,rfl]:=n;let v:(newSet s.heap a).get? s.heap.objs.size=some {cls:=.type "set",dict:=none,data:=.set #v[] 0 (.fresh 0 0 a)}:=ab7 _ rfl;let G:Shared.TypeIs {s with heap:=newSet s.heap a} (.ref s.heap.objs.size) "set":=#[_,v,rfl];let C:=F.called_set.init.lookup;let D:=F.called_set.init.bind (.ref s.heap.objs.size)
 repeat (any_goals (first|assumption|wp_step))
 show ajy (af9 (E:=E) (s:={s with heap:=newSet s.heap a}) (Q:=λr i=>r=.none/\∃h' tk,i={s with heap:=h',toks:=tk}/\iz prog w h' s.heap.objs.size zs/\∀b o,s.heap.get? b=some o->h'.get? b=some o) (by simp[hh]) (x.push _) #[a,v] hz y z λh' tk p k=>#[rfl,h',tk,rfl,p,λb o e=>k b o (ac6 (acr e)) (ϲ _ e)]) λj i f=>?_
 rcases j with e|(_|_|_|r)
 all_goals first|show f|show f.elim|skip
 let#[rfl,h',tk,rfl,p,k]:=f
 repeat (any_goals (first|assumption|wp_step))
 show h _ _ p k
end
section
variable{X:Cx}{H:Hp}{Q:VK}{v:V}
def lW(X:Cx)(S:δ)(zs:List Str):HO:=.ext λh=>iz X.prog X.w h S zs
theorem Rp{q:δ}{zs:List Str}(n:X.calm=true)(h:η X.K H q (zs.map V.str))(hz:zs.length<=4000)(g:∀S,H S=none->Q (.ref S) (upd H S (lW X S zs))):CL X (.type "set") [.ref q] H Q:=by
 show dZ (r:=λxs H Q=>∃q zs,xs=[.ref q]/\η X.K H q (zs.map V.str)/\zs.length<=4000/\∀S,H S=none->Q (.ref S) (upd H S (lW X S zs))) ?_ #[q,zs,rfl,h,hz,g];intro ϵ s σ H xs us Q I r h;let#[q,zs,rfl,h,hz,g]:=h;let#[u,rfl,p]:=vals1 r;cases(show u=Value.ref q from p);let#[c,j,pl,_]:=I.list h;let l:c.length=zs.length:=by have:=j.length;rw[abd]at this;show this.symm
 let f:strAt c.toArray zs:=λi v e=>by
  let m:c[i]?=some v:=by simpa using e
  let hi:i<zs.length:=by rw[<-l];show(aai.mp m).1
  let#[u,e1,y]:=j.get (i:=i) (x:=V.str zs[i]) (by simp[hi]);rw[m]at e1;cases e1;let#[t,rfl]:=y;show#[t,zs[i],rfl,aad hi]
 show adq (I.ok.hd n) pl.isList f (by simpa using l) (by show _<4096;simp;omega) λh' tk a k=>?_
 show#[.ref s.heap.objs.size,_,I.laid (t':=tk) (o:=lW X s.heap.objs.size zs) k (Ϭ _) #[a,?_,λh1 h2 a z=>a.stay z],rfl,g _ (I.hok.fresh (Ϭ _))];let#[o,es,ep,t,B,_]:=a;show#[o,B]
theorem Tg{S:δ}{zs:List Str}(h:H S=some (lW X S zs))(hz:zs.length<=4000)(g:Q (.int (dH zs).length) H):CL X (.builtin "len") [.ref S] H Q:=by
 show dZ (r:=λxs H Q=>∃S zs,xs=[.ref S]/\H S=some (lW X S zs)/\zs.length<=4000/\Q (.int (dH zs).length) H) ?_ #[S,zs,rfl,h,hz,g];intro ϵ s σ H xs us Q I r h;let#[S,zs,rfl,h,hz,g]:=h;let#[u,rfl,c]:=vals1 r;cases(show u=Value.ref S from c);let#[#[o,es,ep,t,e,a,hd,f,l,m,i,j],_]:=I.hok S _ h;let le:=xQ _ zs rfl;show call_len_set e a hd i () #[.int es.size,H,I.tok _,#[_,rfl],?_];rw[j];show g
theorem Vu{x:V}{p:δ}{xs:List V}(h:ο X.K H p xs)(q:Q (.bl (!gF x xs)) H)(f:gh x=true:=by rfl)(fs:xs.all gh=true:=by rfl):OP X (adL .NotIn) x (.ref p) H Q:=bf Xd #[p,xs,rfl,.inr h,f,fs,q]
theorem ni{x:V}{p:δ}{xs:List V}(h:ο X.K H p xs)(q:Q (.bl (gF x xs)) H)(f:gh x=true:=by rfl)(fs:xs.all gh=true:=by rfl):OP X (adL .In) x (.ref p) H Q:=bf Wm #[p,xs,rfl,.inr h,f,fs,q]
theorem Xa{l b:δ}{xs zs:List V}(h1:H l=some (.lst xs))(h2:H b=some (.lst zs))(hz:xs.length+zs.length<=ϰ)(q:∀p,H p=none->Q (.ref p) (upd H p (.lst (xs++zs)))):OP X (binaryOp .Add) (.ref l) (.ref b) H Q:=bf aii #[l,b,xs,zs,rfl,rfl,h1,h2,hz,q]
end
section
variable{X:Cx}{H:Hp}{D:Ends}{σ σ':St}{e a elt tg:Ϧ}{scope:ahw}{pos spos py p p':Pos}{y:Str}{j:Nat}
theorem rO(N':List Str)(S:cu X.env scope)(m:X.N.Nodup)(h:EV X e σ H λv H1=>∃l xs,v=.ref l/\η X.K H1 l xs/\xs.length<=ϰ/\uo X N' scope tg elt σ' H1 (λv H'=>D.nx (σ.set j (some v)) H') xs.length λi H2 x g=>xs[i]?=some x/\H2=g)(c:cz N' X.N σ scope=σ':=by rfl)(f:alr (.ListComp elt [#[tg,e,[],0]] scope pos) (some (.Name y py)) spos.line X.env=pure true:=by rfl)(n:X.calm=true:=by rfl)(hs:∀x,foldedSetIterable e X.env x=pure x:=by intro _;rfl)(hi:nameAt X.N y=some j:=by rfl)(o:X.env.scope.names.lookup y=some .local:=by rfl):SX X (.Assign [.Name y py] (.ListComp elt [#[tg,e,[],0]] scope pos) spos) D σ H:=by
 show S7 (N':=N') f n S hs m hi o (oH (az h λv H1 q=>?_));let#[l,xs,rfl,a,hz,p]:=q;show#[l,rfl,#[xs,a],?_];rw[c];show Ca (J:=iY X.K l) hz (λi H2 s hi=>#[xs,xs[i],ζ.seq s a,aad hi]) (λH2 s=>#[xs,ζ.seq s a,Ϭ _]) (λi H2 x g hi s y=>#[y.2 xs (ζ.seq s a),y.1.symm]) p
end
def cutAt(c:Nat):List Nat->List (List Nat)
 |[]=>[[]]
 |x::r=>if x=c then[]::cutAt c r else match cutAt c r with
  |[]=>[[x]]
  |h::t=>(x::h)::t
def d7(c:Nat):List (List Nat)->List Nat
 |[]=>[]
 |[p]=>p
 |p::q::r=>p++c::d7 c (q::r)
theorem Qz(c:Nat):∀l,cutAt c l≠[]
 |[]=>by simp[cutAt]
 |x::r=>by
  unfold cutAt;split
  .simp
  .split <;>simp
theorem IW{c:Nat}:∀{p:List Nat},c∉p->cutAt c p=[p]
 |[],_=>rfl
 |x::r,h=>by
  let a:=IW (c:=c) (p:=r) λz=>h (by simp[z])
  unfold cutAt;rw[if_neg (λz=>h (by simp[z])),a]
theorem Mg{c:Nat}{l:List Nat}:∀{p:List Nat},c∉p->cutAt c (p++c::l)=p::cutAt c l
 |[],_=>by
  show cutAt c (c::l)=_;rw[cutAt,if_pos rfl]
 |x::r,h=>by
  let a:=Mg (c:=c) (l:=l) (p:=r) λz=>h (by simp[z])
  show cutAt c (x::(r++c::l))=_;rw[cutAt,if_neg (λz=>h (by simp[z])),a]
theorem wO{c:Nat}:∀{ps:List (List Nat)},ps≠[]->(∀p∈ps,c∉p)->cutAt c (d7 c ps)=ps
 |[],h,_=>absurd rfl h
 |[p],_,h=>IW (h p (by simp))
 |p::q::r,_,h=>by
  show cutAt c (p++c::d7 c (q::r))=_;rw[Mg (h p (by simp)),wO (by simp) λx a=>h x (adF _ a)]
theorem Et(c:Nat):∀l,(cutAt c l).length<=l.length+1
 |[]=>by simp[cutAt]
 |x::r=>by
  let a:=Et c r;unfold cutAt;split
  .simp;show a
  .split
   .simp
   .rename_i h t e;rw[e]at a;simp at a⊢;omega
theorem R8(c:Nat):∀l,d7 c (cutAt c l)=l
 |[]=>rfl
 |x::r=>by
  let a:=R8 c r;unfold cutAt;split
  .rename_i h;cases e:cutAt c r with
   |nil=>show absurd e (Qz c r)
   |cons p q=>
    rw[e]at a;show[]++c::d7 c (p::q)=_;rw[a,h];rfl
  .cases e:cutAt c r with
   |nil=>show absurd e (Qz c r)
   |cons p q=>
    rw[e]at a;simp only;cases q with
    |nil=>
     show x::p=_;rw[show p=r from a]
    |cons y q=>
     show(x::p)++c::d7 c (y::q)=_;rw[<-a];rfl
theorem nQ(c:Nat):∀ps:List Str,(aeq #[#v[c]] ps).cps.toList=d7 c (ps.map λp=>p.cps.toList)
 |[]=>rfl
 |[p]=>rfl
 |p::q::r=>by
  let a:=nQ c (q::r);let e:aeq #[#v[c]] (p::q::r)=p++#[#v[c]]++aeq #[#v[c]] (q::r):=rfl;rw[e];show((p.cps++ #v[c])++(aeq #[#v[c]] (q::r)).cps).toList=_;simp only[al6];rw[a];simp[d7]
theorem aeT(x:Str)(c:Nat):Txt.split x #[#v[c]]≠[]:=by
 unfold Txt.split;split
 .simp
 .split
  .simp
  .unfold Builtin.Str.partsBetween;simp
theorem split_list(x:Str)(c:Nat):(Txt.split x #[#v[c]]).map (λp=>p.cps.toList)=cutAt c x.cps.toList:=by
 let h1:(aeq #[#v[c]] (Txt.split x #[#v[c]])).cps.toList=x.cps.toList:=by rw[StrLaws.join_split]
 rw[nQ]at h1;rw[<-h1];show(wO (by simpa using aeT x c) λp a=>?_).symm;let#[q,e,rfl]:=adw.mp a;show StrLaws.split_free x c q e
def Ψ(c:Nat)(x:Str):List Str:=(cutAt c x.cps.toList).map λl=>#[l.toArray]
theorem vI(x:Str)(c:Nat):Txt.split x #[#v[c]]=Ψ c x:=by
 unfold Ψ;rw[<-split_list,agn];have:((λl:List Nat=>(#[l.toArray]:Str))∘λp:Str=>p.cps.toList)=id:=by
  funext p;rfl
 rw[this,amt]
section
variable{X:Cx}{H:Hp}{Q:VK}{z y:Str}{v:V}
theorem Us:∀l:List (Str×Tok),Vals ((l.map (·.1)).map V.str) (strValues l)
 |[]=>.nil
 |p::l=>.cons #[p.2,rfl] (Us l)
theorem m_split{c:Nat}(g:∀p,H p=none->Q (.ref p) (upd H p (.lst ((Ψ c z).map V.str))))(hz:z.length<=100000:=by omega):MT X "str.split" (.str z) [.str #[#v[c]]] H Q:=by
 show iU (r:=λx xs H Q=>∃z c,x=.str z/\xs=[.str #[#v[c]]]/\z.length<=100000/\∀p,H p=none->Q (.ref p) (upd H p (.lst ((Ψ c z).map V.str)))) ?_ #[z,c,rfl,rfl,hz,g];intro ϵ s σ H x xs v us Q I rx rs h;let#[z,c,rfl,rfl,hz,g]:=h;let#[t,rfl]:=rx;let#[u,rfl,f]:=vals1 rs;let#[t',rfl]:=f;let i:(Ψ c z).length<=z.length+1:=by
  let h1:=Et c z.cps.toList;unfold Ψ;rw[abd];let h2:z.cps.toList.length=z.length:=rfl;omega
 let hsz:=ϳ;let fin:∀(l:List (Str×Tok))(tk:Nat),l.map (·.1)=Ψ c z->EP X ϵ σ Q (.ref s.heap.objs.size) {s with toks:=tk,heap:=s.heap.push {cls:=.type "list",data:=.seq (strValues l).toArray}}:=λl tk e=>
  #[.ref s.heap.objs.size,_,I.laid (t':=tk) (o:=.lst ((Ψ c z).map V.str)) (λb o q=>ϲ _ q) (Ϭ _) #[by rw[abd];omega,strValues l,_,by rw[<-e];show Us l,ab7 _ rfl],rfl,g _ (I.hok.fresh (Ϭ _))]
 cases h1:(decide (z.length<(#[#v[c]]:Str).length)||decide (Builtin.Str.strKind z<Builtin.Str.strKind #[#v[c]]))
 .cases hf:(Builtin.Str.occurrences z #[#v[c]] 0 z.length (z.length+1)).isEmpty
  .let e:Txt.split z #[#v[c]]=Builtin.Str.partsBetween z (Builtin.Str.occurrences z #[#v[c]] 0 z.length (z.length+1)) (#[#v[c]]:Str).length:=by
    unfold Txt.split;rw[if_neg (by rw[h1];decide),if_neg (by rw[hf];decide)]
   let a:=i;rw[<-vI,e]at a;show alC F.slot_str_split (typeIs_str _ _ _) F.entry_str_split (F.args_str_split_2 _ _) (meets_str_split_sep z #[#v[c]] t t' h1 rfl hf () ()) ?_;have:=fin (numbered s.toks (Txt.split z #[#v[c]])) (s.toks+(Builtin.Str.partsBetween z (Builtin.Str.occurrences z #[#v[c]] 0 z.length (z.length+1)) (#[#v[c]]:Str).length).length) (by rw[numbered_texts,vI]);rw[<-strsFrom_eq,e]at this;show this
  .let e:Txt.split z #[#v[c]]=[z]:=by
    unfold Txt.split;rw[if_neg (by rw[h1];decide),if_pos hf]
   show alC F.slot_str_split (typeIs_str _ _ _) F.entry_str_split (F.args_str_split_2 _ _) (meets_str_split_not_found z #[#v[c]] t t' h1 rfl hf) (fin [(z,t)] s.toks (by rw[<-vI,e];rfl))
 .let e:Txt.split z #[#v[c]]=[z]:=by
   unfold Txt.split;rw[if_pos h1]
  show alC F.slot_str_split (typeIs_str _ _ _) F.entry_str_split (F.args_str_split_2 _ _) (meets_str_split_cannot_occur z #[#v[c]] t t' h1) (fin [(z,t)] s.toks (by rw[<-vI,e];rfl))
theorem afo{c:Nat}(q:Q (.int c) H):CL X (.builtin "ord") [.str #[#v[c]]] H Q:=by
 show dZ (r:=λxs H Q=>∃c:Nat,xs=[.str #[#v[c]]]/\Q (.int c) H) ?_ #[c,rfl,q];intro ϵ s σ H xs us Q I r h;let#[c,rfl,q]:=h;let#[u,rfl,a]:=vals1 r;let#[t,rfl]:=a;show P.ord_of_char #[.int c,H,I.tok _,#[_,rfl],q]
theorem agW{i:Int}(hi:0<=i)(a:i<1000)(g:Q (.str (Txt.zfill z i)) H):MT X "str.zfill" (.str z) [.int i] H Q:=by
 show iU (r:=λx xs H Q=>∃z i,x=.str z/\xs=[.int i]/\0<=i/\i<1000/\Q (.str (Txt.zfill z i)) H) ?_ #[z,i,rfl,rfl,hi,a,g];intro ϵ s σ H x xs v us Q I rx rs h;let#[z,i,rfl,rfl,hi,a,g]:=h;let#[t,rfl]:=rx;let#[u,rfl,c]:=vals1 rs;let#[t',rfl]:=c;show SC.zfill ?_ λe k=>#[.str _,H,I.tok k,#[e,rfl],g]
 show padOk_of () ()
end
def Ab(K:ϩ)(l:δ)(n:Nat):It:=
 #[λi H=>i<n/\∃xs,η K H l xs/\xs.length=n,λi H x H'=>H'=H/\∀xs,η K H l xs->xs[n-1-i]?=some x,λi _=>i=n]
theorem acA{P:Ϯ}{w:ϭ}{K:ϩ}{tg:Ϧ}(l it:δ)(n:Nat):Turn P w K tg (Ab K l n) [it] it (λi h=>h.IsRevIter it l ((n:Int)-1-(i:Int)))where
 mem:=by simp
 obj:=λi h st b a=>by
  let e:b=it:=by simpa using a
  subst e;let#[o,e,c,d]:=st;show#[o,e,λv z=>by rw[d]at z;cases z]
 keep:=λi h h' st k=>st.at λo e=>k it (by simp) o e
 item:=by
  intro X m q y M i ϵ s σ H E I j st B;subst m q y;let#[hi,xs,O,hx]:=B;let#[ϸ,Q,p,hz]:=I.list O;let f:n-1-i<xs.length:=()
  let#[u,R,S]:=Q.get (aad f);let#[C,D,T,F,G,J]:=j it (by simp);let ei:((n:Int)-1-(i:Int))=((n-1-i:Nat):Int):=()
  rw[ei]at st;show wpAny_pyNext_rev_item st p.isList (x:=u) (by simpa using R) λh' g U=>?_
  let W:Inv X ϵ σ H {s with heap:=h'}:=I.turned (t':=s.toks) (λb o a e=>(U.2 b a).trans e) C D F G J;let#[o,e,c,d]:=id g;show#[u,rfl,rW (s:={s with heap:=h'}) e c d (by decide) #[_,H,W,S,#[rfl,λys Y=>?_],?_,λb a=>(j b a).1]]
  .rw[I.list_inj Y O];show aad f
  .let L:((n:Int)-1-((i+1:Nat):Int))=((n-1-i:Nat):Int)-1:=()
   rw[L];show g
 done:=by
  intro X m q y M i ϵ s σ H E I j st B;subst m q y;let#[C,D,T,F,G,J]:=j it (by simp);let e:i=n:=B;let L:((n:Int)-1-(i:Int))= -1:=()
  rw[L]at st;show wpAny_pyNext_rev_end (I.ok.hd M) st λh' Z=>#[rfl,I.turned (t':=s.toks) (λb o a e=>Z b o a e) C D F G J]
 self:=λ_ _ _ _ _ st h=>wpAny_pyIter_revIter st h
section
variable{X:Cx}{σ:St}{H:Hp}{a:Ϧ}{tg:Ϧ}{p pos p':Pos}{R:It->Hp->Prop}{D:Ends}
theorem afW(m:Gl X "reversed")(n:X.mg "reversed"=none)(hs:ϴ [a] X.env=[(false,eval a X.env)])(h:EV X a σ H λv H1=>∃l xs,v=.ref l/\η X.K H1 l xs/\R (Ab X.K l xs.length) H1):EI X tg (.Call (.Name "reversed" p) [a] [] pos) σ H R:=by
 intro ϵ s I;show Call_ (gU I m n boot_reversed (PyProof.Rows.callWith_type1 (χ (dN (es:=[]) (QA:=λvs H1=>∃l xs,vs=[.ref l]/\η X.K H1 l xs/\R (Ab X.K l xs.length) H1) hs (az h λv H1 ⟨l,xs,e,x,y⟩=>jy #[l,xs,by rw[e],x,y]) pos ϵ s I) λus c z=>?_) hs rfl));let#[vs,H1,g,B,l,xs,e,C,q]:=z;subst e;let#[u,rfl,D]:=vals1 B;cases(show u=Value.ref l from D);let#[i,E,pl,hz]:=g.list C;let j:=E.length;show call_reversed_list pl.isList ?_;let f:(c.heap.push (revObj l ((i.toArray.size:Int)-1))).IsRevIter c.heap.objs.size l ((i.toArray.size:Int)-1):=#[_,ab7 _ rfl,rfl,rfl];show wpAny_pyIter_revIter f ?_;show#[c.heap.objs.size,[c.heap.objs.size],_,_,H1,rfl,g.kept (t':=c.toks) λb o e=>ϲ _ e,acA l _ xs.length,?_,λb F=>?_,q]
 .let e:((xs.length:Int)-1-((0:Nat):Int))=(i.toArray.size:Int)-1:=by simp;omega
  rw[e];show f
 .let e:b=c.heap.objs.size:=by simpa using F
  subst e;show g.fpOk (Ϭ _) (g.hok.fresh (Ϭ _))
theorem Ny{body:List Ϩ}(n:aj3 (ϧ X.prog X.w) X.A X.env X.xe)(o:X.calm=true)(s:Gl X "reversed")(u:X.mg "reversed"=none)(hs:ϴ [a] X.env=[(false,eval a X.env)])(h:EV X a σ H λv H1=>∃q xs,v=.ref q/\η X.K H1 q xs/\∃c:Nat->St->Hp->Prop,c 0 σ H1/\(∀i σ' H',i<=xs.length->c i σ' H'->η X.K H' q xs)/\
   (∀i x σ' H',i<xs.length->xs[xs.length-1-i]?=some x->c i σ' H'->EG X tg x σ' H' λg H2=>Ν X body {D with nx:=c (i+1),ct:=c (i+1),bk:=D.nx} g H2)/\∀σ' H',c xs.length σ' H'->D.nx σ' H'):SX X (.For tg (.Call (.Name "reversed" p) [a] [] p') body [] pos) D σ H:=by
 show lD n o (by intro _;rfl) (afW s u hs (az h λv H1 q=>?_));let#[q,xs,rfl,z,c,B,l,j,hd]:=q;show#[q,xs,rfl,z,λi m σ H=>m=xs.length-i/\i<=xs.length/\c i σ H,#[xs.length,by simp,afT _,B],?_]
 rintro i m σ' H' ⟨rfl,hi,p⟩
 by_cases f:i<xs.length
 .show .inr #[#[f,xs,l i σ' H' hi p,rfl],c (i+1),λg H2 p2=>#[xs.length-(i+1),(),rfl,f,p2],λx H2 y=>?_];let#[rfl,e]:=y;show j i x σ' _ f (e xs (l i σ' _ hi p)) p
 .let e:i=xs.length:=()
  show .inl #[e,?_];subst e;show hd σ' H' p
end
theorem acW{M:Model}{A:ϱ}{E:ε->μ->Prop}{s:μ}{α:Type}{e T L:δ}{cls:ε}{d:Option δ×Bool}{x:ε}{a:String}{env:Env}{Q:α->μ->Prop}(y:env.frame=some L)(F:bL s.heap e cls d (some T) x)(k:∀h',rR s.heap h' [T] []->bL h' e cls d (some T) (rawInt L)->E (.ref e) {s with heap:=h'}):ν M A (passOn a (.ref e) env) Q E s:=by
 let#[B,vs,i,C,j,hd,h1,hz,h2,D]:=F;let#[m,I,ws,c,f,G]:=D T rfl;let p:3<ws.size:=(ajg.mp G).1;let g:vs[1]?=some (Value.ref T):=h1;unfold PySem.passOn;show π (agT i hd g ?_);rw[if_neg (show ¬((Value.ref T==Value.none)=true)from by simp)];show π ?_;unfold setFlight;show π (agT i hd g ?_);rw[if_pos (show(Value.ref T !=Value.none)=true from by simp),y];show wpAny_setField c f p (wpAny_throw (k _ #[λb o q _ n=>?_,λb o q n=>#[o.slots,?_],λb o q=>?_] ?_))
 .rw[ac9 _ _ (λz=>n (by simp[z]))];show q
 .rw[ac9 _ _ (λz=>n (by simp[z]))];show q
 .by_cases z:b=T
  .subst z;show#[_,afG _ c (Obj.isFreed_of_fields (Obj.data_mapFields f _))]
  .show#[o,by rw[ac9 _ _ (Ne.symm z)];show q]
 .show#[B,vs,?_,C,j,hd,h1,hz,h2.stay λv o ws J l u=>?_,λO H=>?_]
  .rw[ac9 _ _ m];show i
  .by_cases z:v=T
   .subst z;rw[c]at l;cases l;show#[_,_,afG _ c (Obj.isFreed_of_fields (Obj.data_mapFields f _)),Obj.data_mapFields u _,by rw[aim (by decide)]]
   .show#[o,ws,by rw[ac9 _ _ (Ne.symm z)];show l,u,rfl]
  .cases H;show#[m,_,_,afG _ c (Obj.isFreed_of_fields (Obj.data_mapFields f _)),Obj.data_mapFields f _,by simp[p]]
section
variable{X:Cx}{ϵ:List (δ×Obj)}{σ:St}{H:Hp}{s:μ}{scope:ahw}{N':List Str}{fp:List δ}{elt iter tg:Ϧ}{ifs:List Ϧ}{pos:Pos}{Kx:St->XK}
theorem XF{G:ε->μ->Prop}{a:Env}(n:compEnvC scope (ϒ scope X.env) s.heap.objs.size X.env=a)(c:X.stack=X.env::X.outer)(i:X.env.frame=some X.env.locals)(g:Inv X ϵ σ H s)(F:∀b∈fp,aY X ϵ H b)(p:∀{pins':List (δ×Obj)}{B:St}{H':Hp}{s':μ},Inv (dw X N' scope (ϒ scope X.env) s.heap.objs.size s H fp (notedBy (ϧ X.prog X.w) X.A a G)) pins' B H' s'->Inv X ϵ σ H' s')(u:∀(H':Hp)(s':μ)(e t:δ)(cls:ε)(d:Option δ×Bool),a.frame=some X.env.locals->Inv X ϵ σ H' s'->aY X ϵ H' a.locals->(∃m,s'.heap.Ns a.locals m)->bL s'.heap e cls d (some t) (rawInt X.env.locals)->
   (∀b∈[e,t],(H' b=none/\Ch X ϵ b)/\b≠a.locals)->Kx σ cls d H'->G (.ref e) s'):bY (dw X N' scope (ϒ scope X.env) s.heap.objs.size s H fp (notedBy (ϧ X.prog X.w) X.A a G)) (λ_=>Kx σ):=by
 let v:a.locals=s.heap.objs.size:=by rw[<-n];rfl
 intro pins' B H' s' e cls d I q;let#[J,tb,L,M,x,ch]:=I;let IX:=p J;let f:∀b∈e::tb.toList,(H' b=none/\Ch X ϵ b)/\b≠s.heap.objs.size:=λb j=>by
  let#[O,c1,c2,c3]:=ch b j;show#[#[O,?_],c2];obtain z|z:=c1
  .let#[_,P,_,Q,R,S]:=F b z;show#[Q,P,R,S]
  .show g.ch z
 let l:(L==rawInt X.env.locals)=false:=by
  obtain z|⟨z,_⟩:=x
  .rw[z];simp[rawInt]
  .rw[z,beq_eq_false_iff_ne];intro C;simp only[rawInt]at C;let T:((s.heap.objs.size:Nat):Int)=((X.env.locals:Nat):Int):=by injection C
   show ak8 g.lt (Int.ofNat.inj T)
 let D:=IX.stack;rw[c]at D;show ν _ _ (noteFrame (.ref e) a) _ _ _;rw[show noteFrame (.ref e) a=noteFrame (.ref e) X.env by rw[<-n];rfl];show SN (base:=X.base) (IX.ok.frames.trans (by rw[c])) D i M l λh' t N y U=>?_
 let#[m,E,_]:=J.loc;show u H' _ e t cls d (by rw[<-n];show i) (IX.noted (by rw[c];show N) λb j=>(f b j).1) (by rw[v];show g.fpOk (Ϭ _) J.free) #[m,?_] U (λb j=>?_) q
 .rw[v];let#[o,W,Y,Z,hr]:=E;show#[o,W,Y,N.keep _ _ Z (λz=>?_) (λz=>(f _ z).2 rfl),hr];rw[<-c]at z;rcases aaF.mp (g.stkSub _ z)with e|e
  .show aiw _ (e▸g.lt)
  .show g.nofs (Ϭ _) e
 .rw[v];obtain z|z:=aaF.mp j
  .subst z;show f _ aeh
  .let z':b=t:=by simpa using z
   subst z';show#[#[IX.hok.fresh y,IX.ch (alu y)],λz=>aiw _ (acw E.lt (z▸y))]
theorem aca{Q:ε->μ->Prop}{use:Option (ε->Sem Unit)}(B:bY X Kx){j:ε}{C:Env}{H':Hp}{s':μ}{e t:δ}{cls:ε}{d:Option δ×Bool}(l:C.frame=some X.env.locals)(I:Inv X ϵ σ H' s')(D:aY X ϵ H' C.locals)(i:∃m,s'.heap.Ns C.locals m)(F:bL s'.heap e cls d (some t) (rawInt X.env.locals))(ch:∀b∈[e,t],(H' b=none/\Ch X ϵ b)/\b≠C.locals)(q:Kx σ cls d H'):rm (ϧ X.prog X.w) X.A X.xe use Q j C (.error (.ref e)) s':=by
 let#[m,i]:=i;let#[E,G,f2,H,J,L]:=D;let c:∃m,s'.heap.Ns C.locals m/\∀h',ajr C.locals s'.heap h'->ν (ϧ X.prog X.w) X.A (passOn "comprehension.variables-let-go" (.ref e) C:Sem ε) (λ_ _=>False) X.xe {s' with heap:=h'}:=by
  show#[m,i,λh' a=>?_];let M:Inv X ϵ σ H' {s' with heap:=h'}:=I.turned (t':=s'.toks) (λb o f e=>a.extBut b o f e) E G H J L;let O:bL h' e cls d (some t) (rawInt X.env.locals):=by
   let#[P,vs,R,S,p,hd,h1,hz,h2,U]:=F;show#[P,vs,a.extBut _ _ (ch e (by simp)).2 R,S,p,hd,h1,hz,h2.stay (λv o ws hv u x=>#[o,ws,a.extBut _ _ (λz=>by
    let#[_,_,_,y,g,_]:=i;rw[<-z,u]at y;cases y;rw[x]at g;cases g) u,x,rfl]),λT W=>?_]
   cases W;let#[Y,Z,ws,t1,t2,t3]:=U t rfl;show#[Y,Z,ws,a.extBut _ _ (ch t (by simp)).2 t1,t2,t3]
  show acW (s:={s' with heap:=h'}) l O λh2 N F3=>?_
  show B ϵ σ H' _ e cls d #[M.noted (ch:=[t]) #[λb o q _ n=>N.keep b o q (by simp) n,N.slot,N.there] λb f=>?_,some t,_,F3,.inr #[rfl,rfl],λb f=>(ch b (by simpa using f)).1] q;let z:b=t:=by simpa using f
  subst z;show(ch b (by simp)).1
 cases use<;>show c
theorem ahL{D:Ends}{y:Str}{py spos:Pos}{j:Nat}(g:bY X Kx)(i:X.stack=X.env::X.outer)(l:X.env.frame=some X.env.locals)(n:alr (.ListComp elt [#[tg,iter,ifs,0]] scope pos) (some (.Name y py)) spos.line X.env=pure true)(hc:X.calm=true)(S:cu X.env scope)(hs:∀x,foldedSetIterable iter X.env x=pure x)(hN:X.N.Nodup)(hi:nameAt X.N y=some j)(U:X.env.scope.names.lookup y=some .local)(h:EI X tg iter σ H λJ H1=>∀(fp:List δ)(E C:δ)(f:μ)(F:ε->μ->Prop),H1 E=none->bY (dw X N' scope (ϒ scope X.env) C f (upd H1 E (.lst [])) fp F) (λ_=>Kx σ)->jm X (dw X N' scope (ϒ scope X.env) C f (upd H1 E (.lst [])) fp F) tg elt ifs J E (cz N' X.N σ scope) H1 (λH'=>D.nx (σ.set j (some (.ref E))) H')):SX X (.Assign [.Name y py] (.ListComp elt [#[tg,iter,ifs,0]] scope pos) spos) D σ H:=by
 intro ϵ s I;rw[exec_Assign_Name_used _ _ _ _ n];show π (wpAny_standAt (π ?_));show ν _ X.A (do let _<-comprehension (.ListComp elt [#[tg,iter,ifs,0]] scope pos) scope X.env _ (newList []) false (eval iter X.env) (some (assign (.Name y py) X.env))) _ _ s;show π (adR (yQ (use:=some (assign (.Name y py) X.env)) (Q:=λ_ s'=>SP X ϵ D .next s') rfl hs (Dg (S.has I)) S.kind S.loc
  (χ (h ϵ s I) λv s1 h1=>χ h1 λitv s2 h2=>?_)) (λ_ s' hq=>ϯ (ϯ hq)) λ_ _ e=>e)
 let#[it,fp,tn,J,H2,e,I2,T,p,f2,q2]:=h2;subst e;show BJ _ (R:=λu C=>rm (ϧ X.prog X.w) X.A X.xe (some (assign (.Name y py) X.env)) (λ_ s'=>SP X ϵ D .next s') u C) (Q:=λE H'=>D.nx (σ.set j (some (.ref E))) H') hc S I2 T p f2 (λ_ _ _ _ z=>z) (λE f W I3 B tX=>q2 fp E _ f _ W (XF rfl i l I3 B tX λH' s' e t cls d G IX L c F ch q=>aca g G IX L c F ch q)) λE C H' s' W qD IX L c=>?_
 let#[m,c]:=c;let#[f0,Y,Qm,B,Z,f5]:=L;show ν _ _ (assign (.Name y py) X.env (.ref E)) _ _ _;show wpAny_assign_Name (qT IX hN (sW hi) (.inl U) (v:=.ref E) rfl (λM Dr O=>?_) (.inr U));let#[a,sb,ha]:=O;let Es:C.locals≠a:=by
  obtain ha|ha:=ha
  .rw[ha];show Y
  .intro z;show Z y a ha z.symm
 show#[m,c.sameBut sb Es,λh' P=>#[σ.set j (some (.ref E)),H',Dr.turned (t':=M.toks) (λb o O e=>P.extBut b o O e) f0 Y B Z f5,qD]]
end
section
variable{X:Cx}{a e:Ϧ}{σ σ':St}{H:Hp}{Q:VK}{D:Ends}{pos spos py p p':Pos}{tg elt iter:Ϧ}{scope:ahw}{Kx:St->XK}{y:Str}{j:Nat}
def Jf(X:Cx)(N':List Str)(scope:ahw)(tg elt:Ϧ)(σ σ':St)(Kx:St->XK)(H1:Hp)(Q:VK)(n:Nat)(G:Nat->Hp->V->Hp->Prop):Prop:=
 ∃(f:St->Prop)(a:δ->Nat->V->Hp->Prop),f σ'/\
  (∀E i v H2 c ys,H2 E=some (.lst ys)->(∀b o,b≠E->H2 b=some o->c b=some o)->a E i v H2->a E i v c)/\
  (∀(fp:List δ)(E C:δ)(g:μ)(j:Hp)(F:ε->μ->Prop)(i:Nat)(l:St)(x:V)(H2 c:Hp),bY (dw X N' scope (ϒ scope X.env) C g j fp F) (λ_=>Kx σ)->H1 E=none->i<n->f l->ζ H1 H2->(∃ys,H2 E=some (.lst ys)/\ys.length=i/\∀k v,ys[k]?=some v->a E k v H2)->G i H2 x c->
   EG (dw X N' scope (ϒ scope X.env) C g j fp F) tg x l c λe p=>EV (dw X N' scope (ϒ scope X.env) C g j fp F) elt e p λv m=>f e/\a E i v m/\ζ H2 m)/\
  ∀(E:δ)(H2:Hp)(xs:List V),H1 E=none->xs.length=n->(∀i v,xs[i]?=some v->a E i v H2)->H2 E=some (.lst xs)->ζ H1 H2->Q (.ref E) H2
theorem agt{N':List Str}{J:It}{n:Nat}{G:Nat->Hp->V->Hp->Prop}(f:n<=ϰ)(go:∀i H2,ζ H H2->i<n->J.go i H2)(stop:∀H2,ζ H H2->J.stop n H2)(g:∀i H2 x e,i<n->ζ H H2->J.yld i H2 x e->G i H2 x e)(h:Jf X N' scope tg elt σ σ' Kx H Q n G):∀(fp:List δ)(D C:δ)(a:μ)(F:ε->μ->Prop),H D=none->bY (dw X N' scope (ϒ scope X.env) C a (upd H D (.lst [])) fp F) (λ_=>Kx σ)->jm X (dw X N' scope (ϒ scope X.env) C a (upd H D (.lst [])) fp F) tg elt [] J D σ' H (λH'=>Q (.ref D) H'):=by
 intro fp E C a F c xo;let#[j,m,t0,mono,step,fin]:=h;show JP n f j t0 (m E) c (λi v H1 H2 ys=>mono E i v H1 H2 ys) go stop (λi o x H1 H2 hi p hs q y=>step fp E C a _ F i o x H1 H2 xo c hi p hs q (g i H1 x H2 hi hs y)) λH1 xs l u z s=>fin E H1 xs c l u z s
theorem adb(N':List Str)(c:cz N' X.N σ scope=σ')(f:bY X Kx)(g:X.stack=X.env::X.outer)(m:X.env.frame=some X.env.locals)(n:alr (.ListComp elt [#[tg,e,[],0]] scope pos) (some (.Name y py)) spos.line X.env=pure true)(p:X.calm=true)(S:cu X.env scope)(hs:∀x,foldedSetIterable e X.env x=pure x)(u:X.N.Nodup)(hi:nameAt X.N y=some j)(z:X.env.scope.names.lookup y=some .local)(h:EV X e σ H λv H1=>∃l xs,v=.ref l/\η X.K H1 l xs/\xs.length<=ϰ/\Jf X N' scope tg elt σ σ' Kx H1 (λv H'=>D.nx (σ.set j (some v)) H') xs.length λi H2 x o=>xs[i]?=some x/\H2=o):SX X (.Assign [.Name y py] (.ListComp elt [#[tg,e,[],0]] scope pos) spos) D σ H:=by
 show ahL (N':=N') f g m n p S hs u hi z (oH (az h λv H1 q=>?_));let#[l,xs,rfl,a,hz,B]:=q;show#[l,rfl,#[xs,a],?_];rw[c];show agt (J:=iY X.K l) (Q:=λv H'=>D.nx (σ.set j (some v)) H') hz (λi H2 s hi=>#[xs,xs[i],ζ.seq s a,aad hi]) (λH2 s=>#[xs,ζ.seq s a,Ϭ _]) (λi H2 x o hi s y=>#[y.2 xs (ζ.seq s a),y.1.symm]) B
end
def nG(K:ϩ)(C L:δ):Bool:=(W.clsIn K C).any λcd=>cd.hasDict&&cd.mro==.ref C:: .ref L::qm
section
variable{prog:Ϯ}{w:ϭ}{A:ϱ}{E:ε->μ->Prop}{s:μ}{K:ϩ}{x C L:δ}{ox:Obj}{vs:Array ε}{name:Str}{v:ε}
end
abbrev xM(K:ϩ)(C f:δ):Bool:=afP K C (some (.ref f))
section
variable{prog:Ϯ}{w:ϭ}{A:ϱ}{E:ε->μ->Prop}{h:ϫ}{g:Array GenState}{d:Drawn}{t:Nat}{os:OsState}
variable{nm q:Str}{C N x:δ}{bs bm:List ε}{hdct:Bool}{sn:List Str}{sub:List ε}{ab:Bool}{col:Option Bool}{dd:Option δ}{k0 k1 k2 k3 k5:Option ε}{ox:Obj}{vs:Array ε}{v:ε}
end
section
variable{prog:Ϯ}{w:ϭ}{A:ϱ}{E:ε->μ->Prop}{s:μ}{env:Env}
variable{nm q:Str}{C N:δ}{bs bm:List ε}{hdct:Bool}{sn:List Str}{sub:List ε}{ab:Bool}{col:Option Bool}{dd:Option δ}{k0 k1 k2 k3 k5:Option ε}
end
def xo(e C:δ)(D:Option δ):HO:=.ext λh=>∃t,h.get? e=some {cls:=.ref C,dict:=D,data:=.fields #v[.ref t,.none,.none,.none,.bool false,.none]}
section
variable{X:Cx}{ϵ:List (δ×Obj)}{σ:St}{H:Hp}{s:μ}{e:δ}{φ:ϫ->Prop}
end
structure Zv(K:ϩ)(mg:Str->Option ε)(x:Str):Prop where
 at_:mg x=some (.ref (ξ mg x))
 reads:ami K (ξ mg x) (.type "type")=true
 ini:amj K (.ref (ξ mg x)) (.type "type") "__init__"=some (.val (.builtin "ValueError.__init__"))
 ga:ail K (.ref (ξ mg x)) "__getattribute__"=some (some (.builtin "type.__getattribute__"))
structure Jc(K:ϩ)(mg:Str->Option ε)(Lx x qual fld:Str)(st:Ϩ):Prop where
 at_:mg x=some (.ref (ξ mg x))
 ex:∃f fd,cj K "__init__" qual st f fd/\xM K (ξ mg x) f=true/\am1 K (.ref f)=true
 sa:afh K (.ref (ξ mg x)) "__setattr__"=some (some (.builtin "object.__setattr__"))
 tk:amE K (ξ mg x) fld=some none
 xc:nG K (ξ mg x) (ξ mg Lx)=true
section
variable{X:Cx}{σ:St}{H:Hp}{Q:VK}{D:Ends}{Lx x f fld:Str}{np apos pos pos' cpos:Pos}{a o value:Ϧ}{es:List Ϧ}{Kx:St->XK}
end
section
variable{prog:Ϯ}{w:ϭ}{A:ϱ}{E:ε->μ->Prop}{s:μ}{env:Env}
variable{nm q:Str}{C N:δ}{bs bm:List ε}{hdct:Bool}{sn:List Str}{sub:List ε}{ab:Bool}{col:Option Bool}{dd:Option δ}{k0 k1 k2 k3 k5:Option ε}
end
section
variable{X:Cx}{Kx:St->XK}{D:Ends}{σ:St}{H:Hp}{x fld:Str}{np cpos pos:Pos}{e:Ϧ}{es:List Ϧ}{cc bx:Bool}{k k':Nat}
end
structure abY(K:ϩ)(C:δ):Prop where
 hd:ak9 K C=true
 ga:afh K (.ref C) "__getattribute__"=some (some (.builtin "BaseException.__getattribute__"))
 gt:afh K (.ref C) "__getattr__"=some none
 cl:afh K (.ref C) "__class__"=some (some (.builtin "object.__class__"))
 cg:ail K (.builtin "object.__class__") "__get__"=some (some (.builtin "getset_descriptor.__get__"))
 ct:amG K (.builtin "object.__class__")=some true
 mo:al3 K C (.type "object")=some true
 mb:al3 K C (.type "BaseException")=some true
section
variable{prog:Ϯ}{w:ϭ}{A:ϱ}{E:ε->μ->Prop}{s:μ}{K:ϩ}{x C:δ}{ox:Obj}{od:Option Obj}{name:Str}{v:ε}
end
section
variable{X:Cx}{σ:St}{H:Hp}{Q:VK}{e C:δ}{D:Option δ}{k:Bool}
end
section
variable{X:Cx}{ϵ:List (δ×Obj)}{σ:St}{H:Hp}{s:μ}{h':ϫ}
end
section
variable{X:Cx}{D:Ends}{σ:St}{H:Hp}{rest:List akP}{suite:List Ϩ}{b₀:Ϩ}{pos np:Pos}{x n:Str}{c:ε}{C:δ}{d:Option δ×Bool}{i:Nat}
end
structure Uy(K:ϩ)(mg:Str->Option ε)(x:Str):Prop extends Zv K mg x where
 ty:amR K (.ref (ξ mg x))=some (.type "type")
 mb:al3 K (ξ mg x) (.type "BaseException")=some true
structure XC(K:ϩ)(mg:Str->Option ε)(Lx x:Str):Prop where
 at_:mg x=some (.ref (ξ mg x))
 xc:nG K (ξ mg x) (ξ mg Lx)=true
 ty:amR K (.ref (ξ mg x))=some (.type "type")
 attr:abY K (ξ mg x)
section
variable{K:ϩ}{mg:Str->Option ε}{Lx x y:Str}
end
section
variable{K:ϩ}{mg:Str->Option ε}{Lx x qual fld:Str}{C L f:δ}{st:Ϩ}{fd:ahC}
theorem adS(h:mg x=some (.ref C))(a:ami K C (.type "type")=true)(c:amj K (.ref C) (.type "type") "__init__"=some (.val (.builtin "ValueError.__init__")))(f:ail K (.ref C) "__getattribute__"=some (some (.builtin "type.__getattribute__")))(g:amR K (.ref C)=some (.type "type"))(i:al3 K C (.type "BaseException")=some true):Uy K mg x:=by
 let e:=bW h;show{at_:=by rw[e];show h,reads:=by rw[e];show a,ini:=by rw[e];show c,ga:=by rw[e];show f,ty:=by rw[e];show g,mb:=by rw[e];show i}
theorem aeL(h:mg x=some (.ref C))(c:mg Lx=some (.ref L))(f:nG K C L=true)(g:amR K (.ref C)=some (.type "type"))(i:ak9 K C=true)(j:afh K (.ref C) "__getattribute__"=some (some (.builtin "BaseException.__getattribute__")))(l:afh K (.ref C) "__getattr__"=some none)(m:afh K (.ref C) "__class__"=some (some (.builtin "object.__class__")))(n:ail K (.builtin "object.__class__") "__get__"=some (some (.builtin "getset_descriptor.__get__")))(o:amG K (.builtin "object.__class__")=some true)(p:al3 K C (.type "object")=some true)(a:al3 K C (.type "BaseException")=some true):XC K mg Lx x:=by
 let e:=bW h;let q:=bW c;show#[by rw[e];show h,by rw[e,q];show f,by rw[e];show g,by rw[e];show#[i,j,l,m,n,o,p,a]]
theorem Zd(h:mg x=some (.ref C))(a:mg Lx=some (.ref L))(F:cj K "__init__" qual st f fd)(c:xM K C f=true)(g:am1 K (.ref f)=true)(i:afh K (.ref C) "__setattr__"=some (some (.builtin "object.__setattr__")))(j:amE K C fld=some none)(l:nG K C L=true):Jc K mg Lx x qual fld st:=by
 let e:=bW h;let m:=bW a;show#[by rw[e];show h,#[f,fd,F,by rw[e];show c,g],by rw[e];show i,by rw[e];show j,by rw[e,m];show l]
end
abbrev cL(h:ϫ)(T:δ)(a b c:ε):Prop:=h.get? T=some {cls:=.type "tuple",data:=.seq #v[a,b,c]}
theorem an{n a b:Nat}(h:a≠b:=by decide):(n+a:δ)≠n+b:=λe=>h (Nat.add_left_cancel e)
theorem ln{n l:Nat}(h:l<n)(k:Nat):(l:δ)≠n+k:=ac6 (Nat.lt_add_right k h)
theorem ac4(a b c:ε):checkTypeCall "zip" #[[a,b,c],[]]=pure PUnit.unit:=by kernel_rfl
theorem ah3(a b c:ε):checkBuiltinCall "zip.__new__" #[[.type "zip",a,b,c],[]]=pure PUnit.unit:=by kernel_rfl
theorem afA(a b c d:ε):argsOk "object.__init__" #[[a,b,c,d],[]]:=by
 unfold argsOk;rw[signature?_of (id:="object.__init__") (n:=['_', '_', 't', 'i', 'n', 'i', '_', '_']) (o:=['t', 'c', 'e', 'j', 'b', 'o']) (by kernel_rfl) F.owner_object];kernel_rfl
section
variable{prog:Ϯ}{w:ϭ}{A:ϱ}{E:ε->μ->Prop}{s:μ}
theorem yX{T:δ}{a b c x:ε}{k:Nat}{Q:Unit->μ->Prop}(e:cL s.heap T a b c)(h:∀h',h'.get? T=some {cls:=.type "tuple",data:=.seq ((#v[a,b,c]:Array ε).setIfInBounds k x)}->ajr T s.heap h'->Q PUnit.unit {s with heap:=h'}):ν (ϧ prog w) A (updateSeq T (·.setIfInBounds k x)) Q E s:=by
 show wpAny_updateSeq e rfl (h _ ?_ (Heap.SameBut.update ..));rw[afG _ e rfl];simp[Obj.mapSeq]
theorem agm{n C D F:Nat}{k:Nat}{xs ys zs:Array ε}{x y u a b c:ε}{Q:ε->μ->Prop}(g1:C<n)(T:D<n)(G:F<n)(hz:IsZip s.heap (n+5) (n+3) (n+4) .none)(U:cL s.heap (n+3) (.ref n) (.ref (n+1)) (.ref (n+2)))(W:cL s.heap (n+4) a b c)(h1:s.heap.IsListIter n C k)(h2:s.heap.IsListIter (n+1) D k)(h3:s.heap.IsListIter (n+2) F k)(X:s.heap.IsList C xs)(Y:s.heap.IsList D ys)(Z:s.heap.IsList F zs)(hx:xs[k]?=some x)(hy:ys[k]?=some y)(hu:zs[k]?=some u)(hQ:∀h',IsZip h' (n+5) (n+3) (n+4) (rawInt s.heap.objs.size)->cL h' (n+4) x y u->h'.IsListIter n C (k+1)->h'.IsListIter (n+1) D (k+1)->h'.IsListIter (n+2) F (k+1)->cL h' s.heap.objs.size x y u->
   (∀c o,c≠n+5->c≠n+4->c≠n->c≠n+1->c≠n+2->s.heap.get? c=some o->h'.get? c=some o)->Q (.ref s.heap.objs.size) {s with heap:=h'}):ν (ϧ prog w) A (alP.«zip.__next__» #[[.ref (n+5)],[]]) (λfin s'=>∃v,fin=.done (.ret v)/\Q v s') E s:=by
 let nq:n+5≠n:=an (b:=0);let Ey:n+5≠n+1:=an;let yu:n+5≠n+2:=an;let H:n+5≠n+4:=an;let L:n+4≠n:=an (b:=0);let M:n+4≠n+1:=an;let O:n+4≠n+2:=an;let I:n+1≠n:=an (b:=0);let Vq:n+2≠n:=an (b:=0);let Ur:n+2≠n+1:=an;show ν _ _ (field (.ref (n+5)) 2>>=_) _ _ _;show π (agT hz rfl (x:=.bool false) rfl ?_);show ν _ _ (field (.ref (n+5)) 3>>=_) _ _ _;show π (agT hz rfl (x:=.ref (n+3)) rfl ?_);show π (alq U rfl ?_);show ν _ _ (Builtin.SmallTypes.ownedTupleIsFree (.ref (n+5))>>=_) _ _ _;show π ?_;unfold Builtin.SmallTypes.ownedTupleIsFree;show π (agT hz rfl (x:=.none) rfl (ϯ ?_));simp only[if_true];show π (wpAny_rule ?_);show π (agT hz rfl (x:=.ref (n+4)) rfl ?_);show π (akt hz (by simp) λm1 m g=>?_)
 replace m:IsZip m1 (n+5) (n+3) (n+4) .ellipsis:=m
 show π ?_;simp only[anp,anz,alm,alU];show π (π (wpAny_onRaise ?_));show ν _ _ (Builtin.SmallTypes.nextOf (.ref n)>>=_) _ _ _;show π (alQ (h1.extBut g.extBut nq.symm) (X.extBut g.extBut (ln g1 5)) hx λm2 ab i=>ϯ ?_);let t2:cL m2 (n+4) a b c:=i.extBut _ _ L (g.extBut _ _ H.symm W);show π (alq t2 rfl ?_);show π (yX t2 λm3 t3 j=>?_)
 replace t3:cL m3 (n+4) x b c:=t3
 show π (wpAny_letGo (ϯ ?_));show π (π (wpAny_onRaise ?_));show ν _ _ (Builtin.SmallTypes.nextOf (.ref (n+1))>>=_) _ _ _;show π (alQ (((h2.extBut g.extBut Ey.symm).extBut i.extBut I).extBut j.extBut M.symm) (((Y.extBut g.extBut (ln T 5)).extBut i.extBut (ln T 0)).extBut j.extBut (ln T 4)) hy λm4 Yx p=>ϯ ?_);let t4:cL m4 (n+4) x b c:=p.extBut _ _ M t3;show π (alq t4 rfl ?_);show π (yX t4 λm5 t5 q=>?_)
 replace t5:cL m5 (n+4) x y c:=t5
 show π (wpAny_letGo (ϯ ?_));show π (π (wpAny_onRaise ?_));show ν _ _ (Builtin.SmallTypes.nextOf (.ref (n+2))>>=_) _ _ _;show π (alQ (((((h3.extBut g.extBut yu.symm).extBut i.extBut Vq).extBut j.extBut O.symm).extBut p.extBut Ur).extBut q.extBut O.symm) (((((Z.extBut g.extBut (ln G 5)).extBut i.extBut (ln G 0)).extBut j.extBut (ln G 4)).extBut p.extBut (ln G 1)).extBut q.extBut (ln G 4)) hu λm6 YD z=>ϯ ?_);let t6:cL m6 (n+4) x y c:=z.extBut _ _ O t5;show π (alq t6 rfl ?_);show π (yX t6 λf P B=>?_)
 replace P:cL f (n+4) x y u:=P
 show π (wpAny_letGo (ϯ (ϯ ?_)));show π (alq P rfl ?_);show π (wpAny_newTuple ?_);let hsz:f.objs.size=s.heap.objs.size:=by rw[B.1,z.1,q.1,p.1,j.1,i.1,g.1]
 let Rv:IsZip f (n+5) (n+3) (n+4) .ellipsis:=B.extBut _ _ H (z.extBut _ _ yu (q.extBut _ _ H (p.extBut _ _ Ey (j.extBut _ _ H (i.extBut _ _ nq m)))));let YZ:∀c o,c≠n+5->c≠n+4->c≠n->c≠n+1->c≠n+2->s.heap.get? c=some o->f.get? c=some o:=λc o c1 c2 c3 c4 c5 e=>
  B.extBut _ _ c2 (z.extBut _ _ c5 (q.extBut _ _ c2 (p.extBut _ _ c4 (j.extBut _ _ c2 (i.extBut _ _ c3 (g.extBut _ _ c1 e))))))
 let i1:f.IsListIter n C (k+1):=((((ab.extBut j.extBut L.symm).extBut p.extBut I.symm).extBut q.extBut L.symm).extBut z.extBut Vq.symm).extBut B.extBut L.symm;let i2:f.IsListIter (n+1) D (k+1):=((Yx.extBut q.extBut M.symm).extBut z.extBut Ur.symm).extBut B.extBut M.symm;let i3:f.IsListIter (n+2) F (k+1):=YD.extBut B.extBut O.symm;let l:n+5<f.objs.size:=acr Rv;show ν _ _ (Builtin.SmallTypes.ownedTupleHandOut (.ref (n+5)) (.ref f.objs.size)>>=_) _ _ _;show π ?_;unfold Builtin.SmallTypes.ownedTupleHandOut;let ac:IsZip (f.push {cls:=.type "tuple",data:=.seq #v[x,y,u]}) (n+5) (n+3) (n+4) .ellipsis:=ϲ _ Rv;show π (akt ac (by simp) λm8 Ef s8=>?_)
 replace Ef:IsZip m8 (n+5) (n+3) (n+4) (rawInt f.objs.size):=Ef
 show akt Ef (by simp) λR S s9=>?_
 replace S:IsZip R (n+5) (n+3) (n+4) (rawInt f.objs.size):=S
 let up:∀c o,c≠n+5->f.get? c=some o->R.get? c=some o:=λc o c1 e=>s9.extBut _ _ c1 (s8.extBut _ _ c1 (ϲ _ e))
 let J:cL R f.objs.size x y u:=s9.extBut _ _ (ak8 l) (s8.extBut _ _ (ak8 l) (ab7 _ rfl));rw[hsz]at S J;show ϯ #[_,rfl,?_];show Q (.ref f.objs.size) _;rw[hsz];show hQ R S (up _ _ H.symm P) (i1.at λo e=>up _ o nq.symm e) (i2.at λo e=>up _ o Ey.symm e) (i3.at λo e=>up _ o yu.symm e) J λc o c1 c2 c3 c4 c5 e=>up c o c1 (YZ c o c1 c2 c3 c4 c5 e)
theorem ad7{n j:Nat}{k:Nat}{xs:Array ε}{b c:ε}{Q:Fin->μ->Prop}(hh:A.handled=none)(z:j<n)(hz:IsZip s.heap (n+5) (n+3) (n+4) .none)(l:cL s.heap (n+3) (.ref n) b c)(h1:s.heap.IsListIter n j k)(m:s.heap.IsList j xs)(B:xs[k]?=none)(C:∀h' e,(∀c o,c≠n+5->c≠n->s.heap.get? c=some o->h'.get? c=some o)->(∃o,h'.get? e=some o/\o.cls=.type "StopIteration")->E (.ref e) {s with heap:=h'}):ν (ϧ prog w) A (alP.«zip.__next__» #[[.ref (n+5)],[]]) Q E s:=by
 let u:n+5≠n:=an (b:=0);show ν _ _ (field (.ref (n+5)) 2>>=_) _ _ _;show π (agT hz rfl (x:=.bool false) rfl ?_);show ν _ _ (field (.ref (n+5)) 3>>=_) _ _ _;show π (agT hz rfl (x:=.ref (n+3)) rfl ?_);show π (alq l rfl ?_);show ν _ _ (Builtin.SmallTypes.ownedTupleIsFree (.ref (n+5))>>=_) _ _ _;show π ?_;unfold Builtin.SmallTypes.ownedTupleIsFree;show π (agT hz rfl (x:=.none) rfl (ϯ ?_));simp only[if_true];show π (wpAny_rule ?_);show π (agT hz rfl (x:=.ref (n+4)) rfl ?_);show π (akt hz (by simp) λD a p=>?_)
 replace a:IsZip D (n+5) (n+3) (n+4) .ellipsis:=a
 show π ?_;simp only[anp,anz,alm,alU];show π (π (wpAny_onRaise ?_));show ν _ _ (Builtin.SmallTypes.nextOf (.ref n)>>=_) _ _ _;show π (wpAny_nextOf_list_end hh (h1.extBut p.extBut u.symm) (m.extBut p.extBut (ln z 5)) B λF e v G=>?_);let#[H,f,g]:=G;let i:IsZip F (n+5) (n+3) (n+4) .ellipsis:=v _ _ u a;let q:e≠n+5:=λx=>by subst x;rw[i]at f;cases f;simp at g
 show akt i (by simp) λI _ y=>C I e (λc o c1 c3 x=>y.extBut _ _ c1 (v _ _ c3 (p.extBut _ _ c1 x))) #[H,y.extBut _ _ q f,g]
end
abbrev xr(h:ϫ)(l1:δ):ϫ:=h.push {cls:=.type "list_iterator",data:=.fields #v[.ref l1,.int 0 0]}
abbrev wV(h:ϫ)(l1 l2:δ):ϫ:=(xr h l1).push {cls:=.type "list_iterator",data:=.fields #v[.ref l2,.int 0 0]}
abbrev uO(h:ϫ)(l1 l2 l3:δ):ϫ:=(wV h l1 l2).push {cls:=.type "list_iterator",data:=.fields #v[.ref l3,.int 0 0]}
abbrev t8(h:ϫ)(l1 l2 l3:δ):ϫ:=(uO h l1 l2 l3).push {cls:=.type "tuple",data:=.seq #v[.ref h.objs.size,.ref (xr h l1).objs.size,.ref (wV h l1 l2).objs.size]}
abbrev xF(h:ϫ)(l1 l2 l3:δ):ϫ:=(t8 h l1 l2 l3).push {cls:=.type "tuple",data:=.seq #v[.none,.none,.none]}
abbrev lO(h:ϫ)(l1 l2 l3:δ):ϫ:=(xF h l1 l2 l3).push {cls:=.type "zip",data:=.fields #v[.none,.bool false,.bool false,.ref (uO h l1 l2 l3).objs.size,.ref (t8 h l1 l2 l3).objs.size]}
theorem afq(a c e:δ)(xs ys zs:Array ε):Meets (alP.«zip.__new__» #[[.type "zip",.ref a,.ref c,.ref e],[]]) (λ_ R s=>s.heap.IsList a xs/\s.heap.IsList c ys/\s.heap.IsList e zs/\R (.ok (.ret (.ref (xF s.heap a c e).objs.size))) {s with heap:=lO s.heap a c e}):=
 .of_wp λprog w A R s h=>by
  let#[f,g,d,tk,os]:=s;let#[i,j,l,h]:=h;let o:=sub_zip;let m:anA (Shared.heap #[f,g,d,tk,os]) a xs:=i;let n:anA (Shared.heap #[f.push {cls:=.type "list_iterator",data:=.fields #v[.ref a,.int 0 0]},g,d,tk,os]) c ys:=Heap.IsList.push j _;let p:anA (Shared.heap #[(f.push {cls:=.type "list_iterator",data:=.fields #v[.ref a,.int 0 0]}).push {cls:=.type "list_iterator",data:=.fields #v[.ref c,.int 0 0]},g,d,tk,os]) e zs:=Heap.IsList.push (Heap.IsList.push l _) _
  wp_walk using ajD m,ajD n,ajD p
  show#[_,rfl,h]
section
variable{prog:Ϯ}{w:ϭ}{A:ϱ}{E:ε->μ->Prop}{s:μ}
theorem XX{a e f:δ}{xs ys zs:Array ε}{Q:ε->μ->Prop}(g:s.heap.IsList a xs)(i:s.heap.IsList e ys)(j:s.heap.IsList f zs)(h:∀h',IsZip h' (s.heap.objs.size+5) (s.heap.objs.size+3) (s.heap.objs.size+4) .none->cL h' (s.heap.objs.size+3) (.ref s.heap.objs.size) (.ref (s.heap.objs.size+1)) (.ref (s.heap.objs.size+2))->
   cL h' (s.heap.objs.size+4) .none .none .none->h'.IsListIter s.heap.objs.size a 0->h'.IsListIter (s.heap.objs.size+1) e 0->h'.IsListIter (s.heap.objs.size+2) f 0->
   (∀c o,s.heap.get? c=some o->h'.get? c=some o)->Q (.ref (s.heap.objs.size+5)) {s with heap:=h'}):ν (ϧ prog w) A (call (.type "zip") [.ref a,.ref e,.ref f]) Q E s:=by
 show callType_new F.called_zip (by decide) (ac4 _ _ _) (ah3 _ _ _) (λobj=>afA obj _ _ _) F.entry_zip_new (afq a e f xs ys zs) #[g,i,j,?_];let l:(xr s.heap a).objs.size=s.heap.objs.size+1:=aiJ ..;let m:(wV s.heap a e).objs.size=s.heap.objs.size+2:=by rw[aiJ,l]
 let n:(uO s.heap a e f).objs.size=s.heap.objs.size+3:=by rw[aiJ,m]
 let p:(t8 s.heap a e f).objs.size=s.heap.objs.size+4:=by rw[aiJ,n]
 let u:(xF s.heap a e f).objs.size=s.heap.objs.size+5:=by rw[aiJ,p]
 let q:(lO s.heap a e f).get? (xF s.heap a e f).objs.size=some _:=ab7 _ rfl;let v:(lO s.heap a e f).get? (t8 s.heap a e f).objs.size=some _:=ϲ _ (ab7 _ rfl);let y:(lO s.heap a e f).get? (uO s.heap a e f).objs.size=some _:=ϲ _ (ϲ _ (ab7 _ rfl));let z:(lO s.heap a e f).get? (wV s.heap a e).objs.size=some _:=ϲ _ (ϲ _ (ϲ _ (ab7 _ rfl)));let B:(lO s.heap a e f).get? (xr s.heap a).objs.size=some _:=ϲ _ (ϲ _ (ϲ _ (ϲ _ (ab7 _ rfl))));let C:(lO s.heap a e f).get? s.heap.objs.size=some _:=ϲ _ (ϲ _ (ϲ _ (ϲ _ (ϲ _ (ab7 _ rfl)))));show _/\_;rw[n,p,u]at q;rw[l,m,n]at y;rw[p]at v;rw[m]at z;rw[l]at B;rw[u];show#[#[_,q,rfl],h _ q y v #[_,C,rfl,rfl] #[_,B,rfl,rfl] #[_,z,rfl,rfl] λc o x=>
  ϲ _ (ϲ _ (ϲ _ (ϲ _ (ϲ _ (ϲ _ x)))))]
end
def za(K:ϩ)(l m q:δ):It:=
 #[λi H=>∃xs ys zs x y z,(η K H l xs/\η K H m ys/\η K H q zs)/\xs[i]?=some x/\ys[i]?=some y/\zs[i]?=some z,
  λi H v H'=>∃T x y z,v=.ref T/\H T=none/\H'=upd H T (.tup [x,y,z])/\(∀xs,η K H l xs->xs[i]?=some x)/\(∀ys,η K H m ys->ys[i]?=some y)/\∀zs,η K H q zs->zs[i]?=some z,
  λi H=>∃xs,η K H l xs/\xs.length<=i]
theorem agF{P:Ϯ}{w:ϭ}{K:ϩ}{elts:List Ϧ}{k:Nat}{pos:Pos}(n l m q:Nat)(g1:l<n)(g2:m<n)(g3:q<n):Turn P w K (.Tuple elts k pos) (za K l m q) [n+5,n+3,n+4,n,n+1,n+2] (n+5) (λi h=>IsZip h (n+5) (n+3) (n+4) .none/\cL h (n+3) (.ref n) (.ref (n+1)) (.ref (n+2))/\(∃a b c,cL h (n+4) a b c)/\h.IsListIter n l i/\h.IsListIter (n+1) m i/\h.IsListIter (n+2) q i)where
 mem:=by simp
 obj:=λi h st b g=>by
  let#[hz,f,#[a,a',M,j],#[U,h1,_,d1],#[W,h2,_,d2],#[Y,p,_,d3]]:=st;simp only[aaF,age,or_false]at g;obtain e|e|e|e|e|e:=g<;>subst e
  .show#[_,hz,λv z=>by cases z]
  .show#[_,f,λv z=>by cases z]
  .show#[_,j,λv z=>by cases z]
  .show#[_,h1,λv z=>by rw[d1]at z;cases z]
  .show#[_,h2,λv z=>by rw[d2]at z;cases z]
  .show#[_,p,λv z=>by rw[d3]at z;cases z]
 keep:=λi h h' st kk=>by
  let#[hz,f,#[a,a',M,j],#[U,h1,r1],#[W,h2,r2],#[Y,p,r3]]:=st;show#[kk _ (by simp) _ hz,kk _ (by simp) _ f,#[a,a',M,kk _ (by simp) _ j],#[U,kk _ (by simp) _ h1,r1],#[W,kk _ (by simp) _ h2,r2],#[Y,kk _ (by simp) _ p,r3]]
 item:=by
  intro X Z hw hK hc i ϵ s σ H E I O st hg;subst Z hw hK;let#[hz,f,#[a,b,c,j],h1,h2,p]:=id st;let#[xs,ys,zs,x,y,z,#[u,C,T9],R,hy,hu]:=hg;let#[DY,wu,BX,_]:=I.list u;let#[RZ,Lz,ab,_]:=I.list C;let#[KY,M9,ac,_]:=I.list T9;let#[u1,ae,Gy]:=wu.get R;let#[u2,af,Dv]:=Lz.get hy;let#[u3,ag,Eg]:=M9.get hu;let D:s.TypeIs (.ref (n+5)) "zip":=#[_,hz,rfl];unfold pyNext;show π (wpAny_attempt (alE (name:=Ϫ "__next__") D F.slot_zip_next (wpAny_call_entry F.slot_zip_next D F.entry_zip_next
   (agm g1 g2 g3 hz f j h1 h2 p BX.isList ab.isList ac.isList (by simpa using ae) (by simpa using af) (by simpa using ag) λh' a1 M a3 a4 a5 a6 S=>ϯ ?_) (F.args_zip_next_1 _))))
  show#[_,rfl,?_];show wpAny_letOwnedTupleGo_zip (s:={s with heap:=h'}) a1 λG ah B=>?_
  let J:s.heap.objs.size<=s.heap.objs.size:=Ϭ _;let ai:s.heap.objs.size≠n+5:=ak8 (acr hz);let sI:IsTup G s.heap.objs.size [u1,u2,u3].toArray:=#[_,B.extBut _ _ ai a6,rfl,_,rfl];let al:∀b o,b∉[n+5,n+3,n+4,n,n+1,n+2]->s.heap.get? b=some o->G.get? b=some o:=λb o g q=>by
   simp only[aaF,age,or_false,not_or]at g;show B.extBut _ _ g.1 (S b o g.1 g.2.2.1 g.2.2.2.1 g.2.2.2.2.1 g.2.2.2.2.2 q)
  show#[.ref s.heap.objs.size,upd H s.heap.objs.size (.tup [x,y,z]),I.Dc (ch:=[n+5,n+3,n+4,n,n+1,n+2]) (tk:=s.toks) O J al Δ (.cons Gy (.cons Dv (.cons Eg .nil))) sI,rfl,?_,?_,λb g=>?_]
  .show#[_,x,y,z,rfl,I.hok.fresh J,rfl,λa L=>?_,λa L=>?_,λa L=>?_]
   .rw[<-I.list_inj u L];show R
   .rw[<-I.list_inj C L];show hy
   .rw[<-I.list_inj T9 L];show hu
  .show#[ah,B.extBut _ _ an (S _ _ an an (an (b:=0)) an an f),#[_,_,_,B.extBut _ _ an M],a3.extBut B.extBut (an (a:=0)),a4.extBut B.extBut an,a5.extBut B.extBut an]
  .have :b≠s.heap.objs.size:=λq=>by
    obtain⟨o,ho⟩:∃o,s.heap.get? b=some o:=by
     let#[U,h1,_]:=h1;let#[W,h2,_]:=h2;let#[Y,p,_]:=p;simp only[aaF,age,or_false]at g;obtain e|e|e|e|e|e:=g<;>subst e
     .show#[_,hz]
     .show#[_,f]
     .show#[_,j]
     .show#[_,h1]
     .show#[_,h2]
     .show#[_,p]
    show aiw _ (q▸acr ho)
   rw[ρ this];show(O b g).1
 done:=by
  intro X Z hw hK hc i ϵ s σ H E I O st hg;subst Z hw hK;let#[hz,f,#[a,b,c,j],h1,h2,p]:=st;let#[xs,u,R]:=hg;let#[DY,wu,BX,_]:=I.list u;let D:s.TypeIs (.ref (n+5)) "zip":=#[_,hz,rfl];unfold pyNext;show π (wpAny_attempt (alE (name:=Ϫ "__next__") D F.slot_zip_next
   (wpAny_call_entry F.slot_zip_next D F.entry_zip_next (ad7 (I.ok.hd hc) g1 hz f h1 BX.isList (ai9 (by rw[abe, <-wu.length];show R)) λh' e S he=>?_) (F.args_zip_next_1 _))))
  let#[o,ho,am]:=he;show π (wpAny_isInstance (T:="StopIteration") (b:=true) #[o,ho,am] isSubtype_stop ?_);show ϯ #[rfl,I.Uu (tk:=s.toks) O λb o g q=>?_];simp only[aaF,age,or_false,not_or]at g;show S b o g.1 g.2.2.2.1 q
 self:=λA i s Q E st h=>wpAny_pyIter_zip st.1 h
theorem vals3{x y z:V}{us:List ε}(r:Vals [x,y,z] us):∃u v w,us=[u,v,w]/\RelV x u/\RelV y v/\RelV z w:=by
 cases r with
 |cons a r=>
  cases r with
  |cons b r=>
   cases r with
   |cons c r=>
    cases r;show#[_,_,_,rfl,a,b,c]
section
variable{X:Cx}{σ:St}{H:Hp}{a b c:Ϧ}{elts:List Ϧ}{k:Nat}{tp p pos p':Pos}{R:It->Hp->Prop}{D:Ends}
theorem ad2(D:Gl X "zip")(E:X.mg "zip"=none)(hs:ϴ [a,b,c] X.env=(false,eval a X.env)::ϴ [b,c] X.env)(g:ϴ [b,c] X.env=(false,eval b X.env)::ϴ [c] X.env)(i:ϴ [c] X.env=[(false,eval c X.env)])(h:EV X a σ H λx H1=>EV X b σ H1 λy H2=>EV X c σ H2 λz H3=>∃l m q xs ys zs,(x=.ref l/\y=.ref m/\z=.ref q)/\H3 l=some (.lst xs)/\H3 m=some (.lst ys)/\H3 q=some (.lst zs)/\R (za X.K l m q) H3):EI X (.Tuple elts k tp) (.Call (.Name "zip" p) [a,b,c] [] pos) σ H R:=by
 intro ϵ s I;let F:EA X [a,b,c] σ H λvs H3=>∃l m q xs ys zs,vs=[.ref l,.ref m,.ref q]/\H3 l=some (.lst xs)/\H3 m=some (.lst ys)/\H3 q=some (.lst zs)/\R (za X.K l m q) H3:=
  dN hs (az h λx H1 h1=>dN g (az h1 λy H2 h2=>dN (es:=[]) (by rw[i];rfl) (az h2 λz H3 ⟨l,m,q,xs,ys,zs,⟨e1,G,J⟩,r⟩=>jy #[l,m,q,xs,ys,zs,by rw[e1,G,J],r])))
 show Call_ (gU I D E boot_zip (PyProof.Rows.callWith_type1 (χ (F pos ϵ s I) λus u L=>?_) hs (by rw[g,i];rfl)));let#[vs,H1,f,M,l,m,q,xs,ys,zs,e,O,v,P,Q]:=L;subst e;let#[S,T,U,rfl,W,Y,Z]:=vals3 M;cases(show S=Value.ref l from W);cases(show T=Value.ref m from Y);cases(show U=Value.ref q from Z);let#[_,DY,n1,wu,j]:=f.hok l _ O;let#[_,RZ,n2,Lz,n]:=f.hok m _ v;let#[_,KY,n3,M9,B]:=f.hok q _ P;show XX (xs:=DY.toArray) (ys:=RZ.toArray) (zs:=KY.toArray) #[_,j,rfl,_,rfl] #[_,n,rfl,_,rfl] #[_,B,rfl,_,rfl] λh' h1 h2 h3 h4 h5 h6 hk=>?_
 show wpAny_pyIter_zip h1 ?_;show#[u.heap.objs.size+5,_,_,_,H1,rfl,f.kept (t':=u.toks) hk,agF _ l m q (acr j) (acr n) (acr B),#[h1,h2,#[_,_,_,h3],h4,h5,h6],λb C=>?_,Q];let o:u.heap.objs.size<=b:=by
  simp only[aaF,age,or_false]at C;obtain e|e|e|e|e|e:=C<;>subst e<;>first|show ajj _ _|show Ϭ _
 show f.fpOk o (f.hok.fresh o)
theorem afH{body:List Ϩ}(J:aj3 (ϧ X.prog X.w) X.A X.env X.xe)(L:X.calm=true)(M:Gl X "zip")(O:X.mg "zip"=none)(hs:ϴ [a,b,c] X.env=(false,eval a X.env)::ϴ [b,c] X.env)(s:ϴ [b,c] X.env=(false,eval b X.env)::ϴ [c] X.env)(u:ϴ [c] X.env=[(false,eval c X.env)])(h:EV X a σ H λF H1=>EV X b σ H1 λG H2=>EV X c σ H2 λI j=>∃l m q xs ys zs,(F=.ref l/\G=.ref m/\I=.ref q)/\j l=some (.lst xs)/\j m=some (.lst ys)/\j q=some (.lst zs)/\ys.length=xs.length/\zs.length=xs.length/\
   ∃g:Nat->St->Hp->Prop,g 0 σ j/\(∀i σ' H',g i σ' H'->η X.K H' l xs/\η X.K H' m ys/\η X.K H' q zs)/\
   (∀i x y z T σ' H',xs[i]?=some x->ys[i]?=some y->zs[i]?=some z->g i σ' H'->H' T=none->EG X (.Tuple elts k tp) (.ref T) σ' (upd H' T (.tup [x,y,z])) λn H2=>Ν X body {D with nx:=g (i+1),ct:=g (i+1),bk:=D.nx} n H2)/\∀σ' H',g xs.length σ' H'->D.nx σ' H'):SX X (.For (.Tuple elts k tp) (.Call (.Name "zip" p) [a,b,c] [] p') body [] pos) D σ H:=by
 show lD J L (by intro _;rfl) (ad2 M O hs s u (az h λF H1 h1=>az h1 λG H2 h2=>az h2 λI j P=>?_));let#[l,m,q,xs,ys,zs,e,Q,B,R,ly,lz,g,S,U,C,hd]:=P;show#[l,m,q,xs,ys,zs,e,Q,B,R,λi m σ H=>m=xs.length-i/\i<=xs.length/\g i σ H,#[xs.length,by simp,afT _,S],?_]
 rintro i m' σ' H' ⟨rfl,hi,E⟩
 let f:=U i σ' H' E;by_cases o:i<xs.length
 .let W:ys[i]?=some ys[i]:=aad ();let Y:zs[i]?=some zs[i]:=aad ();show .inr #[#[xs,ys,zs,xs[i],ys[i],zs[i],f,aad o,W,Y],g (i+1),λn H2 p2=>#[xs.length-(i+1),(),rfl,o,p2],λv H2 y=>?_];let#[T,x,y,z,e1,Z,e3,e4,e5,e6]:=y;subst e1 e3;show C i x y z T σ' H' (e4 xs f.1) (e5 ys f.2.1) (e6 zs f.2.2) E Z
 .let e:i=xs.length:=()
  show .inl #[#[xs,f.1,()],?_];subst e;show hd σ' H' E
end
theorem Dw:∀{us:List ε}{ys:List Str}{m:Nat}{u:ε},StrsAre us ys->us[m]?=some u->∃y t,ys[m]?=some y/\u=.str y t
 |_,_,_,_,.nil,e=>by simp at e
 |_,_,0,u,.cons y t h,e=>by
  simp at e;show#[y,t,rfl,e.symm]
 |_,_,m+1,u,.cons y t h,e=>by
  let#[a,t',e1,c]:=Dw h (by simpa using e);show#[a,t',by simpa using e1,c]
section
variable{X:Cx}{H:Hp}{Q:VK}
theorem aht{a:δ}{zs:List Str}{z:Str}{j:Nat}(h:η X.K H a (zs.map V.str))(f:zs[j]?=some z)(c:∀m y,m<j->zs[m]?=some y->¬y=z)(g:Q (.int j) H):MT X "list.index" (.ref a) [.str z] H Q:=by
 show iU (r:=λx xs H Q=>∃a zs z j,x=.ref a/\xs=[.str z]/\η X.K H a (zs.map V.str)/\zs[j]?=some z/\(∀m y,m<j->zs[m]?=some y->¬y=z)/\Q (.int (j:Nat)) H) ?_ #[a,zs,z,j,rfl,rfl,h,f,c,g];intro ϵ s σ H x xs v us Q I rx rs h;let#[a,zs,z,j,rfl,rfl,h,f,c,g]:=h;cases rx;let#[u,rfl,C]:=vals1 rs;let#[t,rfl]:=C;let#[i,r,#[#[cls,dd,data,sl],n,e,B,hd,hs],hz]:=I.list h;simp only at B hd hs;subst B hd hs;let o:=Qg r;let l:i.length=zs.length:=by have:=r.length;rw[abd]at this;show this.symm
 let p:j<i.toArray.size:=by
  rw[abe,l];show(aai.mp f).1
 rw[abd]at hz;let hsz:=ϳ;let D:j<zs.length:=(aai.mp f).1;show alC F.slot_list_index #[_,e,rfl] F.entry_list_index (F.args_list_index_2 _ _) (SeqAt.list_indexAt a i.toArray n _ sl (.str z t) (isStrOf z) j p () ?_ ?_) #[e,λy E=>(eq_isStrOf z t o y (by simpa using E)).at _ _,?_]
 .let#[y,t',e1,q]:=Dw (m:=j) (u:=i.toArray[j]) o (by simp);rw[q];rw[f]at e1;cases e1;show(z==z)=true;show beq_self_eq_true z
 .intro m J G;let#[y,t',e1,q]:=Dw (m:=m) (u:=i.toArray[m]) o (by simp);rw[q];show(y==z)=false;show beq_eq_false_iff_ne.mpr (c m y G e1)
 .show#[.int j,H,I.tok _,#[_,rfl],g]
def ltV:V->V->Bool
 |.int i,.int j=>decide (i<j)
 |.str x,.str y=>decide (x.cps.toList<y.cps.toList)
 |_,_=>false
end
structure ϟ(P:Ϯ)(w:ϭ)(K:ϩ)(mg:Str->Option ε)(base:ϫ)(cc:Bool)(k:Nat)(C:δ)(m:Str)(ps:List Str)(sp:Sp):Prop where
 cls:Ϙ K C
 ex:∃f fd,Meth K C m f/\Binds K fd ps []/\cG P w K mg base (bU P w) cc k f fd ps sp
structure iR(P:Ϯ)(w:ϭ)(K:ϩ)(mg:Str->Option ε)(base:ϫ)(cc:Bool)(k:Nat)(x:Str)(C:δ)(ps:List Str)(sp:Sp):Prop where
 at_:mg x=some (.ref C)
 ex:∃f fd,Mk K C f/\Binds K fd ps []/\cG P w K mg base (bU P w) cc k f fd ps sp
structure pR(P:Ϯ)(w:ϭ)(K:ϩ)(mg:Str->Option ε)(base:ϫ)(cc:Bool)(k:Nat)(x m:Str)(ps:List Str)(sp:Sp):Prop where
 ex:∃C f fd,mg x=some (.ref C)/\ami K C (.type "type")=true/\amj K (.ref C) (.type "type") m=some (.val (.ref f))/\
  ail K (.ref C) "__getattribute__"=some (some (.builtin "type.__getattribute__"))/\alz K (.ref f)=true/\Binds K fd ps []/\cG P w K mg base (bU P w) cc k f fd ps sp
section
variable{X:Cx}{σ:St}{H:Hp}{Q:VK}{D:Ends}{x f m:Str}{p np apos pos pos' tpos:Pos}{a e o value:Ϧ}{es:List Ϧ}{Kx:St->XK}{cc:Bool}{k':Nat}
theorem aq(h:EV X e σ H λx H1=>∃a C dx fs v,x=.ref a/\H1 a=some (.ins C dx fs)/\Ϙ X.K C/\ Ρ X.K C f/\fs.lookup f=some v/\Q v H1)(g:attributeBase e f X.env (eval e X.env)=eval e X.env:=by rfl):EV X (.Attribute e f pos) σ H Q:=by
 intro ϵ s I;show acb g (χ (h ϵ s I) λu p i=>?_);let#[x,H1,j,rx,a,C,dx,fs,v,ex,ea,c,n,l,q]:=i;subst ex;obtain rfl:u=Value.ref a:=rx;show Jb j ea c n l λy z m o=>#[v,H1,m,o,q]
theorem d9(h:EV X value σ H λy H1=>EV X o σ H1 λx H2=>∃a C dx fs,x=.ref a/\H2 a=some (.ins C dx fs)/\Ϙ X.K C/\ Ρ X.K C f/\fs.length<1000/\D.nx σ (upd H2 a (.ins C dx (ϛ f y fs))))(hs:alr value (some (.Attribute o f pos')) pos.line X.env=pure false:=by rfl):SX X (.Assign [.Attribute o f pos'] value pos) D σ H:=
 λϵ s I=>Ym gO gO hs ϵ s σ H D I h
theorem abg(h:EV X o σ H λx H1=>∃a C dx fs v,x=.ref a/\H1 a=some (.ins C dx fs)/\Ϙ X.K C/\ Ρ X.K C f/\fs.lookup f=some v/\
   EV X value σ H1 λy H2=>JB v y H2 λz e=>∃c fs',e a=some (.ins C c fs')/\fs'.length<1000/\D.nx σ (upd e a (.ins C c (ϛ f z fs')))):SX X (.AugAssign (.Attribute o f tpos) .Add value pos) D σ H:=
 λϵ s I=>W4 gO gO afU ϵ s σ H D I h
theorem bO{pl:Sem Bool}(v:ϔ cc k' X.A)(y:bY X Kx)(c:ϴ (e::es) X.env=(false,eval e X.env)::ϴ es X.env:=by rfl)(g:(backTo pos (ϴ es X.env)).any (·.1)=false:=by rfl)(z:eval (.Call (.Attribute o m apos) (e::es) [] pos) X.env=(do
   let j<-eval o X.env
   standAt apos.atName
   let(f,first)<-holding [j] (getMethod j m pl)
   callWith pos f first (backTo pos (ϴ (e::es) X.env)) (backToKw pos (keywordEach [] X.env))):=by rfl)(h:EV X o σ H λx H1=>∃a C dx fs bx k ps sp,x=.ref a/\H1 a=some (.ins C dx fs)/\fs.lookup m=none/\ϟ X.prog X.w X.K X.mg X.base bx k C m ps sp/\k<=k'/\(bx=true->cc=true)/\EA X (e::es) σ H1 λvs H2=>sp (x::vs) H2 Q (Kx σ)):EV X (.Call (.Attribute o m apos) (e::es) [] pos) σ H Q:=by
 intro ϵ s I;show amL (pl:=pl) (χ (h ϵ s I) λu B D=>?_) z;let#[x,H1,l,rx,a,C,dx,fs,bx,k,ps,sp,ex,ea,E,M,G,i,q]:=D;subst ex;cases(show u=Value.ref a from rx);let#[f,fd,n,J,F]:=M.ex;show PB l ea M.cls n E ?_;show amJ (first:=[.ref a]) (h₀:=X.base) I.ok.mod.kin n.kp (χ (q pos ϵ B l) λus O ⟨vs,H2,p,r,L⟩=>#[p.kIn,?_]) c g;show rQ (us:=.ref a::us) (vs:=.ref a::vs) F ((v.mono G).rD i) J y p (.cons rfl r) L
theorem jf{pl:Sem Bool}(j:ϔ cc k' X.A)(l:bY X Kx)(h:EV X o σ H λx H1=>∃a C dx fs bx k ps sp,x=.ref a/\H1 a=some (.ins C dx fs)/\fs.lookup m=none/\ϟ X.prog X.w X.K X.mg X.base bx k C m ps sp/\k<=k'/\(bx=true->cc=true)/\sp [x] H1 Q (Kx σ))(n:eval (.Call (.Attribute o m apos) [] [] pos) X.env=(do
   let g<-eval o X.env
   standAt apos.atName
   let(f,first)<-holding [g] (getMethod g m pl)
   callWith pos f first (backTo pos (ϴ [] X.env)) (backToKw pos (keywordEach [] X.env))):=by rfl):EV X (.Call (.Attribute o m apos) [] [] pos) σ H Q:=by
 intro ϵ s I;show amL (pl:=pl) (χ (h ϵ s I) λu B p=>?_) n;let#[x,H1,c,rx,a,C,dx,fs,bx,k,ps,sp,ex,ea,v,M,y,e,q]:=p;subst ex;cases(show u=Value.ref a from rx);let#[f,fd,i,z,F]:=M.ex;show PB c ea M.cls i v ?_;show W.callWith_K0 (first:=[.ref a]) c.kIn i.kp (rQ (us:=[.ref a]) (vs:=[.ref a]) F ((j.mono y).rD e) z l c (.cons rfl .nil) q)
theorem xx{pl:Sem Bool}{bx:Bool}{k:Nat}{ps:List Str}{sp:Sp}(B:pR X.prog X.w X.K X.mg X.base bx k x m ps sp)(p:ϔ cc k' X.A)(a:bx=true->cc=true)(q:bY X Kx)(h:EA X (e::es) σ H λvs H1=>sp vs H1 Q (Kx σ))(u:k<=k':=by decide)(v:Gl X x:=by rfl)(hd:(x==("__debug__":Str))=false:=by decide)(c:ϴ (e::es) X.env=(false,eval e X.env)::ϴ es X.env:=by rfl)(g:(backTo pos (ϴ es X.env)).any (·.1)=false:=by rfl)(y:eval (.Call (.Attribute (.Name x np) m apos) (e::es) [] pos) X.env=(do
   let n<-eval (.Name x np) X.env
   standAt apos.atName
   let(f,first)<-holding [n] (getMethod n m pl)
   callWith pos f first (backTo pos (ϴ (e::es) X.env)) (backToKw pos (keywordEach [] X.env))):=by rfl):EV X (.Call (.Attribute (.Name x np) m apos) (e::es) [] pos) σ H Q:=by
 let#[C,f,fd,z,i,D,j,l,E,F]:=B.ex;intro ϵ s I;show amL (pl:=pl) (xu I v z ?_ hd) y;show W.method_cls I.kIn j (W.cls_value I.kIn i D (by rfl) ?_);let G:=I.tok (s.toks+1);show amJ (first:=[]) (h₀:=X.base) I.ok.mod.kin l (χ (h pos ϵ _ G) λus L ⟨vs,H2,o,r,J⟩=>#[o.kIn,?_]) c g;show rQ F ((p.mono u).rD a) E q o r J
theorem ah0{cc:Bool}{k:Nat}{C g:δ}{fd:ahC}{ps:List Str}{sp:Sp}{ϵ:List (δ×Obj)}{s:μ}{us:List ε}{vs:List V}(M:Mk X.K C g)(F:cG X.prog X.w X.K X.mg X.base (bU X.prog X.w) cc k g fd ps sp)(m:ϔ cc (k+1) X.A)(n:Binds X.K fd ps [])(o:bY X Kx)(I:Inv X ϵ σ H s)(r:Vals vs us)(h:∀y dx,H y=none->H dx=none->dx≠y->sp (.ref y::vs) (upd (upd H dx (.own y)) y (.ins C dx [])) (λv H2=>v=.non/\Q (.ref y) H2) (Kx σ)):ν (ϧ X.prog X.w) X.A (call (.ref C) us) (EP X ϵ σ Q) X.xe s:=by
 let p:H (s.heap.objs.size+1)=none:=I.hok.fresh (alS _);let i:H s.heap.objs.size=none:=I.hok.fresh (Ϭ _);let q:=h _ _ p i (ac6 (anj _));let e:=Inv.made (C:=C) I;let l:Vals (V.ref (s.heap.objs.size+1)::vs) (Value.ref (s.heap.objs.size+1)::us):=.cons rfl r;let x:(Value.ref (s.heap.objs.size+1)::us).length=ps.length:=by rw[<-l.length];show F.len _ _ _ _ q
 let c:=n {s with heap:=(s.heap.push akg).push (alW C s.heap.objs.size)} (Value.ref (s.heap.objs.size+1)::us) e.kIn (by simpa using x);rw[alG]at c;show wpAny_call (adG (f:=g) I.kIn M.makes M.init (beq_iff_eq.mp M.fn) (ajy (F.run _ X.stack _ _ #[Value.ref (s.heap.objs.size+1)::us,[]] _ _ _ (Kx σ) (m.make C us []) (e.env0.make C us []) c l q) λj s' a=>?_))
 match j,a with
 |.error z,a=>
   let#[b,cls,d,H',rfl,B,w]:=e.flown a;show o ϵ σ H' s' b cls d B w
 |.ok (.ret u),a=>
   let#[v,H',D,E,G,J]:=e.after a;subst G;show#[E,#[V.ref (s.heap.objs.size+1),H',D,rfl,J]]
 |.ok .next,a=>show False.elim a
 |.ok .brk,a=>show False.elim a
 |.ok .cont,a=>show False.elim a
theorem j5{bx:Bool}{k:Nat}{C:δ}{ps:List Str}{sp:Sp}(M:iR X.prog X.w X.K X.mg X.base bx k x C ps sp)(l:ϔ cc k' X.A)(m:k+1<=k')(a:bx=true->cc=true)(n:bY X Kx)(h:EA X (e::es) σ H λvs H1=>∀y dx,H1 y=none->H1 dx=none->dx≠y->sp (.ref y::vs) (upd (upd H1 dx (.own y)) y (.ins C dx [])) (λv H2=>v=.non/\Q (.ref y) H2) (Kx σ))(o:Gl X x:=by rfl)(hd:(x==("__debug__":Str))=false:=by decide)(c:ϴ (e::es) X.env=(false,eval e X.env)::ϴ es X.env:=by rfl)(g:(backTo pos (ϴ es X.env)).any (·.1)=false:=by rfl):EV X (.Call (.Name x p) (e::es) [] pos) σ H Q:=by
 let#[f,fd,i,u,F]:=M.ex;intro ϵ s I;show ai2 (xu I o M.at_ ?_ hd);show amJ (h₀:=X.base) I.ok.mod.kin i.kp (χ (h pos ϵ s I) λus z ⟨vs,H1,j,r,q⟩=>#[j.kIn,?_]) c g;show ah0 i F ((l.mono m).rD a) u n j r q
end
structure OM(K:ϩ)(C:δ)(m qual:Str)(st:Ϩ):Prop where
 ex:∃f fd,cj K m qual st f fd/\Meth K C m f
structure OI(K:ϩ)(C:δ)(qual:Str)(st:Ϩ):Prop where
 ex:∃f fd,cj K "__init__" qual st f fd/\Mk K C f
structure OB(K:ϩ)(C:δ)(m qual:Str)(st:Ϩ):Prop where
 rd:ami K C (.type "type")=true
 ga:ail K (.ref C) "__getattribute__"=some (some (.builtin "type.__getattribute__"))
 ex:∃f fd,cj K m qual st f fd/\amj K (.ref C) (.type "type") m=some (.val (.ref f))
def FD(P:Ϯ)(w:ϭ)(K:ϩ)(mg:Str->Option ε)(base:ϫ)(cc:Bool)(k:Nat)(m qual:Str)(st:Ϩ)(ps:List Str)(sp:Sp):Prop:=
 ∀f fd,cj K m qual st f fd->Binds K fd ps []/\cG P w K mg base (bU P w) cc k f fd ps sp
section
variable{P:Ϯ}{w:ϭ}{K:ϩ}{mg:Str->Option ε}{base:ϫ}{cc:Bool}{k:Nat}{x m qual:Str}{C:δ}{st:Ϩ}{ps N:List Str}{sp:Sp}
theorem aG(body:∀(f:δ)(a:ε)(A:ϱ)(outer:List Env)(s:μ)(H:Hp)(vs:List V)(Q:VK)(E:XK),ϔ cc k (A.deeper (envOfC qual (ψ st) s.heap.objs.size f a))->sp vs H Q E->
   let X:=dM cc P w K mg base N qual (ψ st) f a A outer s H E;let D:Ends:={nx:=λ_ H'=>Q .non H',rt:=Q};Ν X (aB st) D (start N vs) H)(S:Υ N ps (ψ st):=by show#[rfl,rfl,rfl,by fin2,rfl,by fin2,by fin2])(e:∀(kV c pm:ε)(an:Option δ)(a ct:ε)(us:List ε),us.length=ps.length->bindArgs (am3 m qual (jA st) (aB st) (ψ st) .none kV c pm an a ct) #[us,[]]=pure (ps.zip us):=by walk_at"bb")(len:∀vs H Q E,sp vs H Q E->vs.length=ps.length:=by walk_at"ln"):FD P w K mg base cc (k+1) m qual st ps sp:=
 λf fd F=>#[F.binds e,Fo F S len λa A outer s H vs Q E g h=>body f a A outer s H vs Q E g h]
theorem FD.meth(F:FD P w K mg base cc k m qual st ps sp)(c:Ϙ K C)(O:OM K C m qual st):ϟ P w K mg base cc k C m ps sp:=by
 let#[f,fd,h1,h2]:=O.ex;show#[c,f,fd,h2,F f fd h1]
theorem FD.make(F:FD P w K mg base cc k "__init__" qual st ps sp)(a:mg x=some (.ref C))(O:OI K C qual st):iR P w K mg base cc k x C ps sp:=by
 let#[f,fd,h1,h2]:=O.ex;show#[a,f,fd,h2,F f fd h1]
theorem FD.asked(F:FD P w K mg base cc k m qual st ps sp)(a:mg x=some (.ref C))(O:OB K C m qual st):pR P w K mg base cc k x m ps sp:=by
 let#[f,fd,h1,h2]:=O.ex;let#[c,e]:=F f fd h1;show#[C,f,fd,a,O.rd,h2,O.ga,h1.kp,c,e]
theorem XD{f:δ}{fd:ahC}(h:mg x=some (.ref C))(F:cj K m qual st f fd)(a:afh K (.ref C) m=some (some (.ref f)))(b:am1 K (.ref f)=true):OM K (ξ mg x) m qual st:=by
 rw[bW h];show#[f,fd,F,a,b,F.kp]
theorem ag1{f:δ}{fd:ahC}(h:mg x=some (.ref C))(F:cj K "__init__" qual st f fd)(a:afh K (.ref C) "__init__"=some (some (.ref f)))(b:am1 K (.ref f)=true)(c:anx K C=true)(d:alz K (.ref C)=true):OI K (ξ mg x) qual st:=by
 rw[bW h];show#[f,fd,F,c,a,b,d]
theorem Xz{f:δ}{fd:ahC}(h:mg x=some (.ref C))(F:cj K m qual st f fd)(a:amj K (.ref C) (.type "type") m=some (.val (.ref f)))(b:ami K C (.type "type")=true)(c:ail K (.ref C) "__getattribute__"=some (some (.builtin "type.__getattribute__"))):OB K (ξ mg x) m qual st:=by
 rw[bW h];show#[b,c,f,fd,F,a]
theorem Hr(h:mg x=some (.ref C))(a:al1 K C amF=true)(b:ak9 K C=true)(c:amn K C=true)(d:afh K (.ref C) "__setattr__"=some (some (.builtin "object.__setattr__"))):Ϙ K (ξ mg x):=by
 rw[bW h];show#[a,b,c,d]
end
theorem dU{X:Cx}{σ:St}{H:Hp}{D:Ends}{elts:List Ϧ}{k:Nat}{tp pos:Pos}{value:Ϧ}(h:EV X value σ H λv H1=>EG X (.Tuple elts k tp) v σ H1 λσ' H'=>D.nx σ' H')(hs:swapsWithSole [.Tuple elts k tp] value pos.line X.env=pure false:=by rfl)(a:swappedStores [.Tuple elts k tp] value X.env=pure none:=by rfl):SX X (.Assign [.Tuple elts k tp] value pos) D σ H:=by
 intro ϵ s I;show Assign_Tuple (χ (h ϵ s I) λu c e=>?_) hs a;let#[v,H1,f,g,i]:=e;show χ (i ϵ c u f g) λ_ m ⟨σ',H',j,l⟩=>#[σ',H',j,l]
structure OT(K:ϩ)(C:δ):Prop where
 ty:∀(H:Hp)(a dx:δ)(fs:List (Str×V)),H a=some (.ins C dx fs)->cX K H (.ref a) (.ref C)
theorem W8{K:ϩ}{mg:Str->Option ε}{x:Str}{C:δ}(h:mg x=some (.ref C))(c:Ϙ K (ξ mg x))(f:afh K (.ref C) "__class__"=some (some (.builtin "object.__class__")))(g:ail K (.builtin "object.__class__") "__get__"=some (some (.builtin "getset_descriptor.__get__")))(i:amG K (.builtin "object.__class__")=some true)(j:al3 K C (.type "object")=some true):OT K (ξ mg x):=by
 rw[bW h]at c⊢;show#[λH a dx fs e=>.ins e c f g i j]
section
variable{X:Cx}{σ:St}{H:Hp}{Q:VK}{D:Ends}{pos tpos:Pos}{o i value:Ϧ}
end
section
variable{prog:Ϯ}{w:ϭ}{A:ϱ}{E:ε->μ->Prop}{s:μ}
end
section
variable{X:Cx}{H:Hp}{Q:VK}{D:Ends}{σ σ':St}{e a b c elt tg:Ϧ}{scope:ahw}{pos spos py p p':Pos}{x y:Str}{j:Nat}
theorem Nm{body:List Ϩ}(e:aj3 (ϧ X.prog X.w) X.A X.env X.xe)(W:Nat->St->Hp->Prop)(a:Nat)(f:W a σ H)(turn:∀m σ H,W m σ H->ET X c σ H λk H1=>if k=true then ∃N:St->Hp->Prop,(∀σ' H',N σ' H'->∃m',m'<m/\W m' σ' H')/\ Ν X body {D with nx:=N,ct:=N,bk:=D.nx} σ H1 else D.nx σ H1):SX X (.While c body [] pos) D σ H:=
 λϵ s I=>Yk (X:=X) e XQ Fw ϵ s σ H D I #[W,#[a,f],turn]
end
section
variable{X:Cx}{σ:St}{H:Hp}{Q:VK}{D:Ends}{pos pos' tpos apos cpos:Pos}{o i e f value:Ϧ}{y v:V}{a:δ}{r:Option V}
theorem Gr(h:∀p,H p=none->Q (.ref p) (upd H p (.dK []))):EV X (.Dict [] [] pos) σ H Q:=qi aav h
theorem Wx(f:X.A.units+1<cLine)(hs:O9 i)(h:EV X o σ H λx H1=>EV X i σ H1 λy H2=>∃a v,x=.ref a/\Ϟ H2 a y (some v)/\Q v H2):EV X (.Subscript o i pos) σ H Q:=by
 intro ϵ s I;show aeE F.slot_dict_getitem.lookup hs (χ (h ϵ s I) λu j ⟨x,H1,l,rx,m⟩=>χ (m ϵ j l) λz B n=>?_);let#[y,H2,e,ry,a,v,ex,g,p]:=n;subst ex;obtain rfl:u=Value.ref a:=rx;show#[Rh e g,Ry f e g ry λC D q c=>#[v,H2,q,c,p]]
theorem ac1(c:X.A.units+1<cLine)(g:Ϟ H a y r)(q:Q (.bl r.isSome) H):OP X (adL .In) y (.ref a) H Q:=by
 show bf (r:=λx z H Q=>∃a o,z=.ref a/\Ϟ H a x o/\Q (.bl o.isSome) H) ?_ #[a,r,rfl,g,q];intro ϵ s σ H x z v u Q I rx e h;let#[a,o,rfl,g,q]:=h;cases(show u=Value.ref a from e);show afd c I g rx λs' f=>#[.bl o.isSome,H,f,rfl,q]
theorem V2(c:X.A.units+1<cLine)(g:Ϟ H a y r)(q:Q (.bl (!r.isSome)) H):OP X (adL .NotIn) y (.ref a) H Q:=by
 show bf (r:=λx z H Q=>∃a o,z=.ref a/\Ϟ H a x o/\Q (.bl (!o.isSome)) H) ?_ #[a,r,rfl,g,q];intro ϵ s σ H x z v u Q I rx e h;let#[a,o,rfl,g,q]:=h;cases(show u=Value.ref a from e);show ady c I g rx λs' f=>#[.bl (!o.isSome),H,f,rfl,q]
theorem rK(f:X.A.units+1<cLine)(h:EV X value σ H λv H1=>EV X o σ H1 λx H2=>EV X i σ H2 λy e=>∃a c,x=.ref a/\eN e a y v c/\D.nx σ c)(hs:alr value (some (.Subscript o i pos')) pos.line X.env=pure false:=by rfl):SX X (.Assign [.Subscript o i pos'] value pos) D σ H:=by
 intro ϵ s I;show wpAny_Assign_Subscript (χ (h ϵ s I) λr j ⟨v,H1,l,m,n⟩=>χ (n ϵ j l) λu p ⟨x,H2,q,rx,z⟩=>χ (z ϵ p q) λG J B=>?_) hs;let#[y,e,C,ry,a,c,ex,g,E]:=B;subst ex;obtain rfl:u=Value.ref a:=rx;show abH f C g ry m λL F=>#[σ,c,F,E]
theorem WR(i:X.A.units+1<cLine)(m:M1 X o "get" apos e cpos)(h:EV X o σ H λx H1=>∃a,x=.ref a/\jV H1 a/\EV X e σ H1 λy H2=>∃o,Ϟ H2 a y o/\Q (o.getD .non) H2):EV X (.Call (.Attribute o "get" apos) [e] [] cpos) σ H Q:=by
 intro ϵ s I;show wpAny_Call_method m.base m.few m.line F.plainAttrs_dict F.slot_dict_get F.type_dict_get (χ (h ϵ s I) λu j l=>?_);let#[x,H1,f,rx,a,ex,d,n]:=l;subst ex;obtain rfl:u=Value.ref a:=rx;let#[p,q,_]:=BV f d;show#[p,q,?_];rw[m.trees];show Calls.callWith_builtin rfl (Calls.evalArgs_plain (Calls.spliced_cons (χ (n ϵ j f) λC D ⟨y,H2,v,ry,E,g,z⟩=>Calls.spliced_nil ?_)));show Wv i v g ry λG J B c=>#[_,H2,B,c,z]
theorem Xh(l:X.A.units+1<cLine)(m:M2 X o "get" apos e f cpos)(h:EV X o σ H λx H1=>∃a,x=.ref a/\jV H1 a/\EV X e σ H1 λy H2=>EV X f σ H2 λz c=>∃o,Ϟ c a y o/\Q (o.getD z) c):EV X (.Call (.Attribute o "get" apos) [e,f] [] cpos) σ H Q:=by
 intro ϵ s I;show wpAny_Call_method m.base m.few m.line F.plainAttrs_dict F.slot_dict_get F.type_dict_get (χ (h ϵ s I) λu n p=>?_);let#[x,H1,j,rx,a,ex,d,q]:=p;subst ex;obtain rfl:u=Value.ref a:=rx;let#[v,B,_]:=BV j d;show#[v,B,?_];rw[m.trees];show Calls.callWith_builtin rfl (Calls.evalArgs_plain (Calls.spliced_cons (χ (q ϵ n j) λO C ⟨y,H2,D,ry,E⟩=>
  Calls.spliced_cons (χ (E ϵ C D) λP R ⟨z,c,G,J,S,g,L⟩=>Calls.spliced_nil ?_))))
 show aew l G g ry J λT U M i=>#[_,c,M,i,L]
theorem Bl(h:EV X o σ H λx H1=>∃a,x=.ref a/\jV H1 a/\EV X e σ H1 λy H2=>∃Ϸ k v,H2 a=some (.dK Ϸ)/\y=kV k/\ώ Ϸ k=some v/\Q v (upd H2 a (.dK (fD Ϸ k))))(m:M1 X o "pop" apos e cpos:=by constructor<;>rfl):EV X (.Call (.Attribute o "pop" apos) [e] [] cpos) σ H Q:=by
 intro ϵ s I;show wpAny_Call_method m.base m.few m.line F.plainAttrs_dict F.slot_dict_pop F.type_dict_pop (χ (h ϵ s I) λu g i=>?_);let#[x,H1,f,rx,a,ex,d,j]:=i;subst ex;obtain rfl:u=Value.ref a:=rx;let#[n,p,_]:=BV f d;show#[n,p,?_];rw[m.trees];show Calls.callWith_builtin rfl (Calls.evalArgs_plain (Calls.spliced_cons (χ (j ϵ g f) λD E ⟨y,H2,q,ry,Ϸ,k,v,ea,z,l,B⟩=>Calls.spliced_nil ?_)));subst z;show ad5 q ea ry l (.inl rfl) λG J C c=>#[v,_,C,c,B]
theorem aa5{Ϸ:List (Key×V)}(e:H a=some (.dK Ϸ))(q:∀p,H p=none->Q (.ref p) (upd H p (.dK Ϸ))):CL X (.type "dict") [.ref a] H Q:=by
 show dZ (r:=λxs H Q=>∃a Ϸ,xs=[V.ref a]/\H a=some (.dK Ϸ)/\∀p,H p=none->Q (.ref p) (upd H p (.dK Ϸ))) ?_ #[a,Ϸ,rfl,e,q];intro ϵ s σ H xs us Q I r h;let#[a,Ϸ,rfl,e,q]:=h;let#[u,rfl,c]:=vals1 r;cases(show u=Value.ref a from c);show aau I (.inl e) λp s' f g=>#[.ref p,_,g,rfl,q p f]
end
end L2
namespace My
open PySem
abbrev WW:Str:=Ϫ "-0123456789abcdefghijklmnopqrstuvwxyz"
abbrev qW:Str:=Ϫ "abcdefghijklmnopqrstuvwxyz0123456789-"
def SG:List Nat:=WW.cps.toList
def TS:List Nat:=qW.cps.toList
theorem Ex:∀c∈SG,c∈TS:=by fin2
def tb:List Nat->List Nat->Bool
 |[],[]=>false
 |[],_::_=>true
 |_::_,[]=>false
 |x::xs,y::ys=>if x=y then tb xs ys else decide (SG.idxOf x<SG.idxOf y)
end My
namespace L2
open PySem PySem.Spec PyProof.Rows
theorem Yu{α:Type}{xs:List α}{f:α->V}{i:Int}(d:α)(c:0<=i)(h1:i<xs.length):Χ (xs.map f) i=some (f (xs.getD i.toNat d)):=by
 let e:i=((i.toNat:Nat):Int):=()
 let a:i.toNat<xs.length:=()
 let h2:(xs.map f)[i.toNat]?=some (f (xs.getD i.toNat d)):=by
  rw[aci,aad a];simp[a]
 have:=bw h2;rw[<-e]at this;show this
theorem gk{x y:Str}(h:x.cps.toList=y.cps.toList):x=y:=by
 let#[#[a]]:=x;let#[#[b]]:=y;simp only at h;rw[h]
theorem bB(x y:Str):(x++y).cps.toList=x.cps.toList++y.cps.toList:=by
 show(x.cps++y.cps).toList=_;simp
theorem len_list(z:Str):z.length=z.cps.toList.length:=by simp[amf]
theorem len_app(x y:Str):(x++y).length=x.length+y.length:=by rw[len_list,bB,ac7,len_list,len_list]
theorem De(z:Str)(lo hi:Option Int):(Ϗ z lo hi).length<=z.length:=by
 unfold Ϗ amf;simp;omega
theorem UL(z:Str)(lo hi:Option Int):(Ϗ z lo hi).cps.toList=(z.cps.toList.drop (HT.Α z.length 0 lo)).take (HT.Α z.length z.length hi-HT.Α z.length 0 lo):=by
 unfold Ϗ;simp
theorem wZ(z:Str)(k:Nat):(Ϗ z (some (k:Int)) none).cps.toList=z.cps.toList.drop k:=by
 rw[UL,HT.oV,HT.qj];let a:=len_list z;by_cases h:k<=z.length
 .rw[alo h,ah9 (by rw[adX];omega)]
 .let h':z.length<=k:=()
  rw[amy h',amC (),amC ()];simp
theorem JT(z:Str)(k:Nat):(Ϗ z none (some (k:Int))).cps.toList=z.cps.toList.take k:=by
 rw[UL,HT.oV,HT.qj,alx,amc];let a:=len_list z;by_cases h:k<=z.length
 .rw[alo h]
 .let h':z.length<=k:=()
  rw[amy h',ah9 (),ah9 ()]
theorem Ka(z:Str)(c:Nat):Txt.startswith z #[#v[c]]=decide (z.cps.toList[0]?=some c):=by
 rw[ahe,decide_eq_true_eq, <-StrLaws.subAt_one];unfold Txt.startswith
 rw[abB,decide_eq_true_eq]
end L2
namespace Vl
open PySem L2 PyProof.Rows My NumText
def scalar:V->Bool
 |.non|.int _|.str _=>true
 |_=>false
def oZ:V->Bool
 |.int _=>true
 |_=>false
def isNum:V->Bool
 |.int i=>decide (-1000000000000000000<=i/\i<=1000000000000000000)
 |_=>false
def dO(z g:Str):Bool:=z.cps.toList.all λc=>decide (c∈g.cps.toList)
def gQ:V->Bool
 |.str z=>decide (z.length<=20)&&dO z qW
 |_=>false
def isVal(kind:Str):V->Bool
 |.non=>true
 |v=>if kind="number" then isNum v else gQ v
def before:V->V->Bool
 |_,.non=>false
 |.non,_=>true
 |.int i,.int j=>decide (i<j)
 |.str x,.str y=>decide (x.cps.toList<y.cps.toList)
 |_,_=>false
def short:V->Prop
 |.str z=>z.length<=4000
 |_=>True
inductive NB (vs:List V) (H:Hp) (Q:VK) (E:XK):Prop
 |mk (v):vs=[v]->scalar v=true->Q (.bl (oZ v)) H->NB vs H Q E
inductive Ou (vs:List V) (H:Hp) (Q:VK) (E:XK):Prop
 |mk (z g:Str):vs=[.str z,.str g]->z.length<=4000->(∀H',ζ H H'->Q (.bl (dO z g)) H')->Ou vs H Q E
inductive Ni (vs:List V) (H:Hp) (Q:VK) (E:XK):Prop
 |mk (v):vs=[v]->scalar v=true->Q (.bl (isNum v)) H->Ni vs H Q E
inductive P0 (vs:List V) (H:Hp) (Q:VK) (E:XK):Prop
 |mk (v):vs=[v]->scalar v=true->short v->(∀H',ζ H H'->Q (.bl (gQ v)) H')->P0 vs H Q E
inductive Ux (vs:List V) (H:Hp) (Q:VK) (E:XK):Prop
 |mk (k:Str) (v:V):vs=[.str k,v]->scalar v=true->short v->(∀H',ζ H H'->Q (.bl (isVal k v)) H')->Ux vs H Q E
inductive Kw (vs:List V) (H:Hp) (Q:VK) (E:XK):Prop
 |mk (x y:V):vs=[x,y]->(x=.non\/y=.non\/(∃i j,x=.int i/\y=.int j)\/∃i j,x=.str i/\y=.str j)->Q (.bl (before x y)) H->Kw vs H Q E
def pF(c:Nat):Bool:=decide (48<=c/\c<=57)
abbrev Bd:Str:=Ϫ "0123456789"
theorem aeD:∀c:Nat,c∈Bd.cps.toList↔(48<=c/\c<=57):=by
 intro c;let e:Bd.cps.toList=[48,49,50,51,52,53,54,55,56,57]:=by fin2
 rw[e];simp only[aaF,age,or_false];omega
theorem ahm(z:Str):dO z Bd=z.cps.toList.all pF:=by
 unfold dO pF
 congr 1
 funext c;rw[decide_eq_decide];show aeD c
def cQ(l:List Nat):Bool:=decide (l=[48])||(decide (l≠[])&&(decide (l[0]? ≠some 48)&&l.all pF))
def nO(l:List Nat):Bool:=if l[0]?=some 45 then decide (l.drop 1≠[48])&&cQ (l.drop 1)else cQ l
def j7(l:List Nat):Int:=if l[0]?=some 45 then -((digitsVal (l.drop 1):Nat):Int)else((digitsVal l:Nat):Int)
theorem Sw{l:List Nat}(h:cQ l=true):AllDigits l/\l≠[]:=by
 unfold cQ at h;rw[alJ,abB,abB,decide_eq_true_eq,decide_eq_true_eq]at h;obtain h|⟨h1,_,h2⟩:=h
 .subst h;show#[λc a=>by simp at a;omega,by simp]
 .show#[λc a=>of_decide_eq_true (acz.mp h2 c a),h1]
def f9(l:List Nat):Option Int:=if nO l=true/\l.length<=20/\ -1000000000000000000<=j7 l/\j7 l<=1000000000000000000 then some (j7 l)else none
def ik(z:Str):Option Str:=if z.cps.toList[0]?=some 39/\gQ (.str (Ϗ z (some 1) none))=true then some (Ϗ z (some 1) none)else none
def sG:Option Int->Option V
 |some i=>some (.int i)
 |none=>none
def xX:Option Str->Option V
 |some i=>some (.str i)
 |none=>none
def di(kind word:Str):Option V:=if word="?" then some .non else if kind="number" then sG (f9 word.cps.toList)else xX (ik word)
def wordOf:V->Str
 |.non=>"?"
 |.str z=>Ϫ "'"++z
 |.int i=>Ϫ (toString i)
 |_=>""
inductive Jq (vs:List V) (H:Hp) (Q:VK) (E:XK):Prop
 |mk (v):vs=[v]->scalar v=true->short v->(∀i,v=.int i->i.natAbs.log2<1920)->Q (.str (wordOf v)) H->Jq vs H Q E
inductive Mm (vs:List V) (H:Hp) (Q:VK) (E:XK):Prop
 |mk (z):vs=[.str z]->z.length<=4000->(∀H',ζ H H'->Q (.bl (cQ z.cps.toList)) H')->Mm vs H Q E
def lq(c:ε)(r:Option V)(H:Hp)(Q:VK)(E:XK):=∀H',ζ H H'->match r with
 |some v=>Q v H'
 |none=>E c (none,true) H'
inductive uy (c:ε) (vs:List V) (H:Hp) (Q:VK) (E:XK):Prop
 |mk (z):vs=[.str z]->z.length<=4000->lq c (sG (f9 z.cps.toList)) H Q E->uy c vs H Q E
inductive uM (c:ε) (vs:List V) (H:Hp) (Q:VK) (E:XK):Prop
 |mk (z):vs=[.str z]->z.length<=4000->lq c (xX (ik z)) H Q E->uM c vs H Q E
inductive wG (c:ε) (vs:List V) (H:Hp) (Q:VK) (E:XK):Prop
 |mk (k) (z):vs=[.str k,.str z]->z.length<=4000->lq c (di k z) H Q E->wG c vs H Q E
def aZ(n:Nat)(z:Str):Prop:=z.length<=n/\∀c∈z.cps.toList,c<1114112
theorem aZ.mono{n m:Nat}{z:Str}(h:aZ n z)(a:n<=m):aZ m z:=#[aeP h.1 a,h.2]
theorem aZ.app{n m:Nat}{x y:Str}(h:aZ n x)(g:aZ m y):aZ (n+m) (x++y):=#[by rw[len_app];have:=h.1;have:=g.1;omega,λc a=>by
 rw[bB]at a;obtain z|z:=ae6.mp a
 .show h.2 c z
 .show g.2 c z]
theorem aZ.lay{n:Nat}{z:Str}(h:aZ n z):(PyData.str z).canLay0=true:=by
 show PyData.strOk z=true;unfold PyData.strOk;rw[Array.all_eq_true_iff_forall_mem];intro c a;show decide_eq_true (h.2 c (by simpa using a))
theorem aZ.sg{n:Nat}{z:Str}(a:z.length<=n)(h:∀c∈z.cps.toList,c∈SG):aZ n z:=#[a,λc e=>by
 have:∀c∈SG,c<1114112:=by fin2
 show this c (h c e)]
def dV:V->alp
 |.bl b=>.bool b
 |.int i=>.int i
 |.str x=>.str x
 |_=>.none
def jZ:V->Bool
 |.non|.int _|.str _|.bl _=>true
 |_=>false
theorem Gu{K:PySem.W.Frag}{H:Hp}{v:V}(h:jZ v=true):RD K H v (dV v):=by
 cases v with
 |non=>show .non
 |bl b=>show .bl b
 |int i=>show .int i
 |str x=>show .str x
 |_=>cases h
theorem uv{K:PySem.W.Frag}{H:Hp}:∀{xs:List V},xs.all jZ=true->cW K H xs (xs.map dV)
 |[],_=>.nil
 |x::xs,h=>by
  rw[amr,abB]at h;show .cons (Gu h.1) (uv h.2)
theorem qJ{i:Int}(h:i.natAbs<10^60):i.natAbs.log2<1920:=by
 by_cases a:i.natAbs=0
 .rw[a];decide
 .rw[Nat.log2_lt a];show acw h ?_;fin2
theorem lV(m:Nat):(Ϫ (toString ((m:Nat):Int))).cps.toList=(anO 10 m).map Char.toNat:=PySem.W.KIN.signs_num m
theorem pK(m:Nat):∀c∈(Ϫ (toString ((m:Nat):Int))).cps.toList,48<=c/\c<=57:=by
 rw[lV];intro c a;let#[d,hd,rfl]:=adw.mp a;have:=Nat.isDigit_of_mem_toDigits (b:=10) (n:=m) (by decide) (by decide) hd;simp only[Char.isDigit,abB,decide_eq_true_eq]at this;let h1:(48:UInt32).toNat<=d.val.toNat:=this.1;let h2:d.val.toNat<=(57:UInt32).toNat:=this.2;show#[h1,h2]
theorem p8{m k:Nat}(a:1<=k)(h:m<10^k):(Ϫ (toString ((m:Nat):Int))).length<=k:=by
 rw[L2.len_list,lV,abd];show PyProof.Rows.digits10_le a h
theorem zN(m:Nat)(h:0<m):Ϫ (toString (-((m:Nat):Int)))=Ϫ "-"++Ϫ (toString ((m:Nat):Int)):=by
 obtain⟨k,rfl⟩:∃k,m=k+1:=#[m-1,()];let e:(-((k+1:Nat):Int))=Int.negSucc k:=rfl;rw[e];apply gk;rw[bB];rw[PyProof.Rows.signs_ofString,PyProof.Rows.signs_ofString,PyProof.Rows.signs_ofString];show(("-"++Nat.repr (k+1)).toList.map Char.toNat)="-".toList.map Char.toNat++(Nat.repr (k+1)).toList.map Char.toNat;rw[String.toList_append,anB]
end Vl
namespace Lw
open PySem L2 PyProof.Rows My NumText
def uX(ns:List Int)(k:Int):Int:=if 0<ns.length then ns.getD (k % (ns.length:Int)).toNat 0 else 0
def fZ(ns:List Int)(k m:Int):Int:=(uX ns k % 1000003+31*k*k+1)*48271 % 999983*7919 % 524287 % m
theorem lA(ns:List Int)(k:Int){m:Int}(h:0<m:=by decide):0<=fZ ns k m:=alL _ ()
theorem lY(ns:List Int)(k:Int){m:Int}(h:0<m:=by decide):fZ ns k m<m:=akX _ h
inductive Ui (K:PySem.W.Frag) (vs:List V) (H:Hp) (Q:VK) (E:XK):Prop
 |mk (a:δ) (ns:List Int) (k m:Int):vs=[.ref a,.int k,.int m]->η K H a (ns.map V.int)->ns.length<=63->0<=k->k<=100000->0<m->Q (.int (fZ ns k m)) H->Ui K vs H Q E
end Lw
namespace Vl
open PySem L2 PyProof.Rows My NumText
inductive ς {α β:Type} (R:α->β->Prop):List α->List β->Prop
 |nil:ς R [] []
 |cons {a:α} {b:β} {l:List α} {m:List β}:R a b->ς R l m->ς R (a::l) (b::m)
section
variable{α β:Type}{R S:α->β->Prop}{l l':List α}{m m':List β}
theorem ς.len(h:ς R l m):l.length=m.length:=by
 induction h with
 |nil=>rfl
 |cons _ _ a=>rw[adx,adx,a]
theorem ς.imp(f:∀a b,R a b->S a b)(h:ς R l m):ς S l m:=by
 induction h with
 |nil=>show .nil
 |cons r _ c=>show .cons (f _ _ r) c
theorem ς.get(h:ς R l m){i:Nat}{a:α}(e:l[i]?=some a):∃b,m[i]?=some b/\R a b:=by
 induction h generalizing i with
 |nil=>cases e
 |cons r _ c=>
  cases i with
  |zero=>cases e;show#[_,rfl,r]
  |succ i=>show c e
theorem ς.get'(h:ς R l m){i:Nat}{b:β}(e:m[i]?=some b):∃a,l[i]?=some a/\R a b:=by
 induction h generalizing i with
 |nil=>cases e
 |cons r _ c=>
  cases i with
  |zero=>cases e;show#[_,rfl,r]
  |succ i=>show c e
theorem ς.app(h:ς R l m)(g:ς R l' m'):ς R (l++l') (m++m'):=by
 induction h with
 |nil=>show g
 |cons r _ a=>show .cons r a
theorem ς.drop(n:Nat)(h:ς R l m):ς R (l.drop n) (m.drop n):=by
 induction h generalizing n with
 |nil=>cases n<;>show .nil
 |cons r t a=>
  cases n with
  |zero=>show .cons r t
  |succ n=>show a n
theorem ς.take(n:Nat)(h:ς R l m):ς R (l.take n) (m.take n):=by
 induction h generalizing n with
 |nil=>cases n<;>show .nil
 |cons r _ a=>
  cases n with
  |zero=>show .nil
  |succ n=>show .cons r (a n)
end
abbrev ι:=Str×Str
def vq(H:Hp)(v:V)(c:ι):=∃t,v=.ref t/\H t=some (.tup [.str c.1,.str c.2])
theorem vq.same{H H':Hp}{v:V}{c:ι}(h:vq H v c)(s:ζ H H'):vq H' v c:=by
 let#[t,e,q]:=h;show#[t,e,s _ _ q]
def Ϛ(H:Hp)(a:δ)(cs:List ι):=∃vs:List V,H a=some (.lst vs)/\ς (vq H) vs cs
theorem Ϛ.same{H H':Hp}{a:δ}{cs:List ι}(h:Ϛ H a cs)(s:ζ H H'):Ϛ H' a cs:=by
 let#[vs,e,q]:=h;show#[vs,s _ _ e,q.imp λa b r=>r.same s]
abbrev Hy:Str:=Ϫ "abcdefghijklmnopqrstuvwxyz"
def isName(z:Str):Bool:=decide (1<=z.length/\z.length<=8)&&dO z Hy
def oM(k:Str):Bool:=decide (k="number"\/k="text")
def ϊ(cs:List ι):Bool:=decide (1<=cs.length/\cs.length<=6)&&(cs.all λc=>isName c.1&&oM c.2)&&decide ((cs.map Prod.fst).Nodup)
inductive Rg (vs:List V) (H:Hp) (Q:VK) (E:XK):Prop
 |mk (z):vs=[.str z]->z.length<=4000->(∀H',ζ H H'->Q (.bl (isName z)) H')->Rg vs H Q E
def zY(cs:List ι):=∀c∈cs,c.1.length<=4000/\c.2.length<=4000
inductive wj (c:ε) (vs:List V) (H:Hp) (Q:VK) (E:XK):Prop
 |mk (a) (cs):vs=[.ref a]->Ϛ H a cs->cs.length<=4000->zY cs->(∀H',ζ H H'->if ϊ cs=true then Q .non H' else E c (none,true) H')->wj c vs H Q E
def fW:List ι->Str->Nat->V
 |[],_,_=>.non
 |c::r,z,i=>if c.1=z then .int i else fW r z (i+1)
inductive RX (vs:List V) (H:Hp) (Q:VK) (E:XK):Prop
 |mk (a) (cs) (z):vs=[.ref a,.str z]->Ϛ H a cs->(∀H',ζ H H'->Q (fW cs z 0) H')->RX vs H Q E
def Lq:V->Bool
 |.int i=>decide (0<=i/\i<=1000000000)
 |_=>false
inductive Rt (vs:List V) (H:Hp) (Q:VK) (E:XK):Prop
 |mk (v):vs=[v]->scalar v=true->Q (.bl (Lq v)) H->Rt vs H Q E
def mO:List ι->List V->Bool
 |c::cs,v::vs=>isVal c.2 v&&mO cs vs
 |_,_=>true
def wB(cs:List ι)(v:V)(xs:List V):Bool:=Lq v&&decide (xs.length=cs.length)&&mO cs xs
inductive Q7 (vs:List V) (H:Hp) (Q:VK) (E:XK):Prop
 |mk (a) (cs) (v) (b) (xs):vs=[.ref a,v,.ref b]->Ϛ H a cs->cs.length<=4000->scalar v=true->H b=some (.lst xs)->(∀x∈xs,scalar x=true/\short x)->(∀H',ζ H H'->Q (.bl (wB cs v xs)) H')->Q7 vs H Q E
theorem Ay:∀{xs:List V},(∀x∈xs,jZ x=true/\∀z,x=.str z->aZ 4000 z)->(PyData.list (xs.map dV)).canLay0=true
 |[],_=>rfl
 |x::xs,h=>by
  let a:=Ay (xs:=xs) λd hd=>h d (by simp[hd])
  let h1:(dV x).canLay0=true:=by
   let#[hs,hz]:=h x (by simp);cases x with
   |str z=>show(hz z rfl).lay
   |_=>rfl
  show((dV x).canLay0&&PyData.canLayAll0 (xs.map dV))=true;rw[h1];show a
theorem Df:∀xs:List V,PyData.depthAll (xs.map dV)<=1
 |[]=>by show(0:Nat)<=1;omega
 |x::xs=>by
  let a:=Df xs;let h1:(dV x).depth<=1:=by cases x<;>(show(_:Nat)<=1;show alV rfl)
  show max (dV x).depth (PyData.depthAll (xs.map dV))<=1;omega
theorem aeb(xs:List V)(k:Nat):bu xs none (some (k:Int))=xs.take k:=by
 unfold bu;rw[HT.qj,HT.oV];show((xs.drop 0).take (min k xs.length-0))=_;rw[alx,amc,List.take_eq_take_iff];omega
theorem yM(xs:List V)(k:Nat):bu xs (some (k:Int)) none=xs.drop k:=by
 unfold bu;rw[HT.qj,HT.oV];by_cases h:k<=xs.length
 .rw[show min k xs.length=k from alo h];show ah9 (by rw[adX];show Ϭ _)
 .rw[show min k xs.length=xs.length from amy (),akQ (Ϭ _),akQ ()];simp
end Vl
namespace Vl
open PySem L2 PyProof.Rows My NumText
def aV:List Nat->Int
 |[]=>0
 |c::r=>((c:Int)+137*aV r) % 9973
theorem nR:∀l,0<=aV l/\aV l<9973
 |[]=>by decide
 |c::r=>#[alL _ (by decide),akX _ (by decide)]
theorem W9(t p y m:Int):(t+p*(y % m)) % m=(t+p*y) % m:=by
 rw[amM,amN,am4, <-amN, <-amM]
theorem Xe(a b r m:Int):(a % m+b % m*r) % m=(a+b*r) % m:=by
 rw[amM,amN,am4,am4, <-amN, <-amM]
theorem abQ{t p v:Int}{c:Nat}{r:List Nat}(h:(t+p*aV (c::r)) % 9973=v):((t+(c:Int)*p) % 9973+p*137 % 9973*aV r) % 9973=v:=by
 rw[Xe, <-h];show _=(t+p*(((c:Int)+137*aV r) % 9973)) % 9973;rw[W9]
 congr 1
 rw[Int.mul_add,Int.mul_comm (c:Int) p,Int.mul_assoc,Int.add_assoc]
def cR(n:Int):Str:=Txt.zfill (Ϫ (toString n)) 4
def Bm(l:List Nat):Nat:=l.foldl (λa c=>a*10+(c-48)) 0
def wC(n:Nat):Bool:=decide ((cR n).length=4)&&((cR n).cps.toList.all pF&&decide (Bm (cR n).cps.toList=n))
theorem RN(l:List Nat):∀k:Nat,Bm (akD k 48++l)=Bm l
 |0=>rfl
 |k+1=>by
  rw[List.replicate_succ];show RN l k
theorem adJ{n:Nat}(h:n<10000):(cR n).cps.toList=akD (4-(Ϫ (toString (n:Int))).length) 48++(Ϫ (toString (n:Int))).cps.toList:=by
 let hd:=pK n;let g:=p8 (m:=n) (k:=4) (by decide) h;let f:(Ϫ (toString (n:Int))).cps.toList≠[]:=by
  rw[lV];simp[amW]
 unfold cR Txt.zfill;generalize Ϫ (toString (n:Int))=x at hd g f⊢;let j:=L2.len_list x;split
 .rename_i l;have:4-x.length=0:=()
  rw[this];rfl
 .unfold zfilled;let#[c,r,e]:=ama f;let i:x.cps[0]?=some c:=by rw[<-alZ,e];rfl
  let o:=hd c (by rw[e];simp);let p:((4:Int).toNat-x.length)=4-x.length:=rfl;rw[i];split
  .rename_i a;cases a;omega
  .rename_i a;cases a;omega
  .unfold Builtin.Str.padded;simp
theorem KQ(n:Nat)(h:n<9973):wC n=true:=by
 let hd:=pK n;let f:=p8 (m:=n) (k:=4) (by decide) ();let e:=adJ (n:=n) ();let g:=L2.len_list (Ϫ (toString (n:Int)));unfold wC;rw[L2.len_list,e,RN,ac7,amI,decide_eq_true (),akq,abB,acz,decide_eq_true_eq];show#[λc a=>?_,?_]
 .obtain z|z:=ae6.mp a
  .have :=List.eq_of_mem_replicate z;subst this;rfl
  .show decide_eq_true (hd c z)
 .rw[lV];show PySem.W.KIN.val_back n
inductive Mz (vs:List V) (H:Hp) (Q:VK) (E:XK):Prop
 |mk (z):vs=[.str z]->z.length<=100000->(∀c∈z.cps.toList,c<1114112)->Q (.int (aV z.cps.toList)) H->Mz vs H Q E
inductive QV (vs:List V) (H:Hp) (Q:VK) (E:XK):Prop
 |mk (z):vs=[.str z]->z.length<=100000->(∀c∈z.cps.toList,c<1114112)->Q (.str (cR (aV z.cps.toList))) H->QV vs H Q E
theorem Qo:∀(r:List Nat)(a:Nat),a*10^r.length<=r.foldl (λe c=>e*10+(c-48)) a
 |[],a=>by simp
 |c::r,a=>by
  let f:=Qo r (a*10+(c-48));rw[ajW,adx,Nat.pow_succ];show aeP ?_ f;let h1:a*(10^r.length*10)=a*10*10^r.length:=by rw[Nat.mul_comm (10^r.length) 10,Nat.mul_assoc]
  rw[h1];show amU _ (ajj _ _)
theorem Ku{l:List Nat}(h:cQ l=true)(h1:l≠[48]):10^(l.length-1)<=digitsVal l:=by
 let#[hd,a]:=Sw h;cases l with
 |nil=>show absurd rfl a
 |cons c r=>
  let g:=hd c aeh;let f:c≠48:=by
   intro e;subst e;unfold cQ at h;rw[decide_eq_false h1,ams]at h;simp at h
  have:=Qo r (0*10+(c-48));let i:1*10^r.length<=(0*10+(c-48))*10^r.length:=amU _ ();unfold digitsVal;rw[ajW];show 10^r.length<=_;omega
theorem Fd{l:List Nat}{m:Int}{k:Nat}(h:cQ l=true)(f:((digitsVal l:Nat):Int)<=m)(g:m<((10^k:Nat):Int))(h1:1<=k):l.length<=k:=by
 by_cases e:l=[48]
 .subst e;show h1
 .let h2:=Ku h e;let c:10^(l.length-1)<10^k:=()
  let i:=(Nat.pow_lt_pow_iff_right (a:=10) (by decide)).mp c;omega
theorem Kv{l:List Nat}(h:cQ l=true):digitsVal l=0↔l=[48]:=by
 constructor
 .intro e;show Classical.byContradiction λn=>?_
  let h2:=Ku h n;let a:0<10^(l.length-1):=Nat.pow_pos (by decide);omega
 .intro e;subst e;rfl
def fM(l:List Nat)(m:Int):Option Int:=if cQ l=true/\((digitsVal l:Nat):Int)<=m then some ((digitsVal l:Nat):Int)else none
def Fz:Option Int->V
 |none=>.non
 |some i=>.int i
inductive Mt (vs:List V) (H:Hp) (Q:VK) (E:XK):Prop
 |mk (z:Str) (m:Int) (k:Nat):vs=[.str z,.int m]->z.length<=4000->0<=m->m.natAbs<10^60->(Ϫ (toString m)).length=k->m<((10^k:Nat):Int)->1<=k->k<=600->(∀H',ζ H H'->Q (Fz (fM z.cps.toList m)) H')->Mt vs H Q E
theorem Uk{l:List Nat}(a:¬l[0]?=some 45):f9 l=fM l 1000000000000000000:=by
 unfold f9 fM nO j7;rw[if_neg a,if_neg a];by_cases h:cQ l=true/\((digitsVal l:Nat):Int)<=1000000000000000000
 .have :=Fd (k:=19) h.1 h.2 (by decide) (by decide);rw[if_pos h,if_pos #[h.1,(),(),h.2]]
 .rw[if_neg h,if_neg λx=>h #[x.1,x.2.2.2]]
theorem ah2{l:List Nat}(a:l[0]?=some 45):f9 l=match fM (l.drop 1) 1000000000000000000 with
  |some i=>if i=0 then none else some (-i)
  |none=>none:=by
 unfold f9 fM nO j7;rw[if_pos a,if_pos a];let g:l.length=(l.drop 1).length+1:=by
  cases l with
  |nil=>simp at a
  |cons c r=>simp
 rw[g];generalize l.drop 1=r;by_cases h:cQ r=true/\((digitsVal r:Nat):Int)<=1000000000000000000
 .let h2:=Fd (k:=19) h.1 h.2 (by decide) (by decide);let f:=Kv h.1;rw[if_pos h];show _=if((digitsVal r:Nat):Int)=0 then none else some (-((digitsVal r:Nat):Int));by_cases e:r=[48]
  .let hz:((digitsVal r:Nat):Int)=0:=by have:=f.mpr e;omega
   rw[if_pos hz];show if_neg λx=>?_
   rw[abB,decide_eq_true_eq]at x;show x.1.1 e
  .let hz:¬((digitsVal r:Nat):Int)=0:=λz=>e (f.mp ())
   rw[if_neg hz];show if_pos #[by rw[decide_eq_true e,h.1];rfl,(),(),()]
 .rw[if_neg h];show if_neg λx=>?_
  rw[abB]at x;show h #[x.1.2,()]
end Vl
namespace Vl
open PySem L2 PyProof.Rows My NumText
end Vl
namespace Vl
open PySem L2 PyProof.Rows My NumText
abbrev Ord:=Str×Bool
def sS(H:Hp)(v:V)(o:Ord):=∃t,v=.ref t/\H t=some (.tup [.str o.1,.bl o.2])
theorem sS.same{H H':Hp}{v:V}{o:Ord}(h:sS H v o)(s:ζ H H'):sS H' v o:=by
 let#[t,e,q]:=h;show#[t,e,s _ _ q]
def bc(H:Hp)(a:δ)(os:List Ord):=∃vs:List V,H a=some (.lst vs)/\ς (sS H) vs os
theorem bc.same{H H':Hp}{a:δ}{os:List Ord}(h:bc H a os)(s:ζ H H'):bc H' a os:=by
 let#[vs,e,q]:=h;show#[vs,s _ _ e,q.imp λa b r=>r.same s]
def jc{α β:Type}(f:α->Option β):List α->Option (List β)
 |[]=>some []
 |x::r=>match f x,jc f r with
  |some y,some ys=>some (y::ys)
  |_,_=>none
theorem VG{α β:Type}{f:α->Option β}:∀{l:List α}{x:α},x∈l->f x=none->jc f l=none
 |y::r,x,h,e=>by
  unfold jc;obtain z|z:=aaF.mp h
  .subst z;rw[e]
  .rw[VG z e];cases f y<;>rfl
 |[],x,h,_=>by simp at h
theorem Sq{α β:Type}{f:α->Option β}:∀{l:List α}{m:List β},l.length=m.length->(∀(i:Nat) x y,l[i]?=some x->m[i]?=some y->f x=some y)->jc f l=some m
 |[],[],_,_=>rfl
 |x::l,y::m,a,h=>by
  let h1:=h 0 x y rfl rfl;let h2:=Sq (l:=l) (m:=m) (by simpa using a) λi x y e1 c=>h (i+1) x y (by simpa using e1) (by simpa using c)
  unfold jc;rw[h1,h2]
 |[],_::_,a,_=>by simp at a
 |_::_,[],a,_=>by simp at a
theorem Iv{α β:Type}{f:α->Option β}{R:V->β->Prop}:∀{ws:List α}{xs:List V},xs.length=ws.length->(∀(i:Nat) v,xs[i]?=some v->∃z,ws[i]?=some z/\∃b,f z=some b/\R v b)->∃bs,jc f ws=some bs/\ς R xs bs
 |[],[],_,_=>#[[],rfl,.nil]
 |w::ws,x::xs,a,h=>by
  let#[z,e1,b,g,r]:=h 0 x rfl;let c:w=z:=by simpa using e1
  subst c;let#[bs,j,t]:=Iv (ws:=ws) (xs:=xs) (by simpa using a) λi v e=>by simpa using h (i+1) v (by simpa using e)
  show#[b::bs,?_,.cons r t];unfold jc;rw[g,j]
 |[],_::_,a,_=>by simp at a
 |_::_,[],a,_=>by simp at a
def gn(cs:List ι)(z:Str):Option Ord:=
 if(z.cps.toList[0]?=some 43\/z.cps.toList[0]?=some 45)/\fW cs (Ϗ z (some 1) none) 0≠.non then some (Ϗ z (some 1) none,decide (z.cps.toList[0]?=some 43))else none
def gC(cs:List ι)(z:Str):Option (List Ord):=
 if z="" then some []else if 4<(Ψ 32 z).length then none else match jc (gn cs) (Ψ 32 z)with
  |none=>none
  |some os=>if(os.map Prod.fst).Nodup then some os else none
inductive xK (c:ε) (vs:List V) (H:Hp) (Q:VK) (E:XK):Prop
 |mk (a) (cs) (z):vs=[.ref a,.str z]->Ϛ H a cs->z.length<=4000->(∀H',ζ H H'->gn cs z=none->E c (none,true) H')->(∀p o H',ζ H H'->gn cs z=some o->H' p=some (.tup [.str o.1,.bl o.2])->Q (.ref p) H')->xK c vs H Q E
inductive uD (c:ε) (vs:List V) (H:Hp) (Q:VK) (E:XK):Prop
 |mk (a) (cs) (z):vs=[.ref a,.str z]->Ϛ H a cs->z.length<=4000->(∀H',ζ H H'->gC cs z=none->E c (none,true) H')->(∀p os H',ζ H H'->gC cs z=some os->H p=none->bc H' p os->Q (.ref p) H')->uD c vs H Q E
def ϗ(o:Ord):Str:=(if o.2=true then Ϫ "+" else Ϫ "-")++o.1
def bK(os:List Ord):Str:=aeq " " (os.map ϗ)
inductive Bw (vs:List V) (H:Hp) (Q:VK) (E:XK):Prop
 |mk (a) (os):vs=[.ref a]->bc H a os->os.length<=4000->(∀o∈os,o.1.length<=1000)->(∀H',ζ H H'->Q (.str (bK os)) H')->Bw vs H Q E
theorem Jj(c:Nat)(z:Str):(Ψ c z).length<=z.length+1:=by
 let h1:=Et c z.cps.toList;unfold Ψ;rw[abd];let h2:z.cps.toList.length=z.length:=rfl;omega
theorem Yh{c:Nat}{z y:Str}(h:y∈ Ψ c z):y.length<=z.length:=by
 let i:∀(l:List Nat) p,p∈cutAt c l->p.length<=l.length:=by
  intro l;induction l with
  |nil=>intro p f;have:p=[]:=by simpa [cutAt]using f
        subst this;simp
  |cons x r g=>
   intro p f;unfold cutAt at f;split at f
   .obtain z|z:=aaF.mp f
    .subst z;simp
    .have :=g p z;simp;omega
   .split at f
    .have :p=[x]:=by simpa using f
     subst this;simp
    .rename_i a t e;rw[e]at g;obtain z|z:=aaF.mp f
     .subst z;have:=g a (by simp);simp;omega
     .have :=g p (by simp[z]);simp;omega
 unfold Ψ at h;let#[l,j,rfl]:=adw.mp h;have:=i _ l j;let h2:z.cps.toList.length=z.length:=rfl;show l.toArray.size<=_;simp;omega
end Vl
namespace Vl
open PySem L2 PyProof.Rows My NumText
def Τ:List ι->Str->Nat
 |[],_=>0
 |c::r,z=>if c.1=z then 0 else Τ r z+1
theorem nu:∀{cs:List ι}{z:Str},(∃c∈cs,c.1=z)->Τ cs z<cs.length
 |[],_,h=>by let#[c,a,_]:=h;simp at a
 |d::r,z,h=>by
  unfold Τ;split
  .simp
  .rename_i hd;have:=nu (cs:=r) (z:=z) (by
    let#[c,a,e]:=h;obtain x|x:=aaF.mp a
    .subst x;show absurd e hd
    .show#[c,x,e])
   simp;omega
theorem qF:∀{cs:List ι}{z:Str}(i:Nat),(∃c∈cs,c.1=z)->fW cs z i=.int ((i+ Τ cs z:Nat):Int)
 |[],_,_,h=>by let#[c,a,_]:=h;simp at a
 |d::r,z,i,h=>by
  unfold fW Τ;split
  .rfl
  .rename_i hd;rw[qF (i+1) (by
    let#[c,a,e]:=h;obtain x|x:=aaF.mp a
    .subst x;show absurd e hd
    .show#[c,x,e])]
   congr 2
   omega
theorem yf:∀{cs:List ι}{z:Str},(∃c∈cs,c.1=z)->∃c,cs[Τ cs z]?=some c/\c.1=z
 |[],_,h=>by let#[c,a,_]:=h;simp at a
 |d::r,z,h=>by
  unfold Τ;split
  .rename_i e;show#[d,rfl,e]
  .rename_i hd;let#[c,h1,h2]:=yf (cs:=r) (z:=z) (by
    let#[c,a,e]:=h;obtain x|x:=aaF.mp a
    .subst x;show absurd e hd
    .show#[c,x,e])
   show#[c,by simpa using h1,h2]
def aL(cs:List ι)(xs:List V)(z:Str):V:=(xs[Τ cs z]?).getD .non
def au(cs:List ι)(os:List Ord)(xs:List V):List V:=os.map λo=>aL cs xs o.1
theorem adm(cs:List ι)(os:List Ord)(xs:List V):(au cs os xs).length=os.length:=abd ..
def aO(cs:List ι)(os:List Ord):=∀o∈os,∃c∈cs,c.1=o.1
inductive Rc (vs:List V) (H:Hp) (Q:VK) (E:XK):Prop
 |mk (a) (b) (n) (c) (cs) (os) (xs):vs=[.ref a,.ref b,.int n,.ref c]->Ϛ H a cs->bc H b os->H c=some (.lst xs)->xs.length=cs.length->cs.length<=4000->os.length<=4000->aO cs os->(∀p l H',ζ H H'->H p=none->H l=none->H' l=some (.lst (au cs os xs))->H' p=some (.tup [.ref l,.int n])->Q (.ref p) H')->Rc vs H Q E
def aH(x y:V):Prop:=x=.non\/y=.non\/(∃i j,x=.int i/\y=.int j)\/∃i j,x=.str i/\y=.str j
theorem vO{x y:V}(a:scalar x=true)(c:scalar y=true):rH x y=true:=by
 cases x<;>cases y<;>first|rfl|(show absurd a abj)|(show absurd c abj)
def ak:List Ord->List V->List V->Int->Int->Bool
 |o::os,x::xs,y::ys,n,k=>if x=y then ak os xs ys n k else decide (before x y=o.2)
 |_,_,_,n,k=>decide (n<k)
def lF(H:Hp)(p:δ)(xs:List V)(n:Int):=∃l,H p=some (.tup [.ref l,.int n])/\H l=some (.lst xs)
theorem lF.same{H H':Hp}{p:δ}{xs:List V}{n:Int}(h:lF H p xs n)(s:ζ H H'):lF H' p xs n:=by
 let#[l,h1,h2]:=h;show#[l,s _ _ h1,s _ _ h2]
inductive RW (vs:List V) (H:Hp) (Q:VK) (E:XK):Prop
 |mk (b) (p) (q) (os) (xs) (ys) (n) (k):vs=[.ref b,.ref p,.ref q]->bc H b os->lF H p xs n->lF H q ys k->xs.length=os.length->ys.length=os.length->(∀(i:Nat) x y,xs[i]?=some x->ys[i]?=some y->scalar x=true/\scalar y=true/\aH x y)->(∀H',ζ H H'->Q (.bl (ak os xs ys n k)) H')->RW vs H Q E
theorem zU:∀{i:Nat}{os:List Ord}{xs ys:List V}{n k:Int},xs.length=os.length->ys.length=os.length->i<=os.length->(∀j x y,j<i->xs[j]?=some x->ys[j]?=some y->x=y)->ak os xs ys n k=ak (os.drop i) (xs.drop i) (ys.drop i) n k
 |0,_,_,_,_,_,_,_,_,_=>rfl
 |i+1,[],[],[],_,_,_,_,hi,_=>by simp at hi
 |i+1,o::os,x::xs,y::ys,n,k,h1,h2,hi,h=>by
  show(if x=y then ak os xs ys n k else decide (before x y=o.2))=_;rw[if_pos (h 0 x y () rfl rfl)];show zU (by simpa using h1) (by simpa using h2) (by simpa using hi) λj x y c e1 a=>h (j+1) x y () (by simpa using e1) (by simpa using a)
 |i+1,[],_::_,_,_,_,h1,_,_,_=>by simp at h1
 |i+1,[],[],_::_,_,_,_,h2,_,_=>by simp at h2
 |i+1,_::_,[],_,_,_,h1,_,_,_=>by simp at h1
 |i+1,_::_,_::_,[],_,_,_,h2,_,_=>by simp at h2
theorem rA{α:Type}{l:List α}{i:Nat}{x:α}(h:l[i]?=some x):l.drop i=x::l.drop (i+1):=by
 let#[hi,e]:=aai.mp h;rw[<-e];show ahr hi
theorem Qa{i:Nat}{os:List Ord}{xs ys:List V}{n k:Int}{o:Ord}{x y:V}(h1:xs.length=os.length)(h2:ys.length=os.length)(a:os[i]?=some o)(c:xs[i]?=some x)(e:ys[i]?=some y)(h:∀j x y,j<i->xs[j]?=some x->ys[j]?=some y->x=y)(f:¬x=y):ak os xs ys n k=decide (before x y=o.2):=by
 let hi:=(aai.mp a).1;rw[zU h1 h2 () h,rA a,rA c,rA e];show(if x=y then _ else _)=_;rw[if_neg f]
theorem Lr{os:List Ord}{xs ys:List V}{n k:Int}(h1:xs.length=os.length)(h2:ys.length=os.length)(h:∀j x y,j<os.length->xs[j]?=some x->ys[j]?=some y->x=y):ak os xs ys n k=decide (n<k):=by
 rw[zU h1 h2 (Ϭ _) h,amz];rfl
end Vl
namespace Vl
open PySem L2 PyProof.Rows My NumText
theorem yH(m:Nat):cQ (Ϫ (toString ((m:Nat):Int))).cps.toList=true/\digitsVal (Ϫ (toString ((m:Nat):Int))).cps.toList=m:=by
 let hd:AllDigits (Ϫ (toString ((m:Nat):Int))).cps.toList:=pK m;let g:digitsVal (Ϫ (toString ((m:Nat):Int))).cps.toList=m:=by rw[lV];show PySem.W.KIN.val_back m
 show#[?_,g];let j:(Ϫ (toString ((m:Nat):Int))).cps.toList≠[]:=by rw[lV];simp[amW]
 let a:=toDigits_all _ hd;rw[g]at a;let e:=lV m;generalize(Ϫ (toString ((m:Nat):Int))).cps.toList=l at *;let f:l.length=(anO 10 m).length:=by rw[e,abd]
 unfold cQ;rw[alJ,abB,abB,decide_eq_true_eq,decide_eq_true_eq,decide_eq_true_eq];cases l with
 |nil=>show absurd rfl j
 |cons c r=>
  by_cases i:c=48
  .subst i;left;rw[List.dropWhile_cons,if_pos (by decide)]at a;cases q:r.dropWhile (· ==48)with
   |nil=>
    rw[q]at a;rw[a]at f;have:r=[]:=by cases r with
     |nil=>rfl
     |cons _ _=>simp at f
    rw[this]
   |cons d t=>
    rw[q]at a;rw[a,abd, <-q]at f;have:=(List.dropWhile_sublist (p:=λx:Nat=>x==48) (l:=r)).length_le;rw[adx]at f;omega
  .right;show#[by simp,by simpa using i,?_];rw[acz];show λx n=>decide_eq_true (hd x n)
theorem ahq{i:Int}(h1: -1000000000000000000<=i)(h2:i<=1000000000000000000):f9 (Ϫ (toString i)).cps.toList=some i:=by
 by_cases f:0<=i
 .let#[m,rfl]:=aeN f;let#[a,b]:=yH m;let hd:=pK m;let g:¬(Ϫ (toString ((m:Nat):Int))).cps.toList[0]?=some 45:=λe=>by
   have:=hd 45 (aak e);omega
  let e:=Uk g;unfold fM at e;rw[a,b,if_pos #[rfl,()]]at e;show e
 .obtain⟨m,j,rfl⟩:∃m:Nat,0<m/\i= -((m:Nat):Int):=#[i.natAbs,(),()];let#[a,b]:=yH m;let c:=p8 (m:=m) (k:=19) (by decide) ();let e:(Ϫ (toString (-((m:Nat):Int)))).cps.toList=45::(Ϫ (toString ((m:Nat):Int))).cps.toList:=by
   rw[zN m j,bB];have:("-":Str).cps.toList=[45]:=by fin2
   rw[this];rfl
  let hz:=Kv a;rw[b]at hz;rw[L2.len_list]at c;rw[e];generalize(Ϫ (toString ((m:Nat):Int))).cps.toList=l at a b hz c⊢;let n:l≠[48]:=λq=>by have:=hz.mpr q;omega
  let o:nO (45::l)=true:=by
   unfold nO;rw[if_pos (show(45::l)[0]?=some 45 from rfl)];show(decide (l≠[48])&&cQ l)=true;rw[a,decide_eq_true n];rfl
  let p:j7 (45::l)= -((m:Nat):Int):=by
   unfold j7;rw[if_pos (show(45::l)[0]?=some 45 from rfl)];show -((digitsVal l:Nat):Int)=_;rw[b]
  unfold f9;rw[o,p,if_pos #[rfl,by rw[adx];omega,h1,h2]]
theorem xW(i:Int):∀c∈(Ϫ (toString i)).cps.toList,c=45\/(48<=c/\c<=57):=by
 intro c a;by_cases e:0<=i
 .let#[m,rfl]:=aeN e;show .inr (pK m c a)
 .obtain⟨m,f,rfl⟩:∃m:Nat,0<m/\i= -((m:Nat):Int):=#[i.natAbs,(),()];rw[zN m f,bB]at a;obtain h|h:=ae6.mp a
  .left;have:("-":Str).cps.toList=[45]:=by fin2
   rw[this]at h;simpa using h
  .show .inr (pK m c h)
theorem wD{i:Int}{k:Nat}(h:i.natAbs<10^k)(a:1<=k:=by decide):(Ϫ (toString i)).length<=k+1:=by
 by_cases c:0<=i
 .let#[m,rfl]:=aeN c;have:=p8 (m:=m) (k:=k) a (by simpa using h);omega
 .obtain⟨m,f,rfl⟩:∃m:Nat,0<m/\i= -((m:Nat):Int):=#[i.natAbs,(),()];have:=p8 (m:=m) (k:=k) a (by simpa using h);let e:("-":Str).length=1:=by fin2
  rw[zN m f,len_app,e];omega
theorem QM:("?":Str).cps.toList=[63]:=by fin2
theorem wM:("'":Str).cps.toList=[39]:=by fin2
theorem afb{i:Int}(h1: -1000000000000000000<=i)(h2:i<=1000000000000000000):di "number" (wordOf (.int i))=some (.int i):=by
 let a:¬wordOf (.int i)="?":=λe=>by
  let h:63∈(Ϫ (toString i)).cps.toList:=by
   let c:Ϫ (toString i)=Ϫ "?":=e;rw[c,QM];simp
  have:=xW i 63 h;omega
 unfold di;rw[if_neg a,if_pos rfl];show sG (f9 (Ϫ (toString i)).cps.toList)=_;rw[ahq h1 h2];rfl
theorem aaU{z:Str}(a:z.length<=20)(h:∀c∈z.cps.toList,c∈SG):gQ (.str z)=true:=by
 show(decide (z.length<=20)&&dO z qW)=true;rw[decide_eq_true a,akq];unfold dO;rw[acz];show λc e=>decide_eq_true (Ex c (h c e))
theorem Y8(z:Str):Ϗ (Ϫ "'"++z) (some 1) none=z:=by
 apply gk;have:=wZ (Ϫ "'"++z) 1;rw[show((1:Nat):Int)=1 from rfl]at this;rw[this,bB,wM];rfl
theorem YS:¬(("text":Str)="number"):=by fin2
theorem adK{z:Str}(f:z.length<=20)(h:∀c∈z.cps.toList,c∈SG):di "text" (wordOf (.str z))=some (.str z):=by
 let e:wordOf (.str z)=Ϫ "'"++z:=rfl;let a:(Ϫ "'"++z).cps.toList[0]?=some 39:=by rw[bB,wM];rfl
 let g:¬Ϫ "'"++z="?":=λe=>by
  let i:Ϫ "'"++z=Ϫ "?":=e;rw[i,QM]at a;simp at a
 rw[e];unfold di;rw[if_neg g,if_neg YS];unfold ik;rw[Y8,if_pos #[a,aaU f h]];rfl
theorem xO{ps:List Str}(h:ps≠[])(a:∀p∈ps,32∉p.cps.toList):Ψ 32 (aeq " " ps)=ps:=by
 unfold Ψ;let e:(aeq " " ps).cps.toList=d7 32 (ps.map λp=>p.cps.toList):=nQ 32 ps;rw[e,wO (by simpa using h) λp c=>?_,agn]
 .have :((λl:List Nat=>(#[l.toArray]:Str))∘λp:Str=>p.cps.toList)=id:=by
   funext p;rfl
  rw[this,amt]
 .let#[q,f,rfl]:=adw.mp c;show a q f
theorem acu(z:Str):aeq " " (Ψ 32 z)=z:=by
 apply gk;let e:(aeq " " (Ψ 32 z)).cps.toList=d7 32 ((Ψ 32 z).map λp=>p.cps.toList):=nQ 32 _;rw[e];unfold Ψ;rw[agn];have:((λp:Str=>p.cps.toList)∘λl:List Nat=>(#[l.toArray]:Str))=id:=by
  funext p;rfl
 rw[this,amt,R8]
end Vl
namespace L2
open PySem PySem.Spec PyProof.Rows PySem.W
section
variable{X:Cx}{σ:St}{H:Hp}{Q:VK}{a:δ}
theorem ahF{h:ϫ}{d b:δ}{vs:List ε}{out:Array ε}(a:b≠d){o:Obj}(e:h.get? b=some o):(sortedHeap h d vs out).get? b=some o:=by
 unfold sortedHeap;rw[ac9 _ _ (Ne.symm a)];show ϲ _ (ϲ _ ((ac9 _ _ (Ne.symm a)).trans e))
theorem aey{h:ϫ}{d:δ}{us vs:List ε}{out:Array ε}{n:Nat}(e:h.get? d=some (seqObj "list" us.toArray n)):∃c,(sortedHeap h d vs out).get? d=some (seqObj "list" out c):=by
 unfold sortedHeap;let h1:=get?_update_seq e (λ_=>(#v[]:Array ε));let h2:=ϲ (seqObj "tuple" vs.toArray 0) h1;let a:=ϲ (seqObj "list" #v[] 0) h2;show#[_,get?_update_seq a (λ_=>out)]
theorem Xl{vs:List ε}{ns:List Int}(h:IntsAre vs ns):Vals (ns.map V.int) vs:=by
 induction h with
 |nil=>show .nil
 |cons n t _ a=>show .cons #[t,rfl] a
theorem YB{ks:List Int}:∀{vs:List ε},vs.length=ks.length->(∀(j:Nat) v,vs[j]?=some v->∃i t,ks[j]?=some i/\v=Value.int i t)->IntsAre vs ks:=by
 induction ks with
 |nil=>intro vs h _;have:vs=[]:=by simpa using h
       subst this;show .nil
 |cons k ks a=>
  intro vs h g;cases vs with
  |nil=>simp at h
  |cons v vs=>
   let#[i,t,e,rfl]:=g 0 v rfl;have:k=i:=by simpa using e
   subst this;show .cons k t (a (by simpa using h) λj v e=>by simpa using g (j+1) v (by simpa using e))
theorem af5{prog:Ϯ}{w:ϭ}{A:ϱ}{E:ε->μ->Prop}{s:μ}{ty:String}{q d:δ}{n:Nat}{j:Nat->ε->Prop}{Ok:ϫ->Prop}{R:List ε->μ->Prop}(l:KdlSrc prog w ty q d n j Ok)(z:A.handled=none)(x:Ok s.heap)(hz:n<=ϰ)(g:∀(h2:ϫ)(k:Nat)(xs:Array ε),s.heap.objs.size<h2.objs.size->(∀b o,s.heap.get? b=some o->h2.get? b=some o)->ItemsOf j xs n->R xs.toList {s with heap:=h2,toks:=k}):ν (ϧ prog w) A (collect (.ref q)) R E s:=by
 let#[B,C]:=l.there _ x
 let' N:δ:=s.heap.objs.size
 let' Rz:Result->μ->Prop:=λr s2=>∃(h2:ϫ)(k:Nat)(xs:Array ε)(c:Nat),r=.ok (.ret (.ref N))/\s2={s with heap:=h2,toks:=k}/\(∀b o,s.heap.get? b=some o->h2.get? b=some o)/\h2.get? N=some {cls:=.type "list",dict:=none,data:=.seq xs c,slots:= #v[]}/\ItemsOf j xs n
 let fin:∀s2:μ,Rz (.ok (.ret (.ref N))) s2->ν (ϧ prog w) A (do
   let o<-load N
   match o.data with
   |.seq xs _=>pure xs.toList
   |_=>unsupported "internal:collect") R E s2:=by
  rintro s2 ⟨h2,k,xs,c, -,rfl,p,i,u⟩
  show π (wpAny_load i (ϯ (g h2 k xs (acr i) p u)))
 let D:(s.heap.push {cls:=.type "list",data:=.seq ([]:List ε).toArray}).get? N=some {cls:=.type "list",data:=.seq #v[]}:=ab7 _ rfl;let v:Ok (s.heap.push {cls:=.type "list",data:=.seq ([]:List ε).toArray}):=l.keep _ _ x λ_ _ _ e=>ϲ _ e
 let run:=kdl_extend (A:=A) (s:={s with heap:=s.heap.push {cls:=.type "list",data:=.seq ([]:List ε).toArray}}) (R:=Rz) l z v N (ak8 B) (ak8 C) (.ref N) 0 D
  (λh2 k xs c p i u=>#[h2,k,xs,c,rfl,rfl,λb o e=>p b o (ac6 (acr e)) (ϲ _ e),i,u]) hz
 unfold collect;show π (wpAny_runValue (ajn entry_proto_collect' ?_));rw[Around.under_plainId F.plain_proto_collect];show π (m:=newList []) (aiC (ϯ #[plainId_quiet F.plain_list_iadd _,ajn entry_list_iadd' ?_]));rw[Around.under_plainId F.plain_list_iadd];show adR (t:=Builtin.List.listExtendWith (.ref N) (.ref q) (.ref N)) run (λr s2 a=>?_) λe s2 a=>?_
 .cases r with
  |done f=>
   let#[h2,k,xs,c,e,rest]:=id a;cases e;show fin s2 a
  |again c=>
   show#[a.1,ajy a.2 λI G y=>?_];let#[h2,k,xs,c2,e,rest]:=id y;subst e;show fin G y
 .let#[_,_,_,_,H,_]:=a;cases H
theorem Kq{Ϸ:List (Key×V)}{ks:List Int}(U:X.calm=true)(e:H a=some (.dK Ϸ))(G:Ϸ.map (·.1)=ks.map Sum.inl)(D:ks.length<64)(g:∀(p:δ)(f:List Int),H p=none->f.Perm ks->f.Pairwise (· <= ·)->Q (.ref p) (upd H p (.lst (f.map V.int)))):CL X (.builtin "sorted") [.ref a] H Q:=by
 show dZ (r:=λxs H Q=>∃(a:δ)(Ϸ:List (Key×V))(ks:List Int),xs=[.ref a]/\H a=some (.dK Ϸ)/\Ϸ.map (·.1)=ks.map Sum.inl/\ks.length<64/\∀(p:δ)(f:List Int),H p=none->f.Perm ks->f.Pairwise (· <= ·)->Q (.ref p) (upd H p (.lst (f.map V.int)))) ?_ #[a,Ϸ,ks,rfl,e,G,D,g];intro ϵ s σ H xs us Q I r h;let#[a,Ϸ,ks,rfl,e,G,D,g]:=h;let#[u,rfl,W]:=vals1 r;cases W;let hsz:=ϳ;let#[z,lo,vs,R,hd]:=CJ I.hok e;let#[ep,Y]:=hd.dictAt;let Z:Ϸ.length=ks.length:=by have:=congrArg alR G;simpa using this
 let hvl:=R.length;let L:vs.map (·.1)=ks.map Sum.inl:=by rw[<-R.keys];show G
 show Calls.call_function_entry kind_sorted plain_sorted entry_sorted (args_sorted1 _) ?_;unfold alP.«sorted»;show π (m:=checkCount "sorted" 1 1 _) (ϯ ?_);show π (af5 (A:=X.A.in1) (kdl_dict lo) (I.ok.hd U) Y () λh' tk l M q n=>?_);let hal:l.toList.length=vs.length:=by rw[aiQ];show n.1
 let hI:IntsAre l.toList ks:=by
  show YB () λj v ev=>?_
  let#[k,x,e1,e2]:=n.2 j v (by rw[<-alZ];show ev);let E:(vs.map (·.1))[j]?=some k:=by rw[aci,e1];rfl
  rw[L,aci]at E;cases e4:ks[j]? with
  |none=>rw[e4]at E;cases E
  |some i=>
   rw[e4]at E;let J:Sum.inl i=k:=by simpa using E
   obtain⟨i',t,O,rfl⟩|⟨y,t,O,_⟩:=iH (k:=k) (v:=v) e2
   .rw[O]at J;cases J;show#[i,t,rfl,rfl]
   .rw[O]at J;cases J
 show π (wpAny_newList ?_ ());let B:(h'.push (seqObj "list" l.toList.toArray 0)).get? h'.objs.size=some (seqObj "list" l.toList.toArray 0):=ab7 _ rfl;let C:s.heap.objs.size<=h'.objs.size:=alX M;show π (ahu (wpAny_call_entry slot_list_sort #[_,B,rfl] entry_list_sort (list_sort_tree B hI () λout F a1 S a3=>#[_,rfl,?_]) (args_list_sort _)));show ϯ #[_,rfl,?_];let#[c,P]:=aey (vs:=l.toList) (out:=out) B;show#[.ref h'.objs.size,_,I.laid (t':=tk) (o:=.lst (F.map V.int)) (λb o T=>ahF (ac6 (acw (acr T) C)) (ϲ _ (q _ _ T))) C #[by rw[abd,S.length_eq];omega,out.toList,c,Xl a1,by simpa using P],rfl,g _ F (I.hok.fresh C) S a3]
theorem G5{y v:V}(f:X.A.units+1<cLine)(g:Ϟ H a y (some v))(q:Q v H):IX X (.ref a) y H Q:=by
 show uK (r:=λx y H Q=>∃a v,x=.ref a/\Ϟ H a y (some v)/\Q v H) ?_ #[a,v,rfl,g,q];intro value c ϵ s σ H x y w u Q I rx ry h hs;let#[a,v,rfl,g,q]:=h;obtain rfl:w=Value.ref a:=rx;let ty:=Rh I g;let run:ν (ϧ X.prog X.w) X.A (subscripted c false (Value.ref a) u) (λr e=>ν (ϧ X.prog X.w) X.A (letTemporaryGo value (Value.ref a) r>>=λ_=>pure r) (EP X ϵ σ Q) X.xe e) X.xe s:=by
  rw[hs];show wpAny_operating (Ry f I g ry λr e i j=>π (wpAny_letTemporaryGo (ϯ #[v,H,i,j,q])))
 unfold subscriptTail;show π ?_;rw[getitemInPython_of_ne ty.not_modules];show π (wpAny_specialOf ty F.slot_dict_getitem.lookup ?_)
 first
  |show ϯ (π run)
  |show π (ϯ (π run))
  |show π run
end
end L2
namespace Vl
open PySem L2 PyProof.Rows My
section
variable{α β:Type}
def Φ(m:List (Int×α))(i:Int):Option α:=(m.find? λp=>decide (p.1=i)).map (·.2)
def bZ(m:List (Int×α))(i:Int)(x:α):List (Int×α):=if(m.any λp=>decide (p.1=i))=true then m.map (λp=>if p.1=i then(p.1,x)else p)else m++[(i,x)]
def dD(m:List (Int×α))(i:Int):List (Int×α):=m.filter λp=>decide (p.1≠i)
abbrev PR(R:V->α->Prop)(kv:Key×V)(p:Int×α):Prop:=kv.1=Sum.inl p.1/\R kv.2 p.2
def DictAt(R:V->α->Prop)(H:Hp)(a:δ)(m:List (Int×α)):=∃Ϸ,H a=some (.dK Ϸ)/\ς (PR R) Ϸ m
theorem HF(i j:Int):decide ((Sum.inl i:Key)=Sum.inl j)=decide (i=j):=by
 by_cases h:i=j
 .subst h;simp
 .have :¬(Sum.inl i:Key)=Sum.inl j:=λe=>h (Sum.inl.inj e)
  rw[decide_eq_false this,decide_eq_false h]
theorem Ua{R:V->α->Prop}{Ϸ:List (Key×V)}{m:List (Int×α)}(h:ς (PR R) Ϸ m):Ϸ.map (·.1)=(m.map (·.1)).map Sum.inl:=by
 induction h with
 |nil=>rfl
 |cons h _ a=>rw[adI,adI,adI,a,h.1]
theorem iM{R:V->α->Prop}{Ϸ:List (Key×V)}{m:List (Int×α)}(h:ς (PR R) Ϸ m)(i:Int):(ώ Ϸ (Sum.inl i)=none/\ Φ m i=none)\/∃v x,ώ Ϸ (Sum.inl i)=some v/\ Φ m i=some x/\R v x:=by
 induction h with
 |nil=>show .inl #[rfl,rfl]
 | @cons f p l m h _ c=>
   let#[k,v]:=f;let#[j,x]:=p;let#[g,n]:=h;let a:k=Sum.inl j:=g;subst a;unfold ώ Φ at c⊢;rw[adN,adN];show((match decide ((Sum.inl j:Key)=Sum.inl i)with|true=>_|false=>_:Option (Key×V)).map _=_/\_)\/_;rw[HF];by_cases e:j=i
   .rw[decide_eq_true e];show .inr #[v,x,rfl,rfl,n]
   .rw[decide_eq_false e];show c
theorem Wi{R:V->α->Prop}{Ϸ:List (Key×V)}{m:List (Int×α)}(h:ς (PR R) Ϸ m)(i:Int):(Ϸ.any λa=>decide (a.1=Sum.inl i))=m.any λp=>decide (p.1=i):=by
 induction h with
 |nil=>rfl
 | @cons a p l m h _ c=>rw[aki,aki,c,h.1,HF]
theorem Cd{R:V->α->Prop}{Ϸ:List (Key×V)}{m:List (Int×α)}(h:ς (PR R) Ϸ m)(i:Int){v:V}{x:α}(r:R v x):ς (PR R) (putK Ϸ (Sum.inl i) v) (bZ m i x):=by
 unfold putK bZ;rw[Wi h i];by_cases e:(m.any λp=>decide (p.1=i))=true
 .rw[if_pos e,if_pos e];clear e;induction h with
  |nil=>show .nil
  | @cons c p l m h _ f=>
    show .cons ?_ f;let#[a,g]:=h;show PR R (if c.1=Sum.inl i then(c.1,v)else c) (if p.1=i then(p.1,x)else p);by_cases e:p.1=i
    .rw[if_pos e,if_pos (by rw[a,e])];show#[a,r]
    .rw[if_neg e,if_neg (by rw[a];show λz=>e (Sum.inl.inj z))];show#[a,g]
 .rw[if_neg e,if_neg e];show ς.app h (.cons #[rfl,r] .nil)
theorem Cy{R:V->α->Prop}{Ϸ:List (Key×V)}{m:List (Int×α)}(h:ς (PR R) Ϸ m)(i:Int):ς (PR R) (fD Ϸ (Sum.inl i)) (dD m i):=by
 unfold fD dD;induction h with
 |nil=>show .nil
 | @cons g p l m h _ c=>
   let#[a,f]:=h;rw[alA,alA];by_cases e:p.1=i
   .rw[if_neg (by rw[a,e];simp),if_neg (by rw[e];simp)];show c
   .rw[if_pos (by rw[a];simp[e]),if_pos (by simp[e])];show .cons #[a,f] c
theorem jd{R S:V->α->Prop}{Ϸ:List (Key×V)}{m:List (Int×α)}(h:ς (PR R) Ϸ m)(f:∀v x,R v x->S v x):ς (PR S) Ϸ m:=ς.imp (λ_ _ h=>#[h.1,f _ _ h.2]) h
theorem yG{m:List (Int×α)}{i j:Int}{x:α}:Φ (bZ m i x) j=if j=i then some x else Φ m j:=by
 unfold Φ bZ;induction m with
 |nil=>
  rw[List.any_nil,if_neg (by decide),amO,adN];by_cases e:j=i
  .subst e;simp
  .let f:¬i=j:=λz=>e z.symm
   simp[e,f]
 |cons p r a=>
  let#[k,y]:=p;rw[aki];by_cases c:k=i
  .subst c;simp only[decide_true,anL,if_true,adI,adN];by_cases e:j=k
   .subst e;simp
   .let f:¬k=j:=λz=>e z.symm
    simp only[e,f,decide_false,if_false];clear a
    congr 1
    induction r with
    |nil=>rfl
    |cons q r g=>
     let#[k2,n]:=q;rw[adI,adN,adN,g];by_cases h2:k2=k
     .subst h2;simp[f]
     .simp[h2]
  .simp only[c,decide_false,ams];by_cases l:(r.any λp=>decide (p.1=i))=true
   .rw[if_pos l]at a⊢;rw[adI,if_neg c,adN,adN];by_cases e:k=j
    .subst e;simp[c]
    .simp only[e,decide_false];show a
   .rw[if_neg l]at a⊢;rw[amw,adN,adN];by_cases e:k=j
    .subst e;simp[c]
    .simp only[e,decide_false];show a
theorem zZ{m:List (Int×α)}{i j:Int}:Φ (dD m i) j=if j=i then none else Φ m j:=by
 unfold Φ dD;induction m with
 |nil=>simp
 |cons p r c=>
  let#[k,y]:=p;rw[alA];by_cases a:k=i
  .subst a;simp only[ne_eq,not_true,decide_false,alI,if_false,adN];rw[c];by_cases e:j=k
   .subst e;simp
   .let f:¬k=j:=λz=>e z.symm
    simp[e,f]
  .simp only[ne_eq,a,not_false_eq_true,decide_true,if_true,adN];by_cases e:k=j
   .subst e;simp[a]
   .simp only[e,decide_false];show c
theorem We{m:List (Int×α)}{i:Int}{x:α}(h:(m.map (·.1)).Nodup):((bZ m i x).map (·.1)).Nodup:=by
 unfold bZ;by_cases c:(m.any λp=>decide (p.1=i))=true
 .rw[if_pos c];have:(m.map λp=>if p.1=i then(p.1,x)else p).map (·.1)=m.map (·.1):=by
   rw[agn];show al7 λp _=>?_
   show(if p.1=i then(p.1,x)else p).1=p.1;split <;>rfl
  rw[this];show h
 .rw[if_neg c,anB];show ana.mpr #[h,by simp,λa h1 b h2 e=>c ?_];let f:b=i:=by simpa using h2
  subst e;subst f;let#[p,g,e]:=adw.mp h1;show alB.mpr #[p,g,decide_eq_true e]
theorem agE{m:List (Int×α)}{i:Int}(h:(m.map (·.1)).Nodup):((dD m i).map (·.1)).Nodup:=h.sublist (List.Sublist.map _ al8)
theorem ahA{m:List (Int×α)}{i:Int}{x:α}(h:Φ m i=some x):(i,x)∈m:=by
 unfold Φ at h;cases e:m.find? λp=>decide (p.1=i)with
 |none=>rw[e]at h;cases h
 |some p=>
  rw[e]at h;let h1:=List.find?_some e;let h2:=List.mem_of_find?_eq_some e;let#[k,y]:=p;let e1:k=i:=of_decide_eq_true h1;let a:y=x:=by simpa using h
  subst e1;subst a;show h2
theorem yN{m:List (Int×α)}{i:Int}:Φ m i=none↔i∉m.map (·.1):=by
 unfold Φ;rw[Option.map_eq_none_iff,List.find?_eq_none];constructor
 .intro h c;let#[p,a,e]:=adw.mp c;show h p a (decide_eq_true e)
 .intro h p a e;show h (adw.mpr #[p,a,of_decide_eq_true e])
def Out(S:List δ)(H H':Hp):=∀b o,b∉S->H b=some o->H' b=some o
theorem Out.refl(S:List δ)(H:Hp):Out S H H:=λ_ _ _ h=>h
theorem Out.trans{S:List δ}{H H1 H2:Hp}(a:Out S H H1)(b:Out S H1 H2):Out S H H2:=λc o e h=>b c o e (a c o e h)
theorem Out.of{S:List δ}{H H':Hp}(h:ζ H H'):Out S H H':=λb o _ e=>h b o e
theorem Out.upd{S:List δ}{H:Hp}{a:δ}{o:HO}(h:a∈S):Out S H (upd H a o):=λb u c e=>by
 rw[ρ (λz=>c (by rw[z];show h))];show e
theorem Out.mono{S T:List δ}{H H':Hp}(h:Out S H H')(s:∀x∈S,x∈T):Out T H H':=λb o a e=>h b o (λz=>a (s b z)) e
def TupAt(H:Hp)(v:V)(xs:List V):=∃t,v=.ref t/\H t=some (.tup xs)
def lK(H:Hp)(v:V):Option (List V)->Prop
 |none=>v=.non
 |some xs=>TupAt H v xs
structure wI where
 at_:Int
 row:Int
 was:Option (List V)
 is:Option (List V)
def oG(H:Hp)(v:V)(d:wI):=∃t w u,v=.ref t/\H t=some (.tup [.int d.at_,.int d.row,w,u])/\lK H w d.was/\lK H u d.is
structure Bk where
 heads:List ι
 rows:List (Int×List V)
 touched:List (Int×Int)
 done:List wI
 known:Int
 now:Int
structure BA where
 b:δ
 dx:δ
 h:δ
 r:δ
 t:δ
 d:δ
def Nh(v:V)(i:Int):Prop:=v=.int i
structure Ο(C:δ)(H:Hp)(A:BA)(B:Bk):Prop where
 ins:H A.b=some (.ins C A.dx [("heads",.ref A.h),("rows",.ref A.r),("touched",.ref A.t),("done",.ref A.d),("known",.int B.known),("now",.int B.now)])
 own:H A.dx=some (.own A.b)
 heads:Ϛ H A.h B.heads
 rows:DictAt (TupAt H) H A.r B.rows
 touched:DictAt Nh H A.t B.touched
 done:∃xs,H A.d=some (.lst xs)/\ς (oG H) xs B.done
 rt:A.r≠A.t
 hd:A.h≠A.d
def BA.fp(A:BA):List δ:=[A.b,A.r,A.t,A.d]
theorem TupAt.stay{H H':Hp}{v:V}{xs:List V}(h:TupAt H v xs)(s:∀b ys,H b=some (.tup ys)->H' b=some (.tup ys)):TupAt H' v xs:=by
 let#[t,e,h]:=h;show#[t,e,s _ _ h]
theorem lK.stay{H H':Hp}{v:V}{o:Option (List V)}(h:lK H v o)(s:∀b ys,H b=some (.tup ys)->H' b=some (.tup ys)):lK H' v o:=by
 cases o with
 |none=>show h
 |some xs=>show TupAt.stay h s
theorem oG.stay{H H':Hp}{v:V}{d:wI}(h:oG H v d)(s:∀b ys,H b=some (.tup ys)->H' b=some (.tup ys)):oG H' v d:=by
 let#[t,w,u,e,h1,h2,a]:=h;show#[t,w,u,e,s _ _ h1,h2.stay s,a.stay s]
theorem Ϛ.stay{H H':Hp}{a:δ}{cs:List ι}(h:Ϛ H a cs)(h1:∀xs,H a=some (.lst xs)->H' a=some (.lst xs))(s:∀b ys,H b=some (.tup ys)->H' b=some (.tup ys)):Ϛ H' a cs:=by
 let#[vs,e,h2]:=h;show#[vs,h1 _ e,ς.imp (λv c ⟨t,e,h⟩=>#[t,e,s _ _ h]) h2]
theorem Ο.stay{C:δ}{H H':Hp}{A:BA}{B:Bk}(k:Ο C H A B)(s:∀b ys,H b=some (.tup ys)->H' b=some (.tup ys))(f:∀x o,x∈[A.b,A.dx,A.h,A.r,A.t,A.d]->H x=some o->H' x=some o):Ο C H' A B where
 ins:=f _ _ (by simp) k.ins
 own:=f _ _ (by simp) k.own
 heads:=k.heads.stay (λxs e=>f _ _ (by simp) e) s
 rows:=by
  let#[Ϸ,e,h]:=k.rows;show#[Ϸ,f _ _ (by simp) e,jd h λv x h=>h.stay s]
 touched:=by
  let#[Ϸ,e,h]:=k.touched;show#[Ϸ,f _ _ (by simp) e,h]
 done:=by
  let#[xs,e,h]:=k.done;show#[xs,f _ _ (by simp) e,ς.imp (λv d h=>h.stay s) h]
 rt:=k.rt
 hd:=k.hd
theorem Ο.same{C:δ}{H H':Hp}{A:BA}{B:Bk}(k:Ο C H A B)(s:ζ H H'):Ο C H' A B:=k.stay (λ_ _ e=>s _ _ e) λ_ _ _ e=>s _ _ e
section
variable{C:δ}{H H':Hp}{A:BA}{B:Bk}
theorem Ο.QZ(k:Ο C H A B){b:δ}(c:b∈A.fp):(∃fs,H b=some (.ins C A.dx fs))\/(∃Ϸ,H b=some (.dK Ϸ))\/∃xs,H b=some (.lst xs):=by
 let a:b=A.b\/b=A.r\/b=A.t\/b=A.d:=by simpa [BA.fp]using c
 obtain rfl|rfl|rfl|rfl:=a
 .show .inl #[_,k.ins]
 .let#[Ϸ,e,_]:=k.rows;show .inr (.inl #[_,e])
 .let#[Ϸ,e,_]:=k.touched;show .inr (.inl #[_,e])
 .let#[xs,e,_]:=k.done;show .inr (.inr #[_,e])
theorem Ο.tup(k:Ο C H A B)(o:Out A.fp H H'):∀b ys,H b=some (.tup ys)->H' b=some (.tup ys):=λb ys e=>o b _ (λa=>by
 obtain⟨fs,z⟩|⟨Ϸ,z⟩|⟨xs,z⟩:=k.QZ a<;>rw[e]at z<;>cases z) e
theorem Ο.ne(k:Ο C H A B):A.b≠A.dx/\A.b≠A.h/\A.b≠A.r/\A.b≠A.t/\A.b≠A.d/\A.r≠A.dx/\A.r≠A.h/\A.r≠A.d/\A.t≠A.dx/\A.t≠A.h/\A.t≠A.d/\A.d≠A.dx:=by
 let h1:=k.ins;let h2:=k.own;let#[_,g,_]:=k.heads;let#[_,a,_]:=k.rows;let#[_,c,_]:=k.touched;let#[_,f,_]:=k.done;show#[?_,?_,?_,?_,?_,?_,?_,?_,?_,?_,?_,?_]<;>intro e
 .rw[e,h2]at h1;cases h1
 .rw[e,g]at h1;cases h1
 .rw[e,a]at h1;cases h1
 .rw[e,c]at h1;cases h1
 .rw[e,f]at h1;cases h1
 .rw[e,h2]at a;cases a
 .rw[e,g]at a;cases a
 .rw[e,f]at a;cases a
 .rw[e,h2]at c;cases c
 .rw[e,g]at c;cases c
 .rw[e,f]at c;cases c
 .rw[e,h2]at f;cases f
theorem Ο.Ww(k:Ο C H A B)(kn nw:Int):Ο C (upd H A.b (.ins C A.dx [("heads",.ref A.h),("rows",.ref A.r),("touched",.ref A.t),("done",.ref A.d),("known",.int kn),("now",.int nw)])) A {B with known:=kn,now:=nw}:=by
 let#[n1,n2,a,c,f,_]:=k.ne;let st:∀b ys,H b=some (.tup ys)->(upd H A.b (.ins C A.dx [("heads",.ref A.h),("rows",.ref A.r),("touched",.ref A.t),("done",.ref A.d),("known",.int kn),("now",.int nw)])) b=some (.tup ys):=k.tup (Out.upd (by simp[BA.fp]));show#[υ,?_,k.heads.stay (λxs e=>?_) st,?_,?_,?_,k.rt,k.hd]
 .rw[ρ (Ne.symm n1)];show k.own
 .rw[ρ (Ne.symm n2)];show e
 .let#[Ϸ,e,h]:=k.rows;show#[Ϸ,by rw[ρ (Ne.symm a)];show e,jd h λv x h=>h.stay st]
 .let#[Ϸ,e,h]:=k.touched;show#[Ϸ,by rw[ρ (Ne.symm c)];show e,h]
 .let#[xs,e,h]:=k.done;show#[xs,by rw[ρ (Ne.symm f)];show e,ς.imp (λv d h=>h.stay st) h]
theorem Ο.sZ{Ϸ:List (Key×V)}{m:List (Int×List V)}(k:Ο C H A B)(h:ς (PR (TupAt H)) Ϸ m):Ο C (upd H A.r (.dK Ϸ)) A {B with rows:=m}:=by
 let#[n1,n2,a,i,j,c,f,g,_]:=k.ne;let st:∀b ys,H b=some (.tup ys)->(upd H A.r (.dK Ϸ)) b=some (.tup ys):=k.tup (Out.upd (by simp[BA.fp]));show#[?_,?_,k.heads.stay (λxs e=>?_) st,#[Ϸ,υ,jd h λv x h=>h.stay st],?_,?_,k.rt,k.hd]
 .rw[ρ a];show k.ins
 .rw[ρ (Ne.symm c)];show k.own
 .rw[ρ (Ne.symm f)];show e
 .let#[Ϸ,e,h]:=k.touched;show#[Ϸ,by rw[ρ (Ne.symm k.rt)];show e,h]
 .let#[xs,e,h]:=k.done;show#[xs,by rw[ρ (Ne.symm g)];show e,ς.imp (λv d h=>h.stay st) h]
theorem Ο.O8{Ϸ:List (Key×V)}{m:List (Int×Int)}(k:Ο C H A B)(h:ς (PR Nh) Ϸ m):Ο C (upd H A.t (.dK Ϸ)) A {B with touched:=m}:=by
 let#[n1,n2,i,c,j,l,n,o,f,a,g,_]:=k.ne;let st:∀b ys,H b=some (.tup ys)->(upd H A.t (.dK Ϸ)) b=some (.tup ys):=k.tup (Out.upd (by simp[BA.fp]));show#[?_,?_,k.heads.stay (λxs e=>?_) st,?_,#[Ϸ,υ,h],?_,k.rt,k.hd]
 .rw[ρ c];show k.ins
 .rw[ρ (Ne.symm f)];show k.own
 .rw[ρ (Ne.symm a)];show e
 .let#[Ϸ,e,h]:=k.rows;show#[Ϸ,by rw[ρ k.rt];show e,jd h λv x h=>h.stay st]
 .let#[xs,e,h]:=k.done;show#[xs,by rw[ρ (Ne.symm g)];show e,ς.imp (λv d h=>h.stay st) h]
theorem Ο.abt{xs:List V}{ds:List wI}(k:Ο C H A B)(h:ς (oG H) xs ds):Ο C (upd H A.d (.lst xs)) A {B with done:=ds}:=by
 let#[n1,n2,j,l,c,m,n,f,o,g,i,a]:=k.ne;let st:∀b ys,H b=some (.tup ys)->(upd H A.d (.lst xs)) b=some (.tup ys):=k.tup (Out.upd (by simp[BA.fp]));show#[?_,?_,k.heads.stay (λxs e=>?_) st,?_,?_,#[xs,υ,ς.imp (λv d h=>h.stay st) h],k.rt,k.hd]
 .rw[ρ c];show k.ins
 .rw[ρ (Ne.symm a)];show k.own
 .rw[ρ k.hd];show e
 .let#[Ϸ,e,h]:=k.rows;show#[Ϸ,by rw[ρ f];show e,jd h λv x h=>h.stay st]
 .let#[Ϸ,e,h]:=k.touched;show#[Ϸ,by rw[ρ i];show e,h]
end
end
end Vl
namespace L2
open PySem PySem.Spec PyProof.Rows PySem.W
section
variable{prog:Ϯ}{w:ϭ}{A:ϱ}{E:ε->μ->Prop}{s:μ}
variable{I:δ}{fp wr:List δ}{G:Array GenState->Array GenState->Prop}{n:Nat}{P:Nat->ε->Prop}{St:Nat->μ->Prop}
end
section
variable{X:Cx}{σ:St}{H:Hp}{Q:VK}{a:Ϧ}{p pos p' pos':Pos}
end
section
variable{X:Cx}{σ:St}{H:Hp}{Q:VK}{D:Ends}{o e f:Ϧ}{apos cpos pos:Pos}
theorem ad8{tg:Ϧ}{body:List Ϩ}(j:aj3 (ϧ X.prog X.w) X.A X.env X.xe)(l:X.calm=true)(hs:∀x,foldedSetIterable e X.env x=pure x)(h:EV X e σ H λv H1=>∃q xs,v=.ref q/\ο X.K H1 q xs/\∃a:Nat->St->Hp->Prop,a 0 σ H1/\(∀i σ' H',i<=xs.length->a i σ' H'->ο X.K H' q xs)/\
   (∀i x σ' H',xs[i]?=some x->a i σ' H'->EG X tg x σ' H' λc H2=>Ν X body {D with nx:=a (i+1),ct:=a (i+1),bk:=D.nx} c H2)/\∀σ' H',a xs.length σ' H'->D.nx σ' H'):SX X (.For tg e body [] pos) D σ H:=by
 show lD j l hs (abZ (az h λv H1 q=>?_));let#[q,xs,rfl,m,a,n,o,f,hd]:=q;show#[q,rfl,#[xs,m],abG (g:=EG X tg) (tb:=Ν X body) a n o f hd]
end
section
variable{X:Cx}{ϵ:List (δ×Obj)}{σ:St}{H:Hp}{s:μ}{d:δ}
end
section
variable{X:Cx}{σ:St}{H:Hp}{a e:Ϧ}{tg:Ϧ}{pos:Pos}{R:It->Hp->Prop}{D:Ends}
end
section
variable{X:Cx}{H:Hp}{Q:VK}{e C:δ}{D:Option δ}{k:Bool}
end
section
variable{X:Cx}{σ σ':St}{H:Hp}{Q:VK}{a b tg elt:Ϧ}{scope:ahw}{p p' pos:Pos}
end
section
variable{X:Cx}{H:Hp}{Q:VK}
end
section
variable{X:Cx}{H:Hp}{Q:VK}
variable{σ:St}{a b tg:Ϧ}{p p' pos:Pos}{D:Ends}
end
section
variable{X:Cx}{σ:St}{H:Hp}{Q:VK}{pos:Pos}
end
end L2
namespace L2
open PySem PySem.Spec PyProof.Rows
section
variable{prog:Ϯ}{w:ϭ}{A:ϱ}{E:ε->μ->Prop}{s:μ}{env:Env}
end
section
variable{prog:Ϯ}{w:ϭ}{A:ϱ}{E:ε->μ->Prop}{s:μ}{env:Env}
variable{nm q:Str}{C N:δ}{bs bm:List ε}{hdct:Bool}{sn:List Str}{sub:List ε}{ab:Bool}{col:Option Bool}{dd:Option δ}{k0 k1 k2 k3 k5:Option ε}
end
section
variable{X:Cx}{Kx:St->XK}{D:Ends}{σ:St}{H:Hp}{rest:List akP}{pos np Xn cpos rpos p0:Pos}{x y fld:Str}{cls c:ε}{d:Option δ×Bool}{a:Ϧ}{as:List Ϧ}{cc:Bool}{k k' j0:Nat}
end
end L2
namespace L2
open PySem PySem.Spec PyProof.Rows PySem.Builtin PySem.Builtin.Str
def uC(p:Nat->Bool):Nat->Option Nat
 |0=>none
 |n+1=>if p n=true then some n else uC p n
theorem Hw(p:Nat->Bool):∀n,(aei n).foldl (λa i=>if p i=true then some i else a) none=uC p n
 |0=>rfl
 |n+1=>by
  rw[anC,am9,Hw p n];rfl
theorem Nt(p:Nat->Prop)[DecidablePred p]:∀(l:List Nat)(b:Option Nat),(forIn (m:=Id) l b λi s=>if p i then pure (ForInStep.yield (some i))else pure (ForInStep.yield s)).run=l.foldl (λc i=>if p i then some i else c) b
 |[],b=>rfl
 |a::l,b=>by
  rw[alm,ajW, <-Nt p l];by_cases h:p a
  .simp only[if_pos h];rfl
  .simp only[if_neg h];rfl
theorem Z3(x y:Str):lastOccurrence x y 0 x.length=uC (λi=>decide (i+y.length<=x.length)&&subAt x y i) (x.length+1):=by
 unfold lastOccurrence;rw[<-Hw];simp[List.range_eq_range'];show Nt (λi=>i+y.length<=x.length/\subAt x y i=true) _ none
theorem Hc{p:Nat->Bool}{k:Nat}:∀{n:Nat},k<n->p k=true->(∀i,k<i->i<n->p i=false)->uC p n=some k
 |n+1,c,a,h=>by
  show(if p n=true then _ else _)=_;by_cases e:k=n
  .subst e;rw[if_pos a]
  .rw[if_neg (by rw[h n () ()];decide)];show Hc () a λi h1 h2=>h i h1 ()
theorem U6(x:Str)(c i:Nat):(decide (i+(#[#v[c]]:Str).length<=x.length)&&subAt x #[#v[c]] i)=decide (x.cps.toList[i]?=some c):=by
 rw[ahe,abB,decide_eq_true_iff,decide_eq_true_iff];show StrLaws.subAt_one x c i
theorem ag3{z:Str}{c:Nat}{b w:List Nat}(h:z.cps.toList=b++c::w)(g:c∉w):Txt.rpartition z #[#v[c]]=(#[b.toArray],#[#v[c]],#[w.toArray]):=by
 let a:z.length=b.length+1+w.length:=by
  have:z.cps.toList.length=z.length:=rfl;rw[<-this,h,ac7,adx];omega
 let m:lastOccurrence z #[#v[c]] 0 z.length=some b.length:=by
  rw[Z3];show Hc () ?_ λi h1 h2=>?_
  .rw[U6,h,decide_eq_true_iff,als (Ϭ _),anP];rfl
  .rw[U6,h,decide_eq_false_iff_not,als ()];intro e;obtain⟨j,n⟩:∃j,i-b.length=j+1:=#[i-b.length-1,()];rw[n,List.getElem?_cons_succ]at e;show g (aak e)
 let f:z=#[(b++c::w).toArray]:=by
  let#[#[l]]:=z;have:l=b++c::w:=h;rw[this]
 let e1:strSub z 0 b.length=#[b.toArray]:=by
  unfold strSub;rw[f];simp
 let o:strSub z (b.length+(#[#v[c]]:Str).length) z.length=#[w.toArray]:=by
  let p:(#[#v[c]]:Str).length=1:=rfl;rw[p,a];unfold strSub;rw[f];simp[List.extract_eq_take_drop,List.drop_append];rw[akQ (),amO,amx]
 let un:Txt.rpartition z #[#v[c]]=(match lastOccurrence z #[#v[c]] 0 z.length with
  |some i=>(strSub z 0 i,#[#v[c]],strSub z (i+(#[#v[c]]:Str).length) z.length)
  |none=>(amF,amF,z)):=rfl
 rw[un,m];show(strSub z 0 b.length,_,strSub z (b.length+(#[#v[c]]:Str).length) z.length)=_;rw[e1,o]
section
variable{X:Cx}{H:Hp}{Q:VK}{z:Str}
theorem acV{c:Nat}(hz:z.length<=100000)(g:∀p,H p=none->Q (.ref p) (upd H p (.tup [.str (Txt.rpartition z #[#v[c]]).1,.str (Txt.rpartition z #[#v[c]]).2.1,.str (Txt.rpartition z #[#v[c]]).2.2]))):MT X "str.rpartition" (.str z) [.str #[#v[c]]] H Q:=by
 show iU (r:=λx xs H Q=>∃z c,x=.str z/\xs=[.str #[#v[c]]]/\z.length<=100000/\∀p,H p=none->Q (.ref p) (upd H p (.tup [.str (Txt.rpartition z #[#v[c]]).1,.str (Txt.rpartition z #[#v[c]]).2.1,.str (Txt.rpartition z #[#v[c]]).2.2]))) ?_ #[z,c,rfl,rfl,hz,g];intro ϵ s σ H x xs v us Q I rx rs h;let#[z,c,rfl,rfl,hz,g]:=h;let#[t,rfl]:=rx;let#[u,rfl,f]:=vals1 rs;let#[t',rfl]:=f;let hsz:=ϳ;let fin:∀(a b e:Str)(ta tb tc:Tok)(tk:Nat),a=(Txt.rpartition z #[#v[c]]).1->b=(Txt.rpartition z #[#v[c]]).2.1->e=(Txt.rpartition z #[#v[c]]).2.2->EP X ϵ σ Q (.ref s.heap.objs.size) {s with toks:=tk,heap:=s.heap.push {cls:=.type "tuple",data:=.seq [Value.str a ta,.str b tb,.str e tc].toArray}}:=λa b e ta tb tc tk ea j l=>by
  subst ea j l;show#[.ref s.heap.objs.size,_,I.laid (t':=tk) (o:=.tup [.str (Txt.rpartition z #[#v[c]]).1,.str (Txt.rpartition z #[#v[c]]).2.1,.str (Txt.rpartition z #[#v[c]]).2.2]) (λb o q=>ϲ _ q) (Ϭ _) ?_,rfl,g _ (I.hok.fresh (Ϭ _))];show#[Δ,_,.cons #[ta,rfl] (.cons #[tb,rfl] (.cons #[tc,rfl] .nil)),IsTup.new _ _]
 show alC F.slot_str_rpartition (typeIs_str _ _ _) F.entry_str_rpartition (F.args_str_rpartition_2 _ _) (meets_str_rpartition z #[#v[c]] t t' rfl ()) ?_;let h':=fin;unfold Txt.rpartition at h';revert h';cases lastOccurrence z #[#v[c]] 0 z.length with
 |none=>intro h';show h' _ _ _ _ _ _ _ rfl rfl rfl
 |some i=>intro h';show h' _ _ _ _ _ _ _ rfl rfl rfl
end
end L2
namespace L2
open PySem PySem.Spec PyProof.Rows
section
variable{X:Cx}{e c:Ϧ}{σ σ':St}{H:Hp}{Q:VK}{D:Ends}{pos spos py:Pos}{tg elt:Ϧ}{scope:ahw}{y:Str}{j:Nat}
end
section
variable{X:Cx}{e c:Ϧ}{es:List Ϧ}{σ σ':St}{H:Hp}{Q:VK}{D:Ends}{p pos spos py:Pos}{tg elt:Ϧ}{scope:ahw}{y:Str}{j:Nat}
end
section
variable{X:Cx}{Kx:St->XK}{D:Ends}{σ:St}{H:Hp}{rest:List akP}{pos Xn cpos rpos p0 p1 p2 p3 tpos zp:Pos}{x1 x2 x3 y z:Str}{cls c1 c2 c3:ε}{d:Option δ×Bool}{kk j0 j1:Nat}{name:Option Str}{body:List Ϩ}
end
section
variable{X:Cx}{a e:Ϧ}{σ σ':St}{H:Hp}{Q:VK}{D:Ends}{pos spos py p p':Pos}{tg elt iter:Ϧ}{scope:ahw}{Kx:St->XK}{y:Str}{j:Nat}
end
section
variable{X:Cx}{Kx:St->XK}{D:Ends}{σ:St}{H:Hp}{cls:ε}{d:Option δ×Bool}
end
section
variable{X:Cx}{H:Hp}{Q:VK}{z:Str}
end
end L2
namespace L2
open PySem PySem.Spec PyProof.Rows PySem.W
section
variable{X:Cx}{ϵ:List (δ×Obj)}{σ:St}{H:Hp}{s:μ}{d:δ}
end
section
variable{X:Cx}{σ:St}{H:Hp}{a e:Ϧ}{tg:Ϧ}{pos:Pos}{R:It->Hp->Prop}{D:Ends}
end
def pw{α:Type}(lt:Nat->Nat->Bool)(n:Nat):KasT α->(α->Prop)->Prop
 |.ret a,Q=>Q a
 |.ask i j k,Q=>i<n/\j<n/\pw lt n (k (lt i j)) Q
theorem pL{α β:Type}{lt:Nat->Nat->Bool}{n:Nat}{f:α->KasT β}{Q:β->Prop}:∀(t:KasT α),pw lt n t (λa=>pw lt n (f a) Q)->pw lt n (t.bind f) Q
 |.ret a,h=>h
 |.ask i j k,h=>#[h.1,h.2.1,pL (k (lt i j)) h.2.2]
theorem gH{α:Type}{lt:Nat->Nat->Bool}{n:Nat}{Q c:α->Prop}(e:∀a,Q a->c a):∀(t:KasT α),pw lt n t Q->pw lt n t c
 |.ret a,h=>e a h
 |.ask i j k,h=>#[h.1,h.2.1,gH e (k (lt i j)) h.2.2]
theorem Qh{α:Type}{lt:Nat->Nat->Bool}{n:Nat}{c:Nat->Nat->(Bool->μ->Prop)->μ->Prop}{I:μ->Prop}{G:α->μ->Prop}(f:∀i j C s,i<n->j<n->I s->(∀s',I s'->C (lt i j) s')->c i j C s):∀(t:KasT α)(s:μ),I s->pw lt n t (λa=>∀s,I s->G a s)->t.kasWp c G s
 |.ret a,s,hs,h=>h s hs
 |.ask i j k,s,hs,h=>f i j _ s h.1 h.2.1 hs λs' e=>Qh f (k (lt i j)) s' e h.2.2
structure aD(lt:Nat->Nat->Bool):Prop where
 ir:∀i,lt i i=false
 tr:∀i j k,lt i j=true->lt j k=true->lt i k=true
 nt:∀i j k,lt i k=true->lt i j=true\/lt j k=true
section
variable{lt:Nat->Nat->Bool}{n:Nat}(W:aD lt)
theorem aD.as(W:aD lt){i j:Nat}(h:lt i j=true):lt j i=false:=by
 rw[ajY];intro h2;have:=W.tr i j i h h2;rw[W.ir]at this;cases this
def Rk(lt:Nat->Nat->Bool)(i j:Nat):Prop:=lt i j=true\/(lt j i=false/\i<j)
theorem aD.nY(W:aD lt){a b c:Nat}(h:lt a b=true)(h2:lt c b=false):lt a c=true:=by
 obtain h|h:=W.nt a c b h
 .show h
 .rw[h2]at h;cases h
theorem aD.Oi(W:aD lt){a b c:Nat}(h:lt b c=true)(h2:lt b a=false):lt a c=true:=by
 obtain h|h:=W.nt b a c h
 .rw[h2]at h;cases h
 .show h
theorem aD.rtr(W:aD lt){i j k:Nat}(h:Rk lt i j)(h2:Rk lt j k):Rk lt i k:=by
 obtain h|⟨h,h'⟩:=h
 .obtain h2|⟨h2,a⟩:=h2
  .show .inl (W.tr _ _ _ h h2)
  .show .inl (W.nY h h2)
 .obtain h2|⟨h2,a⟩:=h2
  .show .inl (W.Oi h2 h)
  .show .inr #[?_,()];rw[ajY];intro c;obtain h4|h4:=W.nt k j i c
   .rw[h2]at h4;cases h4
   .rw[h]at h4;cases h4
abbrev gt(p:Array Nat)(k:Nat):Nat:=p.getD k 0
theorem uG{p:Array Nat}{k v:Nat}(h:p[k]?=some v):gt p k=v:=by
 let#[a,e]:=ajg.mp h;show p.getD k 0=v;simp[anG,a,e]
theorem qO{p:Array Nat}{k:Nat}(h:k<p.size):p[k]?=some (gt p k):=by
 show p[k]?=some (p.getD k 0);simp[anG,h]
theorem gf{p:Array Nat}{i j k:Nat}(a:j<=p.size)(c:k<p.size:=by omega):gt (kas_rev p i j) k=if i<=k/\k<j then gt p (i+j-1-k)else gt p k:=by
 apply uG;unfold kas_rev;rw[getElem?_mirror_all a];by_cases h:i<=k/\k<j
 .rw[if_pos h,if_pos h];show qO ()
 .rw[if_neg h,if_neg h];show qO c
theorem ae8{p:Array Nat}{i j:Nat}:(kas_rev p i j).size=p.size:=mirror_size _ _ _ _
theorem Zf{p:Array Nat}{k d j:Nat}(a:k<p.size)(hd:d<=k)(c:j<p.size):gt (bubble p k d) j=if j=k-d then gt p k else if k-d<j/\j<=k then gt p (j-1)else gt p j:=by
 apply uG;rw[getElem?_bubble a d hd];by_cases h1:j=k-d
 .rw[if_pos h1,if_pos h1];show qO a
 .rw[if_neg h1,if_neg h1];by_cases h2:k-d<j/\j<=k
  .rw[if_pos h2,if_pos h2];show qO ()
  .rw[if_neg h2,if_neg h2];show qO c
structure Pl(n:Nat)(p:Array Nat)(m:Nat):Prop where
 size:p.size=n
 low:∀i,i<m->gt p i<m
 tail:∀k,m<=k->k<n->gt p k=k
 pm:p.toList.Perm (aei n)
theorem Pl.all{p:Array Nat}{m:Nat}(h:Pl n p m)(a:m<=n){i:Nat}(hi:i<n):gt p i<n:=by
 by_cases h1:i<m
 .have :=h.low i h1;omega
 .rw[h.tail i () hi];show hi
theorem Pl.up{p:Array Nat}{m:Nat}(h:Pl n p m)(a:m<n):Pl n p (m+1):=by
 show#[h.size,λi hi=>?_,λk h1 h2=>h.tail k () h2,h.pm];by_cases h1:i<m
 .have :=h.low i h1;omega
 .let e:i=m:=()
  subst e;rw[h.tail i (Ϭ _) a];omega
theorem Pl.rev{p:Array Nat}{m i j:Nat}(h:Pl n p m)(c:m<=n)(e:j<=m):Pl n (kas_rev p i j) m:=by
 let hs:=h.size;show#[by rw[ae8];show hs,λk a=>?_,λk h1 h2=>?_,(amb.mp (mirror_perm p i j ((j-i) / 2))).trans h.pm]
 .rw[gf ()];split
  .show h.low _ ()
  .show h.low _ a
 .rw[gf (),if_neg ()];show h.tail k h1 h2
def fu(lt:Nat->Nat->Bool)(p:Array Nat)(m:Nat):=∀i j,i<j->j<m->Rk lt (gt p i) (gt p j)
def iw(lt:Nat->Nat->Bool)(p:Array Nat)(m:Nat):=∀i j,i<j->j<m->Rk lt (gt p j) (gt p i)
theorem iw.rev{p:Array Nat}{m:Nat}(h:iw lt p m)(a:m<=p.size):fu lt (kas_rev p 0 m) m:=by
 intro i j c e;rw[gf a,gf a,if_pos (),if_pos ()];show h _ _ () ()
theorem BR(W:aD lt){p:Array Nat}:∀(f m:Nat),1<=m->m+f<=n->Pl n p m->fu lt p m->pw lt n (kas_asc p f m) λm'=>m<=m'/\m'<=m+f/\Pl n p m'/\fu lt p m'/\(m'<m+f->lt (gt p m') (gt p (m'-1))=true)
 |0,m,h1,o,a,c=>#[Ϭ _,Ϭ _,a,c,λh=>absurd h ()]
 |f+1,m,h1,o,a,c=>by
  show#[a.all () (),a.all () (),?_];cases e:lt (gt p m) (gt p (m-1))with
  |true=>
   show pw lt n (if true=true then _ else _) _;rw[if_pos rfl];show#[Ϭ _,(),a,c,λ_=>e]
  |false=>
   show pw lt n (if false=true then _ else _) _;rw[if_neg (by decide)];let l:Rk lt (gt p (m-1)) (gt p m):=.inr #[e,by rw[a.tail m (Ϭ _) ()];show a.low _ ()];show gH (λm' h=>#[(),(),h.2.2.1,h.2.2.2.1,λh2=>h.2.2.2.2 ()]) _ (BR W f (m+1) () () (a.up ()) λi j g v=>?_);by_cases q:j<m
   .show c i j g q
   .let s:j=m:=()
    subst s;by_cases u:i=j-1
    .rw[u];show l
    .show W.rtr (c i (j-1) () ()) l
structure Dn(lt:Nat->Nat->Bool)(p:Array Nat)(m q:Nat):Prop where
 few:q+1<=m
 ahead:∀i j,i<j->j<m-(q+1)->Rk lt (gt p j) (gt p i)
 drop:∀i j,i<m-(q+1)->m-(q+1)<=j->j<m->lt (gt p j) (gt p i)=true
 aH:∀i j,m-(q+1)<=i->i<j->j<m->lt (gt p i) (gt p j)=false/\lt (gt p j) (gt p i)=false/\gt p i<gt p j
theorem Dn.done{p:Array Nat}{m q:Nat}(h:Dn lt p m q)(e:m<=p.size):iw lt (if q>0 then kas_rev p (m-(q+1)) m else p) m:=by
 let h1:=h.few;by_cases f:q>0
 .rw[if_pos f];intro i j a g;rw[gf e,gf e];by_cases hi:m-(q+1)<=i
  .rw[if_pos (),if_pos ()];have:=h.aH (m-(q+1)+m-1-j) (m-(q+1)+m-1-i) () () ();show .inr #[this.2.1,this.2.2]
  .rw[if_neg (show ¬(m-(q+1)<=i/\i<m)by omega)];by_cases c:m-(q+1)<=j
   .rw[if_pos ()];show .inl (h.drop _ _ () () ())
   .rw[if_neg ()];show h.ahead i j a ()
 .rw[if_neg f];intro i j a g;by_cases c:m-(q+1)<=j
  .show .inl (h.drop _ _ () c g)
  .show h.ahead i j a ()
theorem iw.next(W:aD lt){p:Array Nat}{m:Nat}(h:iw lt p m)(h1:1<=m)(g:∀i,i<m->lt (gt p m) (gt p i)=true):Dn lt p (m+1) 0:=by
 show#[(),λi j f l=>h i j f (),λi j hi l n=>?_,λi j a b c=>absurd b ()];let e:j=m:=()
 subst e;show g i ()
theorem iw.low(W:aD lt){p:Array Nat}{m x:Nat}(h:iw lt p m)(h1:1<=m)(a:lt x (gt p (m-1))=true):∀i,i<m->lt x (gt p i)=true:=by
 intro i hi;by_cases e:i=m-1
 .rw[e];show a
 .rcases h i (m-1) () ()with h2|⟨h2,_⟩
  .show W.tr _ _ _ a h2
  .show W.nY a h2
theorem uF(W:aD lt):∀(f:Nat)(p:Array Nat)(m q:Nat),m+f<=n->Pl n p m->Dn lt p m q->pw lt n (kas_desc f p m q) λr=>m<=r.2.1/\r.2.1<=m+f/\Pl n r.1 r.2.1/\Dn lt r.1 r.2.1 r.2.2
 |0,p,m,q,C,a,hd=>#[Ϭ _,Ϭ _,a,hd]
 |f+1,p,m,q,C,a,hd=>by
  let y:=hd.few;let hsz:=a.size;show#[a.all () (),a.all () (),?_];cases e:lt (gt p m) (gt p (m-1))with
  |true=>
   show pw lt n (if true=true then _ else _) _;rw[if_pos rfl];let l:=hd.done ();by_cases z:q>0
   .rw[if_pos z]at l⊢;let s:=a.rev (i:=m-(q+1)) (j:=m) () (Ϭ _);let em:gt (kas_rev p (m-(q+1)) m) m=gt p m:=by rw[gf (),if_neg ()]
    let D:gt (kas_rev p (m-(q+1)) m) (m-1)=gt p (m-(q+1)):=by
     rw[gf (),if_pos ()]
     congr 1
     omega
    let E:lt (gt p m) (gt p (m-(q+1)))=true:=W.nY e (hd.aH (m-(q+1)) (m-1) (Ϭ _) () ()).1;show gH (λr h=>#[(),(),h.2.2]) _ (uF W f _ (m+1) 0 () (s.up ()) (l.next W () λi hi=>?_));rw[em];show l.low W () (by rw[D];show E) i hi
   .rw[if_neg z]at l⊢;show gH (λr h=>#[(),(),h.2.2]) _ (uF W f _ (m+1) 0 () (a.up ()) (l.next W () (l.low W () e)))
  |false=>
   show pw lt n (if false=true then _ else _) _;rw[if_neg (by decide)];show#[a.all () (),a.all () (),?_];cases e2:lt (gt p (m-1)) (gt p m)with
   |true=>
    show pw lt n (if true=true then _ else _) _;rw[if_pos rfl];show#[Ϭ m,show m<=m+(f+1)by omega,a,hd]
   |false=>
    show pw lt n (if false=true then _ else _) _;rw[if_neg (by decide)];let F:=a.tail m (Ϭ _) ();show gH (λr h=>#[(),(),h.2.2]) _ (uF W f p (m+1) (q+1) () (a.up ()) #[(),λi j g B=>hd.ahead i j g (),λi j hi B G=>?_,λi j hi g B=>?_])
    .by_cases u:j<m
     .show hd.drop i j () () u
     .let v:j=m:=()
      subst v;show W.Oi (hd.drop i (j-1) () () ()) e2
    .by_cases u:j<m
     .show hd.aH i j () g u
     .let v:j=m:=()
      subst v;let c:gt p i<gt p j:=by rw[F];show a.low i ()
      by_cases o:i=j-1
      .rw[o];rw[o]at c;show#[e2,e,c]
      .let h3:=hd.aH i (j-1) () () ();show#[?_,?_,c]
       .rw[ajY];intro x;obtain h5|h5:=W.nt _ (gt p (j-1)) _ x
        .rw[h3.1]at h5;cases h5
        .rw[e2]at h5;cases h5
       .rw[ajY];intro x;obtain h5|h5:=W.nt _ (gt p (j-1)) _ x
        .rw[e]at h5;cases h5
        .rw[h3.2.1]at h5;cases h5
theorem TV(W:aD lt){p:Array Nat}{m:Nat}(a:Pl n p m)(hd:iw lt p m)(h1:1<=m:=by omega)(c:m<=n:=by omega):pw lt n (kas_tail3 m n p) λr=>1<=r.1/\r.1<=n/\Pl n r.2 r.1/\fu lt r.2 r.1:=by
 let hsz:=a.size;show pL _ (gH (λm' h=>#[by show 1<=m';omega,by show m'<=n;omega,h.2.2.1,h.2.2.2.1]) _ (BR W (n-m) m h1 () (a.rev c (Ϭ _)) (hd.rev ())))
theorem Qd(W:aD lt){p:Array Nat}{m:Nat}(h1:1<=m)(f:m<n)(g:Pl n p m)(hd:iw lt p m)(i:lt (gt p m) (gt p (m-1))=true):pw lt n (kas_descPart m n p) λr=>1<=r.1/\r.1<=n/\Pl n r.2 r.1/\fu lt r.2 r.1:=by
 show pL _ (gH (λr h=>?_) _ (uF W (n-(m+1)) p (m+1) 0 () (g.up f) (hd.next W h1 (hd.low W h1 i))));let#[l,o,c,j]:=h;let hsz:=c.size;let a:=j.done ();show pw lt n (if r.2.2>0 then _ else _) _;by_cases e:r.2.2>0
 .rw[if_pos e]at a⊢;show TV W (c.rev () (Ϭ _)) a
 .rw[if_neg e]at a⊢;show TV W c a
theorem WT:Pl n (aeU (aei n)) 1:=by
 let a:∀k,k<n->gt (aeU (aei n)) k=k:=λk c=>uG (by simp[c])
 show#[by simp,λi hi=>?_,λk _ h2=>a k h2,by simp];by_cases h:i<n
 .rw[a i h];show hi
 .show(aeU (aei n)).getD i 0<1;simp[anG,h]
theorem YQ(W:aD lt)(h1:1<=n):pw lt n (kas_count n (aeU (aei n))) λr=>1<=r.1/\r.1<=n/\Pl n r.2 r.1/\fu lt r.2 r.1:=by
 show pL _ (gH (λm h=>?_) _ (BR W (n-1) 1 (Ϭ _) () WT λi j a b=>absurd a ()));let#[x,C,c,g,y]:=h;let hsz:=c.size;show pw lt n (if(m==n)=true then _ else _) _;by_cases l:m=n
 .rw[if_pos (by rw[beq_iff_eq];show l)];show#[by show 1<=m;omega,by show m<=n;omega,c,g]
 .rw[if_neg (by rw[beq_iff_eq];show l)];let f:=y ();by_cases o:m>1
  .rw[if_pos o];show#[c.all () (),c.all () (),?_];cases e:lt (gt (aeU (aei n)) 0) (gt (aeU (aei n)) (m-1))with
   |true=>
    show pw lt n (if true=true then _ else _) _;rw[if_pos rfl];show#[by show 1<=m;omega,by show m<=n;omega,c,g]
   |false=>
    show pw lt n (if false=true then _ else _) _;rw[if_neg (by decide)];generalize aeU (aei n)=p at c g f e hsz⊢;let q:∀i,i<m->lt (gt p i) (gt p 0)=false:=λi hi=>by
     by_cases s:i=0
     .rw[s];show W.ir _
     .rcases g 0 i () hi with h|h
      .show W.as h
      .show h.1
    let u:∀j,j<m->lt (gt p (m-1)) (gt p j)=false:=λj v=>by
     by_cases s:j=m-1
     .rw[s];show W.ir _
     .rcases g j (m-1) () ()with h|h
      .show W.as h
      .show h.1
    let aH:∀i j,i<m->j<m->lt (gt p i) (gt p j)=false:=λi j hi v=>by
     rw[ajY];intro h;obtain h2|h2:=W.nt _ (gt p 0) _ h
     .rw[q i hi]at h2;cases h2
     .obtain h3|h3:=W.nt _ (gt p (m-1)) _ h2
      .rw[e]at h3;cases h3
      .rw[u j v]at h3;cases h3
    let z:iw lt (kas_rev p 0 m) m:=λi j B v=>by
     rw[gf (),gf (),if_pos (),if_pos ()];show .inr #[aH _ _ () (),?_];rcases g (0+m-1-j) (0+m-1-i) () ()with h|h
     .rw[aH _ _ () ()]at h;cases h
     .show h.2
    show Qd W x () (c.rev () (Ϭ _)) z ?_;rw[gf (),gf (),if_neg (),if_pos ()];show W.nY f (aH _ _ () ())
  .rw[if_neg o];let em:m=1:=()
   subst em;show Qd W x () c (λi j a b=>absurd a ()) f
theorem GD(W:aD lt){p:Array Nat}{k:Nat}(j:k<n)(c:Pl n p k)(g:fu lt p k):∀(f l r:Nat),r-l<=f->l<=r->r<=k->(∀i,i<l->lt (gt p k) (gt p i)=false)->(∀i,r<=i->i<k->lt (gt p k) (gt p i)=true)->
  pw lt n (kas_place p k f l r) λl'=>l'<=k/\(∀i,i<l'->lt (gt p k) (gt p i)=false)/\∀i,l'<=i->i<k->lt (gt p k) (gt p i)=true
 |0,l,r,u,m,o,h1,h2=>#[(),h1,λi a b=>h2 i () b]
 |f+1,l,r,u,m,o,h1,h2=>by
  show pw lt n (if l≥r then _ else _) _;by_cases h:l≥r
  .rw[if_pos h];show#[(),h1,λi a b=>h2 i () b]
  .rw[if_neg h];let q:(l+r) / 2<r/\l<=(l+r) / 2:=()
   show#[c.all () j,c.all () (),?_];cases e:lt (gt p k) (gt p ((l+r) / 2))with
   |true=>
    show pw lt n (if true=true then _ else _) _;rw[if_pos rfl];show GD W j c g f l ((l+r) / 2) () () () h1 λi a b=>?_
    by_cases hi:i=(l+r) / 2
    .rw[hi];show e
    .rcases g ((l+r) / 2) i () b with h3|h3
     .show W.tr _ _ _ e h3
     .show W.nY e h3.1
   |false=>
    show pw lt n (if false=true then _ else _) _;rw[if_neg (by decide)];show GD W j c g f ((l+r) / 2+1) r () () o (λi a=>?_) h2;by_cases hi:i=(l+r) / 2
    .rw[hi];show e
    .rw[ajY];intro s;rcases g i ((l+r) / 2) () ()with h3|h3
     .have :=W.tr _ _ _ s h3;rw[e]at this;cases this
     .have :=W.nY s h3.1;rw[e]at this;cases this
theorem HH(W:aD lt):∀(f:Nat)(p:Array Nat)(k:Nat),k+f=n->Pl n p k->fu lt p k->pw lt n (kas_bin f p k) λp'=>Pl n p' n/\fu lt p' n
 |0,p,k,x,c,g=>by
  let e:k=n:=()
  subst e;show#[c,g]
 |f+1,p,k,x,c,g=>by
  let hsz:=c.size;show pL _ (gH (λl h=>?_) _ (GD W () c g k 0 k () () (Ϭ _) (λi hi=>absurd hi ()) λi a b=>absurd a ()));let#[z,h1,h2]:=h;let o:∀j,j<n->gt (bubble p k (k-l)) j=if j=l then gt p k else if l<j/\j<=k then gt p (j-1)else gt p j:=λj y=>by
   rw[Zf () () (),show k-(k-l)=l by omega]
  let u:=c.tail k (Ϭ _) ();show HH W f _ (k+1) () #[by rw[bubble_size];show hsz,λi hi=>?_,λi a b=>?_,(amb.mp (bubble_perm p k (k-l))).trans c.pm] λi j q y=>?_
  .rw[o i ()];split
   .rw[u];omega
   .split
    .have :=c.low (i-1) ();omega
    .have :=c.low i ();omega
  .rw[o i b,if_neg (),if_neg ()];show c.tail i () b
  .rw[o i (),o j ()];by_cases s:i<l
   .rw[if_neg (),if_neg ()];by_cases m:j=l
    .rw[if_pos m];show .inr #[h1 i s,by rw[u];show c.low i ()]
    .rw[if_neg m];split
     .show g i (j-1) () ()
     .show g i j q ()
   .by_cases v:i=l
    .rw[if_pos v,if_neg (),if_pos ()];show .inl (h2 (j-1) () ())
    .rw[if_neg v,if_pos (),if_neg (),if_pos ()];show g (i-1) (j-1) () ()
theorem ZJ(W:aD lt)(h1:1<=n):pw lt n (kas_sort n) λp=>Pl n p n/\fu lt p n:=by
 show pL _ (gH (λr h=>?_) _ (YQ W h1));let#[f,g,a,c]:=h;show pw lt n (if r.1<n then _ else _) _;by_cases h:r.1<n
 .rw[if_pos h,show max r.1 1=r.1 by omega];show HH W (n-r.1) r.2 r.1 () a c
 .rw[if_neg h];let e:r.1=n:=()
  rw[e]at a c;show#[a,c]
end
abbrev Cx.ό(X:Cx):Cx:={X with A:=X.A.in1.in1}
section
variable{X:Cx}{ϵ:List (δ×Obj)}{σ:St}{H:Hp}{s:μ}
theorem Cx.Ok.ό(ok:X.Ok):X.ό.Ok:=
 #[ok.mod,ok.kind,ok.glob,ok.blt,ok.above,ok.inj,ok.has,ok.cab,ok.hd,ok.frames,ok.stk,ok.exf,ok.bs,ok.bsz,ok.noex,ok.exfs,ok.funs,ok.frf]
theorem Inv.ό(I:Inv X ϵ σ H s):Inv X.ό ϵ σ H s:=#[I.ok.ό,I.os,I.bare,I.base,I.loc,I.cell,I.free,I.freeC,I.pin,I.hok,I.len]
theorem Inv.Y0(ok:X.Ok)(I:Inv X.ό ϵ σ H s):Inv X ϵ σ H s:=#[ok,I.os,I.bare,I.base,I.loc,I.cell,I.free,I.freeC,I.pin,I.hok,I.len]
theorem Inv.aaC{e:δ}{o:HO}(I:Inv X ϵ σ H s)(a:H e=none)(c:Ch X ϵ e)(ok:ϕ X.prog X.w (upd H e o) s.heap e o):Inv X ϵ σ (upd H e o) s:=by
 let ne:∀b u,H b=some u->b≠e:=λb u q=>ϐ q a
 have:=I.step (h':=s.heap) (H':=upd H e o) (g':=s.gens) (d':=s.drawn) (t':=s.toks) (ch:=[e]) (λb f=>?_) (λb o _ _ _ q _=>q) (λb o _ _ _ q _=>#[o.slots,q]) (λb o g _ n=>?_) (λb o _ q=>#[o,q]) (λb xs q=>?_) (λb o u q=>?_) (λb ps q=>?_) (λm i=>i) (λb u q=>?_) I.bare
 .show this
 .let z:b=e:=by simpa using f
  subst z;show c
 .rw[ρ (λz=>g (by simp[z]))];show n
 .rw[ρ (ne _ _ q)];show q
 .rw[ρ (ne _ _ q)];show q
 .show#[#v[],by rw[ρ (ne _ _ q),q];simp]
 .by_cases z:b=e
  .subst z;rw[υ]at q;cases q;show ok
  .rw[ρ z]at q;show(I.hok b u q).stay (λ_ _ _ r=>r) (λc r=>by rw[ρ (ne _ _ r)];show r) (λc xs r=>by rw[ρ (ne _ _ r)];show r) λc j v r=>by rw[ρ (ne _ _ r)];show r
theorem aY.ch{b:δ}(f:aY X ϵ H b):Ch X ϵ b:=#[f.2.2.2.1,f.2.1,f.2.2.2.2.1,f.2.2.2.2.2]
def Ϥ(X:Cx)(ϵ:List (δ×Obj))(H:Hp)(s:μ)(b:δ)(vs:List ε)(e:Nat):Prop:=s.heap.get? b=some (seqObj "list" vs.toArray e)/\aY X ϵ H b
theorem Ub{c:String}{xs:Array ε}{e:Nat}:∀v,(seqObj c xs e).data≠.cell v:=λv h=>by cases h
theorem Ϥ.set{b c:δ}{vs us ws:List ε}{e ec:Nat}{g:Array ε->Array ε}(I:Inv X ϵ σ H s)(h:Ϥ X ϵ H s b vs e)(a:Ϥ X ϵ H s c ws ec)(p:c≠b)(u:g vs.toArray=us.toArray):∃v,Inv X ϵ σ H {s with heap:=s.heap.update b (Obj.mapSeq g)}/\Ϥ X ϵ H {s with heap:=s.heap.update b (Obj.mapSeq g)} b us v/\Ϥ X ϵ H {s with heap:=s.heap.update b (Obj.mapSeq g)} c ws ec:=by
 let#[h1,f,i,y,j,l,m]:=h;let hs:=Heap.SameBut.update s.heap b (Obj.mapSeq g);let n:=get?_update_seq h1 g;rw[u]at n;show#[_,I.turned (t':=s.toks) (it:=b) (λx o z q=>(hs.2 x z).trans q) f i j l m,#[n,f,i,y,j,l,m],#[(hs.2 c p).trans a.1,a.2]]
theorem Ϥ.pin{kS D:δ}{vs ws:List ε}{e f:Nat}(I:Inv X ϵ σ H s)(h:Ϥ X ϵ H s kS vs e)(c:Ϥ X ϵ H s D ws f):Inv X (ϵ++fU [kS,D] s.heap) σ H s:=
 I.pinned (λb a=>by
  obtain z|z:=aaF.mp a
  .rw[z];show h.2
  .let z:b=D:=by simpa using z
   rw[z];show c.2) λb a=>by
  obtain z|z:=aaF.mp a
  .rw[z];show#[_,h.1,Ub]
  .let z:b=D:=by simpa using z
   rw[z];show#[_,c.1,Ub]
theorem Ϥ.R0{kS D:δ}{vs ws:List ε}{e ec:Nat}{H':Hp}{s':μ}(h:Ϥ X ϵ H s kS vs e)(a:Ϥ X ϵ H s D ws ec)(I:Inv X (ϵ++fU [kS,D] s.heap) σ H' s'):Inv X ϵ σ H' s'/\Ϥ X ϵ H' s' kS vs e/\Ϥ X ϵ H' s' D ws ec:=by
 let one:∀(b:δ)(us:List ε)(eb:Nat),b∈[kS,D]->Ϥ X ϵ H s b us eb->Ϥ X ϵ H' s' b us eb:=λb us eb c o=>by
  let f:(b,seqObj "list" us.toArray eb)∈X.pn++(ϵ++fU [kS,D] s.heap):=by
   show adW _ (adW _ ?_);unfold fU;show alF.mpr #[b,c,by rw[o.1];rfl]
  let#[p1,p2,p3,g,i]:=I.pin _ f;show#[p1,p2,o.2.2.1,o.2.2.2.1,o.2.2.2.2.1,o.2.2.2.2.2.1,o.2.2.2.2.2.2]
 show#[I.unpinned,one kS vs e (by simp) h,one D ws ec (by simp) a]
structure uY(X:Cx)(σ:St)(f:ε)(vs:List ε)(H₁:Hp)(Kp:Nat->ε->Hp->Prop):Prop where
 mono:∀i k H H',ζ H H'->Kp i k H->Kp i k H'
 call:∀i v ϵ s H,vs[i]?=some v->ζ H₁ H->Inv X.ό ϵ σ H s->ν (ϧ X.prog X.w) X.A.in1.in1 (call f [v]) (λk s'=>∃H',Inv X.ό ϵ σ H' s'/\ζ H H'/\Kp i k H') (λ_ _=>False) s
def CZ(X:Cx)(σ:St)(H:Hp)(ks:List ε)(lt:Nat->Nat->Bool)(κ:SortKind):Prop:=
 ∀i j a c ϵ s,ks[i]?=some a->ks[j]?=some c->Inv X.ό ϵ σ H s->ν (ϧ X.prog X.w) X.A.in1.in1 (keyLt' κ a c) (λr s'=>r=lt i j/\Inv X.ό ϵ σ H s') (λ_ _=>False) s
structure mJ(X:Cx)(σ:St)(n:Nat)(Kp:Nat->ε->Hp->Prop)(lt:Nat->Nat->Bool):Prop where
 kind:∀ϵ s H ks,Inv X.ό ϵ σ H s->ks.length=n->2<=n->(∀(i:Nat) k,ks[i]?=some k->Kp i k H)->
  ν (ϧ X.prog X.w) X.A.in1.in1 (keyKind' (aeU ks)) (λκ s'=>Inv X.ό ϵ σ H s'/\CZ X σ H ks lt κ) (λ_ _=>False) s
def gW(b:Bool)(lt:Nat->Nat->Bool)(i j:Nat):Bool:=if b=true then lt j i else lt i j
def dY(n:Nat)(lt:Nat->Nat->Bool)(q:List Nat):Prop:=q.Perm (aei n)/\q.Pairwise (Rk lt)
theorem S6{p:Array Nat}{i v:Nat}(h:p.toList[i]?=some v):gt p i=v:=uG (by rw[<-alZ];show h)
theorem afZ{n:Nat}{lt:Nat->Nat->Bool}{p:Array Nat}(h:Pl n p n)(a:fu lt p n):dY n lt p.toList:=by
 show#[h.pm,?_];let f:p.toList.length=n:=by rw[aiQ];show h.size
 rw[aly];intro i j hi e c;let h1:=S6 (aad hi);let h2:=S6 (aad e);rw[<-h1, <-h2];show a i j c ()
theorem afg{n:Nat}{lt:Nat->Nat->Bool}{q:List Nat}(h:dY n (λi j=>lt (n-1-i) (n-1-j)) q):dY n (gW true lt) (q.map (n-1- ·)).reverse:=by
 let#[f,g]:=h;let a:∀x∈q,x<n:=λx c=>ame.mp (f.subset c)
 show#[?_,?_]
 .show(anb _).trans ((f.map _).trans ?_);let e:(aei n).map (n-1- ·)=(aei n).reverse:=by
   apply anq
   .simp
   .intro i h1 h2;simp at h1;simp
  rw[e];show anb _
 .rw[List.pairwise_reverse,amk];show g.imp_of_mem λ{x y} c l r=>?_;let h1:=a x c;let h2:=a y l;obtain r|⟨r,m⟩:=r
  .show .inl r
  .show .inr #[r,()]
end
section
variable{X:Cx}{ϵ:List (δ×Obj)}{σ:St}{H H₁:Hp}{s:μ}{vs:List ε}{f:ε}{b:Bool}{Kp:Nat->ε->Hp->Prop}{lt:Nat->Nat->Bool}{kS D:δ}{e1:Nat}
def WL(X:Cx)(ϵ:List (δ×Obj))(σ:St)(H₁:Hp)(Kp:Nat->ε->Hp->Prop)(kS D:δ)(e1:Nat)(ks:List ε)(s:μ):Prop:=
 ∃H' e,Inv X.ό ϵ σ H' s/\ζ H₁ H'/\Ϥ X.ό ϵ H' s kS ks e/\Ϥ X.ό ϵ H' s D [] e1/\∀(i:Nat) k,ks[i]?=some k->Kp i k H'
theorem Mj{body:ε->PUnit->Sem (ForInStep PUnit)}{A:ϱ}{E:ε->μ->Prop}{R:List ε->μ->Prop}(e:∀i v ks s,vs[i]?=some v->ks.length=i->R ks s->ν (ϧ X.prog X.w) A (body v #[]) (λr s'=>r=.yield #[]/\∃k,R (ks++[k]) s') E s):∀(r ks:List ε)(s:μ),vs.drop ks.length=r->R ks s->ν (ϧ X.prog X.w) A (forIn r PUnit.unit body) (λ_ s'=>∃ks,ks.length=vs.length/\R ks s') E s\/vs.length<ks.length
 |[],ks,s,a,h=>by
  by_cases g:vs.length<ks.length
  .show .inr g
  .left;rw[alU];have:=List.drop_eq_nil_iff.mp a;show ϯ #[ks,(),h]
 |v::r,ks,s,a,h=>by
  left;let f:vs[ks.length]?=some v:=by
   have:=congrArg (λl=>l[0]?) a;simp only[amd,Nat.add_zero]at this;simpa using this
  let j:=(aai.mp f).1;rw[alm];show π (adR (e ks.length v ks s f rfl h) (λq s' m=>?_) λ_ _ x=>x);let#[rfl,k,h2]:=m;show ν (ϧ X.prog X.w) A (forIn r PUnit.unit body) _ E s';let c:vs.drop (ks++[k]).length=r:=by
   rw[ac7,afi, <-amV,a];rfl
  obtain h3|h3:=Mj e r (ks++[k]) s' c h2
  .show h3
  .rw[ac7,afi]at h3;omega
theorem QQ{P:PySem.Fin->μ->Prop}{E:ε->μ->Prop}{st:SortSt}{ks out:List ε}{e:Nat}(j:D≠kS)(I:Inv X.ό ϵ σ H s)(l:Ϥ X.ό ϵ H s kS ks e)(m:Ϥ X.ό ϵ H s D [] e1)(c:(arrOf st).map (·.2)=aeU out)(hz:out.length<64)(n:ks.length<64)(o:failedOf st=none)(h:∀s' p,Inv X.ό ϵ σ H s'->Ϥ X.ό ϵ H s' D (katRev b out) p->P (.done (.ret .none)) s'):ν (ϧ X.prog X.w) X.A.in1.in1 (ksk_tail D b e1 (.ref kS) st) P E s:=by
 let#[y,q,f,a]:=Ϥ.set (us:=[]) (g:=λ_=> #v[]) I l m j rfl;let#[u,v,i,x]:=Ϥ.set (us:=katRev b out) (g:=λ_=>aeU (katRev b out)) q a f (Ne.symm j) rfl;let hsz:(aeU (katRev b out)).size=out.length:=by rw[abe,kat_len]
 unfold ksk_tail
 try dsimp only
 rw[c,kat_outs];show π (listUpdate_at l.1 rfl ?_ (by rw[abe,ϳ];omega) (afT _));show π (wpAny_letGo ?_);show π (seqEpoch_at a.1 rfl ?_);show π (listUpdate_at a.1 rfl ?_ (afT _) (aeP (aka hsz) (by rw[ϳ];omega)));rw[o];simp only[bne_self_eq_false,alI,if_false];show ϯ (h _ u v i)
def iD(vs:List ε)(q:List Nat):List ε:=q.map λi=>vs.getD i Value.none
theorem adM{P:PySem.Fin->μ->Prop}{E:ε->μ->Prop}{ks:List ε}{e:Nat}(W:aD lt)(C:mJ X σ vs.length Kp lt)(Ϲ:D≠kS)(g:vs.length<64)(m:ks.length=vs.length)(I:Inv X.ό ϵ σ H s)(M:Ϥ X.ό ϵ H s kS ks e)(O:Ϥ X.ό ϵ H s D [] e1)(hK:∀(i:Nat) k,ks[i]?=some k->Kp i k H)(h:∀s' R q,Inv X.ό ϵ σ H s'->dY vs.length (gW b lt) q->Ϥ X.ό ϵ H s' D (iD vs q) R->P (.done (.ret .none)) s'):ν (ϧ X.prog X.w) X.A.in1.in1 (ksk_end D b vs.toArray e1 (.ref kS) (aeU ks)) P E s:=by
 let step:∀t:Sem PySem.Fin,ν (ϧ X.prog X.w) X.A.in1.in1 t P E s->ν (ϧ X.prog X.w) X.A.in1.in1 (if b=true then(do let _<-rule "list.sort.reverse";t)else t) P E s:=by
  intro t ht;split
  .show π (wpAny_rule ht)
  .show ht
 let B:(katRev b ks).length=(katRev b vs).length:=by rw[kat_len,kat_len,m]
 unfold ksk_end
 try dsimp only
 show step _ ?_;by_cases o:vs.length<2
 .let a:vs.toArray.size<2:=by rw[abe];omega
  rw[if_pos a,if_pos a];show π (ϯ ?_);show π (ϯ ?_)
  try dsimp only
  let u:∀{α:Type}(l:List α),l.length<2->katRev b l=l:=λl m=>by
   unfold katRev
   match l,m with
   |[],_=>simp
   |[x],_=>simp
  rw[kat_pairs b m,u ks (),u vs o];let v:(arrOf (SortSt.mk' general' ((aeU ks).zip vs.toArray) #v[] 7 none)).map (·.2)=aeU vs:=by
   show((aeU ks).zip vs.toArray).map (·.2)=aeU vs;apply anr.mp;rw[Array.toList_map,ksk_zip];show(ks.zip vs).map Prod.snd=vs;rw[List.map_snd_zip ()]
  show QQ Ϲ I M O v g () rfl λs' R I' F=>?_
  rw[u vs o]at F;show h s' R (aei vs.length) I' #[List.Perm.refl _,?_] ?_
  .match vs.length,o with
   |0,_=>show List.Pairwise.nil
   |1,_=>show amu _ _
  .let S:iD vs (aei vs.length)=vs:=by
    unfold iD;apply anq
    .simp
    .intro i h1 h2;simp[h2]
   rw[S];show F
 .let a:¬vs.toArray.size<2:=by rw[abe];omega
  rw[if_neg a,if_neg a];show π (adR (C.kind _ s H ks (M.pin I O) m () hK) (λκ s0 T=>?_) λ_ _ x=>x.elim);let#[I0,G]:=T;rw[kat_pairs b m];let f:∀i,i<vs.length->(katRev b ks).getD i Value.none=ks.getD (if b=true then vs.length-1-i else i) Value.none:=λi hi=>by
   cases b with
   |false=>rfl
   |true=>
    show ks.reverse.getD i Value.none=ks.getD (vs.length-1-i) Value.none;rw[acn,acn,amP (),m]
  let W':aD (λi j=>lt (if b=true then vs.length-1-i else i) (if b=true then vs.length-1-j else j)):=#[λi=>W.ir _,λi j k=>W.tr _ _ _,λi j k=>W.nt _ _ _];let J:(kas_sort (katRev b vs).length).kasWp (kas_ask X.prog X.w X.A.in1.in1 κ (katRev b ks)) (λp y=>Inv X.ό (ϵ++fU [kS,D] s.heap) σ H y/\Pl vs.length p vs.length/\fu (λi j=>lt (if b=true then vs.length-1-i else i) (if b=true then vs.length-1-j else j)) p vs.length) s0:=by
   rw[kat_len];show Qh (lt:=λi j=>lt (if b=true then vs.length-1-i else i) (if b=true then vs.length-1-j else j)) (n:=vs.length) (I:=λy=>Inv X.ό (ϵ++fU [kS,D] s.heap) σ H y) (λi j C' s1 hi hj U hC=>?_) _ s0 I0 (gH (λp L s1 U=>#[U,L.1,L.2]) _ (ZJ W' ()));unfold kas_ask;rw[f i hi,f j hj];let Y:(if b=true then vs.length-1-i else i)<ks.length:=by split <;>omega
   let Z:(if b=true then vs.length-1-j else j)<ks.length:=by split <;>omega
   let gi:ks[if b=true then vs.length-1-i else i]?=some (ks.getD (if b=true then vs.length-1-i else i) Value.none):=by
    rw[acn,aad Y];rfl
   let gj:ks[if b=true then vs.length-1-j else j]?=some (ks.getD (if b=true then vs.length-1-j else j) Value.none):=by
    rw[acn,aad Z];rfl
   show adR (G _ _ _ _ _ s1 gi gj U) (λr s2 hr=>?_) λ_ _ x=>x
   let#[rfl,I2]:=hr;show hC s2 I2
  show π (adR (kat_run (Q:=λc s'=>∃p:Array Nat,p.size=(katRev b vs).length/\arrOf c=p.map (kas_item ((aeU (katRev b ks)).zip (aeU (katRev b vs))))/\failedOf c=none/\
    Inv X.ό (ϵ++fU [kS,D] s.heap) σ H s'/\Pl vs.length p vs.length/\fu (λi j=>lt (if b=true then vs.length-1-i else i) (if b=true then vs.length-1-j else j)) p vs.length)
   B (by rw[kat_len];omega) (by rw[kat_len];show g) (λp' c s' a1 a2 a3 a4=>#[p',a1,a2,a3,a4]) J) ?_ λ_ _ x=>x)
  rintro⟨⟨⟩,c⟩ s' ⟨p,L,v,hf,I2,ab,ac⟩
  try dsimp only
  let#[I3,ae,qu]:=Ϥ.R0 M O I2;show QQ Ϲ I3 ae qu (kat_snds B v) (by rw[abd,aiQ,L,kat_len];show g) () hf λs4 e4 I4 sJ=>?_
  let z:=afZ ab ac;let af:∀x∈p.toList,x<vs.length:=λx hx=>ame.mp (z.1.subset hx)
  cases b with
  |false=>
   show h s4 e4 p.toList I4 z ?_;show sJ
  |true=>
   show h s4 e4 _ I4 (afg z) ?_;let S:katRev true (p.toList.map λi=>(katRev true vs).getD i Value.none)=iD vs (p.toList.map (vs.length-1- ·)).reverse:=by
    show(p.toList.map λi=>vs.reverse.getD i Value.none).reverse=_;unfold iD;rw[List.map_reverse,agn]
    congr 1
    show al7 λi hi=>?_
    show vs.reverse.getD i Value.none=vs.getD (vs.length-1-i) Value.none;rw[acn,acn,amP (af i hi)]
   rw[S]at sJ;show sJ
theorem ae7{P:PySem.Fin->μ->Prop}{E:ε->μ->Prop}(W:aD lt)(F:uY X σ f vs H₁ Kp)(C:mJ X σ vs.length Kp lt)(J:D≠kS)(o:vs.length<64)(I:Inv X.ό ϵ σ H s)(sm:ζ H₁ H)(Q:Ϥ X.ό ϵ H s kS [] 0)(S:Ϥ X.ό ϵ H s D [] e1)(h:∀s' H' p q,Inv X.ό ϵ σ H' s'->ζ H₁ H'->dY vs.length (gW b lt) q->Ϥ X.ό ϵ H' s' D (iD vs q) p->P (.done (.ret .none)) s'):ν (ϧ X.prog X.w) X.A.in1.in1 (ksk_rest D f b vs.toArray e1 (.ref kS)) P E s:=by
 unfold ksk_rest;show π (wpAny_rule ?_)
 first
  |rw[List.forIn_toArray]
  |(rw[<-am5];simp only[List.toList_toArray])
  |rw[<-am5]
 show π (adR ((Mj (X:=X) (vs:=vs) (R:=WL X ϵ σ H₁ Kp kS D e1) (λi v ks s' L hi T=>?_) vs [] s (by simp) #[H,0,I,sm,Q,S,λi k e=>by simp at e]).resolve_right (by simp)) (λ_ s' hd=>?_) λ_ _ x=>x)
 .let#[H',e,u,c,a,l,y]:=T;let U:=(aai.mp L).1;show π (wpAny_attempt (adR (F.call i v _ s' H' L c (a.pin u l)) (λk M Y=>?_) λ_ _ Z=>Z.elim));let#[H2,z,O,X5]:=Y;let#[I3,m,qu]:=Ϥ.R0 a l z;let ea:(aeU ks).push k=aeU (ks++[k]):=by simp
  let#[p,I4,lu,sJ]:=Ϥ.set (us:=ks++[k]) (g:=(·.push k)) I3 m qu J ea
  try dsimp only
  show π (listUpdate_at m.1 rfl ?_ (by rw[abe,ϳ];omega) (aeP (aka (Array.size_push ..)) (by rw[abe,ϳ];omega)));show ϯ #[rfl,k,H2,p,I4,c.trans O,lu,sJ,λj kj n=>?_];by_cases B:j<ks.length
  .rw[ajG B]at n;show F.mono _ _ _ _ O (y j kj n)
  .let hj2:=(aai.mp n).1;rw[ac7,afi]at hj2;let ej:j=ks.length:=()
   subst ej;rw[aln]at n;cases n;rw[hi];show X5
 .let#[ks,hl,H',e,u,c,a,l,y]:=hd
  try dsimp only
  show π (listItems_at a.1 rfl ?_);show adM W C J o hl u a l y λM e2 q z hs G=>h M H' e2 q z c hs G
end
section
variable{X:Cx}{ϵ:List (δ×Obj)}{σ:St}{H:Hp}{s:μ}{vs:List ε}{f:ε}{b:Bool}{Kp:Nat->ε->Hp->Prop}{lt:Nat->Nat->Bool}{l:δ}
theorem ag0{kw:List (Str×ε)}{Q:ε->μ->Prop}{E:ε->μ->Prop}(W:aD lt)(F:uY X σ f vs H Kp)(C:mJ X σ vs.length Kp lt)(u:vs.length<64)(I:Inv X ϵ σ H s)(G:s.heap.IsList l vs.toArray)(v:argsOk "sorted" #[[.ref l],kw])(y:∀x,argsOk "list.sort" #[[.ref x],kw])(J:∀x,alP.«list.sort» #[[.ref x],kw]=ksk_tree x f b)(h:∀D s' H' z q,Inv X ϵ σ H' s'->ζ H H'->dY vs.length (gW b lt) q->Ϥ X.ό ϵ H' s' D (iD vs q) z->Q (.ref D) s'):ν (ϧ X.prog X.w) X.A (call (.builtin "sorted") [.ref l] kw) Q E s:=by
 show call_function_entry_kw kind_sorted plain_sorted entry_sorted v ?_;unfold alP.«sorted»;show π (m:=checkCount "sorted" 1 1 _) (ϯ ?_);show π (collect_list G ?_ (by rw[ϳ];omega));show π (wpAny_newList ?_ (by rw[ϳ];omega));let hsz:((s.heap.push (seqObj "list" #v[] 0)).update s.heap.objs.size (Obj.mapSeq (· ++vs.toArray))).objs.size=s.heap.objs.size+1:=by
  rw[ant,size_push']
 let c:(((s.heap.push (seqObj "list" #v[] 0)).update s.heap.objs.size (Obj.mapSeq (· ++vs.toArray))).push (seqObj "list" vs.toArray 0)).get? (s.heap.objs.size+1)=some (seqObj "list" vs.toArray 0):=by
  rw[<-hsz];show ab7 _ rfl
 let keep:∀b o,s.heap.get? b=some o->(((s.heap.push (seqObj "list" #v[] 0)).update s.heap.objs.size (Obj.mapSeq (· ++vs.toArray))).push (seqObj "list" vs.toArray 0)).get? b=some o:=λb o q=>by
  let e:b<s.heap.objs.size:=acr q;rw[anc _ _ _ (by rw[hsz];show ac6 (alT e)),amX _ _ _ _ (ac6 e),anc _ _ _ (ac6 e)];show q
 show ν _ _ _ _ _ {s with heap:=((s.heap.push (seqObj "list" #v[] 0)).update s.heap.objs.size (Obj.mapSeq (· ++vs.toArray))).push (seqObj "list" vs.toArray 0)};rw[hsz];let g:(((s.heap.push (seqObj "list" #v[] 0)).update s.heap.objs.size (Obj.mapSeq (· ++vs.toArray))).push (seqObj "list" vs.toArray 0)).objs.size=s.heap.objs.size+2:=by rw[size_push',hsz]
 generalize((s.heap.push (seqObj "list" #v[] 0)).update s.heap.objs.size (Obj.mapSeq (· ++vs.toArray))).push (seqObj "list" vs.toArray 0)=h2 at c keep g⊢;show π (ahu (wpAny_call_entry_kw slot_list_sort #[_,c,rfl] entry_list_sort ?body (y _)))
 case body=>
  show ν (ϧ X.prog X.w) X.A.in1.in1 (alP.«list.sort» #[[.ref (s.heap.objs.size+1)],kw]) _ _ _;rw[J];let i:s.heap.objs.size<=s.heap.objs.size+1:=alS _;generalize s.heap.objs.size+1=a at c i⊢;obtain⟨e1,j⟩:∃e1,(h2.update a (Obj.mapSeq λ_=>(#v[]:Array ε))).get? a=some (seqObj "list" #v[] e1):=#[_,get?_update_seq c λ_=> #v[]];let n:((h2.update a (Obj.mapSeq λ_=>(#v[]:Array ε))).push (seqObj "tuple" vs.toArray 0)).objs.size=s.heap.objs.size+3:=by rw[size_push',ant,g]
  let L:∀b o,s.heap.get? b=some o->(((h2.update a (Obj.mapSeq λ_=>(#v[]:Array ε))).push (seqObj "tuple" vs.toArray 0)).push (seqObj "list" #v[] 0)).get? b=some o:=λb o q=>by
   let e:b<s.heap.objs.size:=acr q;show ϲ _ (ϲ _ ?_);rw[amX _ _ _ _ (ac6 (acw e i))];show keep b o q
  let B:((h2.update a (Obj.mapSeq λ_=>(#v[]:Array ε))).push (seqObj "tuple" vs.toArray 0)).objs.size≠a:=by
   have:=acr c;rw[n];rw[g]at this;show ak8 (alT this)
  unfold ksk_tree;show π (listItems_at c rfl ?_);show π (listUpdate_at c rfl ?_ (by rw[abe,ϳ];omega) (afT _));show π (seqEpoch_at j rfl ?_);show π (wpAny_newTuple ?_ (by show vs.length<=_;rw[ϳ];omega));show π (wpAny_newList ?_ (afT _));show ahu ?_;let M:Inv X.ό ϵ σ H {s with heap:=((h2.update a (Obj.mapSeq λ_=>(#v[]:Array ε))).push (seqObj "tuple" vs.toArray 0)).push (seqObj "list" #v[] 0)}:=I.ό.kept (t':=s.toks) L;let p:s.heap.objs.size<=((h2.update a (Obj.mapSeq λ_=>(#v[]:Array ε))).push (seqObj "tuple" vs.toArray 0)).objs.size:=by rw[n];show ajj _ _
  show ae7 (X:=X) (ϵ:=ϵ) (σ:=σ) (H:=H) (H₁:=H) (kS:=((h2.update a (Obj.mapSeq λ_=>(#v[]:Array ε))).push (seqObj "tuple" vs.toArray 0)).objs.size) (D:=a) (e1:=e1) W F C (Ne.symm B) u M (ζ.refl _) #[ab7 _ rfl,I.ό.fpOk p (I.hok.fresh p)] #[ϲ _ (ϲ _ j),I.ό.fpOk i (I.hok.fresh i)] λs' H' z q O sm P R=>#[_,rfl,?_]
  show ϯ #[_,rfl,h a s' H' z q (Inv.Y0 I.ok O) sm P R]
def cT(xs:List V)(q:List Nat):List V:=q.map λi=>xs.getD i .non
theorem Ql{xs:List V}{vs:List ε}(r:Vals xs vs):∀{q:List Nat},(∀i∈q,i<xs.length)->Vals (cT xs q) (iD vs q)
 |[],_=>.nil
 |i::q,h=>by
  let hil:=h i (by simp);let hi:xs[i]?=some (xs[i]'hil):=aad hil;let#[u,e,a]:=r.get hi;show Vals (xs.getD i .non::cT xs q) (vs.getD i Value.none::iD vs q);rw[acn,acn,hi,e];show .cons a (Ql r λj c=>h j (by simp[c]))
theorem lR{n:Nat}{lt:Nat->Nat->Bool}{q:List Nat}(h:dY n lt q){i:Nat}(hi:i∈q):i<n:=ame.mp (h.1.mem_iff.mp hi)
theorem XS{n:Nat}{lt:Nat->Nat->Bool}{q:List Nat}(h:dY n lt q):q.length=n:=by rw[h.1.length_eq,amh]
theorem Ru{kw:List (Str×ε)}{Q:VK}{E:ε->μ->Prop}{xs:List V}(W:aD lt)(hs:η X.K H l xs)(y:xs.length<64)(z:∀vs,Vals xs vs->uY X σ f vs H Kp/\mJ X σ xs.length Kp lt)(I:Inv X ϵ σ H s)(m:argsOk "sorted" #[[.ref l],kw])(u:∀x,argsOk "list.sort" #[[.ref x],kw])(B:∀x,alP.«list.sort» #[[.ref x],kw]=ksk_tree x f b)(h:∀p H' q,ζ H H'->H' p=none->dY xs.length (gW b lt) q->Q (.ref p) (upd H' p (.lst (cT xs q)))):ν (ϧ X.prog X.w) X.A (call (.builtin "sorted") [.ref l] kw) (EP X ϵ σ Q) E s:=by
 let#[vs,r,pl,hz]:=I.list hs;let a:=r.length;let#[C,v]:=z vs r;rw[a]at v;let#[o,n,e,c,d,F]:=pl;show ag0 (b:=b) W C v () I #[o,e,c,n,F] m u B λD s' H' G q J sm g j=>?_
 rw[<-a]at g;let L:=XS g;show#[.ref D,_,J.aaC (e:=D) (o:=.lst (cT xs q)) j.2.1 j.2.ch #[?_,iD vs q,G,Ql r λi hi=>lR g hi,j.1],rfl,h D H' q sm j.2.1 g];show(q.map _).length<=_;rw[abd];omega
end
def tu(A:ϱ)(s:μ)(fin:Bool):List ε->List ε->Bool->Prop
 |x::xs,y::ys,r=>∃e,SeqAt.EqAt A s x y e/\(e=true->tu A s fin xs ys r)/\(e=false->∀(prog:Ϯ)(w:ϭ)(E:ε->μ->Prop)(Q:ε->μ->Prop),Q (.bool r) s->ν (ϧ prog w) A (richCompare .Lt x y) Q E s)
 |_,_,r=>r=fin
open PySem.AutoSeq1 (wpAny_loadPart') in
theorem V4(l b:δ)(c a:Array ε)(n n2:Nat)(dd m:Option δ)(sl o:Array (Option ε))(r:Bool):Meets (alP.«tuple.__lt__» #[[.ref l,.ref b],[]])
   (λA R s=>s.heap.get? l=some {cls:=.type "tuple",dict:=dd,data:=.seq c n,slots:=sl}/\s.heap.get? b=some {cls:=.type "tuple",dict:=m,data:=.seq a n2,slots:=o}/\
    tu A.in1 s (decide (c.size<a.size)) c.toList a.toList r/\R (.ok (.ret (.bool r))) s):=
 .of_wp λprog w A R s h=>by
  let#[B,g,d,tk,os]:=s;let#[h1,h2,f,C]:=h;let D:=AutoSeq1.sub_tuple_tuple
  wp_walk using wpAny_loadPart' h1,wpAny_loadPart' h2,wpAny_forIn_list _ (λleft j s'=>j.1=none/\s'=#[B,g,d,tk,os]/\∃p q,left=List.zip p q/\tu A.in1 #[B,g,d,tk,os] (decide (c.size<a.size)) p q r) _
  case turn=>
   rintro⟨x,y⟩ left j s' ⟨u,rfl,p,q,hz,f⟩
   match p,q,f with
   |[],_,_=>cases hz
   |_::_,[],_=>cases hz
   |x'::p,E::q,f=>
    rw[am6]at hz;injection hz with v i
    injection v with ex F
    subst ex F;let#[e,G,H,I]:=f;show π (G prog w _ _ ?_);cases e with
    |true=>
     wp_walk
     show#[rfl,rfl,p,q,i,H rfl]
    |false=>
     let z:=I rfl prog w
     wp_walk using z
     show#[_,rfl,by simpa using C]
  case fin=>
   rintro⟨J,L⟩ s' ⟨u,rfl,p,q,hz,f⟩
   simp only at u;subst u;let fin:r=decide (c.size<a.size):=by
    match p,q,f with
    |[],[],f=>show f
    |[],_::_,f=>show f
    |_::_,[],f=>show f
    |x'::p,E::q,f=>rw[am6]at hz;cases hz
   subst fin
   wp_walk
   show#[_,rfl,by simpa [Builtin.Tuple.tupleCompareSizes]using C]
  case h=>
   show#[rfl,rfl,c.toList,a.toList,rfl,f]
def aF:List V->List V->Bool
 |[],[]=>false
 |[],_::_=>true
 |_::_,[]=>false
 |x::_,y::_=>ltV x y
def gY(x y:V):Prop:=(∃m n,x=.int m/\y=.int n)\/∃m n,x=.str m/\y=.str n
def lN(r:List V):Prop:=r=[]\/∃x,r=[x]
theorem Du(x:V):ltV x x=false:=by
 cases x with
 |int i=>show decide_eq_false ()
 |str z=>show decide_eq_false (anE _)
 |_=>rfl
section
variable{prog:Ϯ}{w:ϭ}{A:ϱ}{E:ε->μ->Prop}{s:μ}{x y:V}{u v:ε}
theorem Il(h:gY x y)(c:RelV x u)(f:RelV y v):∃e,SeqAt.EqAt A s u v e/\(e=true↔x=y):=by
 obtain⟨m,n,rfl,rfl⟩|⟨m,n,rfl,rfl⟩:=h
 .let#[t,rfl]:=c;let#[a,rfl]:=f;show#[_,SeqAt.EqAt.int_int m t n a,by simp]
 .let#[t,rfl]:=c;let#[a,rfl]:=f;show#[_,SeqAt.EqAt.str_str m t n a,by simp]
theorem ahD{Q:ε->μ->Prop}(h:gY x y)(a:RelV x u)(c:RelV y v)(q:Q (.bool (ltV x y)) s):ν (ϧ prog w) A (richCompare .Lt u v) Q E s:=by
 obtain⟨m,n,rfl,rfl⟩|⟨m,n,rfl,rfl⟩:=h
 .let#[t,rfl]:=a;let#[e,rfl]:=c;show lt_int q
 .let#[t,rfl]:=a;let#[e,rfl]:=c;show lt_str q
theorem aeM{Q:Bool->μ->Prop}(h:gY x y)(a:RelV x u)(c:RelV y v)(q:Q (ltV x y) s):ν (ϧ prog w) A (oneLt' true u v) Q E s:=by
 obtain⟨m,n,rfl,rfl⟩|⟨m,n,rfl,rfl⟩:=h
 .let#[t,rfl]:=a;let#[e,rfl]:=c;show oneLt_int q
 .let#[t,rfl]:=a;let#[e,rfl]:=c;show oneLt_str q
theorem aem{rx ry:List V}{us ws:List ε}(j:lN rx)(c:lN ry)(l:∀x y,rx=[x]->ry=[y]->gY x y)(f:Vals rx us)(a:Vals ry ws):tu A s (decide (us.length<ws.length)) us ws (aF rx ry):=by
 obtain rfl|⟨x,rfl⟩:=j
 .cases Vals.zero f;obtain rfl|⟨y,rfl⟩:=c
  .cases Vals.zero a;rfl
  .let#[v,rfl,_]:=Vals.one a;rfl
 .let#[u,rfl,g]:=Vals.one f;obtain rfl|⟨y,rfl⟩:=c
  .cases Vals.zero a;rfl
  .let#[v,rfl,i]:=Vals.one a;let lk:=l x y rfl rfl;let#[e,m,hi]:=Il (A:=A) (s:=s) lk g i;show#[e,m,λh=>?_,λh prog w E Q q=>ahD lk g i q];have:x=y:=hi.mp h;subst this;show ltV x x=decide (1<1);rw[Du];rfl
end
section
variable{X:Cx}{ϵ:List (δ×Obj)}{σ:St}{H:Hp}{s:μ}{a b:δ}{rx ry:List V}
theorem En(I:Inv X ϵ σ H s)(h:H a=some (.tup rx)):∃(f:List ε)(n:Nat)(dd:Option δ)(sl:Array (Option ε)),Vals rx f/\s.heap.get? a=some {cls:=.type "tuple",dict:=dd,data:=.seq f.toArray n,slots:=sl}:=by
 let#[_,f,r,#[cls,dd,data,sl],e,c,n,d]:=(I.hok a _ h:ϕ X.prog X.w H s.heap a (.tup rx));simp only at c d;subst c d;show#[f,n,dd,sl,r,e]
theorem afp{A:ϱ}{E:ε->μ->Prop}{κ:SortKind}{Q:Bool->μ->Prop}(j:A.units<cLine)(I:Inv X ϵ σ H s)(L:H a=some (.tup rx))(M:H b=some (.tup ry))(l:lN rx)(m:lN ry)(o:∀x y,rx=[x]->ry=[y]->gY x y)(i:κ=general'\/κ=oneType'\/(κ=tuples' true/\rx≠[]/\ry≠[]))(q:Q (aF rx ry) s):ν (ϧ X.prog X.w) A (keyLt' κ (.ref a) (.ref b)) Q E s:=by
 let#[us,n,dd,sl,p,ea]:=En I L;let#[ws,n2,c,f,B,g]:=En I M;let C:tu A.in1 s (decide (us.toArray.size<ws.toArray.size)) us.toArray.toList ws.toArray.toList (aF rx ry):=by
  simpa using aem l m o p B
 obtain rfl|rfl|⟨rfl,h1,h2⟩:=i
 .show ν _ _ (oneLt' false (.ref a) (.ref b)) _ _ _;show kat_one _ _ ?_;show richCompare_meets_room (op:=.Lt) #[_,ea,rfl] #[_,g,rfl] F.slot_tuple_lt F.entry_tuple_lt (F.args_tuple_lt_2 _ _) (V4 a b us.toArray ws.toArray n n2 dd c sl f (aF rx ry)) #[ea,g,C,(λz=>nomatch z),q] j
 .show ν _ _ (oneLt' true (.ref a) (.ref b)) _ _ _;rw[oneLt'_eq];simp only[if_true];show π (wpAny_cRoomFor j ?_);show π (wpAny_callSpecialIfBound?_slot (T:="tuple") #[_,ea,rfl] F.slot_tuple_lt ?_);show alC F.slot_tuple_lt #[_,ea,rfl] F.entry_tuple_lt (F.args_tuple_lt_2 _ _) (V4 a b us.toArray ws.toArray n n2 dd c sl f (aF rx ry)) #[ea,g,C,?_];show agC q
 .obtain rfl|⟨x,rfl⟩:=l
  .show absurd rfl h1
  obtain rfl|⟨y,rfl⟩:=m
  .show absurd rfl h2
  let#[u,rfl,D]:=Vals.one p;let#[v,rfl,G]:=Vals.one B;let lk:=o x y rfl rfl;show kat_lt ea rfl g rfl ?_;let#[e,O,hi]:=Il (A:=A) (s:=s) lk D G;show kat_cons (O X.prog X.w _ _ ?_);show kat_go (λh=>?_) λh=>?_
  .have :x=y:=hi.mp h;subst this;show kat_yes (kat_nil ?_);let J:Q (ltV x x) s:=q;rw[Du]at J;show J
  .show kat_no (aeM lk D G q)
end
section
variable{M:Model}{A:ϱ}{E:ε->μ->Prop}{s:μ}
def qw(h:ϫ):List ε->List (Option ε)->Prop
 |[],[]=>True
 |v::vs,f::fs=>(∃a o xs n,v=.ref a/\h.get? a=some o/\o.cls=.type "tuple"/\o.data=.seq xs n/\xs[0]?=f)/\qw h vs fs
 |_,_=>False
theorem Rb:∀(vs:List ε)(fs:List (Option ε)){Q:List (Option ε)->μ->Prop},qw s.heap vs fs->Q fs s->ν M A (vs.mapM firstOfTuple') Q E s
 |[],[],_,_,h=>by rw[List.mapM_nil];show ϯ h
 |[],_::_,_,t,_=>t.elim
 |_::_,[],_,t,_=>t.elim
 |v::vs,f::fs,Q,t,h=>by
  let#[#[a,o,xs,n,rfl,c,e,hd,g],t]:=t;rw[List.mapM_cons];show π ?_;rw[kas_first_eq];show π (Looks.here (show Looks M s.heap (typeOf (.ref a)) o.cls from(Looks.ld c).andThen .now) ?_);rw[e,if_neg (by first|decide|simp)];show π (listItems_at c hd (ϯ ?_));rw[g];show π (Rb vs fs (Q:=λbs s'=>ν M A (pure (f::bs)) Q E s') t (ϯ h))
theorem Q9:∀{vs:List ε}{fs:List (Option ε)},qw s.heap vs fs->∀v∈vs,Looks M s.heap (typeOf v) (.type "tuple")
 |v::vs,f::fs,t,u,hu=>by
  let#[#[a,o,xs,n,rfl,c,e,hd,g],t]:=t;obtain rfl|hu:=aaF.mp hu
  .rw[<-e];show(Looks.ld c).andThen .now
  .show Q9 t u hu
theorem kind_any{vs:List ε}{fs:List (Option ε)}{T:ε}{Q:SortKind->μ->Prop}(t:qw s.heap vs fs)(B:0<vs.length)(C:∀v,some v∈fs->Looks M s.heap (typeOf v) T)(m:(T==T)=true)(n:(T !=Value.type "tuple")=true)(h1:(∀f∈fs,f.isSome=true)->Q (tuples' true) s)(h2:Q general' s)(G:Q oneType' s):ν M A (keyKind' vs.toArray) Q E s:=by
 rw[kat_kind_eq,aml,map_eq_pure_bind];show π (π (Rb vs _ t (ϯ ?_)));by_cases i:(fs.toArray.all λx=>x.isSome)=true
 .rw[if_pos i];let a:∀f∈fs,f.isSome=true:=by simpa using i
  show π (wpAny_rule ?_);let p:fs.length=vs.length:=by
   clear C h1 i a B;induction vs generalizing fs with
   |nil=>cases fs with
    |nil=>rfl
    |cons _ _=>show t.elim
   |cons v vs H=>cases fs with
    |nil=>show t.elim
    |cons f fs=>simp[H t.2]
  let q:fs.toArray.filterMap id=(fs.filterMap id).toArray:=by simp
  let D:fs.filterMap id≠[]:=by
   intro z
   match fs,p with
   |[],e=>simp at e;omega
   |f::fs,_=>
    let#[v,rfl]:=ajR.mp (a f (by simp));simp at z
  rw[q,oneTypeOnly'_eq,aml,map_eq_pure_bind];let j:∀v∈fs.filterMap id,Looks M s.heap (typeOf v) T:=λv l=>by
   let#[o,I,e]:=alF.mp l;let J:o=some v:=e;show C v (J▸I)
  generalize fs.filterMap id=F at D j;show π (π (π (kas_mapM (r:=T) _ (λv l L u=>(j v l).here u) (ϯ ?_))));obtain⟨g,gr,rfl⟩:∃g gr,F=g::gr:=by
   match F,D with
   |[],z=>show absurd rfl z
   |g::gr,_=>show#[g,gr,rfl]
  let c:((anI (λ_=>T) (g::gr)).toArray.all λx=>x==T)=true:=by
   simp only[anu,anh,acz];intro _ _;show m
  let y:(anI (λ_=>T) (g::gr)).toArray[0]?=some T:=by simp
  rw[y];simp only[c,if_true];show ϯ (ϯ ?_);let e:(some T).any (λx=>x !=Value.type "tuple")=true:=n;rw[e];show h1 a
 .rw[if_neg i];split
  .show ϯ h2
  .rw[oneTypeOnly'_eq,aml,map_eq_pure_bind];show π (π (π (kas_mapM (r:=Value.type "tuple") _ (λv l L u=>(Q9 t v l).here u) (ϯ ?_))));obtain⟨g,gr,rfl⟩:∃g gr,vs=g::gr:=by
    match vs,B with
    |g::gr,_=>show#[g,gr,rfl]
   let c:((anI (λ_=>Value.type "tuple") (g::gr)).toArray.all λx=>x==Value.type "tuple")=true:=by
    simp only[anu,anh,acz];intro _ _;show(Value.type "tuple"==Value.type "tuple")=true;decide
   let y:(anI (λ_=>Value.type "tuple") (g::gr)).toArray[0]?=some (Value.type "tuple"):=by simp
   rw[y];simp only[c,if_true];show ϯ (ϯ G)
end
structure rY(X:Cx)(σ:St)(f:ε)(xs:List V)(H₁:Hp)(KV:Nat->V->Hp->Prop):Prop where
 mono:∀i v H H',ζ H H'->KV i v H->KV i v H'
 call:∀i x u ϵ s H,xs[i]?=some x->RelV x u->ζ H₁ H->Inv X.ό ϵ σ H s->ν (ϧ X.prog X.w) X.A.in1.in1 (call f [u]) (EP X.ό ϵ σ λk H'=>ζ H H'/\KV i k H') (λ_ _=>False) s
def vo(KV:Nat->V->Hp->Prop)(i:Nat)(k:ε)(H:Hp):=∃v,RelV v k/\KV i v H
theorem rY.fn{X:Cx}{σ:St}{f:ε}{xs:List V}{vs:List ε}{H₁:Hp}{KV:Nat->V->Hp->Prop}(h:rY X σ f xs H₁ KV)(r:Vals xs vs):uY X σ f vs H₁ (vo KV)where
 mono:=λi k H H' sm ⟨v,a,q⟩=>#[v,a,h.mono i v H H' sm q]
 call:=λi u ϵ s H c sm I=>by
  let o:=r.length;let hi:=(aai.mp c).1;let g:xs[i]?=some (xs[i]'()):=aad _;let#[p,e,j]:=r.get g;rw[c]at e;cases e;show adR (h.call i _ u ϵ s H g j sm I) (λk s' ⟨v,H',l,a,m,n⟩=>#[H',l,m,v,a,n]) λ_ _ z=>z
def Pz(f:Nat->Int)(i:Nat)(v:V)(_:Hp):Prop:=v=.int (f i)
section
variable{X:Cx}{σ:St}{n:Nat}
theorem Ke:∀{ks:List ε}{f:Nat->Int},(∀(i:Nat) k,ks[i]?=some k->∃t,k=.int (f i) t)->IntsAre ks ((aei ks.length).map f)
 |[],_,_=>.nil
 |k::ks,f,h=>by
  let#[t,rfl]:=h 0 k rfl;have:=Ke (ks:=ks) (f:=λi=>f (i+1)) λi k e=>h (i+1) k (by simpa using e)
  rw[adx,amD,adI,agn];show .cons _ t this
theorem acg{f:Nat->Int}:mJ X σ n (vo (Pz f)) (λi j=>decide (f i<f j))where
 kind:=λϵ s H ks I q h2 c=>by
  let a:∀(i:Nat) k,ks[i]?=some k->∃t,k=.int (f i) t:=λi k e=>by
   let#[v,g,rfl]:=c i k e;let#[t,rfl]:=g;show#[t,rfl]
  rw[ksk_kind (keys:=ks.toArray) (kz:=(aei ks.length).map f) (by simpa using Ke a) (by rw[abe];omega)];show ϯ #[I,λi j l m ϵ s hi o p=>?_];let#[t,rfl]:=a i l hi;let#[u,rfl]:=a j m o;rw[keyLt'_oneType];show oneLt_int #[rfl,p]
theorem aao{f:Nat->Int}:aD λi j=>decide (f i<f j):=#[λi=>decide_eq_false (),λi j k h1 h2=>decide_eq_true (by have:=of_decide_eq_true h1;have:=of_decide_eq_true h2;omega),λi j k h=>by
 have:=of_decide_eq_true h;by_cases h2:f i<f j
 .show .inl (decide_eq_true h2)
 .show .inr (decide_eq_true ())]
def Tw(rk:Nat->List V)(i:Nat)(v:V)(H:Hp):=∃a,v=.ref a/\H a=some (.tup (rk i))
def nj(rk:Nat->List V):Prop:=(∀i,lN (rk i))/\((∀i x,rk i=[x]->∃m,x=.int m)\/∀i x,rk i=[x]->∃m,x=.str m)
theorem nj.lk{rk:Nat->List V}(h:nj rk){i j:Nat}{x y:V}(a:rk i=[x])(c:rk j=[y]):gY x y:=by
 obtain h|h:=h.2
 .let#[m,rfl]:=h i x a;let#[n,rfl]:=h j y c;show .inl #[m,n,rfl,rfl]
 .let#[m,rfl]:=h i x a;let#[n,rfl]:=h j y c;show .inr #[m,n,rfl,rfl]
theorem Q8{ϵ:List (δ×Obj)}{s:μ}{H:Hp}(I:Inv X ϵ σ H s):∀{ks:List ε}{rk:Nat->List V},(∀i,lN (rk i))->(∀(i:Nat) k,ks[i]?=some k->∃a,k=.ref a/\H a=some (.tup (rk i)))->
  ∃fs,qw s.heap ks fs/\(∀f∈fs,(∃i,(f=none/\rk i=[])\/∃x v,f=some v/\rk i=[x]/\RelV x v))/\∀i,i<ks.length->rk i=[]->none∈fs
 |[],rk,_,_=>#[[],trivial,λf hf=>by simp at hf,λi hi=>by simp at hi]
 |k::ks,rk,j,h=>by
  let#[a,rfl,o]:=h 0 k rfl;let#[fs,h1,h2,l]:=Q8 I (ks:=ks) (rk:=λi=>rk (i+1)) (λi=>j (i+1)) λi k e=>h (i+1) k (by simpa using e)
  let#[us,n,dd,sl,g,ea]:=En I o;let m:=j 0;generalize c:rk 0=y at m g;obtain rfl|⟨x,rfl⟩:=m
  .cases Vals.zero g;show#[none::fs,#[#[a,_,_,n,rfl,ea,rfl,rfl,rfl],h1],λf hf=>?_,λi hi z=>?_];obtain rfl|hf:=aaF.mp hf
   .show#[0,.inl #[rfl,c]]
   .let#[i,q]:=h2 f hf;show#[i+1,q]
   .cases i with
    |zero=>simp
    |succ i=>show adF _ (l i (by simpa using hi) z)
  .let#[u,rfl,p]:=Vals.one g;show#[some u::fs,#[#[a,_,_,n,rfl,ea,rfl,rfl,rfl],h1],λf hf=>?_,λi hi z=>?_];obtain rfl|hf:=aaF.mp hf
   .show#[0,.inr #[x,u,rfl,c,p]]
   .let#[i,q]:=h2 f hf;show#[i+1,q]
   .cases i with
    |zero=>rw[c]at z;cases z
    |succ i=>show adF _ (l i (by simpa using hi) z)
theorem Ot{rk:Nat->List V}(F:X.A.in1.in1.units<cLine)(f:nj rk):mJ X σ n (vo (Tw rk)) (λi j=>aF (rk i) (rk j))where
 kind:=λϵ s H ks I W h2 G=>by
  let c:∀(i:Nat) k,ks[i]?=some k->∃a,k=.ref a/\H a=some (.tup (rk i)):=λi k e=>by
   let#[v,g,a,rfl,p]:=G i k e;cases g;show#[a,rfl,p]
  let#[fs,t,B,J]:=Q8 I f.1 c;let any:∀κ,(κ=general'\/κ=oneType'\/(κ=tuples' true/\∀i,i<n->rk i≠[]))->CZ X σ H ks (λi j=>aF (rk i) (rk j)) κ:=λκ q i j L M ϵ s hi C D=>by
   let#[a,rfl,p]:=c i L hi;let#[b,rfl,O]:=c j M C;let Y:=(aai.mp hi).1;let P:=(aai.mp C).1;show afp (X:=X.ό) F D p O (f.1 i) (f.1 j) (λx y e1 l=>f.lk e1 l) ?_ #[rfl,D];obtain h|h|⟨h,E⟩:=q
   .show .inl h
   .show .inr (.inl h)
   .show .inr (.inr #[h,E i (),E j ()])
  let fin:∀(T:ε),(T==T)=true->(T !=Value.type "tuple")=true->(∀v,some v∈fs->Looks (ϧ X.prog X.w) s.heap (typeOf v) T)->ν (ϧ X.prog X.w) X.A.in1.in1 (keyKind' (aeU ks)) (λκ s'=>Inv X.ό ϵ σ H s'/\CZ X σ H ks (λi j=>aF (rk i) (rk j)) κ) (λ_ _=>False) s:=λT Q R S=>
   kind_any t () S Q R (λo=>#[I,any _ (.inr (.inr #[rfl,λi hi z=>absurd (o _ (J i () z)) (by decide)]))]) #[I,any _ (.inl rfl)] #[I,any _ (.inr (.inl rfl))]
  obtain hk|hk:=f.2
  .show fin (.type "int") (by decide) (by decide) λv u=>?_
   obtain⟨i,⟨e,_⟩|⟨x,U,e,l,g⟩⟩:=B _ u
   .cases e
   .cases e;let#[m,rfl]:=hk i x l;let#[t,rfl]:=g;show .now
  .show fin (.type "str") (by decide) (by decide) λv u=>?_
   obtain⟨i,⟨e,_⟩|⟨x,U,e,l,g⟩⟩:=B _ u
   .cases e
   .cases e;let#[m,rfl]:=hk i x l;let#[t,rfl]:=g;show .now
theorem ag2{x y z:V}(h1:gY x y)(h2:gY y z)(a:ltV x y=true)(b:ltV y z=true):ltV x z=true:=by
 obtain⟨m,n,rfl,rfl⟩|⟨m,n,rfl,rfl⟩:=h1
 .obtain⟨c,k,e,rfl⟩|⟨_,_,e,_⟩:=h2
  .cases e;show decide_eq_true (by have:=of_decide_eq_true a;have:=of_decide_eq_true b;omega)
  .cases e
 .obtain⟨_,_,e,_⟩|⟨c,k,e,rfl⟩:=h2
  .cases e
  .cases e;show decide_eq_true (anJ (of_decide_eq_true a) (of_decide_eq_true b))
theorem afa{x y z:V}(h1:gY x y)(h2:gY y z)(a:ltV x z=true):ltV x y=true\/ltV y z=true:=by
 obtain⟨m,n,rfl,rfl⟩|⟨m,n,rfl,rfl⟩:=h1
 .obtain⟨f,k,e,rfl⟩|⟨_,_,e,_⟩:=h2
  .cases e;have:=of_decide_eq_true a;by_cases h:m<n
   .show .inl (decide_eq_true h)
   .show .inr (decide_eq_true ())
  .cases e
 .obtain⟨_,_,e,_⟩|⟨f,k,e,rfl⟩:=h2
  .cases e
  .cases e;by_cases h:m.cps.toList<n.cps.toList
   .show .inl (decide_eq_true h)
   .show .inr (decide_eq_true ?_);let c:n.cps.toList<=m.cps.toList:=anD.mp h;show List.lt_of_le_of_lt c (of_decide_eq_true a)
theorem Ms{rk:Nat->List V}(a:nj rk):aD λi j=>aF (rk i) (rk j)where
 ir:=λi=>by
  show aF (rk i) (rk i)=false;obtain e|⟨x,e⟩:=a.1 i
  .rw[e];rfl
  .rw[e];show Du x
 tr:=λi j k h1 h2=>by
  let h1:aF (rk i) (rk j)=true:=h1;let h2:aF (rk j) (rk k)=true:=h2;show aF (rk i) (rk k)=true;obtain ei|⟨x,ei⟩:=a.1 i<;>obtain c|⟨y,c⟩:=a.1 j<;>obtain f|⟨z,f⟩:=a.1 k<;>rw[ei]at h1⊢ <;>rw[c]at h1 h2<;>rw[f]at h2⊢ <;>first|(cases h1;done)|(cases h2;done)|rfl|show ag2 (a.lk ei c) (a.lk c f) h1 h2
 nt:=λi j k h=>by
  let h:aF (rk i) (rk k)=true:=h;show aF (rk i) (rk j)=true\/aF (rk j) (rk k)=true;obtain ei|⟨x,ei⟩:=a.1 i<;>obtain c|⟨y,c⟩:=a.1 j<;>obtain f|⟨z,f⟩:=a.1 k<;>rw[ei,f]at h<;>rw[ei,c,f]<;>first|(cases h;done)|show .inl rfl|show .inr rfl|show afa (a.lk ei c) (a.lk c f) h
end
section
variable{X:Cx}{σ:St}{H:Hp}{Q:VK}{e ke re:Ϧ}{p pos kp rp:Pos}
def vy(X:Cx)(σ:St)(b:Bool)(v a:V)(H:Hp)(Q:VK):=∃(l f:δ)(xs:List V)(KV:Nat->V->Hp->Prop)(lt:Nat->Nat->Bool),v=.ref l/\a=.ref f/\η X.K H l xs/\xs.length<64/\aD lt/\rY X σ (.ref f) xs H KV/\mJ X σ xs.length (vo KV) lt/\
 ∀p H' q,ζ H H'->H' p=none->dY xs.length (gW b lt) q->Q (.ref p) (upd H' p (.lst (cT xs q)))
theorem K1(j:X.mg "sorted"=none)(h:EV X e σ H λv H1=>EV X ke σ H1 λa H2=>vy X σ false v a H2 Q)(m:Gl X "sorted":=by rfl)(c:ϴ [e] X.env=[(false,eval e X.env)]:=by rfl):EV X (.Call (.Name "sorted" p) [e] [#[some "key",ke,kp]] pos) σ H Q:=by
 intro ϵ s I;show ai2 (gU I m j PyProof.Rows.boot_sorted ?_ (by decide) (by decide));let n:EA X [e] σ H (λvs H1=>∃v,vs=[v]/\EV X ke σ H1 λa H2=>vy X σ false v a H2 Q):=dN c (az h λv H1 q=>jy #[v,rfl,q]);show callWith_kw (χ (n pos ϵ s I) λus o y=>?_) (by rw[c];rfl) (by rw[c];rfl);let#[vs,H1,z,B,v,C,D]:=y;subst C;let#[u,rfl,E]:=Vals.one B;show kws_cons (χ (D ϵ o z) λO P ⟨a,H2,F,G,J⟩=>kws_nil ?_);let#[l,f,xs,KV,lt,rfl,rfl,hs,i,W,L,M,g]:=J;cases E;cases G;show Ru (kw:=[(Ϫ "key",.ref f)]) W hs i (λvs r=>#[L.fn r,M]) F (ksk_s1 _ _) (λx=>ksk_l1 _ _) (λx=>ksk_t1 f x) g
theorem Wu{b:Bool}(o:Gl X "sorted")(y:X.mg "sorted"=none)(j:ϴ [e] X.env=[(false,eval e X.env)])(h:EV X e σ H λv H1=>EV X ke σ H1 λa H2=>EV X re σ H2 λc i=>c=.bl b/\vy X σ b v a i Q):EV X (.Call (.Name "sorted" p) [e] [#[some "key",ke,kp],#[some "reverse",re,rp]] pos) σ H Q:=by
 intro ϵ s I;show ai2 (gU I o y PyProof.Rows.boot_sorted ?_ (by decide) (by decide));let z:EA X [e] σ H (λvs H1=>∃v,vs=[v]/\EV X ke σ H1 λa H2=>EV X re σ H2 λc i=>c=.bl b/\vy X σ b v a i Q):=dN j (az h λv H1 q=>jy #[v,rfl,q]);show callWith_kw (χ (z pos ϵ s I) λus B C=>?_) (by rw[j];rfl) (by rw[j];rfl);let#[vs,H1,D,E,v,F,G]:=C;subst F;let#[u,rfl,J]:=Vals.one E;show kws_cons (χ (G ϵ B D) λZ L ⟨a,H2,M,O,P⟩=>kws_cons (χ (P ϵ L M) λu3 s3 ⟨c,i,R,S,m,T⟩=>kws_nil ?_));let#[l,f,xs,KV,lt,rfl,rfl,hs,n,W,U,Y,g]:=T;subst m;cases J;cases O;cases S;show Ru (kw:=[(Ϫ "key",.ref f),(Ϫ "reverse",.bool b)]) W hs n (λvs r=>#[U.fn r,Y]) R (ksk_s2 _ _ _) (λx=>ksk_l2 _ _ _) (λx=>ksk_t2 f x b) g
abbrev Cx.tG(X:Cx):Cx:={X.ό with xe:=λ_ _=>False}
theorem Inv.tG{ϵ:List (δ×Obj)}{s:μ}(I:Inv X.ό ϵ σ H s):Inv X.tG ϵ σ H s:=
 #[#[I.ok.mod,I.ok.kind,I.ok.glob,I.ok.blt,I.ok.above,I.ok.inj,I.ok.has,I.ok.cab,I.ok.hd,I.ok.frames,I.ok.stk,I.ok.exf,I.ok.bs,I.ok.bsz,I.ok.noex,I.ok.exfs,I.ok.funs,I.ok.frf],I.os,I.bare,I.base,I.loc,I.cell,I.free,I.freeC,I.pin,I.hok,I.len]
theorem Inv.unX{ϵ:List (δ×Obj)}{s:μ}(I:Inv X.tG ϵ σ H s):Inv X.ό ϵ σ H s:=
 #[#[I.ok.mod,I.ok.kind,I.ok.glob,I.ok.blt,I.ok.above,I.ok.inj,I.ok.has,I.ok.cab,I.ok.hd,I.ok.frames,I.ok.stk,I.ok.exf,I.ok.bs,I.ok.bsz,I.ok.noex,I.ok.exfs,I.ok.funs,I.ok.frf],I.os,I.bare,I.base,I.loc,I.cell,I.free,I.freeC,I.pin,I.hok,I.len]
theorem abu{cc:Bool}{k:Nat}{x:Str}{ps:List Str}{sp:Sp}{xs:List V}{KV:Nat->V->Hp->Prop}(F:Def X.prog X.w X.K X.mg X.base cc k x ps sp)(a:ϔ cc (k+2) X.A)(c:∀i v H H',ζ H H'->KV i v H->KV i v H')(h:∀(i:Nat) x H',xs[i]?=some x->ζ H H'->sp [x] H' (λv H2=>ζ H' H2/\KV i v H2) (λ_ _ _=>False)):∃f:δ,X.mg x=some (.ref f)/\rY X σ (.ref f) xs H KV:=by
 let#[f,fd,h1,h2,e,g]:=F.ex;show#[f,h1,c,λi x u ϵ s H' j l sm I=>?_];have:=rQ (X:=X.tG) (us:=[u]) (vs:=[x]) (Kx:=λ_ _ _ _=>False) g a.in1.in1 e (Nu rfl) I.tG (.cons l .nil) (h i x H' j sm);show adR this (λw s' ⟨v,H2,m,n,q⟩=>#[v,H2,m.unX,n,q]) λ_ _ z=>z
theorem ZK{x:Str}{f:δ}(h:X.mg x=some (.ref f))(a:Gl X x)(hd:(x==("__debug__":Str))=false)(q:Q (.ref f) H):EV X (.Name x p) σ H Q:=qi (Mw (v:=.ref f) a h rfl hd) q
end
theorem ac2{p p':Pos}(h1:p.line=p'.line)(h2:p.col=p'.col)(l:List ε):codeAmong p l=codeAmong p' l:=by
 fun_induction codeAmong p l with
 |case1 a t b u c rest h=>unfold codeAmong;rw[<-h1, <-h2,if_pos h]
 |case2 a t b u c rest h e=> rw[e];conv=>rhs;unfold codeAmong
                             rw[<-h1, <-h2,if_neg h]
 |case3 l h=>unfold codeAmong;split <;>first|rfl|(exfalso;show h _ _ _ _ _ _ rfl)
theorem afJ{p a:Pos}{c f:ε}(l:List ε)(h:TriplesOk l)(e:codeAmong p (l++[rawInt a.line,rawInt a.col,c])=some f):codeAmong p l=some f\/(f=c/\a.line=p.line/\a.col=p.col):=by
 fun_induction TriplesOk l with
 |case1=>
  simp only[amO,rawInt,codeAmong]at e;split at e
  .rename_i hh;cases e;simp only[abB,beq_iff_eq]at hh;show .inr #[rfl,(),()]
  .cases e
 |case2 x t y u z rest g=>
  simp only[amw,codeAmong]at e⊢;split at e
  .rename_i hh;rw[if_pos hh];show .inl e
  .rename_i hh;rw[if_neg hh];show g h e
 |case3 l h1 h2=>show h.elim
def BM(mg:Str->Option ε)(base:ϫ):=∃bm a,mg "__builtins__"=some (.ref bm)/\bm≠builtinsNs/\base.get? bm=some a/\a.cls=.type "module"/\a.dict=some builtinsNs/\a.data=.plain
abbrev uT:HO:=.ext λ_=>True
theorem Ax{P:Ϯ}{w:ϭ}{H:Hp}{h:ϫ}{a:δ}{o:Obj}(e:h.get? a=some o):ϕ P w H h a (.frz o uT):=#[e,trivial,#[o,e],λ_ _ _ _=>trivial]
section
variable{X:Cx}{σ:St}{H:Hp}{D:Ends}
theorem Y6{name qual:Str}{g:Arguments}{body:List Ϩ}{scope:ahw}{pos:Pos}{clos:List (Str×δ)}{c P:δ}{ps:Array ε}{t:Tok}{j:Nat}(hN:X.N.Nodup)(hj:X.N[j]?=some name)(T:X.env.scope.names.lookup name=some .local)(x:X.env.code=.ref c)(C:CodeHd X.base c P)(B:BM X.mg X.base)(G:closureFor scope X.env=pure clos)(J:H P=some (.tbl ps))(L:codeAmong pos ps.toList=some (.str qual t))(hq:qualnameIn X.env name name=qual)(Z:g.defaults=[])(ab:g.kw_defaults=[])(ha:annTrees g none X.env=[])(h:∀(f m:δ)(oc:Obj)(i pm l:ε)(vs:Array ε)(t':Tok)(H':Hp),ζ H H'->H f=none->H' f=some (.frz (fnMade name qual g body scope clos i pm m l) uT)->(∃u,H' m=some (.frz oc u))->oc.data=.fields vs->vs[1]?=some (.str qual t')->D.nx (σ.set j (some (.ref f))) H'):SX X (.FunctionDef name g body [] none [] scope none name pos) D σ H:=by
 intro ϵ s I;show nestDef_K Z ab ha ?_;rw[hq];let#[qs,U,tr,z]:=(I.hok P _ J:ϕ X.prog X.w H s.heap P (.tbl ps));let W:s.heap.Ns mainGlobals X.mg:=I.mod.glob.keeps I.bk;let#[bm,ob,b1,b2,b3,b4,b5,b6]:=B;let M:=I.bk _ _ b3;let ac:mainGlobals≠P:=λq=>by
  let#[o,es,ep,e,hd,_]:=W;rw[q,U]at e;cases e;cases hd
 let ae:bm≠P:=λq=>by rw[q,U]at M;cases M;cases b4
 let af:bm≠mainGlobals:=λq=>by
  let#[o,es,ep,e,hd,_]:=W;rw[q,e]at M;cases M;rw[hd]at b6;cases b6
 let E:s.heap.BuiltinsAt X.mg P:=#[bm,ob,b1,b2,af,ae,M,b4,b5,b6];let CC:=C.keeps I.bk;cases hf:codeAmong pos qs.toList with
 |some cv=>
  let#[m,oc,u,q,t2,vs,t',rfl,Y,e3,e4,e5]:=z pos cv hf;rw[L]at Y;cases Y;show makeFunction_hit G I.ok.glob W x CC U tr hf E λl i h' tk hk hsz=>?_
  let I1:=I.laid (a:=h'.objs.size) (o:=.frz (fnMade name qual g body scope clos i ((X.mg "__name__").getD .none) m l) uT) (t':=tk) (h':=h'.push (fnMade name qual g body scope clos i ((X.mg "__name__").getD .none) m l)) (λb o e=>ϲ _ (hk b o e)) hsz (Ax (ab7 _ rfl));let O:=I.hok.fresh hsz;let sm:ζ H (upd H h'.objs.size (.frz (fnMade name qual g body scope clos i ((X.mg "__name__").getD .none) m l) uT)):=ζ.upd O;show qT (v:=.ref h'.objs.size) I1 hN hj (.inl T) rfl (λs' I' _=>?_) (.inr T);show#[_,_,I',h _ m oc i _ l vs t' _ sm O υ #[u,sm _ _ e3] e4 e5]
 |none=>
  show makeFunction_K G I.ok.glob W x CC U tr hf ac E λm l i h' tk ag y F Q R=>?_
  let#[c₂,oc,vs,t',Y,ah,hd,hv]:=Q;cases Y;let ai:H m=none:=I.hok.fresh y;let S:H h'.objs.size=none:=I.hok.fresh (alX (aeW y F));let Ϲ:m≠h'.objs.size:=ac6 F;let hPlt:=I.hok.lt J;let old:∀b u,H b=some u->(upd (upd H m (.frz oc uT)) h'.objs.size (.frz (fnMade name qual g body scope clos i ((X.mg "__name__").getD .none) m l) uT)) b=some u:=λb u e=>by
   rw[ρ (ϐ e S),ρ (ϐ e ai)];show e
  let nP:∀b,H b=none->b≠P:=λb e z=>by rw[z,J]at e;cases e
  let lt':∀b o,s.heap.get? b=some o->b≠m/\b≠h'.objs.size:=λb o e=>by
   have:=acr e;show#[ac6 (acw this y),ac6 (acw this (alX (aeW y F)))]
  let kp:∀b o,b≠P->s.heap.get? b=some o->(h'.push (fnMade name qual g body scope clos i ((X.mg "__name__").getD .none) m l)).get? b=some o:=λb o E e=>ϲ _ (ag b o E e)
  let I1:Inv X ϵ σ (upd (upd H m (.frz oc uT)) h'.objs.size (.frz (fnMade name qual g body scope clos i ((X.mg "__name__").getD .none) m l) uT)) {s with heap:=h'.push (fnMade name qual g body scope clos i ((X.mg "__name__").getD .none) m l),toks:=tk}:=by
   show I.un (t':=tk) #[λb o e n _ _=>kp b o (nP b n) e,λb o e n _ _=>#[o.slots,kp b o (nP b n) e],λb o e n _=>?_,λb o e _=>?_,λb xs q=>old _ _ q,λb o u q=>old _ _ q,λb ps' q=>#[#v[],by rw[old _ _ q];simp]] λb u e=>?_
   .rw[ρ (lt' b o e).2,ρ (lt' b o e).1];show n
   .by_cases E:b=P
    .show#[_,by rw[E];show ϲ _ R]
    .show#[_,kp b o E e]
   .by_cases h1:b=h'.objs.size
    .subst h1;rw[υ]at e;cases e;show Ax (ab7 _ rfl)
    .rw[ρ h1]at e;by_cases h2:b=m
     .subst h2;rw[υ]at e;cases e;show Ax (ϲ _ ah)
     .rw[ρ h2]at e;by_cases h3:b=P
      .subst h3;rw[J]at e;cases e;show#[_,ϲ _ R,?_,λp cv hc=>?_]
       .rw[al6];show TriplesOk_snoc _ _ _ _ tr
       .rw[al6]at hc;obtain h4|⟨rfl,h5,h6⟩:=afJ _ tr hc
        .let#[c2,al,u2,q2,t2,am,t3,g1,g2,g3,g4]:=z p cv h4;show#[c2,al,u2,q2,t2,am,t3,g1,g2,old _ _ g3,g4]
        .show#[m,oc,uT,qual,t,vs,t',rfl,?_,?_,hd,hv]
         .rw[<-ac2 h5 h6];show L
         .rw[ρ Ϲ,υ]
      .show(I.hok b u e).stay (λa v ha q=>kp a v ?_ q) (λa q=>old _ _ q) (λa xs q=>old _ _ q) λa ob v q=>old _ _ q
       obtain rfl|ha:=ha
       .show h3
       .intro z2;rw[z2,J]at ha;cases ha
  let sm:ζ H (upd (upd H m (.frz oc uT)) h'.objs.size (.frz (fnMade name qual g body scope clos i ((X.mg "__name__").getD .none) m l) uT)):=old;show qT (v:=.ref h'.objs.size) I1 hN hj (.inl T) rfl (λs' I' _=>?_) (.inr T);show#[_,_,I',h _ m oc i _ l vs t' _ sm S υ #[uT,by rw[ρ Ϲ,υ]] hd hv]
abbrev uR(X:Cx)(qual:Str)(scope:ahw)(f:δ)(cd:ε)(cl:List (Str×δ))(N:List Str)(s:μ)(H:Hp):Cx where
 prog:=X.prog
 w:=X.w
 K:=X.K
 mg:=X.mg
 base:=X.base
 A:=X.A.deeper (envX qual scope s.heap.objs.size f cd cl)
 N:=N
 s₀:=s
 H₀:=H
 env:=envX qual scope s.heap.objs.size f cd cl
 outer:=X.stack
 stack:=envX qual scope s.heap.objs.size f cd cl::X.stack
 ex:=[]
 fn:=λ_=>false
 calm:=X.calm
 pn:=[]
 xe:=λ_ _=>False
theorem ae5{ϵ:List (δ×Obj)}{s:μ}{f n c:δ}{name qual x y:Str}{g:Arguments}{body:List Ϩ}{scope:ahw}{o pm B u:ε}{u0 u1:HO}{oc:Obj}{vs:Array ε}{t':Tok}{v z:V}{j:Nat}{Q:VK}{E:ε->μ->Prop}(I:Inv X ϵ σ H s)(hf:H f=some (.frz (fnMade name qual g body scope [(y,c)] o pm n B) u0))(Y:H n=some (.frz oc u1))(Z:oc.data=.fields vs)(D:vs[1]?=some (.str qual t'))(F:X.A.depth<recursionLimit)(hb:∀o pm n B (u:ε),bindArgs (fnX name qual g body scope [(y,c)] .none .none o pm none (.ref n) B) #[[u],[]]=pure [(x,u)])(hk:scope.kind=.function)(ab:scope.isCoroutine=false)(L:scope.isGenerator=false)(W:scope.names.lookup x=some .local)(M:scope.names.lookup y=some .free)(O:∀a∈scope.names,a.2≠.cell)(ac:∀a,scope.names.lookup a=some .free->a=y)(hj:X.N[j]?=some y)(ae:σ[j]?=some (some z))(P:X.env.scope.names.lookup y=some .cell)(S:X.env.cells.lookup y=some c)(T:RelV v u)(h:Ν (uR X qual scope f (.ref n) [(y,c)] [x,y] s H) body {nx:=λ_ H'=>Q .non H',rt:=Q} [some v,some z] H):ν (ϧ X.prog X.w) X.A (call (.ref f) [u]) (EP X ϵ σ Q) E s:=by
 let C:=I.env0;let#[ef,_]:=(I.hok f _ hf:ϕ X.prog X.w H s.heap f (.frz _ u0));let#[ec,_]:=(I.hok n _ Y:ϕ X.prog X.w H s.heap n (.frz oc u1));let af:s.heap.CodeRec (.ref n) qual:=#[n,oc,vs,t',rfl,ec,Z,D];let hxy:x≠y:=λe=>by rw[e,M]at W;cases W
 let#[m,hm,hl]:=id I.loc;let#[uz,rz,lk]:=hl j y z hj ae (.inr (.inl P));obtain⟨U0⟩:Nonempty (s.heap.IsCell c (some uz)):=by
  obtain⟨k,_⟩|⟨_,c2,e,q⟩:=lk
  .rw[show X.env.kindOf y=X.env.scope.names.lookup y from rfl,P]at k;cases k
  .rw[S]at e;cases e;show#[q]
 show wpAny_call (ajy (codeAny_call_def (R:=λr s'=>match r with|.ok (.ret u)=>CE X.stack X.prog X.w H s Q u s'|.ok _=>False|.error _=>False) (fd:=fnX name qual g body scope [(y,c)] .none .none o pm none (.ref n) B) (body:=body) (binds:=[(x,u)]) F ef rfl I.nolimit af rfl (.of_eq (hb o pm n B u)) O (λa ha=>by cases acy.mp ha;show W) (λU ag l=>?_) ab L hk) λr s' D=>?_)
 .let I1:Inv (uR X qual scope f (.ref n) [(y,c)] [x,y] s H) [] [some v,some z] H {s with heap:=U,toks:=s.toks+[(x,u)].length}:=by
   let G:∀b:δ,b∉(uR X qual scope f (.ref n) [(y,c)] [x,y] s H).ex:=λb z=>absurd (show b∈([]:List δ)from z) (by simp)
   show#[#[C.mod,hk,rfl,rfl,Ϭ _,λa b d h1 h2=>?_,λa ha=>?_,λa d h1=>(by cases h1),I.ok.hd,Around.frames_deeper C.frames,.inr #[rfl,rfl],λb z=>absurd z (G b),C.bs,C.bsz,λb _ _=>G b,λb z=>absurd z (G b),C.funs,C.frf],
    rfl,C.bare,Un.kept l,#[_,ag,λi a b h1 h2 h3=>?_],λa d h1=>?_,C.hok.fresh (Ϭ _),λa d h1=>?_,λp hp=>absurd (show p∈([]:List (δ×Obj))from hp) (by simp),C.hok.kept l,rfl]
   .let h1:([(y,c)]:List (Str×δ)).lookup a=some d:=h1;let h2:([(y,c)]:List (Str×δ)).lookup b=some d:=h2;let e1:=PySem.mem_of_lookup h1;let e2:=PySem.mem_of_lookup h2;rw[acy]at e1 e2;cases e1;cases e2;rfl
   .let ha:scope.names.lookup a=some .cell\/scope.names.lookup a=some .free:=ha;obtain ha|ha:=ha
    .show absurd rfl (O _ (PySem.mem_of_lookup ha))
    .cases ac a ha;show#[c,by show([(y,c)]:List (Str×δ)).lookup y=some c;simp[aia]]
   .match i,h1,h2 with
    |0,h1,h2=>
     cases h1;cases h2;show#[u,T,.inl #[W,by simp[aia]]]
    |1,h1,h2=>
     cases h1;cases h2;show#[uz,rz,.inr #[.inr M,c,by show([(y,c)]:List (Str×δ)).lookup y=some c;simp[aia],U0.keeps l]]
    |i+2,h1,h2=>simp at h1
   .let e1:=PySem.mem_of_lookup (show([(y,c)]:List (Str×δ)).lookup a=some d from h1);rw[acy]at e1;cases e1;show#[_,U0.keeps l]
   .let e1:=PySem.mem_of_lookup (show([(y,c)]:List (Str×δ)).lookup a=some d from h1);rw[acy]at e1;cases e1;show I.freeC y c S
  show adR (h [] _ I1) (λfl s' hs=>?_) λ_ _ z=>z.elim
  let fin:∀{σ':St}{H':Hp}{v:V}{u:ε},Inv (uR X qual scope f (.ref n) [(y,c)] [x,y] s H) [] σ' H' s'->RelV v u->Q v H'->CE X.stack X.prog X.w H s Q u s':=
   λ{σ' H' v u} J T q=>#[v,H',J.os,J.bare,J.base,J.hok,T,q]
  cases fl with
  |ret u=>
   let#[v,σ',H',J,T,q]:=hs;show fin J T q
  |next=>
   let#[σ',H',J,q]:=hs;show fin (v:=V.non) (u:=Value.none) J rfl q
  |brk=>
   let#[_,_,_,q]:=hs;show False.elim q
  |cont=>
   let#[_,_,_,q]:=hs;show False.elim q
 .cases r with
  |error e=>show D.elim
  |ok fl=>
   cases fl with
   |ret u=>show I.after D
   |next=>show False.elim D
   |brk=>show False.elim D
   |cont=>show False.elim D
end
def gP(K:ϩ)(x:Str):δ:=((tabIn K x).getD (0,0)).1
def cF(K:ϩ)(x:Str):δ:=((tabIn K x).getD (0,0)).2
def yW(p:Pos)(q:Str):Array ε:= #v[rawInt p.line,rawInt p.col,.str q 0]
theorem ad3(p:Pos)(q:Str):codeAmong p (yW p q).toList=some (.str q 0):=by simp[yW,codeAmong,rawInt]
def GR(K:ϩ)(x:Str):Bool:=match tabIn K x with
 |some a=>(K.lookup a.2).isNone
 |none=>false
theorem af3{K:ϩ}{x:Str}(h:GR K x=true):tabIn K x=some (gP K x,cF K x)/\K.lookup (cF K x)=none:=by
 unfold GR at h;unfold gP cF;cases e:tabIn K x with
 |none=>rw[e]at h;cases h
 |some a=>
  rw[e]at h;show#[rfl,by simpa using h]
structure dW(K:ϩ)(mg:Str->Option ε)(base:ϫ)(x:Str):Prop where
 tab:tabIn K x=some (gP K x,cF K x)
 code:CodeHd base (gP K x) (cF K x)
 bm:BM mg base
 kin:K.In base
 glob:base.Ns mainGlobals mg
theorem ahv{P:Ϯ}{w:ϭ}{K:ϩ}{mg mb:Str->Option ε}{CX:d8}{k:Nat}{U a:δ}{fd:ahC}{x xn:Str}{sp:Sp}{s₁:μ}{vs:List ε}{ns:List Int}{ps:Array ε}(KX:K.In s₁.heap)(E:s₁.heap.Ns mainGlobals mg)(f:s₁.heap.Ns builtinsNs mb)(W:∀x:Str,x≠"__name__"->mb x=bootBuiltins x)(M:s₁.heap.NoLimit)(hg:s₁.gens= #v[])(L:s₁.heap.get? a=some {cls:=.type "list",data:=.seq vs.toArray})(hi:IntsAre vs ns)(hl:ns.length<=ϰ)(hr:ϔ cc k callerA)(hT:tabIn K xn=some (gP K xn,cF K xn))(X:CodeHd s₁.heap (gP K xn) (cF K xn))(l:s₁.heap.get? (cF K xn)=some (tabObj #v[]))(Y:K.lookup (cF K xn)=none)(hB:BM mg s₁.heap)(F:∀base:ϫ,K.In base->base.Ns mainGlobals mg->dW K mg base xn->cG P w K mg base CX cc k U fd [x] sp)(G:∀(s:μ)(u:ε),BindsTo s fd #[[u],[]] [(x,u)])(O:∀H:Hp,η K H a (ns.map V.int)->H (cF K xn)=some (.tbl ps)->sp [.ref a] H (λv _=>v=.bl true) λ_ _ _=>False)(Z:∀H e s',CX [] H s₁ (λ_ _ _=>False) e s'->False):codeAny (ϧ P w) callerA (.call (.ref U) #[[.ref a],[]]) (λr s'=>r=.ok (.ret (.bool true))/\OldK s₁.heap s'.heap/\s'.os=s₁.os/\AllBare s'.gens) s₁:=by
 let rv:=Uj hi;let Q:=hi.length;generalize ab:cF K xn=pt at X l Y O;let I:pt≠a:=λz=>by rw[z,L]at l;cases l
 let y:∀H:Hp,η K H a (ns.map V.int)->H pt=some (.tbl ps)->aa P w H s₁.heap->(∀b,H b=none\/b=a\/b=pt)->(∀b,H b=none\/K.lookup b=none)->(∀u,H a=some u->∃o v,u=.frz o v)->
   codeAny (ϧ P w) callerA (.call (.ref U) #[[.ref a],[]]) (λr s'=>r=.ok (.ret (.bool true))/\OldK s₁.heap s'.heap/\s'.os=s₁.os/\AllBare s'.gens) s₁:=by
  intro H hS hH hok hA hK ac;let c:∀{b:δ}{o:Obj},s₁.heap.get? b=some o->H b=none->(ie s₁.heap H).get? b=some o:=λe n=>aha e n
  let free:∀{b:δ}{o:Obj},s₁.heap.get? b=some o->o.cls≠.type "list"->o.cls≠.none->H b=none:=λ{b o} e n1 n2=>by
   obtain z|z|z:=hA b
   .show z
   .rw[z,L]at e;cases e;show absurd rfl n1
   .rw[z,l]at e;cases e;show absurd rfl n2
  let ae:∀{b:δ}{o:Obj}{es:Array DictEntry}{ep:Nat},s₁.heap.get? b=some o->o.data=.dict es ep->H b=none:=λ{b o es ep} e d=>by
   obtain z|z|z:=hA b
   .show z
   .rw[z,L]at e;cases e;let d':Data.seq vs.toArray _=Data.dict es ep:=d;cases d'
   .rw[z,l]at e;cases e;let d':Data.fields #v[]=Data.dict es ep:=d;cases d'
  let i:∀{b:δ}{m:Str->Option ε},s₁.heap.Ns b m->(ie s₁.heap H).Ns b m:=λ{b m} ⟨o,es,ep,e,d,r⟩=>#[o,es,ep,c e (ae e d),d,r];let J:K.In (ie s₁.heap H):=λb o e=>c (KX b o e) (by
   obtain z|z:=hK b
   .show z
   .rw[z]at e;cases e)
  let hM:Mod K mg (ie s₁.heap H):=#[J,i E,#[mb,i f,W],let⟨mc,h1,h2⟩:=M;#[mc,i h1,h2]];let hN:dW K mg (ie s₁.heap H) xn:=by
   show#[hT,?_,?_,J,i E]
   .rw[ab];let#[o,vs,B,tf,j,tg,inF,C,tt,e1,R,r]:=X;show#[o,vs,B,tf,j,tg,inF,C,tt,c e1 (free e1 (by rw[R];decide) (by rw[R];decide)),R,r]
   .let#[bm,S,b1,b2,b3,b4,r]:=hB;show#[bm,S,b1,b2,c b3 (free b3 (by rw[b4];decide) (by rw[b4];decide)),b4,r]
  let e0:mW P w K mg (ie s₁.heap H) callerA [] s₁ H:=#[rfl,hM,λb o e=>agM e,aka (Yz _ _),trivial,λb f=>absurd (show b∈([]:List δ)from f) (by simp),hok,.of_eq hg];show ajy ((F _ J (i E) hN).run callerA [] s₁ H #[[.ref a],[]] [.ref a] [.ref a] _ _ hr e0 (G s₁ (.ref a)) (.cons rfl .nil) (O H hS hH)) λr s' h=>?_
  cases r with
  |error e=>show(Z H e s' h).elim
  |ok fl=>
   cases fl with
   |next=>show False.elim h
   |brk=>show False.elim h
   |cont=>show False.elim h
   |ret u=>
    let#[v,H',os,bare,un,D,r',q]:=h;let q':v=.bl true:=q;subst q';obtain rfl:u=Value.bool true:=r';let#[T,hm]:=un.tbls pt ps hH;let#[qs,eq,_]:=(D pt _ hm:ϕ P w H' s'.heap pt (.tbl (ps++T)));let all:∀b o,s₁.heap.get? b=some o->asItWas s₁.heap s'.heap b o:=λb o e=>by
     obtain z|z|z:=hA b
     .show .inl (un.keep b o e z (by intro z;show absurd (show b∈([]:List δ)from z) (by simp)) (by simp))
     .cases e3:H b with
      |none=>show .inl (un.keep b o e e3 (by intro z;show absurd (show b∈([]:List δ)from z) (by simp)) (by simp))
      |some u=>
       let#[S,v,rfl]:=ac u (by rw[<-z];show e3);let z2:=un.frzs b S _ e3;let#[e1,_]:=(hok b _ e3:ϕ P w H s₁.heap b (.frz S v));let#[e2,_]:=(D b _ z2:ϕ P w H' s'.heap b (.frz S v));rw[e]at e1;cases e1;show .inl e2
     .subst z;rw[l]at e;cases e;let#[o,vs,B,tf,j,tg,inF,C,tt,e1,R,r2,r3,_]:=X;show .inr (.inl #[#[_,o,vs,e1,R,r2,r3],rfl, #v[],qs,rfl,?_]);rw[eq];simp
    show#[rfl,#[all,λb o e=>?_],os,bare];show un.there b o e (by simp)
 cases hk:K.lookup a with
 |some o=>
  let e:=KX a o hk;rw[L]at e;cases e;show y (λb=>if b=pt then some (.tbl ps)else none) (.inr #[_,vs.toArray,_,hk,rfl,rfl,rfl,by rw[abe,Q];show hl,by simpa using rv]) (if_pos rfl) (λb u z=>?_) (λb=>?_) (λb=>?_) λu z=>?_
  .by_cases f:b=pt
   .let z':=(if_pos f).symm.trans z;cases z';subst f;show#[#v[],l,trivial,λp cv h=>by simp[codeAmong]at h]
   .let z':=(if_neg f).symm.trans z;cases z'
  .by_cases f:b=pt
   .show .inr (.inr f)
   .show .inl (if_neg f)
  .by_cases f:b=pt
   .show .inr (by rw[f];show Y)
   .show .inl (if_neg f)
  .let z':=(if_neg (Ne.symm I)).symm.trans z;cases z'
 |none=>
  show y (λb=>if b=pt then some (.tbl ps)else if b=a then some (.frz {cls:=.type "list",data:=.seq vs.toArray} (.lst (ns.map V.int)))else none) (.inl (.inr #[{cls:=.type "list",data:=.seq vs.toArray},(if_neg (Ne.symm I)).trans (if_pos rfl)])) (if_pos rfl) (λb u z=>?_) (λb=>?_) (λb=>?_) λu z=>?_
  .by_cases f:b=pt
   .let z':=(if_pos f).symm.trans z;cases z';subst f;show#[#v[],l,trivial,λp cv h=>by simp[codeAmong]at h]
   .let z':=(if_neg f).symm.trans z;by_cases g:b=a
    .let z2:=(if_pos g).symm.trans z';cases z2;subst g;show#[L,by rw[abd];show hl,vs,_,rv,L]
    .let z2:=(if_neg g).symm.trans z';cases z2
  .by_cases f:b=pt
   .show .inr (.inr f)
   .by_cases g:b=a
    .show .inr (.inl g)
    .show .inl (by rw[if_neg f,if_neg g])
  .by_cases f:b=pt
   .show .inr (by rw[f];show Y)
   .by_cases g:b=a
    .show .inr (by rw[g];show hk)
    .show .inl (by rw[if_neg f,if_neg g])
  .let z':=(if_neg (Ne.symm I)).symm.trans z;let z2:=(if_pos rfl).symm.trans z';cases z2;show#[_,_,rfl]
theorem afF{l:W.OpenLaw}{n k:Nat}{q:Ϯ}{g:List Str}{P:(Str->Option ε)->ϫ->Prop}{M:ϭ->ϫ->Prop}{d:DefRec}{K:Params->ϩ}{CX:ϭ->d8}{sp:ϭ->Sp}{x xn:Str}{ps:Array ε}(Q:l.most=some n)(B:n<=ϰ)(C:d.params.defaults=[])(R:ϔ cc k callerA)(S:∀(w:ϭ)(h:ϫ),M w h->(K w.params).In h)(j:((recsOf q).find? (λe=>e.name==xn)).isSome=true)(m:∀w:ϭ,GR (K w.params) xn=true)(F:∀(w:ϭ)(mg:Str->Option ε)(z:δ)(h:ϫ),(K w.params).In h->h.Ns mainGlobals mg->mg d.name=some (.ref z)->
   ∃fd:ahC,(∀(s:μ)(u:ε),BindsTo s fd #[[u],[]] [(x,u)])/\
    ∀base:ϫ,(K w.params).In base->base.Ns mainGlobals mg->dW (K w.params) mg base xn->cG l.prog w (K w.params) mg base (CX w) cc k z fd [x] (sp w))(D:∀(w:ϭ)(H:Hp)(a:δ)(ns:List Int),ns.length<=n->η (K w.params) H a (ns.map V.int)->H (cF (K w.params) xn)=some (.tbl ps)->sp w [.ref a] H (λv _=>v=.bl true) λ_ _ _=>False)(E:∀(w:ϭ)(H:Hp)(s:μ)(e:ε)(s':μ),CX w [] H s (λ_ _ _=>False) e s'->False):W.WalkO q g P M l.row.toRowW d [] (λf vs=>PySem.call f vs):=by
 show Att.ag9 Q C λw s₀ p mg mb z o pm cd T a vs ns G Y ho hd U I y i c X=>?_
 let J:=S w _ Y;let#[fd,Z,hF]:=F w mg z _ J G.T.g I;let#[O,t2]:=af3 (m w);let#[d',L]:=ajR.mp j;let#[hC,hP]:=tab_of G.T J L O;show ahv J G.T.g G.T.b G.T.builtins G.T.nolimit X y i (aeP c B) R O hC hP t2 G.T.bmain hF Z (λH hS hH=>D w H a ns c hS hH) λH e s'=>E w H p e s'
def Dj(K:ϩ)(x:Str)(ps:Array ε):Sp:=λvs H Q _=>∃(a:δ)(ns:List Int),vs=[.ref a]/\η K H a (ns.map V.int)/\ns.length<=63/\H (cF K x)=some (.tbl ps)/\∀H',Q (.bl true) H'
theorem ach{P:Ϯ}{w:ϭ}{K:ϩ}{mg:Str->Option ε}{base:ϫ}{x:Str}{st:Ϩ}{ps N:List Str}{k:Nat}{sp:Sp}(F:∃f fd,cj K x x st f fd/\mg x=some (.ref f))(i:dW K mg base x)(S:Υ N ps (ψ st))(n:∀(kV a pm:ε)(an:Option δ)(j ct:ε)(us:List ε),us.length=ps.length->bindArgs (am3 x x (jA st) (aB st) (ψ st) .none kV a pm an j ct) #[us,[]]=pure (ps.zip us))(len:∀vs H Q E,sp vs H Q E->vs.length=ps.length)(body:∀(f:δ)(A:ϱ)(outer:List Env)(s:μ)(H:Hp)(vs:List V)(Q:VK)(E:XK),ϔ cc k (A.deeper (envOfC x (ψ st) s.heap.objs.size f (.ref (gP K x))))->sp vs H Q E->
   Ν (dM cc P w K mg base N x (ψ st) f (.ref (gP K x)) A outer s H E) (aB st) {nx:=λ_ H'=>Q .non H',rt:=Q} (start N vs) H):Def P w K mg base cc (k+1) x ps sp:=by
 let#[f,fd,F,m]:=F;show#[f,fd,m,F.kp,F.binds n,?_];let#[oc,od,kV,a,pm,an,j,ct,o,rfl,lk,l]:=id F.ex;let e:=i.tab;unfold tabIn at e;split at e
 .rename_i v p;let g:=aiT i.kin i.glob p;rw[m]at g;cases g;simp only[lk]at e;cases j with
  |ref c=>
   let q:c=gP K x:=by
    dsimp only at e;split at e
    .split at e
     .have :=Option.some.inj e;show congrArg Prod.fst this
     .cases e
    .cases e
   subst q;show Kl lk l S len λA outer s H vs Q E u h=>#[_,Fw,body f A outer s H vs Q E u h]
  |_=>cases e
 .cases e
section
variable{X:Cx}{ϵ:List (δ×Obj)}{σ:St}{H:Hp}{s:μ}{d:δ}
end
def iZ(keep:Nat->Bool)(n:Nat):List Nat:=(aei n).filter keep
theorem ahg(keep:Nat->Bool)(n:Nat):iZ keep (n+1)=iZ keep n++(if keep n=true then[n]else[]):=by
 unfold iZ;rw[anC,List.filter_append];by_cases h:keep n=true
 .simp[h]
 .let h':keep n=false:=by simpa using h
  simp[h']
theorem ZL(keep:Nat->Bool)(n:Nat):(iZ keep n).length<=n:=by
 have:=aix keep (aei n);rw[amh]at this;show this
section
variable{X:Cx}{e c:Ϧ}{σ σ':St}{H:Hp}{Q:VK}{D:Ends}{pos:Pos}{tg elt:Ϧ}{scope:ahw}
def Aq(X:Cx)(N':List Str)(scope:ahw)(tg elt c:Ϧ)(σ':St)(H1:Hp)(Q:VK)(xs:List V):Prop:=
 ∃(g:St->Prop)(keep:Nat->Bool)(e:δ->Nat->V->Hp->Prop),g σ'/\
  (∀E i v H2 f ys,H2 E=some (.lst ys)->(∀b o,b≠E->H2 b=some o->f b=some o)->e E i v H2->e E i v f)/\
  (∀(fp:List δ)(E C:δ)(j:μ)(l:Hp)(i:Nat)(n:St)(x:V)(H2:Hp),H1 E=none->xs[i]?=some x->g n->ζ H1 H2->(∃ys,H2 E=some (.lst ys))->
   EG (bQ X N' scope (ϒ scope X.env) C j l fp) tg x n H2 λa f=>ET (bQ X N' scope (ϒ scope X.env) C j l fp) c a f λk m=>k=keep i/\g a/\ζ H2 m/\(k=true->EV (bQ X N' scope (ϒ scope X.env) C j l fp) elt a m λv p=>e E i v p/\ζ m p))/\
  ∀(E:δ)(H2:Hp)(us:List V),H1 E=none->H2 E=some (.lst us)->Vl.ς (λu i=>e E i u H2) us (iZ keep xs.length)->ζ H1 H2->Q (.ref E) H2
theorem K5{N':List Str}{l:δ}{xs:List V}(hn:xs.length<=ϰ)(M:η X.K H l xs)(h:Aq X N' scope tg elt c σ' H Q xs):∀(fp:List δ)(E C:δ)(O:μ),H E=none->jm X (bQ X N' scope (ϒ scope X.env) C O (upd H E (.lst [])) fp) tg elt [c] (iY X.K l) E σ' H (λH'=>Q (.ref E) H'):=by
 intro fp E C O F;let#[T,keep,U,t0,mono,step,fin]:=h;show#[λi m P H1=>m=xs.length-i/\i<=xs.length/\ζ H H1/\T P/\∃us,H1 E=some (.lst us)/\Vl.ς (λu i=>U E i u H1) us (iZ keep i),#[xs.length,by simp,afT _,ζ.upd F,t0,[],υ,.nil],?_]
 rintro i m P H1 ⟨rfl,hi,y,R,us,g,G⟩
 by_cases z:i<xs.length
 .show .inr #[#[xs,xs[i],ζ.seq y M,aad z],λB H'=>ζ H H'/\T B/\∃us,H' E=some (.lst us)/\Vl.ς (λu i=>U E i u H') us (iZ keep (i+1)),λB H' ⟨a,b,d⟩=>#[xs.length-(i+1),(),rfl,z,a,b,d],λx H2 W=>?_];let Z:xs[i]?=some x:=W.2 xs (ζ.seq y M);let hH:H2=H1:=W.1;subst hH;intro ϵ s u I r;show χ (step fp E C O _ i P x _ F Z R y #[us,g] ϵ s u I r) λ_ s' ⟨S,H3,I3,q3⟩=>#[S,H3,I3,aa7 ?_]
  show λϵ s I=>χ (q3 ϵ s I) λk s' ⟨H4,I4,hk,Y,n,q⟩=>#[H4,I4,?_]
  subst hk;let J:=ahg keep i;let hkl:=ZL keep i;let kW:=G.len;by_cases f:keep i=true
  .rw[if_pos f];rw[if_pos f]at J;show az (q f) λv L ⟨pv,D⟩=>#[us,D _ _ (n _ _ g),(),?_]
   let up:∀b o,b≠E->L b=some o->(upd L E (.lst (us++[v]))) b=some o:=λb o hb e=>by rw[ρ hb];show e
   show#[λb o e=>?_,Y,us++[v],υ,?_]
   .rw[ρ (ϐ e F)];show D _ _ (n _ _ (y _ _ e))
   .rw[J];show Vl.ς.app (G.imp λu j p=>?_) (.cons (mono E i v L _ us (D _ _ (n _ _ g)) up pv) .nil);show mono E j u L _ us (D _ _ (n _ _ g)) up (mono E j u H2 _ us g (λb o _ e=>D _ _ (n _ _ e)) p)
  .rw[if_neg f];rw[if_neg f,alG]at J;show#[y.trans n,Y,us,n _ _ g,?_];rw[J];show G.imp λu j p=>mono E j u H2 _ us g (λb o _ e=>n _ _ e) p
 .let e:i=xs.length:=()
  subst e;show .inl #[#[xs,ζ.seq y M,Ϭ _],fin E H1 us F g G y]
theorem Wy(N':List Str)(a:cz N' X.N σ scope=σ')(g:X.calm=true)(S:cu X.env scope)(hs:∀x,foldedSetIterable e X.env x=pure x)(h:EV X e σ H λv H1=>∃l xs,v=.ref l/\η X.K H1 l xs/\xs.length<=ϰ/\Aq X N' scope tg elt c σ' H1 Q xs):EV X (.ListComp elt [#[tg,e,[c],0]] scope pos) σ H Q:=by
 show vV (N':=N') g S hs (oH (az h λv H1 q=>?_));let#[l,xs,rfl,f,hz,i]:=q;show#[l,rfl,#[xs,f],?_];rw[a];show K5 hz f i
end
section
variable{X:Cx}{D:Ends}{σ:St}{H:Hp}{rest:List akP}{suite:List Ϩ}{b₀:Ϩ}{pos np:Pos}{x n:Str}{c:ε}{C:δ}{d:Option δ×Bool}{i:Nat}
end
end L2
namespace L2
open PySem PySem.Spec PyProof.Rows
section
variable{X:Cx}{a b e:Ϧ}{σ σ':St}{H:Hp}{Q:VK}{D:Ends}{pos spos py p p':Pos}{tg elt iter:Ϧ}{scope:ahw}{Kx:St->XK}{y:Str}{j:Nat}
end
abbrev DX(K:ϩ)(mg:Str->Option ε)(x:Str)(st:Ϩ):Prop:=∃f fd,cj K x x st f fd/\mg x=some (.ref f)
section
variable{K:ϩ}{h:ϫ}{mg:Str->Option ε}(X:K.In h)(G:h.Ns mainGlobals mg){x y m qual fld:Str}{st:Ϩ}{f C D:δ}{od an:Option δ}{sl:Array (Option ε)}{oc kV dc pm cd ct:ε}{t:Tok}
abbrev bD(K:ϩ)(x:Str)(C:δ):Prop:=anQ K mainGlobals x=some (some (.ref C))
abbrev oA(K:ϩ)(m qual:Str)(st:Ϩ)(f:δ)(od an:Option δ)(sl:Array (Option ε))(oc kV dc pm cd ct:ε):Prop:=K.lookup f=some #[oc,od,.func (am3 m qual (jA st) (aB st) (ψ st) .none kV dc pm an cd ct),sl]
include X G
theorem afe(a:bD K x f)(l:oA K x x st f od an sl oc kV dc pm cd ct)(c:amo K cd x=true)(k:alz K (.ref f)=true):DX K mg x st:=#[_,_,qX (st:=st) l c k,aiT X G a]
theorem adf{z:Str}(g:anQ K mainGlobals x=some (some (.str z t))):Gc mg x (.str z):=#[_,aiT X G g,_,rfl]
theorem acY{z:Int}(g:anQ K mainGlobals x=some (some (.int z t))):Gc mg x (.int z):=#[_,aiT X G g,_,rfl]
theorem adh(z:anQ K mainGlobals x=some none):mg x=none:=W.mg_none_of X G z
theorem ad6(q:bD K x C):mg x=some (.ref (ξ mg x)):=by let e:=aiT X G q;rw[bW e];show e
theorem adD(q:bD K x C)(y:W.excIn K C qm "ValueError.__new__"=true):QD K mg x:=acf (aiT X G q) y
theorem ae4{b:Bool}(q:bD K x C)(r:bD K y D)(v:W.exmOne K (.ref C) (.ref D)=some b):W.exmOne K (.ref (ξ mg x)) (.ref (ξ mg y))=some b:=by
 rw[bW (aiT X G q),bW (aiT X G r)];show v
theorem agX(q:bD K x C)(a:ami K C (.type "type")=true)(c:amj K (.ref C) (.type "type") "__init__"=some (.val (.builtin "ValueError.__init__")))(e:ail K (.ref C) "__getattribute__"=some (some (.builtin "type.__getattribute__")))(f:amR K (.ref C)=some (.type "type"))(g:al3 K C (.type "BaseException")=some true):Uy K mg x:=adS (aiT X G q) a c e f g
theorem aas(q:bD K x C)(r:bD K y D)(c:nG K C D=true)(e:amR K (.ref C)=some (.type "type"))(f:ak9 K C=true)(g:afh K (.ref C) "__getattribute__"=some (some (.builtin "BaseException.__getattribute__")))(i:afh K (.ref C) "__getattr__"=some none)(j:afh K (.ref C) "__class__"=some (some (.builtin "object.__class__")))(l:ail K (.builtin "object.__class__") "__get__"=some (some (.builtin "getset_descriptor.__get__")))(m:amG K (.builtin "object.__class__")=some true)(n:al3 K C (.type "object")=some true)(a:al3 K C (.type "BaseException")=some true):XC K mg y x:=aeL (aiT X G q) (aiT X G r) c e f g i j l m n a
theorem Wc(q:bD K x C)(r:bD K y D)(a:afh K (.ref C) "__init__"=some (some (.ref f)))(l:oA K "__init__" qual st f od an sl oc kV dc pm cd ct)(c:amo K cd qual=true)(k:alz K (.ref f)=true)(e:xM K C f=true)(g:am1 K (.ref f)=true)(i:afh K (.ref C) "__setattr__"=some (some (.builtin "object.__setattr__")))(j:amE K C fld=some none)(m:nG K C D=true):Jc K mg y x qual fld st:=Zd (aiT X G q) (aiT X G r) (qX (st:=st) l c k) e g i j m
theorem adA(q:bD K x C)(a:afh K (.ref C) fld=some none):afh K (.ref (ξ mg x)) fld=some none:=by rw[bW (aiT X G q)];show a
theorem adi(q:bD K x C)(a:afh K (.ref C) fld=some none):Ρ K (ξ mg x) fld:=by rw[bW (aiT X G q)];show a
theorem t_k(q:bD K x C)(a:al1 K C amF=true)(b:ak9 K C=true)(c:amn K C=true)(d:afh K (.ref C) "__setattr__"=some (some (.builtin "object.__setattr__"))):Ϙ K (ξ mg x):=Hr (aiT X G q) a b c d
theorem ahE(q:bD K x C)(a:afh K (.ref C) "__init__"=some (some (.ref f)))(l:oA K "__init__" qual st f od an sl oc kV dc pm cd ct)(c:amo K cd qual=true)(k:alz K (.ref f)=true)(b:am1 K (.ref f)=true)(d:anx K C=true)(e:alz K (.ref C)=true):OI K (ξ mg x) qual st:=ag1 (aiT X G q) (qX (st:=st) l c k) a b d e
theorem aac(q:bD K x C)(a:afh K (.ref C) m=some (some (.ref f)))(l:oA K m qual st f od an sl oc kV dc pm cd ct)(c:amo K cd qual=true)(k:alz K (.ref f)=true)(b:am1 K (.ref f)=true):OM K (ξ mg x) m qual st:=XD (aiT X G q) (qX (st:=st) l c k) a b
theorem ahh(q:bD K x C)(a:amj K (.ref C) (.type "type") m=some (.val (.ref f)))(l:oA K m qual st f od an sl oc kV dc pm cd ct)(c:amo K cd qual=true)(k:alz K (.ref f)=true)(b:ami K C (.type "type")=true)(d:ail K (.ref C) "__getattribute__"=some (some (.builtin "type.__getattribute__"))):OB K (ξ mg x) m qual st:=Xz (aiT X G q) (qX (st:=st) l c k) a b d
theorem afj(q:bD K x C)(r:bD K y D)(a:al1 K C amF=true)(b:ak9 K C=true)(c:amn K C=true)(d:afh K (.ref C) "__setattr__"=some (some (.builtin "object.__setattr__")))(e:afh K (.ref C) "__class__"=some (some (.builtin "object.__class__")))(f:ail K (.builtin "object.__class__") "__get__"=some (some (.builtin "getset_descriptor.__get__")))(g:amG K (.builtin "object.__class__")=some true)(i:al3 K C (.type "object")=some true)(u:am2 K (.ref C) (.ref D)=some true):OT K (ξ mg x)/\am2 K (.ref (ξ mg x)) (.ref (ξ mg y))=some true:=by
 show#[W8 (aiT X G q) (Hr (aiT X G q) a b c d) e f g i,?_];rw[bW (aiT X G q),bW (aiT X G r)];show u
omit X G
inductive jb (mg:Str->Option ε):List δ->List δ->Prop
 |nil:jb mg [] []
 |cons {x:Str} {C:δ} {l m:List δ} (h:mg x=some (.ref C)) (t:jb mg l m):jb mg (ξ mg x::l) (C::m)
theorem jb.eq{l m:List δ}(h:jb mg l m):l=m:=by
 induction h with
 |nil=>rfl
 |cons h _ a=>rw[bW h,a]
include X G
theorem fL{l m:List δ}(q:bD K x C)(t:jb mg l m):jb mg (ξ mg x::l) (C::m):=.cons (aiT X G q) t
omit X G
theorem acM{l m:List δ}(t:jb mg l m)(d:m.Nodup):l.Nodup:=by rw[t.eq];show d
end
theorem Qj{X:Cx}{st:Ϩ}{rest:List Ϩ}{D:Ends}{σ:St}{H:Hp}(h:let σ':=σ;let a:Ends:={D with nx:=λσ' H'=>Ν X rest D σ' H'};SX X st a σ' H):Ν X (st::rest) D σ H:=Nq h
theorem N7{X:Cx}{st:Ϩ}{D:Ends}{σ:St}{H:Hp}(h:let σ':=σ;SX X st D σ' H):Ν X [st] D σ H:=ahf h
section
variable{X:Cx}{H:Hp}{Q:VK}{z y:Str}
end
end L2
namespace L2
open PySem PySem.Spec PyProof.Rows PySem.W
def oZ(k:Int):ε->Bool
 |.int i _=>i==k
 |_=>false
section
variable{X:Cx}{H:Hp}{Q:VK}
end
end L2
namespace L2
open PySem PySem.Spec PyProof.Rows
section
variable{prog:Ϯ}{w:ϭ}{A:ϱ}{E:ε->μ->Prop}{s:μ}
end
section
variable{prog:Ϯ}{w:ϭ}{A:ϱ}{E:ε->μ->Prop}{s:μ}{ns:List Int}{us:Array ε}
end
end L2
namespace L2
open PySem PySem.Spec PyProof.Rows PySem.W
section
variable{prog:Ϯ}{w:ϭ}{A:ϱ}{E:ε->μ->Prop}{s:μ}{S I:δ}{es:Array (Int×ε)}{ep:Nat}{t:aj7}
end
section
variable{prog:Ϯ}{w:ϭ}{A:ϱ}{E:ε->μ->Prop}{s:μ}{S I:δ}{es:Array (Int×ε)}{ep:Nat}{t:aj7}
end
section
variable{X:Cx}{H:Hp}{Q:VK}{ns U:List Int}
end
end L2
namespace L2
open PySem PySem.Spec PyProof.Rows PySem.SeqAt AutoSeq1
theorem ahT(l:δ)(a:Array ε)(n:Nat)(x:ε)(e:Nat->Bool)(j:Nat)(C:j<a.size)(v:e j=true)(k:Nat)(p:a.size<=ϰ):∀i:Nat,j-i=k->i<=j->(∀m (y:m<a.size),i<=m->m<j->e m=false)->Meets (alP.«list.remove.loop» #[[.ref l,x,rawInt i],[]])
   (λA R s=>s.heap.get? l=some {cls:=.type "list",dict:=none,data:=.seq a n,slots:= #v[]}/\(∀m (y:m<a.size),EqAt A.in1 s a[m] x (e m))/\R (.ok (.ret .none)) {s with heap:=s.heap.update l (Obj.mapSeq λxs=>xs.eraseIdxIfInBounds j)}):=by
 induction k with
 |zero=>
  intro i D z c prog w A R s h;let#[E,g,d,tk,os]:=s;let#[o,u,h]:=h;let q:i=j:=()
  subst q
  wp_walk using wpAny_loadPart' o
  let hi:a[((i:Nat):Int).toNat]?=some a[i]:=by simp[C]
  rw[hi];show π (u _ C prog w _ _ ?_);rw[v];let B:(a.eraseIdxIfInBounds i).size<=ϰ+1:=aeP (MeetsSeq.size_erased a _) (Nat.le_succ_of_le p)
  wp_walk using(wpAny_updateSeq o rfl (hz:=p) (_hz':=B)),wpAny_loadPart' o
  simpa using h
 |succ k F=>
  intro i D z c prog w A R s h;let#[E,g,d,tk,os]:=s;let#[o,u,h]:=h;let f:i<a.size:=()
  wp_walk using wpAny_loadPart' o
  let hi:a[((i:Nat):Int).toNat]?=some a[i]:=by simp[f]
  let G:((i:Int)+1)=((i+1:Nat):Int):=by push_cast;rfl
  rw[hi];show π (u _ f prog w _ _ ?_);rw[c i f (Ϭ _) ()]
  wp_walk
  rw[G];show#[plainId_quiet MeetsSeq.plain_remove_loop _,ajn MeetsSeq.entry_remove_loop (by
   rw[Around.under_plainId MeetsSeq.plain_remove_loop _];show F (i+1) () () (λm y h1 h2=>c m y () h2) prog w A R _ #[o,u,h])]
theorem ace(l:δ)(a:Array ε)(n:Nat)(x:ε)(e:Nat->Bool)(j:Nat)(q:j<a.size)(c:e j=true)(f:∀m (i:m<a.size),m<j->e m=false)(o:a.size<=ϰ):Meets (alP.«list.remove» #[[.ref l,x],[]])
   (λA R s=>s.heap.get? l=some {cls:=.type "list",dict:=none,data:=.seq a n,slots:= #v[]}/\(∀m (i:m<a.size),EqAt A.in1 s a[m] x (e m))/\R (.ok (.ret .none)) {s with heap:=s.heap.update l (Obj.mapSeq λxs=>xs.eraseIdxIfInBounds j)}):=by
 intro prog w A R s h;let#[v,g,d,tk,os]:=s;let#[p,u,h]:=h
 wp_walk using wpAny_loadPart' p
 show#[plainId_quiet MeetsSeq.plain_remove_loop _,ajn MeetsSeq.entry_remove_loop (by
  rw[Around.under_plainId MeetsSeq.plain_remove_loop _];show ahT l a n x e j q c _ o 0 rfl (afT _) (λm i _ h2=>f m i h2) prog w A R _ #[p,u,h])]
theorem readsAll_get{h:ϫ}:∀{vs:List ε}{ds:List alp}{as:List δ}{m:Nat}{d:alp}{v:ε},ReadsAll h vs ds as->ds[m]?=some d->vs[m]?=some v->∃bs,Reads h v d bs
 |_,_,_,0,_,_,.cons r _,e,a=>by cases e;cases a;show#[_,r]
 |_,_,_,m+1,_,_,.cons _ t,e,a=>readsAll_get (m:=m) t (by simpa using e) (by simpa using a)
theorem JF:∀{xs:List V}{us:List ε}(_:Vals xs us)(j:Nat),Vals (xs.eraseIdx j) (us.eraseIdx j)
 |_,_,.nil,_=>.nil
 |_,_,.cons _ t,0=>t
 |_,_,.cons r t,j+1=>.cons r (JF t j)
section
variable{X:Cx}{H:Hp}{Q:VK}{σ σ':St}{D:Ends}{pos spos py:Pos}{tg elt e c:Ϧ}{scope:ahw}{y:Str}{j:Nat}
theorem aaJ(N':List Str)(a:cz N' X.N σ scope=σ')(f:alr (.ListComp elt [#[tg,e,[c],0]] scope pos) (some (.Name y py)) spos.line X.env=pure true)(i:X.calm=true)(S:cu X.env scope)(hs:∀x,foldedSetIterable e X.env x=pure x)(m:X.N.Nodup)(hi:nameAt X.N y=some j)(n:X.env.scope.names.lookup y=some .local)(h:EV X e σ H λv H1=>∃l xs,v=.ref l/\η X.K H1 l xs/\xs.length<=ϰ/\Aq X N' scope tg elt c σ' H1 (λv H'=>D.nx (σ.set j (some v)) H') xs):SX X (.Assign [.Name y py] (.ListComp elt [#[tg,e,[c],0]] scope pos) spos) D σ H:=by
 show S7 (N':=N') f i S hs m hi n (oH (az h λv H1 q=>?_));let#[l,xs,rfl,g,hz,o]:=q;show#[l,rfl,#[xs,g],?_];rw[a];show K5 (Q:=λv H'=>D.nx (σ.set j (some v)) H') hz g o
theorem aco{a:δ}{xs:List V}{y:V}{ds:List alp}{d:alp}{j:Nat}(R:X.A.units+64<cLine)(h:H a=some (.lst xs))(l:cW X.K H xs ds)(o:RD X.K H y d)(h1:∀x∈ds,x.canLay0=true/\x.depth<=60)(h2:d.canLay0=true)(E:∃x,ds[j]?=some x/\PyData.eqv x d=true)(q:∀m x,m<j->ds[m]?=some x->PyData.eqv x d=false)(g:Q .non (upd H a (.lst (xs.eraseIdx j)))):MT X "list.remove" (.ref a) [y] H Q:=by
 show iU (r:=λx vs H Q=>x=.ref a/\vs=[y]/\H a=some (.lst xs)/\cW X.K H xs ds/\RD X.K H y d/\Q .non (upd H a (.lst (xs.eraseIdx j)))) ?_ #[rfl,rfl,h,l,o,g];clear h l o g;intro ϵ s σ H x vs v us Q I rx rs h;let#[rfl,rfl,h,l,o,g]:=h;cases rx;let#[u,rfl,G]:=vals1 rs;let#[z,p,n,r,S,e]:=I.lstM h;let#[as,D]:=cW.reads I l r;let#[bs,J]:=RD.reads I o G;let#[T,f,B]:=E;let L:p.length=ds.length:=ReadsAll.length _ _ _ D;let M:=(aai.mp f).1;let i:=ace a p.toArray n u (λm=>PyData.eqv (ds.getD m .none) d) j (by rw[abe];omega) (by show PyData.eqv (ds.getD j .none) d=true;rw[acn,f];show B)
  (λm i C=>by
   let c:m<ds.length:=by rw[abe]at i;omega
   show PyData.eqv (ds.getD m .none) d=false;rw[acn,aad c];show q m _ C (aad c)) (by rw[abe];omega)
 show alC F.slot_list_remove #[_,e,rfl] F.entry_list_remove (F.args_list_remove_2 _ _) i #[e,λm i=>?_,?_]
 .let c:m<ds.length:=by rw[abe]at i;omega
  rw[acn,aad c];let#[cs,O]:=readsAll_get D (aad c) (v:=p.toArray[m]) (by simp);let#[P,U]:=h1 _ (ah5 c);show SeqAt.eqAt_reads _ _ _ _ _ _ _ _ O J P h2 (by have:=amK (ds[m]).depth d.depth;show _+1+min (ds[m]).depth d.depth<cLine;omega)
 .show#[.non,_,I.lset (its':=p.eraseIdx j) h e ?_ (JF r j) ?_,rfl,g]
  .apply anr.mp;simp
  .have :=List.length_eraseIdx_le xs j;omega
end
end L2
set_option compiler.extract_closed false
seal L2.EV L2.ET L2.EW L2.EA L2.SX L2.Ν L2.EG L2.rZ L2.EI L2.OP L2.UN L2.CL L2.IX L2.SL L2.MT L2.EJ L2.vh L2.EH
local macro_rules | `(tactic| walk_at "nm") => `(tactic| refine L2.af6 (by rfl) ?_)
local macro_rules | `(tactic| walk_at "gc") => `(tactic| refine L2.Yl (by assumption) (by rfl) ?_ (by decide))
local macro_rules | `(tactic| walk_at "ty") => `(tactic| refine L2.ahz (by rfl) (by rfl) (by assumption) ?_)
local macro_rules | `(tactic| walk_at "cb") => `(tactic| refine L2.afY (by rfl) (by rfl) (by assumption) (by rfl) (by rfl) ?_)
local macro_rules | `(tactic| walk_at "ct") => `(tactic| refine L2.acd (by rfl) (by rfl) (by assumption) (by rfl) (by rfl) ?_)
local macro_rules | `(tactic| walk_at "xo") => `(tactic| first | exact L2.ϑ | assumption | exact L2.Nu rfl)
local macro_rules | `(tactic| walk_at "po") => `(tactic| first | exact L2.aep | assumption | exact PySem.PassesOwn.never)
local macro_rules | `(tactic| walk_at "cl") => `(tactic| first
 |refine L2.aaj (by assumption) (by assumption) (by first|decide|omega) (by decide) (by rfl) (by walk_at"xo") (by decide) (by rfl) (by rfl) ?_
 |refine L2.akB (by assumption) (by assumption) (by first|decide|omega) (by decide) (by rfl) (by walk_at"xo") (by decide) ?_)
local macro_rules | `(tactic| walk_at "bm") => `(tactic| first
 |refine L2.dC PySem.F.plainAttrs_str PySem.F.slot_str_join PySem.F.type_str_join (h:=?_)
 |refine L2.dC PySem.F.plainAttrs_str PySem.F.slot_str_index PySem.F.type_str_index (h:=?_)
 |refine L2.dC PySem.F.plainAttrs_str PySem.F.slot_str_startswith PySem.F.type_str_startswith (h:=?_))
local macro_rules | `(tactic| walk_at "e") => `(tactic| first
 |((with_reducible change L2.EV _ _ _ _ _);first
  |((with_reducible change L2.EV _ (PySem.Expr.Name _ _) _ _ _);first|(walk_at"nm")|(walk_at"gc")|(walk_at"ty"))
  |(with_reducible first|refine L2.Wo ?_|refine L2.Pa ?_|refine L2.adn ?_)
  |((with_reducible change L2.EV _ (PySem.Expr.Call _ _ _ _) _ _ _);first
   |((with_reducible change L2.EV _ (PySem.Expr.Call (PySem.Expr.Name _ _) _ _ _) _ _ _);first|(walk_at"cb")|(walk_at"ct")|(walk_at"cl"))
   |(walk_at"bm"))
  |((with_reducible change L2.EV _ (PySem.Expr.Compare _ [_] [_] _) _ _ _);refine L2.agk (by first|exact L2.Jx _ (by decide) (by decide)|rfl) ?_)
  |((with_reducible change L2.EV _ (PySem.Expr.Compare _ [_,_] [_,_] _) _ _ _);refine L2.agy (by with_unfolding_all rfl) ?_)
  |(with_reducible first|refine L2.agP ?_|refine L2.agf ?_|refine L2.agG ?_)
  |((with_reducible change L2.EV _ (PySem.Expr.Subscript _ _ _) _ _ _);refine L2.ahM (λ_ _=>by rfl) ?_)
  |(with_reducible first|refine L2.Ig ?_|refine L2.aar ?_|refine L2.Wb ?_|refine L2.YJ ?_|refine L2.aeH ?_|refine L2.abv ?_|refine L2.PX ?_|refine L2.ahs ?_|refine L2.ai4 ?_))
 |((with_reducible change L2.EA _ _ _ _ _);first
  |(with_reducible refine L2.jy ?_)
  |(refine L2.dN (by rfl) ?_))
 |((with_reducible change L2.ET _ _ _ _ _);first
  |((with_reducible change L2.ET _ (PySem.Expr.Compare _ [_] [_] _) _ _ _);refine L2.ac0 (by first|exact L2.Jx _ (by decide) (by decide)|rfl) ?_)
  |((with_reducible change L2.ET _ (PySem.Expr.Compare _ [_,_] [_,_] _) _ _ _);refine L2.aa9 (by with_unfolding_all rfl) ?_)
  |(with_reducible refine L2.Y5 ?_)
  |((with_reducible change L2.ET _ (PySem.Expr.BoolOp _ _ _) _ _ _);refine L2.mF ?_)
  |((with_reducible first|change L2.ET _ (PySem.Expr.Name _ _) _ _ _|change L2.ET _ (PySem.Expr.Call _ _ _ _) _ _ _|change L2.ET _ (PySem.Expr.Subscript _ _ _) _ _ _|change L2.ET _ (PySem.Expr.Constant _ _ _) _ _ _);refine L2.Gv (λ_=>by rfl) ?_))
 |((with_reducible change L2.EW _ _ _ _ _);with_reducible first|refine L2.Y4 ?_|refine L2.aaS ?_|refine L2.afO ?_|refine L2.aax ?_)
 |((with_reducible change L2.EO _ _ _ _ _);with_reducible first|refine L2.abo ?_|refine L2.Xv ?_)
 |((with_reducible change L2.vh _ _ _ _ _ _);first
  |((with_reducible change L2.vh _ (PySem.Expr.Constant _ _ _::_) _ _ _ _);refine L2.Z2 (L2.Pa ⟨_,200,rfl,by decide+kernel,by omega,?_⟩))
  |((with_reducible change L2.vh _ (PySem.Expr.FormattedValue _ _ _ _::_) _ _ _ _);refine L2.Z2 ?_)
  |(refine L2.akv (by omega) ?_)))
local macro_rules | `(tactic| walk_at "o") => `(tactic| with_reducible first
 |refine L2.afc ?_|refine L2.agB ?_|refine L2.adv ?_|refine L2.abC ?_|refine L2.WY ?_|refine L2.afV ?_
 |refine L2.aeo ?_|refine L2.Z1 ?_|refine L2.aej ?_|refine L2.abx ?_|refine L2.alh ?_|refine L2.Wa ?_
 |refine L2.aiI ?_|refine L2.ald ?_|refine L2.akh ?_|refine L2.aiz ?_)
local macro_rules | `(tactic| walk_at "o2") => `(tactic| first
 |((with_reducible change L2.OP _ (PySem.compareOp PySem.CmpOp.Eq) _ _ _ _);refine L2.Az (by rfl) ?_)
 |((with_reducible change L2.OP _ (PySem.compareOp PySem.CmpOp.NotEq) _ _ _ _);refine L2.Bf (by rfl) ?_)
 |((with_reducible change L2.OP _ (PySem.binaryOp PySem.Operator.Mod) (L2.V.int _) (L2.V.int _) _ _);refine L2.acE (by first|decide|omega) ?_)
 |((with_reducible change L2.OP _ (PySem.binaryOp PySem.Operator.Mult) (L2.V.int _) (L2.V.int _) _ _);refine L2.aeA (by first|exact Or.inr ⟨by decide,by decide⟩|exact Or.inl ⟨by decide,by decide⟩|exact Or.inl ⟨by omega,by omega⟩|exact Or.inr ⟨by omega,by omega⟩) ?_)
 |((with_reducible change L2.OP _ (PySem.binaryOp PySem.Operator.Pow) (L2.V.int _) (L2.V.int _) _ _);refine L2.akJ ⟨by decide,by decide,by decide⟩ ?_)
 |((with_reducible change L2.CL _ (PySem.Value.builtin "len") [L2.V.ref _] _ _);refine L2.zB (Or.inl (by assumption)) ?_)
 |((with_reducible change L2.CL _ (PySem.Value.builtin "len") [L2.V.str _] _ _);refine L2.aby (by omega) ?_)
 |((with_reducible change L2.CL _ (PySem.Value.builtin "ord") [L2.V.str _] _ _);refine L2.afo ?_)
 |((with_reducible change L2.CL _ (PySem.Value.builtin "isinstance") _ _ _);first|refine L2.KD (k:=false) ?_|refine L2.KD (k:=true) ?_))
local macro_rules | `(tactic| walk_at "t") => `(tactic| first
 |(with_reducible refine L2.Z5 ?_)
 |(with_reducible refine L2.ahI ?_)
 |(with_reducible refine L2.adP ?_)
 |(with_reducible refine L2.abk ?_)
 |(with_reducible first|refine L2.ahO ?_|refine L2.aeF ?_|refine L2.aet ?_|refine L2.Xy ?_|refine L2.aj1 ?_|refine L2.ab1 ?_|refine L2.ahH ?_|refine L2.aaE ?_|refine L2.ajk ?_|refine L2.aj4 ?_)
 |((with_reducible change ∃k,L2.V.bl _=L2.V.bl k/\_);refine⟨_,rfl,?_⟩)
 |((with_reducible change ∃k,L2.zO _ (L2.V.bl _) _ k/\_);refine⟨_,rfl,?_⟩)
 |((with_reducible change ∃i,L2.V.int _=L2.V.int i/\_);refine⟨_,rfl,?_⟩)
 |((with_reducible change L2.pZ _ _ (L2.V.str _) _/\_);refine⟨by rfl,?_⟩))
local macro_rules | `(tactic| walk_at "c") => `(tactic| (refine L2.Qj ?_; intro _ _))
local macro_rules | `(tactic| walk_at "n") => `(tactic| (refine L2.N7 ?_; intro _))
local macro_rules | `(tactic| walk_at "s") => `(tactic| first
 |(with_reducible refine L2.Ζ ?_)
 |((with_reducible refine L2.N7 ?_);intro _)
 |((with_reducible refine L2.Qj ?_);intro _ _)
 |(with_reducible refine L2.ω ?_)
 |(with_reducible refine L2.akK ?_)
 |(with_reducible refine L2.ak3 ?_)
 |(with_reducible refine L2.Κ ?_)
 |((with_reducible change L2.SX _ (PySem.Stmt.Assign [PySem.Expr.Name _ _] _ _) _ _ _);refine L2.agc (by assumption) (by rfl) (by first|exact Or.inl rfl|exact Or.inr rfl) (by rfl) (by first|exact Or.inl rfl|exact Or.inr rfl) ?_)
 |((with_reducible change L2.SX _ (PySem.Stmt.Expr _ _) _ _ _);refine L2.bA ?_))
local macro_rules | `(tactic| walk_at "go") => `(tactic| repeat' (first | (walk_at "e") | (walk_at "o") | (walk_at "o2") | (walk_at "t") | (walk_at "s")))
local macro_rules | `(tactic| walk_at "ex") => `(tactic| repeat' (first | (walk_at "e") | (walk_at "o") | (walk_at "o2") | (walk_at "t")))
namespace L2
theorem abP{α:Type}{us:List α}(h:us.length=1):∃a,us=[a]:=match us,h with|[a],_=>#[a,rfl]
theorem afN{α:Type}{us:List α}(h:us.length=2):∃a b,us=[a,b]:=match us,h with|[a,b],_=>#[a,b,rfl]
theorem JQ{α:Type}{us:List α}(h:us.length=3):∃a b c,us=[a,b,c]:=match us,h with|[a,b,c],_=>#[a,b,c,rfl]
theorem Zi{α:Type}{us:List α}(h:us.length=4):∃a b c d,us=[a,b,c,d]:=match us,h with|[a,b,c,d],_=>#[a,b,c,d,rfl]
theorem acU{α:Type}{us:List α}(h:us.length=5):∃a b c d e,us=[a,b,c,d,e]:=match us,h with|[a,b,c,d,e],_=>#[a,b,c,d,e,rfl]
theorem abL{α:Type}{us:List α}(h:us.length=6):∃a b c d e f,us=[a,b,c,d,e,f]:=match us,h with|[a,b,c,d,e,f],_=>#[a,b,c,d,e,f,rfl]
end L2
local macro_rules | `(tactic| walk_at "b1") => `(tactic| (intro _ _ _ _ _ _ us hl; obtain ⟨_, e⟩ := L2.abP hl; subst e; rfl))
local macro_rules | `(tactic| walk_at "b2") => `(tactic| (intro _ _ _ _ _ _ us hl; obtain ⟨_, _, e⟩ := L2.afN hl; subst e; rfl))
local macro_rules | `(tactic| walk_at "b3") => `(tactic| (intro _ _ _ _ _ _ us hl; obtain ⟨_, _, _, e⟩ := L2.JQ hl; subst e; rfl))
local macro_rules | `(tactic| walk_at "b4") => `(tactic| (intro _ _ _ _ _ _ us hl; obtain ⟨_, _, _, _, e⟩ := L2.Zi hl; subst e; rfl))
local macro_rules | `(tactic| walk_at "b5") => `(tactic| (intro _ _ _ _ _ _ us hl; obtain ⟨_, _, _, _, _, e⟩ := L2.acU hl; subst e; rfl))
local macro_rules | `(tactic| walk_at "b6") => `(tactic| (intro _ _ _ _ _ _ us hl; obtain ⟨_, _, _, _, _, _, e⟩ := L2.abL hl; subst e; rfl))
local macro_rules | `(tactic| walk_at "bb") => `(tactic| first | walk_at "b1" | walk_at "b2" | walk_at "b3" | walk_at "b4" | walk_at "b5" | walk_at "b6")
local macro_rules | `(tactic| walk_at "ln") => `(tactic| (intro _ _ _ _ h; cases h; subst_vars; rfl))
local macro_rules | `(tactic| walk_at "A") => `(tactic| (walk_at "c"; walk_at "s"; walk_at "ex"))
namespace K93
open PySem L2 PyProof.Rows
def top(i:Nat):Ϩ:=PySem.Challenge.pw_turnleaf_k93_whole_to_and_fro.main.body.getD i (.Pass #[0,0,0,0])
abbrev Im:Ϩ:=top 26
abbrev Bx:Ϩ:=top 33
abbrev QF:Ϩ:=top 34
abbrev Qx:Ϩ:=top 35
abbrev Oh:Ϩ:=top 37
abbrev Bb:Ϩ:=top 43
abbrev Vp:Ϩ:=top 44
abbrev Vy:Ϩ:=top 45
abbrev Cp:Ϩ:=top 47
abbrev JD:Ϩ:=top 52
abbrev xJ:Ϩ:=top 53
abbrev V1:Ϩ:=top 54
abbrev Rr:Ϩ:=top 55
abbrev Vb:Ϩ:=top 56
abbrev uQ:Ϩ:=top 64
abbrev JL:Ϩ:=top 65
abbrev v5:Ϩ:=top 66
abbrev QK:Ϩ:=top 68
abbrev Ik:Ϩ:=top 72
abbrev RT:Ϩ:=top 73
abbrev qU:Ϩ:=top 74
abbrev Mi:Ϩ:=top 75
abbrev Pn:Ϩ:=top 76
abbrev Qp:Ϩ:=top 81
abbrev Q6:Ϩ:=top 110
abbrev T5:Ϩ:=top 111
abbrev Ud:Ϩ:=top 112
abbrev M4:Ϩ:=top 113
abbrev Ks:Ϩ:=top 114
abbrev Vi:Ϩ:=top 115
abbrev Vd:Ϩ:=top 116
abbrev Gp:Ϩ:=top 126
abbrev O2:Ϩ:=top 127
abbrev VL:Ϩ:=top 128
abbrev J7:Ϩ:=top 129
abbrev yP:Ϩ:=top 131
abbrev R6:Ϩ:=top 132
abbrev Nf:Ϩ:=top 133
abbrev Ar:Ϩ:=top 135
abbrev qg:Ϩ:=top 138
abbrev RB:Ϩ:=top 142
abbrev V5:Ϩ:=top 146
abbrev NK:Ϩ:=top 150
abbrev lg:Ϩ:=top 151
abbrev RC:Ϩ:=top 153
abbrev V6:Ϩ:=top 156
abbrev CT:Ϩ:=top 157
abbrev yE:Ϩ:=top 158
abbrev du:Ϩ:=top 159
abbrev Ek:Ϩ:=inClass (top 84) 0
abbrev Su:Ϩ:=inClass (top 84) 1
abbrev jJ:Ϩ:=inClass (top 84) 2
abbrev M5:Ϩ:=inClass (top 86) 0
abbrev JX:Ϩ:=inClass (top 86) 1
abbrev uh:Ϩ:=inClass (top 87) 0
abbrev rM:Ϩ:=inClass (top 87) 1
abbrev TQ:Ϩ:=inClass (top 87) 2
abbrev Sh:Ϩ:=inClass (top 90) 0
abbrev Tt:Ϩ:=inClass (top 91) 0
abbrev Q3:Ϩ:=inClass (top 92) 0
abbrev Uq:Ϩ:=inClass (top 92) 1
abbrev Pb:Ϩ:=inClass (top 93) 0
abbrev U3:Ϩ:=inClass (top 95) 0
abbrev T4:Ϩ:=inClass (top 148) 0
abbrev Km:Ϩ:=inClass (top 148) 1
abbrev Jp:Ϩ:=inClass (top 148) 2
abbrev JC:Ϩ:=inClass (top 148) 3
abbrev uZ:Ϩ:=inClass (top 148) 4
abbrev V3:Ϩ:=inClass (top 148) 5
abbrev Ja:Ϩ:=inClass (top 148) 6
abbrev Ir:Ϩ:=inClass (top 148) 7
abbrev J8:Ϩ:=inClass (top 148) 8
abbrev J9:Ϩ:=inClass (top 148) 11
abbrev Ih:Ϩ:=inClass (top 148) 12
abbrev Rn:Ϩ:=inClass (top 148) 15
abbrev Bu:Ϩ:=inClass (top 148) 16
structure Txt(K:ϩ)(mg:Str->Option ε):Prop where
 ql:DX K mg "is_whole" (top 25)
 tM:DX K mg "made_of" Im
 zW:DX K mg "is_number_value" (top 27)
 uH:DX K mg "is_text_value" (top 28)
 yo:DX K mg "is_value" (top 29)
 xP:DX K mg "value_before" (top 30)
 zX:DX K mg "value_word" (top 31)
 yR:DX K mg "are_figures" (top 32)
 uA:DX K mg "read_figures" Bx
 Ec:DX K mg "read_number_word" QF
 Cz:DX K mg "read_text_word" Qx
 uW:DX K mg "read_value" (top 36)
 Ei:DX K mg "read_values" Oh
 yZ:DX K mg "is_name" (top 42)
 yK:DX K mg "ask_columns" Bb
 mQ:DX K mg "place_of" Vp
 CW:DX K mg "row_words" Vy
 Eb:DX K mg "is_row_number" (top 46)
 zj:DX K mg "is_row" Cp
 Ah:DX K mg "read_order_word" JD
 xU:DX K mg "read_order" xJ
 Gs:DX K mg "order_text" V1
 wR:DX K mg "key_of" Rr
 zr:DX K mg "key_ahead" Vb
 BK:DX K mg "number_of" (top 62)
 Ac:DX K mg "rank_of" (top 63)
 Ak:DX K mg "sorted_by" uQ
 Ag:DX K mg "let_through" JL
 Am:DX K mg "line_of" v5
 zR:DX K mg "lies_ahead" (top 67)
 wU:DX K mg "cut_place" QK
 xY:DX K mg "ask_size" (top 71)
 Fi:DX K mg "copy_of_cut" Ik
 G3:DX K mg "cut_beside" RT
 xH:DX K mg "leaf_between" qU
 zT:DX K mg "leaf_forth" Mi
 Ck:DX K mg "leaf_back" Pn
 Ew:DX K mg "check_of" Qp
 ue:DX K mg "check_word" (top 82)
 nJ:DX K mg "word_at" (top 108)
 mX:DX K mg "text_between" (top 109)
 vg:DX K mg "read_column" Q6
 Gm:DX K mg "read_word" T5
 Gk:DX K mg "read_none" Ud
 zE:DX K mg "read_of_value" M4
 Io:DX K mg "read_of_sieves" Ks
 Td:DX K mg "read_part" Vi
 aeJ:DX K mg "read_sieve" Vd
 zg:DX K mg "cut_text" Gp
 yr:DX K mg "mark_text" O2
 Eu:DX K mg "read_make" VL
 wN:DX K mg "read_whole" J7
 Gz:DX K mg "read_side" (top 130)
 Dh:DX K mg "read_cut" yP
 Gn:DX K mg "read_body" R6
 FW:DX K mg "read_mark" Nf
 Be:DX K mg "rows_of_list" Ar
 DP:DX K mg "is_untouched" (top 136)
 Gd:DX K mg "mark_at" (top 137)
 nA:DX K mg "leaf_from" qg
 v7:DX K mg "begin_of" (top 139)
 Gf:DX K mg "first_leaf" (top 140)
 yI:DX K mg "last_leaf" (top 141)
 wL:DX K mg "read_good_mark" RB
 z9:DX K mg "turn_forth" (top 143)
 El:DX K mg "turn_back" (top 144)
 vR:DX K mg "told_rows" V5
 nU:DX K mg "_law_draw" NK
 DN:DX K mg "_law_book" lg
 yU:DX K mg "_law_order" (top 152)
 Cj:DX K mg "_law_order_words" RC
 Aw:DX K mg "_law_sieve_words" (top 154)
 Bj:DX K mg "_law_lets" (top 155)
 Bs:DX K mg "_law_ahead" V6
 Eh:DX K mg "_law_line" CT
 By:DX K mg "_law_leaf" yE
 adz:DX K mg "law" du
 BL:Gc mg "NUMBER" (.str "number")
 Kf:Gc mg "TEXT" (.str "text")
 agD:Gc mg "FIGURES" (.str "0123456789")
 adO:Gc mg "LETTERS" (.str "abcdefghijklmnopqrstuvwxyz")
 ahU:Gc mg "TEXT_SIGNS" (.str "abcdefghijklmnopqrstuvwxyz0123456789-")
 QJ:Gc mg "LARGEST" (.int 1000000000000000000)
 aen:Gc mg "LONGEST" (.int 20)
 Te:Gc mg "NONE_WORD" (.str "?")
 K4:Gc mg "TEXT_AHEAD" (.str "'")
 abX:Gc mg "BELOW_AHEAD" (.str "-")
 Zz:Gc mg "MOST_COLUMNS" (.int 6)
 abA:Gc mg "LONGEST_NAME" (.int 8)
 Th:Gc mg "LARGEST_ROW" (.int 1000000000)
 acC:Gc mg "MOST_IN_ORDER" (.int 4)
 Um:Gc mg "UP_AHEAD" (.str "+")
 Hf:Gc mg "DOWN_AHEAD" (.str "-")
 T3:Gc mg "START" (.str "start")
 Uo:Gc mg "END" (.str "end")
 qt:Gc mg "AHEAD" (.str "ahead")
 Ai:Gc mg "BEHIND" (.str "behind")
 aat:Gc mg "LARGEST_SIZE" (.int 100)
 ae1:Gc mg "BASE" (.int 137)
 Y9:Gc mg "REST_BY" (.int 9973)
 agl:Gc mg "FIGURES_OF_CHECK" (.int 4)
 ah7:Gc mg "MOST_WORDS" (.int 60)
 Qc:Gc mg "MOST_WITHIN" (.int 20)
 Ly:Gc mg "ALL" (.str "all")
 KJ:Gc mg "NONE" (.str "none")
 Em:Gc mg "IS" (.str "is")
 yj:Gc mg "UNDER" (.str "under")
 zJ:Gc mg "OVER" (.str "over")
 Bh:Gc mg "HOLDS" (.str "holds")
 zA:Gc mg "NOT" (.str "not")
 Ae:Gc mg "BOTH" (.str "both")
 aag:Gc mg "EITHER" (.str "either")
 Cq:Gc mg "LIVING" (.str "living")
 MN:Gc mg "STILL" (.str "still")
 abh:Gc mg "LATEST" (.int 5000)
 abV:Gc mg "PARTS" (.int 5)
 Up:Gc mg "PARTING" (.str "/")
 Ln:Gc mg "STOP" (.str ".")
 Nz:Gc mg "AHEAD_SIGN" (.str "<")
 Hn:Gc mg "BEHIND_SIGN" (.str ">")
 Jz:mg "all"=none
 Zt:mg "bool"=none
 aaf:mg "dict"=none
 agL:mg "enumerate"=none
 Mq:mg "int"=none
 DK:mg "isinstance"=none
 bF:mg "len"=none
 jW:mg "list"=none
 DW:mg "max"=none
 Cg:mg "min"=none
 ahb:mg "ord"=none
 PN:mg "range"=none
 Ri:mg "reversed"=none
 Hd:mg "set"=none
 tV:mg "sorted"=none
 pB:mg "str"=none
 O7:mg "tuple"=none
 Bt:mg "zip"=none
 vG:mg "Sieve"=some (.ref (ξ mg "Sieve"))
 Yo:mg "AllSieve"=some (.ref (ξ mg "AllSieve"))
 ZF:mg "NoneSieve"=some (.ref (ξ mg "NoneSieve"))
 aij:mg "IsSieve"=some (.ref (ξ mg "IsSieve"))
 Xg:mg "OverSieve"=some (.ref (ξ mg "OverSieve"))
 agA:mg "HoldsSieve"=some (.ref (ξ mg "HoldsSieve"))
 afQ:mg "NotSieve"=some (.ref (ξ mg "NotSieve"))
 abS:mg "EitherSieve"=some (.ref (ξ mg "EitherSieve"))
 abn:mg "Book"=some (.ref (ξ mg "Book"))
 xg:Ϙ K (ξ mg "AllSieve")
 Yc:OI K (ξ mg "AllSieve") "Sieve.__init__" Ek
 agR:OM K (ξ mg "AllSieve") "lets" "Sieve.lets" Su
 Xf:OM K (ξ mg "AllSieve") "shown" "Sieve.shown" jJ
 TY:Ρ K (ξ mg "AllSieve") "text"
 tL:Ϙ K (ξ mg "NoneSieve")
 ahx:OI K (ξ mg "NoneSieve") "NoneSieve.__init__" M5
 afv:OM K (ξ mg "NoneSieve") "lets" "NoneSieve.lets" JX
 ag4:OM K (ξ mg "NoneSieve") "shown" "Sieve.shown" jJ
 Le:Ρ K (ξ mg "NoneSieve") "text"
 Od:Ρ K (ξ mg "NoneSieve") "place"
 nM:Ϙ K (ξ mg "IsSieve")
 acs:OI K (ξ mg "IsSieve") "ValueSieve.__init__" uh
 YH:OM K (ξ mg "IsSieve") "fits" "ValueSieve.fits" TQ
 YM:OM K (ξ mg "IsSieve") "lets" "ValueSieve.lets" rM
 Yg:OM K (ξ mg "IsSieve") "shown" "Sieve.shown" jJ
 HR:Ρ K (ξ mg "IsSieve") "text"
 HX:Ρ K (ξ mg "IsSieve") "place"
 QL:Ρ K (ξ mg "IsSieve") "value"
 oU:Ϙ K (ξ mg "OverSieve")
 YX:OI K (ξ mg "OverSieve") "ValueSieve.__init__" uh
 WK:OM K (ξ mg "OverSieve") "fits" "OverSieve.fits" Sh
 ael:OM K (ξ mg "OverSieve") "lets" "ValueSieve.lets" rM
 Zo:OM K (ξ mg "OverSieve") "shown" "Sieve.shown" jJ
 K6:Ρ K (ξ mg "OverSieve") "text"
 K9:Ρ K (ξ mg "OverSieve") "place"
 Oa:Ρ K (ξ mg "OverSieve") "value"
 pG:Ϙ K (ξ mg "HoldsSieve")
 ade:OI K (ξ mg "HoldsSieve") "ValueSieve.__init__" uh
 aeI:OM K (ξ mg "HoldsSieve") "fits" "HoldsSieve.fits" Tt
 ae9:OM K (ξ mg "HoldsSieve") "lets" "ValueSieve.lets" rM
 ZM:OM K (ξ mg "HoldsSieve") "shown" "Sieve.shown" jJ
 O6:Ρ K (ξ mg "HoldsSieve") "text"
 VD:Ρ K (ξ mg "HoldsSieve") "place"
 OJ:Ρ K (ξ mg "HoldsSieve") "value"
 rF:Ϙ K (ξ mg "NotSieve")
 Wg:OI K (ξ mg "NotSieve") "NotSieve.__init__" Q3
 agI:OM K (ξ mg "NotSieve") "lets" "NotSieve.lets" Uq
 ae0:OM K (ξ mg "NotSieve") "shown" "Sieve.shown" jJ
 NP:Ρ K (ξ mg "NotSieve") "text"
 HJ:Ρ K (ξ mg "NotSieve") "one"
 pP:Ϙ K (ξ mg "EitherSieve")
 ae3:OI K (ξ mg "EitherSieve") "PairSieve.__init__" Pb
 afE:OM K (ξ mg "EitherSieve") "lets" "EitherSieve.lets" U3
 aga:OM K (ξ mg "EitherSieve") "shown" "Sieve.shown" jJ
 Uz:Ρ K (ξ mg "EitherSieve") "text"
 T6:Ρ K (ξ mg "EitherSieve") "one"
 R7:Ρ K (ξ mg "EitherSieve") "other"
 Ϝ:Ϙ K (ξ mg "Book")
 afL:OI K (ξ mg "Book") "Book.__init__" T4
 PQ:OM K (ξ mg "Book") "ask_row" "Book.ask_row" Jp
 Gw:OM K (ξ mg "Book") "ask_there" "Book.ask_there" JC
 adH:OM K (ξ mg "Book") "change" "Book.change" Ja
 yq:OM K (ξ mg "Book") "columns" "Book.columns" Km
 Dk:OM K (ξ mg "Book") "do" "Book.do" uZ
 Ys:OM K (ξ mg "Book") "done_behind" "Book.done_behind" Rn
 xj:OM K (ξ mg "Book") "moment" "Book.moment" J8
 aib:OM K (ξ mg "Book") "now_rows" "Book.now_rows" Ih
 aaZ:OM K (ξ mg "Book") "put" "Book.put" V3
 X6:OM K (ξ mg "Book") "rows_at" "Book.rows_at" Bu
 aaR:OM K (ξ mg "Book") "since" "Book.since" J9
 adY:OM K (ξ mg "Book") "take" "Book.take" Ir
 zy:Ρ K (ξ mg "Book") "heads"
 pO:Ρ K (ξ mg "Book") "rows"
 Fp:Ρ K (ξ mg "Book") "touched"
 G6:Ρ K (ξ mg "Book") "done"
 Qy:Ρ K (ξ mg "Book") "known"
 tW:Ρ K (ξ mg "Book") "now"
 xZ:OB K (ξ mg "Sieve") "__init__" "Sieve.__init__" Ek
abbrev Yi:List Str:=["self","values","value"]
theorem Ha:Υ Yi ["self","values"] (ψ rM):=by room
abbrev aam:List Str:=["self","row","values","was"]
theorem HY:Υ aam ["self","row","values"] (ψ uZ):=by room
abbrev adu:List Str:=["self","moment","rows","deed"]
theorem Oe:Υ adu ["self","moment"] (ψ Bu):=by room
abbrev aeQ:List Str:=["word","most","number"]
theorem Lh:Υ aeQ ["word","most"] (ψ Bx):=by room
abbrev aaq:List Str:=["word","below","number"]
theorem Ji:Υ aaq ["word"] (ψ QF):=by room
abbrev afk:List Str:=["word"]
theorem Ht:Υ afk ["word"] (ψ Qx):=by room
abbrev afM:List Str:=["columns","name","kind","names"]
theorem Ip:Υ afM ["columns"] (ψ Bb):=by room
abbrev ZS:List Str:=["columns","name","place","column"]
theorem Nv:Υ ZS ["columns","name"] (ψ Vp):=by room
abbrev agd:List Str:=["columns","row","values"]
theorem Ld:Υ agd ["columns","row","values"] (ψ Cp):=by room
abbrev abb:List Str:=["columns","word","sign","name"]
theorem Tq:Υ abb ["columns","word"] (ψ JD):=by room
abbrev X7:List Str:=["columns","text","words","order","names"]
theorem U8:Υ X7 ["columns","text"] (ψ xJ):=by room
abbrev abD:List Str:=["order","one","other","column","value","against"]
theorem Tv:Υ abD ["order","one","other"] (ψ Vb):=by room
def jE:Array ε:=yW #[182,4,183,38] "sorted_by.<locals>.rank"
abbrev Kh:List Str:=["rows","place","up","rank"]
theorem JZ:Υ Kh ["rows","place","up"] (ψ uQ):=by room
abbrev Nb:List Str:=["columns","order","rows","line","name","up"]
theorem KZ:Υ Nb ["columns","order","rows"] (ψ v5):=by room
abbrev Z9:List Str:=["columns","order","line","cut","low","high","middle","row","values"]
theorem MK:Υ Z9 ["columns","order","line","cut"] (ψ QK):=by room
abbrev abz:List Str:=["cut","values","row"]
theorem Hs:Υ abz ["cut"] (ψ Ik):=by room
abbrev aeu:List Str:=["columns","order","side","rows","cut","row","values"]
theorem KN:Υ aeu ["columns","order","side","rows","cut"] (ψ RT):=by room
abbrev XH:List Str:=["columns","order","line","cut","start","stop","here","back","forth"]
theorem Qe:Υ XH ["columns","order","line","cut","start","stop"] (ψ qU):=by room
abbrev aie:List Str:=["columns","order","line","cut","size","start"]
theorem Pk:Υ aie ["columns","order","line","cut","size"] (ψ Mi):=by room
abbrev aaG:List Str:=["columns","order","line","cut","size","stop"]
theorem Q5:Υ aaG ["columns","order","line","cut","size"] (ψ Pn):=by room
abbrev ad0:List Str:=["text","total","power","sign"]
theorem Nx:Υ ad0 ["text"] (ψ Qp):=by room
abbrev abf:List Str:=["columns","words","place","column"]
theorem Rj:Υ abf ["columns","words","place"] (ψ Q6):=by room
abbrev acx:List Str:=["kind","words","place","word","value"]
theorem Ii:Υ acx ["kind","words","place"] (ψ T5):=by room
abbrev af4:List Str:=["columns","words","start","column"]
theorem Mu:Υ af4 ["columns","words","start"] (ψ Ud):=by room
abbrev afy:List Str:=["columns","words","start","word","column","kind","value","text"]
theorem VH:Υ afy ["columns","words","start"] (ψ M4):=by room
abbrev aez:List Str:=["columns","words","start","within","word","one","behind","other","text"]
theorem wX:Υ aez ["columns","words","start","within"] (ψ Ks):=by room
abbrev Yn:List Str:=["columns","words","start","within","word"]
theorem v8:Υ Yn ["columns","words","start","within"] (ψ Vi):=by room
abbrev afI:List Str:=["columns","text","words","sieve","behind"]
theorem HW:Υ afI ["columns","text"] (ψ Vd):=by room
abbrev Wd:List Str:=["cut","values","row","sign"]
theorem Kr:Υ Wd ["cut"] (ψ Gp):=by room
abbrev aft:List Str:=["mark","make","moment","order","sieve","cut","body"]
theorem V8:Υ aft ["mark"] (ψ O2):=by room
abbrev aee:List Str:=["letter","make"]
theorem Rm:Υ aee ["letter"] (ψ VL):=by room
abbrev aeg:List Str:=["word","most","number"]
theorem R5:Υ aeg ["word","most"] (ψ J7):=by room
abbrev acJ:List Str:=["columns","order","text","side","words","row","kinds"]
theorem Vc:Υ acJ ["columns","order","text"] (ψ yP):=by room
abbrev aaT:List Str:=["columns","body","parts","make","moment","order","sieve"]
theorem O1:Υ aaT ["columns","body"] (ψ R6):=by room
abbrev abK:List Str:=["columns","text","body","stop","check"]
theorem QW:Υ abK ["columns","text"] (ψ Nf):=by room
abbrev XR:List Str:=["book","make","begin","sieve","rows"]
theorem Ul:Υ XR ["book","make","begin","sieve"] (ψ Ar):=by room
abbrev ZG:List Str:=["book","mark","size","onward","make","begin","order","text","cut","columns","line","here","back","forth","ahead","rows","moment"]
theorem RK:Υ ZG ["book","mark","size","onward"] (ψ qg):=by room
abbrev abr:List Str:=["book","text","mark"]
theorem JW:Υ abr ["book","text"] (ψ RB):=by room
abbrev aaH:List Str:=["_law_script","_law_k","_law_many","_law_cell","_law_seed"]
theorem TJ:Υ aaH ["_law_script","_law_k","_law_many"] (ψ NK):=by room
abbrev zH:List Str:=["_law_script","_law_book_here","_law_table","_law_k","_law_row","_law_number","_law_values"]
theorem GK:Υ zH ["_law_script"] (ψ lg):=by room
abbrev ahQ:List Str:=["_law_order_here","_law_one","_law_other","_law_name","_law_up","_law_at","_law_first","_law_second","_law_before"]
theorem V9:Υ ahQ ["_law_order_here","_law_one","_law_other"] (ψ V6):=by room
abbrev af2:List Str:=["_law_table","_law_order_here","_law_sieve","_law_left","_law_line_here","_law_best","_law_one"]
theorem Kz:Υ af2 ["_law_table","_law_order_here","_law_sieve"] (ψ CT):=by room
abbrev Xi:List Str:=["_law_leaf_here","_law_line_here","_law_at","_law_after","_law_moment","_law_rows","_law_back","_law_forth","_law_many","_law_ahead_here","_law_told"]
theorem Pu:Υ Xi ["_law_leaf_here","_law_line_here","_law_at","_law_after","_law_moment"] (ψ yE):=by room
abbrev pH:List Str:=["_law_script","_law_made","_law_book_here","_law_order_here","_law_text","_law_sieve","_law_words","_law_size","_law_make","_law_line_here","_law_at","_law_after","_law_leaf_here","_law_kept","_law_k","_law_ways","_law_mark"]
theorem Gh:Υ pH ["_law_script"] (ψ du):=by room
section
variable{P:Ϯ}{w:ϭ}{K:ϩ}{mg:Str->Option ε}{base:ϫ}{cc:Bool}{k:Nat}{sp:Sp}
end
end K93
namespace K93
open PySem L2 PyProof.Rows My Vl Lw
section
variable{P:Ϯ}{w:ϭ}{K:ϩ}{mg:Str->Option ε}{base:ϫ}
abbrev ahG:Prop:=∀{P:Ϯ}{w:ϭ}{K:ϩ}{mg:Str->Option ε}{base:ϫ}(T:Txt K mg)(hN:dW K mg base "sorted_by"){f:δ}{fd:ahC}(F:cj K "law" "law" du f fd),cG P w K mg base (bU P w) true 60 f fd ["_law_script"] (Dj K "sorted_by" jE)
end
end K93
set_option genInjectivity false in
set_option genSizeOf false in
structure PySem.W.Fast where(tw1653889032004789309 tw7136020499739916616 tw13805590455976108665 tw5869659142577355126 tw13450508749153465777 tw5134885873208452100 tw13226254266739093363 tw1275528014714767795 tw13038258863305388061 tw14064690212401697846 tw4237922442882827079 tw2111618277363522395 tw7197709966276954774 tw7800404844326239496 tw13311908890284341355 tw5694921888881100235 tw6140334517305854387 tw13823995151550328194 tw6581603191869595947 tw8368540479495058402 tw10677662076313853869 tw7560562361133204975 tw11014581115690326490 tw5038140484347577300 tw10637619859036573419 tw3227756543016561854 tw11508134070381037182 tw2246512199216090263 tw11443782498347748006 tw14234126734548383393 tw9315487191818586063 tw16318721791783999487 tw12748360526457030835 tw13989618562026669451 tw7455809072615732527 tw8643157395548482469 tw12041661462436176641 tw17382221587278529084 tw4661844284175090952 tw425609125221757348 tw2173278299059884028 tw12382812744443024917 tw5937579056984057785 tw10233077157210259277 tw3806746666321189450 tw16791582189812173698 tw6373721893512568185 tw17890428222432440700 tw3222288169994941668 tw9529959857659364836 tw1108378170991494209 tw11792159648949025075 tw4237626930588909435 tw13268415728756466141 tw9120178477558626571 tw3969219781774479830 tw8866579468808396530 tw16761194494679087818 tw3489856455456697191 tw17869493879235447613 tw8302502287127418443 tw18155021606216194367 tw8287696030165436617 tw4598105110721288057 tw16159688758647492710 tw13221619237564211036 tw2742563106771848234 tw17744928122866322925 tw8951368245542966435 tw15449269149415778226 tw12205002151064985682 tw8664301819404110975 tw6467886661319507833 tw12713644092451055708 tw382383869607752150 tw9613838436587978318 tw8783819758302606182 tw17422541922973142823 tw14010738632804126514 tw81737807542182842 tw6975855293884378222 tw10007612983766076363 tw8603094152179878111 tw3142609242263994179 tw5338151921597624922 tw14406210457281975638 tw9258037381251093561 tw12895952782616881514 tw8052150492890735563 tw9828931335783690890 tw16519125492876963833 tw1344148194130489432 tw15345460339247418462 tw14894662421876620348 tw12773828276189741082 tw4846486177610696108 tw11583519173720767046 tw15832260215238844164 tw2612217446080735325 tw10792521197784045087 tw2366906496430883417 tw152330132829942788 tw3223756572119810282 tw17761472124998781265 tw13120606977651838610 tw12372055773117141249 tw1466005159161872701 tw17642845353594644184 tw2873078006714770944 tw469568303839875359 tw10407893761845647251 tw9492237707121792112 tw8986990304463624054 tw14423035358126026770 tw4385704902874875911 tw90642468650719095 tw6786139536308004666 tw2446672894866854084 tw10566794537721420352 tw8773871758922554358 tw13285601779714455799 tw5798326382882450120 tw3314645298150373563 tw2602487467901762414 tw4720085534268689108 tw8921108522819914938 tw18086969225035574422 tw13133546680072971174 tw6540431952753395944 tw15946857263944105497 tw11752587465896114784 tw8337183710169556275 tw3750748298272291661 tw11690242510210204244 tw8608082426557051318 tw10884999605191531164 tw10251493928475346586 tw6145574124114432841 tw6440300408389244619 tw2431466730858573638 tw10577790870304511026 tw9146935137173223378 tw8370690193078356627 tw18236116650686373243 tw15501394010361749783 tw9489939349999510811 tw9366027548032488304 tw14072340736869819136 tw1447940028783053126 tw12656065434605068917 tw17959695263268351312 tw14283680626850881168 tw4262293969696501794 tw535757658129571534 tw7215961605807780543 tw16738215465993348602 tw14645884435971268877 tw8491047363460647955 tw13254611618277112290 tw5978175211971474562 tw14522373173408053612 tw15547414737587875076 tw15288889597923788166 tw11571796364050709825 tw3624516795855636434 tw2327752859514410210 tw15919560171175511136 tw15109198750240413837 tw10460587682271979223 tw2949855186514914917 tw10300367595050847720 tw8983476046875578231 tw18090313848468795177 tw1433488009809570702 tw17993392743982085937 tw13585155864912408786 tw3296108405533688598 tw15947551572548024789 tw15288748356367562693 tw7742027043766760084 tw16525340450800313478 tw15710750447928195503 tw16869252614087435631 tw8338900333816098188 tw17447566447648745617 tw6102124103391022091 tw10552655247495822893 tw421630992662099544 tw1258375431604135989 tw1341071266626250615 tw2899388196314616055 tw13181346643756567023 tw15225730642654575989 tw13594163857174181364 tw12046129213318358819 tw17983214935893185800 tw12600398904839659099 tw12570640679625956737 tw4572095201498087749 tw13314911214952506923 tw13473582279090192623 tw7416116767185681648 tw14746315858181157945 tw486045953075931219 tw15859538702145510738 tw984495300447948859 tw3703013086131409388 tw16833923620568985076 tw6087618120149723201 tw14754218595004829867 tw7174961495910796500 tw3617122507750879240 tw6603080124348475885 tw3029281503421826654 tw13528139443352938271 tw11980503401336566403 tw5803893925722221591 tw16300033170422444770 tw1636111333543645562 tw17245311017404804756 tw3521700532016379317 tw6897346582073906039 tw13918413363946922186 tw9886236789267089090 tw1324045797736687794 tw9942158176187159400 tw15883606197292295566 tw10966879327539078521 tw3402544802908448991 tw2039826724376750004 tw6990571345663361721 tw2956023368371895823 tw13128256664485585008 tw1765647272535513926 tw17887033185650552164 tw754471953144104823 tw16170372599524763019 tw6559333526649650776 tw5327812703024139182 tw9470174217738972557 tw10187663403298792803 tw6231875977058896156 tw7885484214545666828 tw3514808183097939789 tw11742884780587449595 tw1437721852418028532 tw4084747830550785201 tw1493623513961712457 tw10356629245691732990 tw17731838987574447252 tw907353107518885882 tw12737371853857715651 tw208693608579196231 tw2035508192249584944 tw3365476004765745317 tw9818978794681971716 tw9948566240679372651 tw7146762818666214007 tw3630862792097016118 tw16517814940733506441 tw445144581760385527 tw18280367255933446502 tw8344862517982555868 tw5103618373459956444 tw10938009338418860221 tw2502205972140235036 tw17429895804269130314 tw5224607468194404200 tw13105303988225908098 tw15739100083872119591 tw2858568484892326238 tw9224849430183306653 tw3154044408150567083 tw325695119436537964 tw3012415282325029630 tw17190391896857196301 tw2446297894398914057 tw1374025354345258737 tw1161067324975982861 tw17526934358060507114 tw17952411065014970125 tw16701236589958892590 tw3206235417431751383 tw5305926819340079388 tw5871218610986875223 tw17508397146353491615 tw10230881047208918827 tw4410225564375523119 tw13531607841851443301 tw4131917669232617892 tw17408462722786430378 tw9011475457943062685 tw10361142185124245010 tw10028192980644889919 tw15488162765696961848 tw16234797826030963327 tw1081432031748667257 tw15227522368360340132 tw11074130504562294351 tw13911213838679244290 tw17258203584628917948 tw13467794121410371755 tw14461167803524071834 tw5929406797487835508 tw5684541581825978710 tw16487934064800822522 tw4169989841691963093 tw11550705227970743450 tw2712127834633706671 tw2218547817978784047 tw15088953750587052869 tw1221672562008056283 tw4889820559018321646 tw987386944418334458 tw2820076571576098486 tw17494141542807894267 tw7632078743819220224 tw11972339992782030138 tw382973720076110557 tw12765035252475320072 tw5550629490511383706 tw6808761153198643454 tw14443255874189298586 tw8629769531178188712 tw10691495235501460401 tw5054781728203982175 tw5680900666418408098 tw4068669698332531083 tw6992962016452994075 tw16796121232831677758 tw16532292654321394577 tw1607060388896137577 tw6533096962978911355 tw12407819530554748013 tw17689445936253724223 tw9629015739574477462 tw8565659678020045352 tw11266123426342022839 tw14970898122786974490 tw1192130670452492867 tw15905973876683068437 tw4744499450626213230 tw16625688315162193830 tw7243924588799063890 tw10915325352646472701 tw2191871742762223574 tw1025474109800484279 tw12152345542263805736 tw4407227822030749683 tw8642500096744215048 tw4706865486185641418 tw16237959100566075835 tw10499183838837280120 tw12274733188952637525 tw6285785034949799180 tw6698386620071247200 tw2771307565354519850 tw14175693958036118500 tw7426248688220773081 tw16730315755101797605 tw10725383782377950669 tw5140441955701677370 tw16450387567947595243 tw13313500376628884071 tw2595166417101911899 tw2003176166642198803 tw18301066039739483900 tw16341212949564314986 tw15368672082220999113 tw14907981695614940070 tw13293773317185713210 tw1041702085770137687 tw3782251142483291051 tw2299617627265528071 tw17966534262980777704 tw3195471366897396775 tw1952784350877151414 tw17429655104638618378 tw17096288449542214587 tw16046805397522110006 tw351026018865979670 tw11094744896002101829 tw5743027616811803718 tw8812357578902567439 tw3685333321922134265 tw3162737001599898891 tw5239746317438368470 tw15636287783063143915 tw11223783471942473290 tw14079515864363579238 tw14731638463949001240 tw9065270991687490665 tw14584028331035981241 tw5375082956359054272 tw2067120243640147270 tw11315050584320425418 tw5656588196038382419 tw16664056207355723685 tw16225090043797307181 tw1302446233088530382 tw12234425821289384019 tw11983453831966268579 tw9860052257720311055 tw18083881689825028456 tw5062201123668078861 tw951981529226535722 tw10660472376155572816 tw17469911044889251086 tw6578595951689308132 tw828922011060324757 tw126471963272310797 tw4435323632204751880 tw7588002923913683787 tw14535167597389650916 tw11585228280590277122 tw4255878543947982004 tw18236394320877430050 tw17539436719183289384 tw16576792626639643522 tw10533332300956295409 tw1792726269512915586 tw864189451146210684 tw675458863041239319 tw692964173358670720 tw15370152178682886788 tw3578918090825669395 tw10454971595973044698 tw16375040832712027418 tw8944410222283317082 tw12806341718724187522 tw4567394258161133784 tw16401753928759210742 tw15891792978670298566 tw7574499628624489795 tw14941920888857136008 tw13847857362831721683 tw15770632683853040747 tw17826183517261068884 tw11018720080420293407 tw14161600370518805624 tw12880630019878060141 tw5278919861450803859 tw13203592562418096007 tw13510431135354762594 tw7771954844055510906 tw2131188440893357929 tw17060428617037593087 tw15453823388332701642 tw12388515799476154481 tw4280428459027459587 tw6652501219923901351 tw3121607856408173740 tw8818775791955028982 tw6714785151261474567 tw4632902320771881120 tw8204304216625078911 tw5658678994581551354 tw7408336919906711593 tw4623181889307886444 tw17377863733276533367 tw7799917437260878416 tw17999573298036189094 tw11886480566970807579 tw10622818682206908504 tw7315338780409953340 tw16064348237196849921 tw13137776956710883221 tw15759364445044751679 tw79478508583217397 tw6992528728629625335 tw17022773774988686593 tw14899700721262823937 tw14117306108211518889 tw10307341471259754125 tw101135826465165878 tw3409152081849329535 tw17095320483884437962 tw14514110774666230906 tw10467163263555583533 tw8291052836388540163 tw17941114761637686109 tw8602876972078979218 tw4975003962025153783 tw15417275960798086611 tw12702910841213011720 tw5198536242350371971 tw2268240947574850640 tw12635548331970042271 tw2866179421481596269 tw2832145835874774204 tw9634229546706032630 tw900646139259509442 tw8362409407096641058 tw11756168702369001156 tw8864091066351274965 tw11143648133131342981 tw9780732191701471404 tw5342569072260722078 tw4527097370587261640 tw13579574742430775611 tw6921264778126768914 tw17549742387995437193 tw6129183695485891281 tw13042557790539497853 tw12096323314615205945 tw10811821133382883173 tw6533328632565627864 tw5968370087346508569 tw3078527235939250788 tw15219449994538921368 tw16447696840071763695 tw10449082423925254675 tw17628421243329434625 tw16282710433133510916 tw16186208532690583732 tw8267905390011180353 tw820070997582247771 tw18332719721228525847 tw15167236225084427069 tw10735487404748722918 tw9791216565312416676 tw8593906993728586777 tw5903643699570527030 tw15515236118596893526 tw12307985977797005032 tw7802333217545239473 tw14136342288898370040 tw9847038631702068543 tw9809966246866477486 tw7986812494340639882 tw7086660316818157019 tw65831164104910235 tw5846291518236736393 tw14971577028526289253 tw10238929572894957893 tw2391790308627702667 tw13369350659390133892 tw325284869488188616 tw2175690493277287668 tw741579168120598600 tw3262414363546983772 tw7057146083652608203 tw6563904054900185413 tw17924941282450896924 tw16142783551224799521 tw15616206386782746805 tw1480920985890224889 tw7173048911487960045 tw5745752060823069227 tw10218793383373974704 tw7336682268723800964 tw6556183365718723696 tw6430223953244463530 tw2096581067441865309 tw13886486225419227214 tw13215979637161365108 tw8864758397062068062 tw7656130443641278108 tw7636104944901798752 tw7136992523331748170 tw17020222641260802131 tw10906102055938646888 tw9615966589925878485 tw5824723888916185406 tw17440278513456178405 tw12214126987516712675 tw1154862730931934209 tw212383553896016356 tw12511831837893814 tw2107131738880346380 tw11664169492802718037 tw11326048953551937190 tw10768912951401853063 tw7374367709137976141 tw13980400258297411203 tw2861659742723520854 tw14076892466491611679 tw8526509702972530430 tw8457857544734577491 tw641108013237559983 tw8755362270455430559 tw15451007288845817893 tw8148279963222985292 tw15876652107426980070 tw7791048303456442077 tw15715218876123395707 tw6227731211847015829 tw5725186252960731853 tw2510141175998551301 tw10511546857991439959 tw8614062767124440841 tw15774256386954820325 tw593428841845380810 tw5052058275565655740 tw2767545811038599110 tw17374072116661570047 tw11964170208030153193 tw11902777839964895977 tw4535062414172912922 tw8350011718397147993 tw16888043318152682132 tw8647272263651095421 tw5589256095558568169 tw4668833200540916382 tw3332773637538282821 tw10579862764955702621 tw8390922590743058238 tw1880227010560066535 tw9284706906849402328 tw6508519162260453426 tw4170689578541943624 tw3022576483912278793 tw17861946003342412183 tw15006156867002415139 tw16565410590835292922 tw14884481079704247692 tw1142363525798263523 tw6702898089448881769 tw575520472145616906 tw5394006253958918532 tw2903503364368891492 tw14609191090909127647 tw13993690839671999705 tw10058019057151921636 tw5532320617390794785 tw2308896310670029283 tw10499987777449495329 tw11931942775888319507 tw159391095956268017 tw9691623436605746999 tw9495844572341107996 tw5798781365040704087 tw17939142682851853880 tw7546888297171560190 tw1437167060295530924 tw6104841499524935348 tw18034190358708779393 tw9773168288215941074 tw1068425144246653799 tw327795914284936974 tw17577492846860143439 tw15368923134239539020 tw14647928372455702912 tw8573937976892175257 tw15300358972972744902 tw9343467050253037737 tw6843275210096172422 tw6817488810568992829 tw4523030781323814391 tw2289955338892349242 tw16196973568622303646 tw8292436129354060769 tw5846244003903558498 tw2342859306340517277 tw8935234125372790782 tw5981268827783175422 tw11211504945771520693 tw1835052576325736127 tw9785317617373798899 tw6125622014694013234 tw1547450166006450878 tw16050942029466090058 tw2741734922794806297 tw13864363406641755942 tw10082982042113892531 tw4464224673613157173 tw14756585680961589026 tw6887551281282552912 tw8406417592090787908 tw15469700516875525244 tw2173998096611899235 tw847717984550203300 tw7465847057052573675 tw7065985178717984242 tw6148363081309031223 tw3384199297104335880 tw2904335290301096852 tw17534424455419199778 tw17232471453808488968 tw14716051302065537678 tw13388514784731461426 tw1321066166561462532 tw12992959632552282337 tw12517744041583424110 tw11566608410736351347 tw10980335783291710091 tw9833877931090900675 tw7131710731680652792 tw6593061658780778557 tw6216618439887997531 tw5171850838435703409 tw4896300871768581534 tw3438680750914527546 tw2575791779076222205 tw16819465516672000267 tw16731924714860684532 tw16266809498701357418 tw13885554400314579821 tw1172273972172190136 tw10773539429406895114 tw15925204647262623608 tw4079658528578396591 tw15830910875487702277 tw13761105924767166910 tw1762362871108530923 tw791095402855208646 tw368582901424197642 tw2039089079450306191 tw18105574635016790537 tw1367100957269175529 tw11105338209667909493 tw7520863252720889881 tw6193039476706409784 tw430561660129801602 tw2900672965735376872 tw14013311025302287595 tw7098705438267980873 tw476510696816257488 tw13600486253780802199 tw6613313323435141091 tw6244195849775352118 tw6165404665349409621 tw5087020268359234989 tw387387237982464177 tw2740504041125157778 tw17586704991628231632 tw16347602099687041765 tw15814519777039915096 tw15229576563672265258 tw14719057664754067499 tw14510548113501153933 tw14235742480185068177 tw10355320280195022418 tw3863823884678549380 tw17292807601180403036 tw13584346862693147117 tw12441432499873898147 tw6268745161484468117 tw5572728707272616822 tw6073247209094687916 tw4362656778116071493:Unit)
namespace K93
open PySem L2 PyProof.Rows
end K93
section
open PySem PySem.W PyProof.Rows
theorem PySem.Challenge.PySem.W.holds_open{r:OpenRow}{q:PySem.Program}{loose:List PySem.Str}{Xt:PySem.Shared→Bool}{XP:(PySem.Str→Option PySem.Value)→PySem.Heap→Prop}{α:Type}{Yf:PySem.Shared→α}{Ya:PySem.World→α}{YP:PySem.World→PySem.Heap→Prop}{d:DefRec}{kwd:List (PySem.Str×PySem.Expr)}{N:Nat}(a:LeftO r.prog q loose Xt Yf Ya N)(b:∀w s,Yf s=Ya w→YP w s.heap)(c:∀w h h',YP w h→(∀b o,h.get? b=some o→h'.get? b=some o)→YP w h')(e:∀s,Xt s=true→XP (s.heap.nsMap mainGlobals) s.heap)(f:∀mg h h',XP mg h→(∀b o,h.get? b=some o→h'.get? b=some o)→XP mg h')(g:defOf q r.name=some (d,kwd))(i:r.prog.theDef r.name=some (d.params,d.body,d.scope))(j:kwWritten? d.params.kwonlyargs d.params.kw_defaults=some kwd)(k:∀s,Xt s=true→RecFacts r.records s.heap)(l:(!r.writes || r.records.isEmpty)=true)(m:K93.ahG∧r.wellSaid=true)(n:(chainsOk q && opensWell r.prog && (frees r.toRowW && r.within.isEmpty))=true)(o:r.prog.bare)(p:r.toRowW.promised)(u:K93.ahG→WalkO q loose XP YP r.toRowW d kwd λf v=>PySem.call f v):r.Holds:=_root_.PySem.W.holds_open a b c e f g i j k l m.2 n o p (u m.1)
set_option maxRecDepth 100000 in
set_option maxHeartbeats 0 in
theorem PySem.Challenge.t0(g : K93.ahG):PySem.Challenge.rw_turnleaf_k93_whole_to_and_fro.Holds := by
 w_on;o_law;have gs:K93.ahG∧PySem.Challenge.rw_turnleaf_k93_whole_to_and_fro.row.wellSaid=true:=⟨g,by assumption⟩;k_head;(case hw=>w_witness2)
 intro g;k_fill
 show L2.afF (l:=PySem.Challenge.rw_turnleaf_k93_whole_to_and_fro) (n:=63) (k:=60) (x:="_law_script") (xn:="sorted_by") (ps:=K93.jE) (CX:=λw=>L2.bU PySem.Challenge.rw_turnleaf_k93_whole_to_and_fro.prog w) (cc:=true) (sp:=λw=>L2.Dj _ "sorted_by" K93.jE) rfl (by decide) rfl #[λ_=>rfl,by decide,by decide] (λw h Y=>PySem.W.km_in_of Y) ?R ?B ?F (λ_ _ a ns i j m=>#[a,ns,rfl,j,i,m,λ_=>rfl]) (λ_ _ _ _ _ z=>L2.bU.never z)
 case R=>kernel_rfl
 case B=>intro w;kernel_rfl
 case F=>
  intro w mg D h c G e;let T:K93.Txt (L2.Ow c) mg:=by
   clear g;dsimp only[L2.Ow];constructor
   all_goals first|refine' L2.afe c G ..|refine' L2.adf c G ..|refine' L2.acY c G ..|refine' L2.adh c G ..|refine' L2.ad6 c G ..|refine' L2.adD c G ..|refine' L2.aas c G ..|refine' L2.Wc c G ..|refine' L2.t_k c G ..|refine' L2.aac c G ..|refine' L2.adi c G ..|refine' L2.ahE c G ..|refine' L2.adA c G ..|refine' L2.ae4 c G ..|refine' L2.agX c G ..|refine' L2.afj c G ..|refine' L2.ahh c G ..|refine' L2.acM (mg:=mg) (L2.fL c G ?_ (L2.fL c G ?_ (L2.fL c G ?_ (L2.fL c G ?_ (L2.fL c G ?_ (L2.fL c G ?_ (L2.fL c G ?_ (L2.fL c G ?_ (L2.fL c G ?_ (L2.fL c G ?_ (L2.fL c G ?_ (L2.fL c G ?_ L2.jb.nil)))))))))))) ?_
   any_goals try delta L2.bD
   any_goals try delta L2.oA
   any_goals first|k_is|k_exc|kernel_rfl|decide
  let#[f,fd,F,o]:=T.adz;let p:=e.symm.trans o;cases p;let#[oc,od,kV,q,pm,an,E,ct,v,rfl,lk,y]:=id F.ex;show#[_,λs u=>.of_eq rfl,λbase H I C=>g T C F]
end
namespace K93
open PySem L2 PyProof.Rows My Vl Lw
section
variable{P:Ϯ}{w:ϭ}{K:ϩ}{mg:Str->Option ε}{base:ϫ}
theorem nU(T:Txt K mg):Def P w K mg base true 1 "_law_draw" ["_law_script","_law_k","_law_many"] (Ui K):=by
 show Γ (S:=TJ) T.nU (λ_ _ _ _ _ H vs Q E l h=>?_);intro X _;let#[a,ns,k,m,rfl,g,n,i,j,o,q]:=h;let n1:=T.bF;let nd:=TJ.nd;let f:(ns.map V.int).length=ns.length:=abd ..;w_up;cbv;rw[f];let fin:∀c:Int,c=uX ns k->Q (.int ((c % 1000003+31*k*k+1)*48271 % 999983*7919 % 524287 % m)) H:=λc e=>by rw[e];show q
 show Θ (λh=>?_) (λh=>?_)
 .cbv;rw[f];cbv;show ϥ g (Yu 0 (alL _ ()) (akX _ ())) ?_;cbv;show fin _ (by unfold uX;rw[if_pos ()])
 .cbv;show fin _ (by unfold uX;rw[if_neg ()])
def ϓ(a:Str)(v:V):Prop:=v=.non\/(a="number"/\∃i,v=.int i/\ -1000000000000000000<=i/\i<=1000000000000000000)\/(¬a="number"/\∃z,v=.str z/\z.length<=20/\∀c∈z.cps.toList,c∈SG)
theorem ϓ.sc{a:Str}{v:V}(h:ϓ a v):scalar v=true:=by
 obtain rfl|⟨_,i,rfl,_⟩|⟨_,z,rfl,_⟩:=h<;>rfl
theorem ϓ.jZ{a:Str}{v:V}(h:ϓ a v):jZ v=true/\∀z,v=.str z->aZ 4000 z:=by
 obtain rfl|⟨_,i,rfl,_⟩|⟨_,z,rfl,c,hz⟩:=h
 .show#[rfl,λz e=>by cases e]
 .show#[rfl,λz e=>by cases e]
 .show#[rfl,λy e=>by cases e;show aZ.sg () hz]
theorem ph{α β:Type}{R:α->β->Prop}:∀{l:List α}{m:List β},m.length=l.length->(∀(i:Nat) b,m[i]?=some b->∃a,l[i]?=some a/\R a b)->ς R l m
 |[],[],_,_=>.nil
 |[],_::_,h,_=>by simp at h
 |_::_,[],h,_=>by simp at h
 |a::l,b::m,h,g=>by
  let#[a',e,r]:=g 0 b rfl;have:a=a':=by simpa using e
  subst this;show .cons r (ph (by simpa using h) λi x e=>by simpa using g (i+1) x (by simpa using e))
theorem JH:∀{cs:List ι}{z:Str}{m:Nat}{c:ι},m< Τ cs z->cs[m]?=some c->¬c.1=z
 |[],_,_,_,h,_=>by simp[Τ]at h
 |d::r,z,m,c,h,e=>by
  unfold Τ at h;split at h
  .omega
  .rename_i hd;cases m with
   |zero=>simp at e;subst e;show hd
   |succ m=>show JH (cs:=r) (m:=m) () (by simpa using e)
theorem ahK{cs:List ι}{z:Str}(h:∃c∈cs,c.1=z):(cs.map Prod.fst)[Τ cs z]?=some z:=by
 let#[c,e1,a]:=yf h;rw[aci,e1, <-a];rfl
theorem W5{cs:List ι}{z:Str}{m:Nat}{y:Str}(h:m< Τ cs z)(e:(cs.map Prod.fst)[m]?=some y):¬y=z:=by
 rw[aci]at e;cases e2:cs[m]? with
 |none=>rw[e2]at e;cases e
 |some c=>
  rw[e2]at e;let a:c.1=y:=by simpa using e
  rw[<-a];show JH h e2
theorem WD{cs:List ι}(h:ϊ cs=true):1<=cs.length/\cs.length<=6:=by
 unfold ϊ at h;simp only[abB,decide_eq_true_eq]at h;show h.1.1
def lq(c:ε)(r:Option V)(H:Hp)(Q:VK)(E:XK):=∀H',ζ H H'->match r with
 |some v=>Q v H'
 |none=>False
inductive uy (c:ε) (vs:List V) (H:Hp) (Q:VK) (E:XK):Prop
 |mk (z):vs=[.str z]->z.length<=4000->lq c (sG (f9 z.cps.toList)) H Q E->uy c vs H Q E
inductive uM (c:ε) (vs:List V) (H:Hp) (Q:VK) (E:XK):Prop
 |mk (z):vs=[.str z]->z.length<=4000->lq c (xX (ik z)) H Q E->uM c vs H Q E
inductive wG (c:ε) (vs:List V) (H:Hp) (Q:VK) (E:XK):Prop
 |mk (k) (z):vs=[.str k,.str z]->z.length<=4000->lq c (di k z) H Q E->wG c vs H Q E
inductive wj (c:ε) (vs:List V) (H:Hp) (Q:VK) (E:XK):Prop
 |mk (a) (cs):vs=[.ref a]->Ϛ H a cs->cs.length<=4000->zY cs->(∀H',ζ H H'->if ϊ cs=true then Q .non H' else False)->wj c vs H Q E
inductive xK (c:ε) (vs:List V) (H:Hp) (Q:VK) (E:XK):Prop
 |mk (a) (cs) (z):vs=[.ref a,.str z]->Ϛ H a cs->z.length<=4000->(∀H',ζ H H'->gn cs z=none->False)->(∀p o H',ζ H H'->gn cs z=some o->H' p=some (.tup [.str o.1,.bl o.2])->Q (.ref p) H')->xK c vs H Q E
inductive uD (c:ε) (vs:List V) (H:Hp) (Q:VK) (E:XK):Prop
 |mk (a) (cs) (z):vs=[.ref a,.str z]->Ϛ H a cs->z.length<=4000->(∀H',ζ H H'->gC cs z=none->False)->(∀p os H',ζ H H'->gC cs z=some os->H p=none->bc H' p os->Q (.ref p) H')->uD c vs H Q E
inductive HB (K:ϩ) (mg:Str->Option ε) (vs:List V) (H:Hp) (Q:VK) (E:XK):Prop
 |mk (a:δ) (ws:List Str) (p:Nat):vs=[.ref a,.int p]->η K H a (ws.map V.str)->ws.length<=4000->p<=100000->(¬(p<ws.length/\p<60)->False)->(∀z,ws[p]?=some z->p<60->Q (.str z) H)->HB K mg vs H Q E
theorem nJ(T:Txt K mg):Def P w K mg base true 3 "word_at" ["words","place"] (HB K mg):=by
 show Γ (N:=["words","place"]) T.nJ (λ_ _ _ _ _ H vs Q E j h=>?_);intro X _;let#[a,ws,p,rfl,g,l,m,c,q]:=h;let n1:=T.bF;let n:=T.ah7;let i:(ws.map V.str).length=ws.length:=abd ..;w_up;cbv;rw[i];show Θ (λh=>?_) (λh=>?_)
 .show(c ()).elim
 .cbv;show Θ (λh2=>?_) (λh2=>?_)
  .show(c ()).elim
  .cbv;let e:p<ws.length:=()
   let f:ws[p]?=some ws[p]:=aad e;show ϥ g (bw (by rw[aci,f];rfl)) ?_;show q _ f ()
def bM(ws:List Str)(s b:Nat):Str:=aeq " " ((ws.drop s).take (b-s))
inductive S8 (K:ϩ) (vs:List V) (H:Hp) (Q:VK) (E:XK):Prop
 |mk (a:δ) (ws:List Str) (s b:Nat):vs=[.ref a,.int s,.int b]->η K H a (ws.map V.str)->ws.length<=4000->(∀z∈ws,z.length<=1000)->s<=b->b<=ws.length->(∀H',ζ H H'->Q (.str (bM ws s b)) H')->S8 K vs H Q E
theorem U7:∀{l:List Str},(∀z∈l,z.length<=1000)->(l.map (·.length)).sum<=l.length*1000
 |[],_=>by simp
 |z::l,h=>by
  let h1:=U7 (l:=l) λy a=>h y (by simp[a])
  let h2:=h z (by simp);simp only[adI,alM,adx];omega
theorem mX(T:Txt K mg):Def P w K mg base true 1 "text_between" ["words","start","behind"] (S8 K):=by
 show Γ (N:=["words","start","behind"]) T.mX (λ_ _ _ _ _ H vs Q E s h=>?_);intro X _;let#[a,ws,i,j,rfl,f,u,hz,g,v,q]:=h;let m:(" ":Str).length=1:=by fin2
 let hsz:=ϳ;f_len;show ω ?_;cbv;show jX f λp n=>?_
 let e:bu (ws.map V.str) (some (i:Int)) (some (j:Int))=((ws.drop i).take (j-i)).map V.str:=by
  unfold bu;let c:(ws.map V.str).length=ws.length:=abd ..;let e1:HT.Α (ws.map V.str).length 0 (some (i:Int))=i:=by
   rw[c];unfold HT.Α;split
   .rename_i h;cases h
   .rename_i h;cases h;rw[if_neg ()];omega
  let o:HT.Α (ws.map V.str).length (ws.map V.str).length (some (j:Int))=j:=by
   rw[c];unfold HT.Α;split
   .rename_i h;cases h
   .rename_i h;cases h;rw[if_neg ()];omega
  rw[e1,o, <-List.map_drop, <-List.map_take]
 rw[e];let#[sm,ep]:=ϋ n (.lst (((ws.drop i).take (j-i)).map V.str));generalize upd H p (.lst (((ws.drop i).take (j-i)).map V.str))=H2 at sm ep⊢;cbv;show rN (η.of ep) ?_ (q H2 sm);let h1:=U7 (l:=(ws.drop i).take (j-i)) λz h=>hz z (aeY (afu h))
 let h2:((ws.drop i).take (j-i)).length<=4000:=by
  rw[ag5,adX];omega
 rw[m];omega
theorem aed{cs:List ι}{z:Str}:∀{i:Nat}{c:ι}(j:Nat),cs[i]?=some c->(∀k c,k<i->cs[k]?=some c->¬c.1=z)->c.1=z->fW cs z j=.int ((j+i:Nat):Int):=by
 induction cs with
 |nil=>intro i c j e;simp at e
 |cons d r a=>
  intro i c j e h hz;unfold fW;cases i with
  |zero=>
   simp at e;subst e;rw[if_pos hz];rfl
  |succ i=>
   rw[if_neg (h 0 d () rfl)];rw[a (j+1) (by simpa using e) (λk c g f=>h (k+1) c () (by simpa using f)) hz]
   congr 2
   omega
theorem aaw{cs:List ι}{z:Str}:∀(j:Nat),(∀c∈cs,¬c.1=z)->fW cs z j=.non:=by
 induction cs with
 |nil=>intro j h;rfl
 |cons d r a=>
  intro j h;unfold fW;rw[if_neg (h d (by simp)),a (j+1) λc e=>h c (by simp[e])]
theorem mQ(T:Txt K mg):Def P w K mg base true 1 "place_of" ["columns","name"] RX:=by
 show Γ (S:=Nv) T.mQ (λ_ _ _ _ _ H vs Q E F h=>?_);intro X _;let#[a,cs,z,rfl,#[vs,v,f],q]:=h;let n1:=T.agL;let nd:=Nv.nd;w_up;show acp (by walk_at"po") (by rfl) (by rfl) n1 (by rfl) ?_;cbv;show#[a,vs,rfl,v,λi σ H'=>(∃p s,σ=[some (.ref a),some (.str z),p,s])/\ζ H H'/\∀k c,k<i->cs[k]?=some c->¬c.1=z,#[#[none,none,rfl],ζ.refl _,λk c j=>()],λi σ H' hi g=>.inl (.inl (g.2.1 _ _ v)),λi x u σ H' B g C=>?_,λσ H' g=>?_]
 .let#[#[p,s,rfl],sm,l]:=g;let#[c,m,t,rfl,D]:=f.get B;let n :=sm.trans (ζ.upd (o:=.tup [.int i,.ref t]) C);let y:(upd H' u (.tup [.int i,.ref t])) u=some (.tup [.int i,.ref t]):=υ;generalize upd H' u (.tup [.int i,.ref t])=H2 at n y⊢;show ao (ο.of y) (Ε (Β nd (by rfl) (.inl rfl) (.inl rfl) (Ε (Β nd (by rfl) (.inl rfl) (.inl rfl) (aj ?_)))));f_len;cbv;show ύ (ο.of (n _ _ D)) (show Χ [V.str c.1,V.str c.2] 0=some (V.str c.1)from rfl) ?_;cbv;show Θ (λh=>?_) (λh=>?_)
  .let hz:c.1=z:=by injection h
   cbv;have:=aed 0 m l hz;rw[alD]at this;rw[<-this];show q H2 n
  .let hz:¬c.1=z:=λe=>h (by rw[e])
   cbv;show#[#[_,_,rfl],n,λk d j hd=>?_];by_cases e:k=i
   .subst e;rw[m]at hd;cases hd;show hz
   .show l k d () hd
 .let#[#[p,s,rfl],sm,l]:=g;f_len;cbv;have:=aaw (cs:=cs) (z:=z) 0 λc m=>by
   let#[k,j,e]:=al5 m;show l k c (by rw[f.len];show j) (by rw[<-e];show aad j)
  rw[<-this];show q H' sm
def eY(cs:List ι)(ws:List Str)(p:Nat):Option Nat:=if p<60 then match ws[p]? with
 |none=>none
 |some z=>if cs.any (λc=>decide (c.1=z))=true then some (Τ cs z)else none
 else none
inductive Jg (K:ϩ) (mg:Str->Option ε) (vs:List V) (H:Hp) (Q:VK) (E:XK):Prop
 |mk (b:δ) (cs:List ι) (a:δ) (ws:List Str) (p:Nat):vs=[.ref b,.ref a,.int p]->Ϛ H b cs->η K H a (ws.map V.str)->ws.length<=4000->p<=100000->(eY cs ws p=none->False)->(∀i H',ζ H H'->eY cs ws p=some i->Q (.int (i:Nat)) H')->Jg K mg vs H Q E
theorem vg(T:Txt K mg):Def P w K mg base true 4 "read_column" ["columns","words","place"] (Jg K mg):=by
 show Γ (S:=Rj) T.vg (λ_ _ _ _ _ H vs Q E s h=>?_);intro X _;let#[b,cs,a,ws,p,rfl,l,m,n,o,f,q]:=h;let nd:=Rj.nd;let u:= @mQ P w K mg base T;let v:= @nJ P w K mg base T;w_up;cbv;show#[a,ws,p,rfl,m,n,o,λx=>f ?_,λz hz g=>?_]
 .unfold eY;by_cases g:p<60
  .rw[if_pos g,alY ()]
  .rw[if_neg g]
 .cbv;show#[b,cs,z,rfl,l,λH2 sm=>?_];by_cases i:∃c∈cs,c.1=z
  .let e:eY cs ws p=some (Τ cs z):=by
    unfold eY;rw[if_pos g,hz];show if_pos (by rw[alB];let#[c,j,e]:=i;show#[c,j,decide_eq_true e])
   rw[qF 0 i,alD];cbv;show q _ H2 sm e
  .let e:eY cs ws p=none:=by
    unfold eY;rw[if_pos g,hz];show if_neg (by rw[alB];rintro⟨c,j,e⟩;show i #[c,j,of_decide_eq_true e])
   show(f e).elim
theorem xP(T:Txt K mg):Def P w K mg base true 1 "value_before" ["one","other"] Kw:=by
 show Γ (N:=["one","other"]) T.xP (λ_ _ _ _ _ H vs Q E a h=>?_);intro X _;let#[x,y,rfl,hs,q]:=h;w_up;cbv;show Θ (λh=>?_) (λh=>?_)
 .subst h;cbv;let e:before x .non=false:=by cases x<;>rfl
  rw[e]at q;show q
 .cbv;show Θ (λh2=>?_) (λh2=>?_)
  .subst h2;cbv;let e:before .non y=true:=by cases y<;>first|rfl|show absurd rfl h
   rw[e]at q;show q
  .obtain e|e|⟨i,j,rfl,rfl⟩|⟨i,j,rfl,rfl⟩:=hs
   .show absurd e h2
   .show absurd e h
   .cbv;show q
   .cbv;show q
inductive j9 (K:ϩ) (vs:List V) (H:Hp) (Q:VK) (E:XK):Prop
 |mk (a C dx:δ) (fs:List (Str×V)) (z:Str):vs=[.ref a,.str z]->H a=some (.ins C dx fs)->Ϙ K C->Ρ K C "text"->fs.length<900->Q .non (upd H a (.ins C dx (ϛ "text" (.str z) fs)))->j9 K vs H Q E
theorem p6{cc:Bool}:FD P w K mg base cc 1 "__init__" "Sieve.__init__" Ek ["self","text"] (j9 K):=by
 show aG (N:=["self","text"]) (λ_ _ _ _ _ H vs Q E g h=>?_);intro X _;let#[a,C,dx,fs,z,rfl,c,e,f,i,q]:=h;f_len;show d9 ?_;f_are;f_are;show#[a,C,dx,fs,rfl,c,e,f,(),q]
inductive BZ (K:ϩ) (vs:List V) (H:Hp) (Q:VK) (E:XK):Prop
 |mk (a C dx:δ) (fs:List (Str×V)) (z:Str) (p:V):vs=[.ref a,.str z,p]->H a=some (.ins C dx fs)->Ϙ K C->Ρ K C "text"->Ρ K C "place"->fs.length<800->Q .non (upd (upd H a (.ins C dx (ϛ "text" (.str z) fs))) a (.ins C dx (ϛ "place" p (ϛ "text" (.str z) fs))))->BZ K vs H Q E
theorem acN(T:Txt K mg){cc:Bool}:FD P w K mg base cc 2 "__init__" "NoneSieve.__init__" M5 ["self","text","place"] (BZ K):=by
 show aG (N:=["self","text","place"]) (λ_ _ _ _ _ H vs Q E f h=>?_);intro X _;let#[a,C,dx,fs,z,p,rfl,g,e,i,c,j,q]:=h;let B:pR P w K mg base cc 1 "Sieve" "__init__" ["self","text"] (j9 K):=p6.asked T.vG T.xZ;let hz:=jM "text" (V.str z) fs;w_up;show bA ?_;show xx (pl:=_) B f id ϑ ?_;cbv;show#[a,C,dx,fs,z,rfl,g,e,i,(),?_];f_len;show d9 ?_;f_are;f_are;show#[a,C,dx,_,rfl,υ,e,c,(),q]
inductive rT (K:ϩ) (vs:List V) (H:Hp) (Q:VK) (E:XK):Prop
 |mk (a C dx:δ) (fs:List (Str×V)) (z:Str) (p v:V):vs=[.ref a,.str z,p,v]->H a=some (.ins C dx fs)->Ϙ K C->Ρ K C "text"->Ρ K C "place"->Ρ K C "value"->fs.length<800->(∀H',H' a=some (.ins C dx (ϛ "value" v (ϛ "place" p (ϛ "text" (.str z) fs))))->(∀b o,b≠a->H b=some o->H' b=some o)->Q .non H')->rT K vs H Q E
theorem Gx(T:Txt K mg){cc:Bool}:FD P w K mg base cc 2 "__init__" "ValueSieve.__init__" uh ["self","text","place","value"] (rT K):=by
 show aG (N:=["self","text","place","value"]) (λ_ _ _ _ _ H vs Q E i h=>?_);intro X _;let#[a,C,dx,fs,z,p,v,rfl,j,c,l,f,m,s,q]:=h;let B:pR P w K mg base cc 1 "Sieve" "__init__" ["self","text"] (j9 K):=p6.asked T.vG T.xZ;let hz:=jM "text" (V.str z) fs;let n:=jM "place" p (ϛ "text" (V.str z) fs);w_up;show bA ?_;show xx (pl:=_) B i id ϑ ?_;cbv;show#[a,C,dx,fs,z,rfl,j,c,l,(),?_];w_up;show d9 ?_;f_are;f_are;show#[a,C,dx,_,rfl,υ,c,f,(),?_];f_len;show d9 ?_;f_are;f_are;show#[a,C,dx,_,rfl,υ,c,m,(),q _ υ λb o g e=>?_];rw[ρ g,ρ g,ρ g];show e
inductive Lk|is|over|holds
def uN:Lk->V->V->Bool
 |.is,x,v=>decide (x=v)
 |.over,x,v=>before v x
 |.holds,.str x,.str v=> !(Builtin.Str.occurrences x v 0 x.length 1).isEmpty
 |.holds,_,_=>false
abbrev F3(z:Str)(p:Nat)(v:V):List (Str×V):=[("text",.str z),("place",.int p),("value",v)]
def Cu:Lk->V->V->Prop
 |.holds,x,v=>∃y z,x=.str y/\v=.str z
 |_,x,v=>scalar x=true/\scalar v=true/\aH x v
inductive pX (l:Lk) (C:δ) (vs:List V) (H:Hp) (Q:VK) (E:XK):Prop
 |mk (a dx:δ) (z:Str) (p:Nat) (x v:V):vs=[.ref a,x]->H a=some (.ins C dx (F3 z p v))->Cu l x v->Q (.bl (uN l x v)) H->pX l C vs H Q E
theorem aaQ{cc:Bool}{C:δ}(c:Ϙ K C)(n:Ρ K C "value"):FD P w K mg base cc 2 "fits" "ValueSieve.fits" TQ ["self","value"] (pX .is C):=by
 show aG (N:=["self","value"]) (λ_ _ _ _ _ H vs Q E i h=>?_);intro X _;let#[a,dx,z,p,x,v,rfl,e,#[f,g,j],q]:=h;f_len;show ω ?_;f_are;f_are;show aq ?_;f_are;show#[a,C,dx,_,v,rfl,e,c,n,rfl,?_];show Az (vO f g) ?_;show q
theorem aa3{x y:V}(h:aH x y):aH y x:=by
 obtain h|h|⟨i,j,a,b⟩|⟨i,j,a,b⟩:=h
 .show .inr (.inl h)
 .show .inl h
 .show .inr (.inr (.inl #[j,i,b,a]))
 .show .inr (.inr (.inr #[j,i,b,a]))
theorem ago(T:Txt K mg){C:δ}(c:Ϙ K C)(n:Ρ K C "value"):FD P w K mg base true 2 "fits" "OverSieve.fits" Sh ["self","value"] (pX .over C):=by
 show aG (N:=["self","value"]) (λ_ _ _ _ _ H vs Q E g h=>?_);intro X _;let#[a,dx,z,p,x,v,rfl,e,#[i,j,f],q]:=h;let l:= @xP P w K mg base T;f_len;show ω ?_;cbv;show aq ?_;f_are;show#[a,C,dx,_,v,rfl,e,c,n,rfl,?_];cbv;show#[v,x,rfl,aa3 f,q]
theorem Zm{cc:Bool}{C:δ}(c:Ϙ K C)(n:Ρ K C "value"):FD P w K mg base cc 2 "fits" "HoldsSieve.fits" Tt ["self","value"] (pX .holds C):=by
 show aG (N:=["self","value"]) (λ_ _ _ _ _ H vs Q E f h=>?_);intro X _;let#[a,dx,z,p,x,v,rfl,e,#[y,u,rfl,rfl],q]:=h;f_len;show ω ?_;f_are;show aq ?_;f_are;show#[a,C,dx,_,_,rfl,e,c,n,rfl,?_];cbv;show q
inductive DR (K:ϩ) (l:Lk) (C:δ) (vs:List V) (H:Hp) (Q:VK) (E:XK):Prop
 |mk (a dx:δ) (z:Str) (p:Nat) (v:V) (b:δ) (xs:List V) (x:V):vs=[.ref a,.ref b]->H a=some (.ins C dx (F3 z p v))->η K H b xs->xs[p]?=some x->(x=.non\/Cu l x v)->Q (.bl (!decide (x=.non)&&uN l x v)) H->DR K l C vs H Q E
theorem Ci{l:Lk}{C:δ}(M:ϟ P w K mg base true 2 C "fits" ["self","value"] (pX l C))(n:Ρ K C "place"):FD P w K mg base true 3 "lets" "ValueSieve.lets" rM ["self","values"] (DR K l C):=by
 show aG (S:=Ha) (λ_ _ _ _ _ H vs Q E f h=>?_);intro X _;let#[a,dx,z,p,v,b,xs,x,rfl,c,g,i,j,q]:=h;let nd:=Ha.nd;w_up;cbv;show aq ?_;f_are;show#[a,C,dx,_,_,rfl,c,M.cls,n,rfl,?_];show ϥ g (bw i) ?_;cbv;show iB (λh=>?_) (λh=>?_)
 .let e:¬x=.non:=by simpa using h
  show Ig ?_;show bO (pl:=_) f ϑ (h:=?_);f_are;show#[a,C,dx,_,_,_,_,_,rfl,c,rfl,M,by decide,λ_=>rfl,?_];cbv;show#[a,dx,z,p,x,v,rfl,c,j.resolve_left e,?_];rw[h,akq]at q;show q
 .rw[h]at q;show q
theorem tM(T:Txt K mg):Def P w K mg base true 1 "made_of" ["text","signs"] Ou:=by
 show Γ (N:=["text","signs"]) T.tM (λ_ _ _ _ _ H vs Q E o h=>?_);intro X _;let#[z,g,rfl,hz,q]:=h;let n1:=T.Jz;f_len;show ω ?_;f_are;f_are;show aeS ["sign","signs"] (σ':=[none,some (.str g)]) (by rfl) (by rfl) (b7 (ψ Im)) (by fin2) (by rfl) (by rfl) (by intro _;rfl) ?_;f_are;show#[z,rfl,?_,λi v=>∃c,z.cps.toList[i]?=some c/\v=.bl (decide (c∈g.cps.toList)),λfp e C p s i c H2 f sm=>?_,λe H2 xs u j l m sm=>?_]
 .have :z.cps.size=z.length:=rfl;let h2:ϰ=16777216:=ϳ;omega
 .cbv;show#[#[c,f,by rw[StrLaws.found_one]],ζ.refl _]
 .let ex:=iV (ys:=z.cps.toList) (λc=>V.bl (decide (c∈g.cps.toList))) (by rw[j];simp) l;let a:xs=(z.cps.toList.map λc=>decide (c∈g.cps.toList)).map V.bl:=by rw[ex,agn];rfl
  subst a;cbv;show KC (by rfl) (η.of m) ?_;let n:(z.cps.toList.map λc=>decide (c∈g.cps.toList)).all id=dO z g:=by rw[anh];rfl
  rw[n];show q _ sm
theorem uH(T:Txt K mg):Def P w K mg base true 2 "is_text_value" ["value"] P0:=by
 show Γ (N:=["value"]) T.uH (λ_ _ _ _ _ H vs Q E c h=>?_);intro X _;let#[v,rfl,hs,hz,q]:=h;let f:=T.aen;let g:=T.ahU;let n1:=T.DK;let n2:=T.pB;let j:=T.bF;let l:= @tM P w K mg base T;let hsz:=ϳ;f_len;show ω ?_;cases v with
 |int i=>
  cbv;show q H (ζ.refl _)
 |non=>
  cbv;show q H (ζ.refl _)
 |str z=>
  let a:z.length<=4000:=hz;cbv;show Θ (λh=>?_) (λh=>?_)
  .cbv;show#[z,_,rfl,a,λH' sm=>?_];let e:gQ (.str z)=dO z qW:=by
    let h':z.length<=20:=()
    unfold gQ;simp[h']
   rw[e]at q;show q H' sm
  .let e:gQ (.str z)=false:=by
    let h':¬z.length<=20:=()
    unfold gQ;simp[h']
   rw[e]at q;show q H (ζ.refl _)
 |_=>cases hs
theorem yR(T:Txt K mg):Def P w K mg base true 2 "are_figures" ["word"] Mm:=by
 show Γ (N:=["word"]) T.yR (λ_ _ _ _ _ H vs Q E o h=>?_);intro X _;let#[z,rfl,hz,q]:=h;let p:=T.agD;let s:= @tM P w K mg base T;let hsz:=ϳ;let i:("0":Str).cps.toList=[48]:=by fin2
 let e1:("":Str).cps.toList=[]:=by fin2
 unfold cQ at q;f_len;show ω ?_;cbv;show Θ (λh=>?_) (λh=>?_)
 .let h':z.cps.toList=[48]:=by cases h;show i
  rw[h']at q;show q H (ζ.refl _)
 .let h':¬z.cps.toList=[48]:=λh2=>h (by rw[gk (h2.trans i.symm)])
  rw[decide_eq_false h',ams]at q;cbv;show fj (λh2=>?_) (λh2=>?_)
  .let a:z.cps.toList≠[]:=λe=>h2 (by rw[gk (e.trans e1.symm)])
   rw[decide_eq_true a,akq]at q;let#[c,r,n]:=ama a;let g:z.cps.toList[0]?=some c:=by rw[n];rfl
   cbv;show xG () (bw (j:=0) g) ?_;cbv;rw[g]at q;show fj (λe=>?_) (λe=>?_)
   .let f:some c≠some 48:=λl=>e (by cases l;show congrArg V.str (gk i.symm))
    rw[decide_eq_true f,akq]at q;cbv;show#[z,_,rfl,hz,λH' sm=>?_];rw[ahm];show q H' sm
   .let f:¬(some c≠some 48):=λl=>l (by
     have:=congrArg (λv:V=>match v with|.str x=>x.cps.toList|_=>[]) e;let m:[c]=("0":Str).cps.toList:=this;rw[i]at m;cases m;rfl)
    rw[decide_eq_false f,alv]at q;show q H (ζ.refl _)
  .let a:¬z.cps.toList≠[]:=λe=>e (by cases h2;show e1)
   rw[decide_eq_false a,alv]at q;show q H (ζ.refl _)
theorem uA(T:Txt K mg):Def P w K mg base true 3 "read_figures" ["word","most"] Mt:=by
 show Γ (S:=Lh) T.uA (λ_ _ _ _ _ H vs Q E l h=>?_);intro X _;let#[z,m,k,rfl,hz,n,g,i,c,k1,k2,q]:=h;let n1:=T.bF;let n2:=T.pB;let p:=T.Mq;let nd:=Lh.nd;let s:= @yR P w K mg base T;let hsz:=ϳ;let u:=L2.len_list z;let out:∀(H1:Hp)(o:Option V),ζ H H1->fM z.cps.toList m=none->Ν X ((aB Bx).drop 1) {nx:=λ_ H'=>Q .non H',rt:=Q} [some (.str z),some (.int m),o] H1:=by
  intro H1 o sm e;let q1:=q H1 sm;rw[e]at q1;f_len;cbv;show q1
 w_up;cbv;show#[z,rfl,hz,λH1 a =>?_];cbv;show iB (λh1=>?_) (λh1=>?_)
 .cbv;show qC (qJ g) ?_;cbv;rw[i];show Θ (λh2=>?_) (λh2=>?_)
  .cbv;let#[hd,j]:=Sw h1;show YW (intText_digits hd j ()) () ?_;cbv;show Θ (λf=>?_) (λf=>?_)
   .let q1:=q H1 a;let e:fM z.cps.toList m=some _:=if_pos #[h1,f];rw[e]at q1;cbv;show q1
   .show Ζ (out H1 _ a (if_neg λx=>f x.2))
  .show Ζ (out H1 _ a (if_neg λx=>h2 ?_));have:=Fd x.1 x.2 c k1;omega
 .show Ζ (out H1 _ a (if_neg λx=>by rw[h1]at x;show abj x.1))
theorem Ec(T:Txt K mg):Def P w K mg base true 4 "read_number_word" ["word"] (uy (.ref (ξ mg "NoValue"))):=by
 show Γ (S:=Ji) T.Ec (λ_ _ _ _ _ H vs Q E s h=>?_);intro X _;let#[z,rfl,hz,q]:=h;let u:=T.abX;let v:=T.QJ;let nd:=Ji.nd;let x:= @uA P w K mg base T;let hsz:=ϳ;let l:(Ϫ (toString (1000000000000000000:Int))).length=19:=by fin2
 let f:f9 z.cps.toList=none->False:=λn=>by
  let c:=q H (ζ.refl _);rw[n]at c;show c
 w_up;cbv;show J0 ?_;rw[show Txt.startswith z "-"=decide (z.cps.toList[0]?=some 45)from Ka z 45];generalize m:decide (z.cps.toList[0]?=some 45)=o;cbv;cases o with
 |true=>
  let g:=of_decide_eq_true m;cbv;show mD ?_;cbv;let p:=De z (some 1) none;show#[_,_,19,rfl,(),by decide,by decide,l,by decide,by decide,by decide,λH1 j =>?_];rw[show(Ϗ z (some 1) none).cps.toList=z.cps.toList.drop 1 from wZ z 1];let a:=ah2 g;cases e:fM (z.cps.toList.drop 1) 1000000000000000000 with
  |none=>
   rw[e]at a;show(f a).elim
  |some i=>
   rw[e]at a;dsimp only at a;simp only[Fz];cbv;show Θ (λh1=>?_) (λh1=>?_)
   .let h2:i=0:=by injection h1
    rw[if_pos h2]at a;show(f a).elim
   .let h2:¬i=0:=λe=>h1 (by rw[e])
    rw[if_neg h2]at a;let c:=q H1 j;rw[a]at c;show Ζ ?_;cbv;show c
 |false=>
  let g:=of_decide_eq_false m;cbv;show#[_,_,19,rfl,(),by decide,by decide,l,by decide,by decide,by decide,λH1 j =>?_];let a:=Uk g;cases e:fM z.cps.toList 1000000000000000000 with
  |none=>
   rw[e]at a;show(f a).elim
  |some i=>
   rw[e]at a;simp only[Fz];let c:=q H1 j;rw[a]at c;cbv;show c
theorem Cz(T:Txt K mg):Def P w K mg base true 3 "read_text_word" ["word"] (uM (.ref (ξ mg "NoValue"))):=by
 show Γ (S:=Ht) T.Cz (λ_ _ _ _ _ H vs Q E j h=>?_);intro X _;let#[z,rfl,hz,q]:=h;let l:=T.K4;let nd:=Ht.nd;let m:= @uH P w K mg base T;let hsz:=ϳ;let e1:Ϫ "'"=#[#v[39]]:=by fin2
 let n:=De z (some 1) none;let e:ik z=none->False:=λf=>by
  let a:=q H (ζ.refl _);rw[f]at a;show a
 w_up;cbv;show J0 ?_;cbv;rw[e1,Ka];show Θ (λh1=>?_) (λh1=>?_)
 .cbv;show mD ?_;cbv;show#[_,rfl,rfl,(show(Ϗ z (some 1) none).length<=4000 by omega),λH1 g =>?_];cbv;show iB (λh2=>?_) (λh2=>?_)
  .cbv;show mD ?_;let a:=q H1 g;let i:ik z=some (Ϗ z (some 1) none):=by
    unfold ik;rw[if_pos #[h1,h2]]
   rw[i]at a;show a
  .show(e ?_).elim;unfold ik;rw[if_neg λc=>by rw[h2]at c;show abj c.2]
 .show(e ?_).elim;unfold ik;rw[if_neg λc=>h1 c.1]
theorem uW(T:Txt K mg):Def P w K mg base true 5 "read_value" ["kind","word"] (wG (.ref (ξ mg "NoValue"))):=by
 show Γ (N:=["kind","word"]) T.uW (λ_ _ _ _ _ H vs Q E i h=>?_);intro X _;let#[k,z,rfl,hz,q]:=h;let j:=T.Te;let l:=T.BL;let m:= @Ec P w K mg base T;let n:= @Cz P w K mg base T;w_up;cbv;show Θ (λh1=>?_) (λh1=>?_)
 .let h2:z="?":=by cases h1;rfl
  let g:=q H (ζ.refl _);let a:di k z=some .non:=by unfold di;rw[if_pos h2]
  rw[a]at g;cbv;show g
 .let h2:¬z="?":=λe=>h1 (by rw[e])
  let a:di k z=if k="number" then sG (f9 z.cps.toList)else xX (ik z):=by unfold di;rw[if_neg h2]
  rw[a]at q;cbv;show Θ (λc=>?_) (λc=>?_)
  .let f:k="number":=by cases c;rfl
   rw[if_pos f]at q;cbv;show#[z,rfl,hz,q]
  .let f:¬k="number":=λe=>c (by rw[e])
   rw[if_neg f]at q;cbv;show#[z,rfl,hz,q]
inductive JR (K:ϩ) (vs:List V) (H:Hp) (Q:VK) (E:XK):Prop
 |mk (kd:Str) (a:δ) (ws:List Str) (p:Nat) (z:Str) (v:V):vs=[.str kd,.ref a,.int p]->η K H a (ws.map V.str)->ws.length<=4000->ws[p]?=some z->p<60->z.length<=4000->di kd z=some v->¬v=.non->(∀H',ζ H H'->Q v H')->JR K vs H Q E
theorem Gm(T:Txt K mg):Def P w K mg base true 6 "read_word" ["kind","words","place"] (JR K):=by
 show Γ (S:=Ii) T.Gm (λ_ _ _ _ _ H vs Q E x h=>?_);intro X _;let#[g,a,ws,p,z,v,rfl,i,j,hz,l,m,n,o,q]:=h;let nd:=Ii.nd;let y:= @nJ P w K mg base T;let B:= @uW P w K mg base T;let f:=(aai.mp hz).1;w_up;cbv;show#[a,ws,p,rfl,i,j,(),λs=>absurd #[f,l] s,λz' e _=>?_];rw[hz]at e;cases e;w_up;show VR (λ_ _ _ _=>False) rfl rfl (λF pn xo po=>?_) (λσ c d H' u=>u.elim);f_len;cbv;show#[g,z,rfl,m,λH' sm=>?_];rw[n];show Ζ ?_;w_up;cbv;rw[decide_eq_false o];cbv;show q H' sm
inductive cO|all|none (p:Nat)|look (l:Lk) (p:Nat) (v:V)
def uc(mg:Str->Option ε):Lk->δ
 |.is=>ξ mg "IsSieve"
 |.over=>ξ mg "OverSieve"
 |.holds=>ξ mg "HoldsSieve"
def pq(mg:Str->Option ε)(H:Hp)(a:δ):cO->Str->Prop
 |.all,z=>∃dx,H a=some (.ins (ξ mg "AllSieve") dx [("text",.str z)])
 |.none p,z=>∃dx,H a=some (.ins (ξ mg "NoneSieve") dx [("text",.str z),("place",.int p)])
 |.look l p v,z=>∃dx,H a=some (.ins (uc mg l) dx (F3 z p v))
theorem pq.same{mg:Str->Option ε}{H H':Hp}{a:δ}{s:cO}{z:Str}(h:pq mg H a s z)(e:ζ H H'):pq mg H' a s z:=by
 cases s<;>let#[dx,h]:=h<;>show#[dx,e _ _ h]
def Ga(mg:Str->Option ε)(H:Hp)(p:δ)(s:cO)(z:Str)(n:Nat):=∃t,H p=some (.tup [.ref t,.int n])/\pq mg H t s z
inductive RV (K:ϩ) (mg:Str->Option ε) (vs:List V) (H:Hp) (Q:VK) (E:XK):Prop
 |mk (b:δ) (cs:List ι) (a:δ) (ws:List Str) (s i:Nat):vs=[.ref b,.ref a,.int s]->Ϛ H b cs->η K H a (ws.map V.str)->ws.length<=4000->(∀z∈ws,z.length<=1000)->s+2<=ws.length->eY cs ws (s+1)=some i->(∀p H',ζ H H'->Ga mg H' p (.none i) (bM ws s (s+2)) (s+2)->Q (.ref p) H')->RV K mg vs H Q E
theorem Gk(T:Txt K mg):Def P w K mg base true 5 "read_none" ["columns","words","start"] (RV K mg):=by
 show Γ (S:=Mu) T.Gk (λ_ _ _ _ _ H vs Q E C h=>?_);intro X _;let#[b,cs,a,ws,f,i,rfl,D,n,s,hz,g,hi,q]:=h;let nd:=Mu.nd;let hsz:=ϳ;let J:= @vg P w K mg base T;let L:= @mX P w K mg base T;let M:iR P w K mg base true 2 "NoneSieve" (ξ mg "NoneSieve") ["self","text","place"] (BZ K):=(acN T).make T.ZF T.ahx;w_up;cbv;show#[b,cs,a,ws,f+1,by simp,D,n,s,(),λe=>(by rw[hi]at e;cases e),λO H2 u e=>?_];rw[hi]at e;cases e;cbv;show j5 M C (by decide) (λ_=>rfl) ϑ ?_;cbv;show#[a,ws,f,f+2,by simp,u.seq n,s,hz,(),g,λv j=>?_];cbv;intro y dx l m R;show#[y,_,dx,[],bM ws f (f+2),_,rfl,υ,T.tL,T.Le,T.Od,by simp,rfl,?_];cbv;show#[Δ,λp x=>?_];generalize z:upd (upd (upd (upd v dx (.own y)) y (.ins (ξ mg "NoneSieve") dx [])) y _) y _=G at x⊢;let F:ζ v G:=λc o e=>by
  rw[<-z,ρ (ϐ e l),ρ (ϐ e l),ρ (ϐ e l),ρ (ϐ e m)];show e
 let I:G y=some (.ins (ξ mg "NoneSieve") dx [("text",.str (bM ws f (f+2))),("place",.int i)]):=by
  rw[<-z];show υ
 let B:ζ G (upd G p (.tup [.ref y,.int (f+2)])):=ζ.upd x;show q p _ (((u.trans j).trans F).trans B) #[y,υ,dx,B _ _ I]
def kY:Lk->Str
 |.is=>"is"
 |.over=>"over"
 |.holds=>"holds"
inductive Hu (K:ϩ) (mg:Str->Option ε) (vs:List V) (H:Hp) (Q:VK) (E:XK):Prop
 |mk (l:Lk) (b:δ) (cs:List ι) (a:δ) (ws:List Str) (s i:Nat) (c:ι) (z:Str) (v:V):vs=[.ref b,.ref a,.int s]->Ϛ H b cs->η K H a (ws.map V.str)->ws.length<=4000->(∀z∈ws,z.length<=1000)->s+3<=ws.length->s+2<60->ws[s]?=some (kY l)->eY cs ws (s+1)=some i->cs[i]?=some c->(l=.holds->c.2="text")->ws[s+2]?=some z->di c.2 z=some v->¬v=.non->(∀p H',ζ H H'->Ga mg H' p (.look l i v) (bM ws s (s+3)) (s+3)->Q (.ref p) H')->Hu K mg vs H Q E
theorem zE(T:Txt K mg):Def P w K mg base true 7 "read_of_value" ["columns","words","start"] (Hu K mg):=by
 show Γ (S:=VH) T.zE (λ_ _ _ _ _ H vs Q E U h=>?_);intro X _;let#[l,b,cs,a,ws,f,i,c,z,v,rfl,hC,n,B,hz,C,W,hw,hi,hc,hh,D,Y,Z,q]:=h;let nd:=VH.nd;let hsz:=ϳ;let g1:=T.Bh;let g2:=T.Kf;let g3:=T.Em;let g4:=T.yj;let g5:=T.zJ;let D1:= @vg P w K mg base T;let D2:= @mX P w K mg base T;let D3:= @Gm P w K mg base T;w_up;cbv;show ϥ n (bw (by rw[aci,hw];rfl)) ?_;cbv;show#[b,cs,a,ws,f+1,by simp,hC,n,B,(),λe=>(by rw[hi]at e;cases e),λi' H2 m e=>?_];rw[hi]at e;cases e;let#[vs,hb,ab]:=hC.same m;let#[cv,gc,t,rfl,ht]:=ab.get' hc;w_up;cbv;show ϥ (η.of hb) (bw gc) ?_;cbv;show ύ (ο.of ht) (show Χ [V.str c.1,V.str c.2] 1=some (V.str c.2)from rfl) ?_;cases l with
 |is=>
  let M:iR P w K mg base true 2 "IsSieve" (ξ mg "IsSieve") ["self","text","place","value"] (rT K):=(Gx T).make T.aij T.acs;w_up;cbv;show cC ?_;show Ζ ?_;w_up;cbv;show#[c.2,a,ws,f+2,z,v,by simp,m.seq n,B,D,W,by have:=hz z (aak D);omega,Y,Z,λH3 g=>?_];cbv;show#[a,ws,f,f+3,by simp,(m.trans g).seq n,B,hz,(),C,λF I =>?_];w_up;cbv;show eU ?_;cbv;show j5 M U (by decide) (λ_=>rfl) ϑ ?_;cbv;intro y dx s j u;show#[y,_,dx,[],bM ws f (f+3),_,v,rfl,υ,T.nM,T.HR,T.HX,T.QL,by simp,λG J L=>#[rfl,?_]];cbv;show#[Δ,λp O=>?_];let R:ζ F G:=λc o e=>L c o (ϐ e s) (by rw[ρ (ϐ e s),ρ (ϐ e j)];show e)
  let x:ζ G (upd G p (.tup [.ref y,.int (f+3)])):=ζ.upd O;show q p _ ((((m.trans g).trans I).trans R).trans x) #[y,υ,dx,x _ _ J]
 |over=>
  let M:iR P w K mg base true 2 "OverSieve" (ξ mg "OverSieve") ["self","text","place","value"] (rT K):=(Gx T).make T.Xg T.YX;w_up;cbv;show cC ?_;show Ζ ?_;w_up;cbv;show#[c.2,a,ws,f+2,z,v,by simp,m.seq n,B,D,W,by have:=hz z (aak D);omega,Y,Z,λH3 g=>?_];cbv;show#[a,ws,f,f+3,by simp,(m.trans g).seq n,B,hz,(),C,λF I =>?_];w_up;cbv;show cC ?_;show Ζ ?_;w_up;cbv;show cC ?_;show Ζ ?_;w_up;cbv;show eU ?_;cbv;show j5 M U (by decide) (λ_=>rfl) ϑ ?_;cbv;intro y dx s j u;show#[y,_,dx,[],bM ws f (f+3),_,v,rfl,υ,T.oU,T.K6,T.K9,T.Oa,by simp,λG J L=>#[rfl,?_]];cbv;show#[Δ,λp O=>?_];let R:ζ F G:=λc o e=>L c o (ϐ e s) (by rw[ρ (ϐ e s),ρ (ϐ e j)];show e)
  let x:ζ G (upd G p (.tup [.ref y,.int (f+3)])):=ζ.upd O;show q p _ ((((m.trans g).trans I).trans R).trans x) #[y,υ,dx,x _ _ J]
 |holds=>
  let M:iR P w K mg base true 2 "HoldsSieve" (ξ mg "HoldsSieve") ["self","text","place","value"] (rT K):=(Gx T).make T.agA T.ade;w_up;cbv;show eU ?_;cbv;rw[hh rfl,decide_eq_true rfl];walk_at"t";show Ζ ?_;w_up;cbv;show#[c.2,a,ws,f+2,z,v,by simp,m.seq n,B,D,W,by have:=hz z (aak D);omega,Y,Z,λH3 g=>?_];cbv;show#[a,ws,f,f+3,by simp,(m.trans g).seq n,B,hz,(),C,λF I =>?_];w_up;cbv;show cC ?_;show Ζ ?_;w_up;cbv;show cC ?_;show Ζ ?_;w_up;cbv;show cC ?_;cbv;show j5 M U (by decide) (λ_=>rfl) ϑ ?_;cbv;intro y dx s j u;show#[y,_,dx,[],bM ws f (f+3),_,v,rfl,υ,T.pG,T.O6,T.VD,T.OJ,by simp,λG J L=>#[rfl,?_]];cbv;show#[Δ,λp O=>?_];let R:ζ F G:=λc o e=>L c o (ϐ e s) (by rw[ρ (ϐ e s),ρ (ϐ e j)];show e)
  let x:ζ G (upd G p (.tup [.ref y,.int (f+3)])):=ζ.upd O;show q p _ ((((m.trans g).trans I).trans R).trans x) #[y,υ,dx,x _ _ J]
def oE(cs:List ι)(ws:List Str)(s:Nat):cO->Nat->Prop
 |.all,n=>ws[s]?=some "all"/\n=s+1
 |.none i,n=>ws[s]?=some "none"/\s+2<=ws.length/\eY cs ws (s+1)=some i/\n=s+2
 |.look l i v,n=>s+3<=ws.length/\s+2<60/\ws[s]?=some (kY l)/\eY cs ws (s+1)=some i/\(∃c z,cs[i]?=some c/\(l=.holds->c.2="text")/\ws[s+2]?=some z/\di c.2 z=some v)/\(¬v=.non)/\n=s+3
theorem agV{ws:List Str}{s:Nat}{z:Str}(h:ws[s]?=some z):bM ws s (s+1)=z:=by
 unfold bM;let e:(ws.drop s).take (s+1-s)=[z]:=by
  rw[show s+1-s=1 by omega,rA h];rfl
 rw[e];show join_one _ z
inductive Ko (K:ϩ) (mg:Str->Option ε) (vs:List V) (H:Hp) (Q:VK) (E:XK):Prop
 |mk (b:δ) (cs:List ι) (a:δ) (ws:List Str) (s n:Nat) (k:Int) (sv:cO):vs=[.ref b,.ref a,.int s,.int k]->Ϛ H b cs->η K H a (ws.map V.str)->ws.length<=4000->(∀z∈ws,z.length<=1000)->s<60->oE cs ws s sv n->(∀p H',ζ H H'->Ga mg H' p sv (bM ws s n) n->Q (.ref p) H')->Ko K mg vs H Q E
theorem acP(T:Txt K mg):Def P w K mg base true 8 "read_part" ["columns","words","start","within"] (Ko K mg):=by
 show Γ (S:=v8) T.Td (λ_ _ _ _ _ H vs Q E W h=>?_);intro X _;let#[b,cs,a,ws,m,n,k,J,rfl,L,B,C,hz,Y,f,q]:=h;let nd:=v8.nd;let hsz:=ϳ;let g1:=T.Bh;let g2:=T.Ly;let g3:=T.Em;let g4:=T.yj;let g5:=T.zJ;let g6:=T.KJ;let D1:= @nJ P w K mg base T;let D2:= @Gk P w K mg base T;let D3:= @zE P w K mg base T;let M:iR P w K mg base true 1 "AllSieve" (ξ mg "AllSieve") ["self","text"] (j9 K):=p6.make T.Yo T.Yc;let g:∃z,ws[m]?=some z:=by
  cases J with
  |all=>show#[_,f.1]
  |none i=>show#[_,f.1]
  |look l i v=>show#[_,f.2.2.1]
 let#[z0,g]:=g;let D:=(aai.mp g).1;w_up;cbv;show#[a,ws,m,rfl,B,C,(),λZ=>absurd #[D,Y] Z,λz' s _=>?_];rw[g]at s;cases s;w_up;cbv;cases J with
 |all=>
  let#[h1,rfl]:=f;rw[g]at h1;cases h1;show eU ?_;cbv;show j5 M W (by decide) (λ_=>rfl) ϑ ?_;cbv;intro y dx O F Ϲ;show#[y,_,dx,[],_,rfl,υ,T.xg,T.TY,by simp,rfl,?_];cbv;show#[Δ,λp j=>?_];generalize R:upd (upd (upd H dx (.own y)) y (.ins (ξ mg "AllSieve") dx [])) y _=G at j⊢;let dJ:ζ H G:=λc o e=>by
   rw[<-R,ρ (ϐ e O),ρ (ϐ e O),ρ (ϐ e F)];show e
  let ey:G y=some (.ins (ξ mg "AllSieve") dx [("text",.str "all")]):=by
   rw[<-R];show υ
  let U:ζ G (upd G p (.tup [.ref y,.int (m+1)])):=ζ.upd j;show q p _ (dJ.trans U) #[y,υ,dx,?_];rw[agV g];show U _ _ ey
 |none i=>
  let#[h1,h2,u,rfl]:=f;rw[g]at h1;cases h1;show cC ?_;show Ζ ?_;w_up;cbv;show eU ?_;cbv;show#[b,cs,a,ws,m,i,rfl,L,B,C,hz,h2,u,λp H' sm j=>q p H' sm j]
 |look l i v=>
  let#[h1,h2,u,h4,#[c,z,h5,h6,h7,h8],h9,rfl]:=f;rw[g]at u;cases u;let e1:¬V.str (kY l)=V.str ("all":Str):=by cases l<;>fin2
  let e2:¬V.str (kY l)=V.str ("none":Str):=by cases l<;>fin2
  let e3:gF (V.str (kY l)) [V.str ("is":Str),V.str ("under":Str),V.str ("over":Str),V.str ("holds":Str)]=true:=by cases l<;>fin2
  show Θ (λh=>absurd h e1) (λ_=>?_);show Ζ ?_;w_up;cbv;show Θ (λh=>absurd h e2) (λ_=>?_);show Ζ ?_;w_up;cbv;show#[Δ,λtp I=>?_];show ni (ο.of υ) ?_;rw[e3];let x:ζ H (upd H tp (.tup [.str "is",.str "under",.str "over",.str "holds"])):=ζ.upd I;generalize upd H tp (.tup [.str "is",.str "under",.str "over",.str "holds"])=H2 at x⊢;cbv;show#[l,b,cs,a,ws,m,i,c,z,v,rfl,L.same x,x.seq B,C,hz,h1,h2,g,h4,h5,h6,h7,h8,h9,λp H' sm j=>q p H' (x.trans sm) j]
inductive Tj (vs:List V) (H:Hp) (Q:VK) (E:XK):Prop
 |mk (x) (y):vs=[x,y]->Q (.bl true) H->Tj vs H Q E
theorem abp{cc:Bool}:FD P w K mg base cc 1 "lets" "Sieve.lets" Su ["self","values"] Tj:=by
 show aG (N:=["self","values"]) (λ_ _ _ _ _ H vs Q E a h=>?_);intro X _;let#[x,y,rfl,q]:=h;f_len;cbv;show q
inductive Sv (K:ϩ) (vs:List V) (H:Hp) (Q:VK) (E:XK):Prop
 |mk (a C dx:δ) (fs:List (Str×V)) (p:Nat) (b:δ) (xs:List V) (x:V):vs=[.ref a,.ref b]->H a=some (.ins C dx fs)->Ϙ K C->Ρ K C "place"->fs.lookup ("place":Str)=some (V.int p)->η K H b xs->xs[p]?=some x->Q (.bl (decide (x=.non))) H->Sv K vs H Q E
theorem aa4{cc:Bool}:FD P w K mg base cc 1 "lets" "NoneSieve.lets" JX ["self","values"] (Sv K):=by
 show aG (N:=["self","values"]) (λ_ _ _ _ _ H vs Q E l h=>?_);intro X _;let#[a,C,dx,fs,p,b,xs,x,rfl,c,e,f,g,i,j,q]:=h;f_len;show ω ?_;cbv;show aq ?_;f_are;show#[a,C,dx,fs,_,rfl,c,e,f,g,?_];show ϥ i (bw j) ?_;cbv;show q
inductive CN (K:ϩ) (vs:List V) (H:Hp) (Q:VK) (E:XK):Prop
 |mk (a C dx:δ) (fs:List (Str×V)) (z:Str) (p:V):vs=[.ref a,.str z,p]->H a=some (.ins C dx fs)->Ϙ K C->Ρ K C "text"->Ρ K C "one"->fs.length<800->Q .non (upd (upd H a (.ins C dx (ϛ "text" (.str z) fs))) a (.ins C dx (ϛ "one" p (ϛ "text" (.str z) fs))))->CN K vs H Q E
theorem aap(T:Txt K mg){cc:Bool}:FD P w K mg base cc 2 "__init__" "NotSieve.__init__" Q3 ["self","text","one"] (CN K):=by
 show aG (N:=["self","text","one"]) (λ_ _ _ _ _ H vs Q E f h=>?_);intro X _;let#[a,C,dx,fs,z,p,rfl,g,e,i,c,j,q]:=h;let B:pR P w K mg base cc 1 "Sieve" "__init__" ["self","text"] (j9 K):=p6.asked T.vG T.xZ;let hz:=jM "text" (V.str z) fs;w_up;show bA ?_;show xx (pl:=_) B f id ϑ ?_;cbv;show#[a,C,dx,fs,z,rfl,g,e,i,(),?_];f_len;show d9 ?_;f_are;f_are;show#[a,C,dx,_,rfl,υ,e,c,(),q]
inductive yz (K:ϩ) (vs:List V) (H:Hp) (Q:VK) (E:XK):Prop
 |mk (a C dx:δ) (fs:List (Str×V)) (z:Str) (p v:V):vs=[.ref a,.str z,p,v]->H a=some (.ins C dx fs)->Ϙ K C->Ρ K C "text"->Ρ K C "one"->Ρ K C "other"->fs.length<800->(∀H',H' a=some (.ins C dx (ϛ "other" v (ϛ "one" p (ϛ "text" (.str z) fs))))->(∀b o,b≠a->H b=some o->H' b=some o)->Q .non H')->yz K vs H Q E
theorem abU(T:Txt K mg){cc:Bool}:FD P w K mg base cc 2 "__init__" "PairSieve.__init__" Pb ["self","text","one","other"] (yz K):=by
 show aG (N:=["self","text","one","other"]) (λ_ _ _ _ _ H vs Q E i h=>?_);intro X _;let#[a,C,dx,fs,z,p,v,rfl,j,c,l,f,m,s,q]:=h;let B:pR P w K mg base cc 1 "Sieve" "__init__" ["self","text"] (j9 K):=p6.asked T.vG T.xZ;let hz:=jM "text" (V.str z) fs;let n:=jM "one" p (ϛ "text" (V.str z) fs);w_up;show bA ?_;show xx (pl:=_) B i id ϑ ?_;cbv;show#[a,C,dx,fs,z,rfl,j,c,l,(),?_];w_up;show d9 ?_;f_are;f_are;show#[a,C,dx,_,rfl,υ,c,f,(),?_];f_len;show d9 ?_;f_are;f_are;show#[a,C,dx,_,rfl,υ,c,m,(),q _ υ λb o g e=>?_];rw[ρ g,ρ g,ρ g];show e
inductive Tr
 |one (s:cO)
 |nt (t:Tr)
 |ei (t u:Tr)
def Tr.dep:Tr->Nat
 |.one _=>0
 |.nt t=>t.dep+1
 |.ei t u=>max t.dep u.dep+1
def Reads(cs:List ι)(ws:List Str):Tr->Nat->Nat->Prop
 |.one a,s,e=>s<60/\oE cs ws s a e
 |.nt t,s,e=>s<60/\ws[s]?=some "not"/\Reads cs ws t (s+1) e
 |.ei t u,s,e=>s<60/\ws[s]?=some "either"/\∃m,Reads cs ws t (s+1) m/\Reads cs ws u m e
theorem oE.le{cs:List ι}{ws:List Str}{s e:Nat}:∀{a:cO},oE cs ws s a e->s<e/\e<=ws.length
 |.all,h=>by
   let#[h1,rfl]:=h;have:=(aai.mp h1).1;omega
 |.none i,h=>by
   let#[_,h2,_,rfl]:=h;omega
 |.look l i v,h=>by
   let#[h1,_,_,_,_,_,rfl]:=h;omega
theorem Reads.le{cs:List ι}{ws:List Str}:∀{t:Tr}{s e:Nat},Reads cs ws t s e->s<e/\e<=ws.length
 |.one a,s,e,h=>oE.le h.2
 |.nt t,s,e,h=>by have:=Reads.le (t:=t) h.2.2;omega
 |.ei t u,s,e,h=>by
   let#[_,_,m,h1,h2]:=h;have:=Reads.le (t:=t) h1;have:=Reads.le (t:=u) h2;omega
def bH(mg:Str->Option ε)(H:Hp):Tr->δ->Str->Prop
 |.one s,a,z=>pq mg H a s z
 |.nt t,a,z=>∃dx b y,H a=some (.ins (ξ mg "NotSieve") dx [("text",.str z),("one",.ref b)])/\bH mg H t b y
 |.ei t u,a,z=>∃dx b c y x,H a=some (.ins (ξ mg "EitherSieve") dx [("text",.str z),("one",.ref b),("other",.ref c)])/\bH mg H t b y/\bH mg H u c x
theorem bH.same{mg:Str->Option ε}{H H':Hp}(e:ζ H H'):∀{t:Tr}{a:δ}{z:Str},bH mg H t a z->bH mg H' t a z
 |.one s,a,z,h=>pq.same h e
 |.nt t,a,z,h=>by
   let#[dx,b,y,h1,h2]:=h;show#[dx,b,y,e _ _ h1,bH.same e h2]
 |.ei t u,a,z,h=>by
   let#[dx,b,c,y,x,h1,h2,f]:=h;show#[dx,b,c,y,x,e _ _ h1,bH.same e h2,bH.same e f]
theorem ah4{k:Nat}{x:Str}{ps:List Str}{sp sp':Sp}(F:Def P w K mg base true k x ps sp)(h:∀vs H Q E,sp' vs H Q E->sp vs H Q E):Def P w K mg base true k x ps sp':=by
 let#[f,fd,h1,h2,e,c]:=F.ex;show#[f,fd,h1,h2,e,#[λvs H Q E z=>c.len vs H Q E (h vs H Q E z),λA outer s H a us vs Q E g i j r z=>c.run A outer s H a us vs Q E g i j r (h vs H Q E z)]]
theorem Ad{k k':Nat}{C:δ}{x:Str}{ps:List Str}{sp sp':Sp}(F:ϟ P w K mg base true k C x ps sp)(e:k<=k')(h:∀vs H Q E,sp' vs H Q E->sp vs H Q E):ϟ P w K mg base true k' C x ps sp':=by
 let#[f,fd,h1,h2,c]:=F.ex;let c:=c.mono e;show#[F.cls,f,fd,h1,h2,#[λvs H Q E z=>c.len vs H Q E (h vs H Q E z),λA outer s H a us vs Q E g i j r z=>c.run A outer s H a us vs Q E g i j r (h vs H Q E z)]]
inductive j8 (K:ϩ) (mg:Str->Option ε) (t:Tr) (vs:List V) (H:Hp) (Q:VK) (E:XK):Prop
 |mk (b:δ) (cs:List ι) (a:δ) (ws:List Str) (s e:Nat) (k:Int):vs=[.ref b,.ref a,.int s,.int k]->Ϛ H b cs->η K H a (ws.map V.str)->ws.length<=4000->(∀z∈ws,z.length<=1000)->0<=k->k+t.dep<=20->Reads cs ws t s e->(∀p v H',ζ H H'->H' p=some (.tup [.ref v,.int e])->bH mg H' t v (bM ws s e)->Q (.ref p) H')->j8 K mg t vs H Q E
inductive vK (K:ϩ) (mg:Str->Option ε) (t:Tr) (vs:List V) (H:Hp) (Q:VK) (E:XK):Prop
 |mk (b:δ) (cs:List ι) (a:δ) (ws:List Str) (s e:Nat) (k:Int):vs=[.ref b,.ref a,.int s,.int k]->Ϛ H b cs->η K H a (ws.map V.str)->ws.length<=4000->(∀z∈ws,z.length<=1000)->1<=k->k+t.dep<=21->k<=20->Reads cs ws t s e->(∀p v H',ζ H H'->H' p=some (.tup [.ref v,.int e])->bH mg H' t v (bM ws s e)->Q (.ref p) H')->vK K mg t vs H Q E
theorem YG(T:Txt K mg)(c:cO):Def P w K mg base true 8 "read_part" ["columns","words","start","within"] (j8 K mg (.one c)):=ah4 (acP T) λvs H Q E h=>by
 let#[b,cs,a,ws,s,e,k,rfl,g,i,j,hz,l,n,f,q]:=h;show#[b,cs,a,ws,s,e,k,c,rfl,g,i,j,hz,f.1,f.2,λp H' sm m=>?_];let#[v,h1,h2]:=m;show q p v H' sm h1 h2
def yS:Tr->Option Str
 |.one _=>none
 |.nt _=>some "not"
 |.ei _ _=>some "either"
theorem Yp{cs:List ι}{ws:List Str}{t:Tr}{s e:Nat}{z:Str}(h:Reads cs ws t s e)(a:yS t=some z):s<60/\ws[s]?=some z:=by
 cases t with
 |one _=>cases a
 |nt t=>cases a;show#[h.1,h.2.1]
 |ei t u=>cases a;show#[h.1,h.2.1]
theorem xf{t:Tr}{z:Str}(a:yS t=some z):z="not"\/z="both"\/z="either":=by
 cases t with
 |one _=>cases a
 |nt t=>cases a;show .inl rfl
 |ei t u=>cases a;show .inr (.inr rfl)
theorem TF(T:Txt K mg){t:Tr}{z:Str}{lv:Nat}(f:yS t=some z)(W:3<=lv)(D:Def P w K mg base true lv "read_of_sieves" ["columns","words","start","within"] (vK K mg t)):Def P w K mg base true (lv+1) "read_part" ["columns","words","start","within"] (j8 K mg t):=by
 show Γ (S:=v8) T.Td (λ_ _ A _ _ H vs Q E Y h=>?_);intro X _;let#[b,cs,a,ws,o,e,k,rfl,F,s,x,hz,G,Z,g,q]:=h;let nd:=v8.nd;let hsz:=ϳ;let g1:=T.Bh;let g2:=T.Ly;let g3:=T.Em;let g4:=T.yj;let g5:=T.zJ;let g6:=T.KJ;let g7:=T.zA;let g8:=T.Ae;let g9:=T.aag;let D1:= @nJ P w K mg base T;let#[I,i]:=Yp g f;let l:=(aai.mp i).1;let pC:1<=t.dep:=by
  cases t with
  |one _=>cases f
  |nt t=>show 1<=t.dep+1;omega
  |ei t u=>show 1<=max t.dep u.dep+1;omega
 let e1:¬V.str z=V.str ("all":Str):=by obtain rfl|rfl|rfl:=xf f<;>fin2
 let J:¬V.str z=V.str ("none":Str):=by obtain rfl|rfl|rfl:=xf f<;>fin2
 let L:gF (V.str z) [V.str ("is":Str),V.str ("under":Str),V.str ("over":Str),V.str ("holds":Str)]=false:=by obtain rfl|rfl|rfl:=xf f<;>fin2
 let M:gF (V.str z) [V.str ("not":Str),V.str ("both":Str),V.str ("either":Str)]=true:=by obtain rfl|rfl|rfl:=xf f<;>fin2
 k_go;show#[a,ws,o,rfl,s,x,(),λO=>absurd #[l,I] O,λz' j _=>?_];rw[i]at j;cases j;w_up;show Κ ?_;lk;show Θ (λh=>absurd h e1) (λ_=>?_);show Ζ ?_;w_up;show Κ ?_;lk;show Θ (λh=>absurd h J) (λ_=>?_);show Ζ ?_;w_up;show Κ ?_;lk;show#[Δ,λtp m=>?_];show ni (ο.of υ) ?_;rw[L];let y:ζ H (upd H tp (.tup [.str "is",.str "under",.str "over",.str "holds"])):=ζ.upd m;generalize upd H tp (.tup [.str "is",.str "under",.str "over",.str "holds"])=H2 at y⊢;lk;show Ζ ?_;w_up;show Κ ?_;lk;show#[Δ,λB n=>?_];show ni (ο.of υ) ?_;rw[M];let C:ζ H2 (upd H2 B (.tup [.str "not",.str "both",.str "either"])):=ζ.upd n;generalize upd H2 B (.tup [.str "not",.str "both",.str "either"])=H3 at C⊢;lk;let c:=y.trans C;f_len;show ω ?_;lk;show#[b,cs,a,ws,o,e,k+1,rfl,F.same c,c.seq s,x,hz,(),(),(),g,λp v H' sm R U=>q p v H' (c.trans sm) R U]
theorem afm(T:Txt K mg){t:Tr}{lv x:Nat}(D1:Def P w K mg base true x "read_part" ["columns","words","start","within"] (j8 K mg t))(h1:x<=lv)(h3:3<=lv):Def P w K mg base true (lv+1) "read_of_sieves" ["columns","words","start","within"] (vK K mg (.nt t)):=by
 show Γ (S:=wX) T.Io (λ_ _ A _ _ H vs Q E O h=>?_);intro X _;let#[b,cs,a,ws,f,e,k,rfl,R,i,z,hz,U,W,Y,g,q]:=h;let nd:=wX.nd;let hsz:=ϳ;let g1:=T.Qc;let g2:=T.zA;let g3:=T.Ae;let DB:= @mX P w K mg base T;let Z:=g.le;let hd:k+(t.dep+1:Nat)<=21:=W;let#[jg,j,B]:=g;let abi:=B.le;let sw:η K H a (ws.map V.str):=i;let e1:(f:Int)+1=((f+1:Nat):Int):=()
 w_up;show Κ ?_;lk;show Θ (λh=>absurd h ()) (λ_=>?_);show Ζ ?_;k_go;show ϥ sw (v:=.str ("not":Str)) (bw (by rw[aci,j];rfl)) ?_;w_up;show dU ?_;lk;rw[e1];show#[b,cs,a,ws,f+1,_,k,rfl,R,i,z,hz,(),(),B,λp1 C H1 D l m=>?_];show ao (ο.of l) (Ε (Β nd (by rfl) (.inl rfl) (.inl rfl) (Ε (Β nd (by rfl) (.inl rfl) (.inl rfl) (aj ?_)))));w_up;show Κ ?_;lk;show eU ?_;f_len;show ω ?_;let M:iR P w K mg base true 2 "NotSieve" (ξ mg "NotSieve") ["self","text","one"] (CN K):=(aap T).make T.afQ T.Wg;lk;show j5 M O () (λ_=>rfl) ϑ ?_;lk;show#[a,ws,f,e,rfl,D.seq i,z,hz,(),(),λH2 F =>?_];lk;intro y dx n s Ϲ;show#[y,_,dx,[],_,_,rfl,υ,T.rF,T.NP,T.HJ,by simp,rfl,?_];lk;show#[Δ,λp I=>?_];generalize J:upd (upd (upd (upd H2 dx (.own y)) y (.ins (ξ mg "NotSieve") dx [])) y _) y _=G at I⊢;let L:ζ H2 G:=λc o e=>by
  rw[<-J,ρ (ϐ e n),ρ (ϐ e n),ρ (ϐ e n),ρ (ϐ e s)];show e
 let ey:G y=some (.ins (ξ mg "NotSieve") dx [("text",.str (bM ws f e)),("one",.ref C)]):=by
  rw[<-J];show υ
 let u:ζ G (upd G p (.tup [.ref y,.int e])):=ζ.upd I;show q p y _ (((D.trans F).trans L).trans u) υ #[dx,C,_,u _ _ ey,((m.same F).same L).same u]
theorem agH(T:Txt K mg){t u:Tr}{lv J L:Nat}(D1:Def P w K mg base true J "read_part" ["columns","words","start","within"] (j8 K mg t))(h1:J<=lv)(O:True->Def P w K mg base true L "read_part" ["columns","words","start","within"] (j8 K mg u))(h2:L<=lv)(h3:3<=lv):Def P w K mg base true (lv+1) "read_of_sieves" ["columns","words","start","within"] (vK K mg (.ei t u)):=by
 show Γ (S:=wX) T.Io (λ_ _ A _ _ H vs Q E hr h=>?_);intro X _;let#[b,cs,a,ws,f,e,k,rfl,R,i,j,hz,hk0,hk,agz,g,q]:=h;let nd:=wX.nd;let hsz:=ϳ;let g1:=T.Qc;let g2:=T.zA;let g3:=T.Ae;let DB:= @mX P w K mg base T;let hle:=g.le;let hd:k+(max t.dep u.dep+1:Nat)<=21:=hk;let#[jg,l,m,U,W]:=g;let akd:=W.le;let abi:=U.le;let sw:η K H a (ws.map V.str):=i;let e1:(f:Int)+1=((f+1:Nat):Int):=()
 w_up;show Κ ?_;lk;show Θ (λh=>absurd h ()) (λ_=>?_);show Ζ ?_;k_go;show ϥ sw (v:=.str ("either":Str)) (bw (by rw[aci,l];rfl)) ?_;w_up;show dU ?_;lk;rw[e1];show#[b,cs,a,ws,f+1,_,k,rfl,R,i,j,hz,(),(),U,λp1 Y H1 n s x=>?_];show ao (ο.of s) (Ε (Β nd (by rfl) (.inl rfl) (.inl rfl) (Ε (Β nd (by rfl) (.inl rfl) (.inl rfl) (aj ?_)))));w_up;show Κ ?_;lk;show cC ?_;clear D1;let O:=O trivial;show Ζ ?_;w_up;show dU ?_;lk;show#[b,cs,a,ws,m,e,k,rfl,R.same n,n.seq i,j,hz,(),(),W,λp2 Z H2 Η z B=>?_];show ao (ο.of z) (Ε (Β nd (by rfl) (.inl rfl) (.inl rfl) (Ε (Β nd (by rfl) (.inl rfl) (.inl rfl) (aj ?_)))));let oR:=n.trans Η;k_go;show#[a,ws,f,e,rfl,oR.seq i,j,hz,(),(),λH3 C=>?_];let M:iR P w K mg base true 2 "EitherSieve" (ξ mg "EitherSieve") ["self","text","one","other"] (yz K):=(abU T).make T.abS T.ae3;w_up;show Κ ?_;lk;show cC ?_;show Ζ ?_;f_len;show ω ?_;lk;show j5 M hr () (λ_=>rfl) ϑ ?_;lk;intro y dx hy D Ϲ;show#[y,_,dx,[],_,_,_,rfl,υ,T.pP,T.Uz,T.T6,T.R7,by simp,λG F keep=>#[rfl,?_]];lk;show#[Δ,λp hp=>?_];let dJ:ζ H3 G:=λc o e=>keep _ _ (ϐ e hy) (by rw[ρ (ϐ e hy),ρ (ϐ e D)];show e)
 let F:G y=some (.ins (ξ mg "EitherSieve") dx [("text",.str (bM ws f e)),("one",.ref Y),("other",.ref Z)]):=F;let aR:ζ G (upd G p (.tup [.ref y,.int e])):=ζ.upd hp;let I:=(C.trans dJ).trans aR;show q p y _ (oR.trans I) υ #[dx,Y,Z,_,_,aR _ _ F,(x.same Η).same I,B.same I]
theorem wK(T:Txt K mg):∀t:Tr,Def P w K mg base true (8+2*t.dep) "read_part" ["columns","words","start","within"] (j8 K mg t)
 |.one a=>YG T a
 |.nt t=>by
   let h:=TF T (z:="not") (lv:=8+2*t.dep+1) rfl () (afm T (lv:=8+2*t.dep) (wK T t) (Ϭ _) ());let e:8+2*(Tr.nt t).dep=8+2*t.dep+1+1:=by show 8+2*(t.dep+1)=_;omega
   rw[e];show h
 |.ei t u=>by
   let h:=TF T (z:="either") (lv:=8+2*max t.dep u.dep+1) rfl () (agH T (lv:=8+2*max t.dep u.dep) (wK T t) () (λ_=>wK T u) () ());let e:8+2*(Tr.ei t u).dep=8+2*max t.dep u.dep+1+1:=by show 8+2*(max t.dep u.dep+1)=_;omega
   rw[e];show h
inductive Ti (mg:Str->Option ε) (t:Tr) (vs:List V) (H:Hp) (Q:VK) (E:XK):Prop
 |mk (b:δ) (cs:List ι) (z:Str):vs=[.ref b,.str z]->Ϛ H b cs->z.length<=3000->(∀y∈ Ψ 32 z,y.length<=1000)->t.dep<=20->Reads cs (Ψ 32 z) t 0 (Ψ 32 z).length->(∀v H',ζ H H'->bH mg H' t v (bM (Ψ 32 z) 0 (Ψ 32 z).length)->Q (.ref v) H')->Ti mg t vs H Q E
theorem JM(T:Txt K mg)(t:Tr):Def P w K mg base true (9+2*t.dep) "read_sieve" ["columns","text"] (Ti mg t):=by
 let l:9+2*t.dep=(8+2*t.dep)+1:=()
 rw[l];show Γ (S:=HW) T.aeJ (λ_ _ _ _ s H vs Q E B h=>?_);intro X _;let#[b,cs,z,rfl,m,hz,a,n,e,q]:=h;let nd:=HW.nd;let n1:=T.bF;let hsz:=ϳ;let C:= @wK P w K mg base T t;let o:=Jj 32 z;w_up;f_tup;show dC F.plainAttrs_str F.slot_str_split F.type_str_split (h:=?_);cbv;show m_split (c:=32) λp u=>?_
 let#[f,ep]:=ϋ u (.lst ((Ψ 32 z).map V.str));generalize upd H p (.lst ((Ψ 32 z).map V.str))=H1 at f ep⊢;w_up;show dU ?_;lk;show#[b,cs,p,Ψ 32 z,0,_,0,rfl,m.same f,η.of ep,(),a,by decide,(),e,λD v H2 j g i=>?_];show ao (ο.of g) (Ε (Β nd (by rfl) (.inl rfl) (.inl rfl) (Ε (Β nd (by rfl) (.inl rfl) (.inl rfl) (aj ?_)))));let x:η K H2 p ((Ψ 32 z).map V.str):=η.of (j _ _ ep);let y:((Ψ 32 z).map V.str).length=(Ψ 32 z).length:=abd ..;w_up;cbv;rw[y];show Θ (λh=>absurd h ()) (λ_=>?_);cbv;show q v H2 (f.trans j) i
def af1(xs:List V):cO->Bool
 |.all=>true
 |.none p=>decide ((xs[p]?).getD .non=.non)
 |.look l p v=> !decide ((xs[p]?).getD .non=.non)&&uN l ((xs[p]?).getD .non) v
def J5(xs:List V):cO->Prop
 |.all=>True
 |.none p=>p<xs.length
 |.look l p v=>∃x,xs[p]?=some x/\(x=.non\/Cu l x v)
def Ϡ(xs:List V):Tr->Bool
 |.one s=>af1 xs s
 |.nt t=> !Ϡ xs t
 |.ei t u=>Ϡ xs t||Ϡ xs u
def pD(xs:List V):Tr->Prop
 |.one s=>J5 xs s
 |.nt t=>pD xs t
 |.ei t u=>pD xs t/\pD xs u
def dq(mg:Str->Option ε):Tr->δ
 |.one .all=>ξ mg "AllSieve"
 |.one (.none _)=>ξ mg "NoneSieve"
 |.one (.look l _ _)=>uc mg l
 |.nt _=>ξ mg "NotSieve"
 |.ei _ _=>ξ mg "EitherSieve"
inductive gG (K:ϩ) (mg:Str->Option ε) (t:Tr) (vs:List V) (H:Hp) (Q:VK) (E:XK):Prop
 |mk (a b:δ) (z:Str) (xs:List V):vs=[.ref a,.ref b]->bH mg H t a z->η K H b xs->pD xs t->Q (.bl (Ϡ xs t)) H->gG K mg t vs H Q E
theorem bH.ins{mg:Str->Option ε}{H:Hp}:∀{t:Tr}{a:δ}{z:Str},bH mg H t a z->∃dx fs,H a=some (.ins (dq mg t) dx fs)/\fs.lookup ("lets":Str)=none
 |.one .all,a,z,h=>by let#[dx,h]:=h;show#[dx,_,h,rfl]
 |.one (.none p),a,z,h=>by let#[dx,h]:=h;show#[dx,_,h,rfl]
 |.one (.look l p v),a,z,h=>by let#[dx,h]:=h;show#[dx,_,h,rfl]
 |.nt t,a,z,h=>by let#[dx,b,y,h,_]:=h;show#[dx,_,h,rfl]
 |.ei t u,a,z,h=>by let#[dx,b,c,y,x,h,_]:=h;show#[dx,_,h,rfl]
theorem Xr(T:Txt K mg)(l:Lk)(p:Nat)(v:V):ϟ P w K mg base true 3 (uc mg l) "lets" ["self","values"] (DR K l (uc mg l)):=by
 cases l with
 |is=>show(Ci ((aaQ T.nM T.QL).meth T.nM T.YH) T.HX).meth T.nM T.YM
 |over=>show(Ci ((ago T T.oU T.Oa).meth T.oU T.WK) T.K9).meth T.oU T.ael
 |holds=>show(Ci ((Zm T.pG T.OJ).meth T.pG T.aeI) T.VD).meth T.pG T.ae9
theorem aid(T:Txt K mg){t:Tr}{lv:Nat}(M:ϟ P w K mg base true lv (dq mg t) "lets" ["self","values"] (gG K mg t)):FD P w K mg base true (lv+1) "lets" "NotSieve.lets" Uq ["self","values"] (gG K mg (.nt t)):=by
 show aG (N:=["self","values"]) (λ_ _ _ _ _ H vs Q E f h=>?_);intro X _;let#[a,b,z,xs,rfl,#[dx,c,y,g,e],i,j,q]:=h;let#[dc,n,l,m]:=e.ins;f_len;show ω ?_;lk;show bO (pl:=_) f ϑ (h:=?_);show aq ?_;f_are;show#[a,_,_,_,_,rfl,g,T.rF,T.HJ,rfl,?_];show#[c,dq mg t,dc,_,true,lv,_,gG K mg t,rfl,l,m,M,Ϭ _,id,?_];lk;show#[c,b,y,xs,rfl,e,i,j,?_];lk;show q
theorem W3(T:Txt K mg){t u:Tr}{lv e f:Nat}(M1:ϟ P w K mg base true e (dq mg t) "lets" ["self","values"] (gG K mg t))(h1:e<=lv)(M2:ϟ P w K mg base true f (dq mg u) "lets" ["self","values"] (gG K mg u))(h2:f<=lv):FD P w K mg base true (lv+1) "lets" "EitherSieve.lets" U3 ["self","values"] (gG K mg (.ei t u)):=by
 show aG (N:=["self","values"]) (λ_ _ _ _ _ H vs Q E g h=>?_);intro X _;let#[a,b,z,xs,rfl,#[dx,c,d,y,x,i,j,hd],l,m,q]:=h;let#[dc,v,n,o]:=j.ins;let#[dd,fd,p,ld]:=hd.ins;f_len;show ω ?_;lk;show bO (pl:=_) g ϑ (h:=?_);show aq ?_;f_are;show#[a,_,_,_,_,rfl,i,T.pP,T.T6,rfl,?_];show#[c,dq mg t,dc,_,true,e,_,gG K mg t,rfl,n,o,M1,h1,id,?_];lk;show#[c,b,y,xs,rfl,j,l,m.1,?_];let q:Q (.bl (Ϡ xs t||Ϡ xs u)) H:=q;generalize Ϡ xs t=s at q⊢;cases s with
 |false=>
  lk;show bO (pl:=_) g ϑ (h:=?_);show aq ?_;f_are;show#[a,_,_,_,_,rfl,i,T.pP,T.R7,rfl,?_];show#[d,dq mg u,dd,_,true,f,_,gG K mg u,rfl,p,ld,M2,h2,id,?_];lk;show#[d,b,x,xs,rfl,hd,l,m.2,?_];show q
 |true=>
  lk;show q
theorem vD(T:Txt K mg):∀t:Tr,ϟ P w K mg base true (3+t.dep) (dq mg t) "lets" ["self","values"] (gG K mg t)
 |.one .all=>Ad (abp.meth T.xg T.agR) (by decide) λvs H Q E h=>by
   let#[a,b,z,xs,rfl,_,_,_,q]:=h;show#[_,_,rfl,q]
 |.one (.none p)=>Ad (aa4.meth T.tL T.afv) (by show 1<=3+0;decide) λvs H Q E h=>by
   let#[a,b,z,xs,rfl,#[dx,c],f,g,q]:=h;let j:p<xs.length:=g;let e:xs[p]?=some xs[p]:=aad j;show#[a,_,dx,_,p,b,xs,xs[p],rfl,c,T.tL,T.Od,rfl,f,e,?_];let q:Q (.bl (decide ((xs[p]?).getD .non=.non))) H:=q;rw[e]at q;show q
 |.one (.look l p v)=>Ad (Xr T l p v) (by show 3<=3+0;decide) λvs H Q E h=>by
   let#[a,b,z,xs,rfl,#[dx,c],f,#[x,i,g],q]:=h;show#[a,dx,z,p,v,b,xs,x,rfl,c,f,i,g,?_];let q:Q (.bl (!decide ((xs[p]?).getD .non=.non)&&uN l ((xs[p]?).getD .non) v)) H:=q;rw[i]at q;show q
 |.nt t=>(aid T (vD T t)).meth T.rF T.agI
 |.ei t u=>(W3 T (lv:=3+max t.dep u.dep) (vD T t) () (vD T u) ()).meth T.pP T.afE
theorem Ah(T:Txt K mg):Def P w K mg base true 2 "read_order_word" ["columns","word"] (xK (.ref (ξ mg "NoOrder"))):=by
 show Γ (S:=Tq) T.Ah (λ_ _ _ _ _ H vs Q E B h=>?_);intro X _;let#[a,cs,z,rfl,l,hz,g,q]:=h;let C:=T.Um;let D:=T.Hf;let nd:=Tq.nd;let F:= @mQ P w K mg base T;let hsz:=ϳ;let m:=De z (some 1) none;let e1:("+":Str).cps.toList=[43]:=by fin2
 let i:("-":Str).cps.toList=[45]:=by fin2
 let es:(Ϗ z none (some 1)).cps.toList=z.cps.toList.take 1:=JT z 1;let e:∀c:Nat,z.cps.toList.take 1=[c]↔z.cps.toList[0]?=some c:=λc=>by
  cases z.cps.toList with
  |nil=>simp
  |cons x r=>simp
 let k1:V.str (Ϗ z none (some 1))=V.str "+"↔z.cps.toList[0]?=some 43:=by
  rw[<-e];constructor
  .intro h;let h2:Ϗ z none (some 1)=Ϫ "+":=by injection h
   rw[<-es,h2,e1]
  .intro h;let h2:Ϗ z none (some 1)=Ϫ "+":=gk (by rw[es,h,e1]);rw[h2]
 let k2:V.str (Ϗ z none (some 1))=V.str "-"↔z.cps.toList[0]?=some 45:=by
  rw[<-e];constructor
  .intro h;let h2:Ϗ z none (some 1)=Ϫ "-":=by injection h
   rw[<-es,h2,i]
  .intro h;let h2:Ϗ z none (some 1)=Ϫ "-":=gk (by rw[es,h,i]);rw[h2]
 w_up;cbv;show mD ?_;cbv;show mD ?_;cbv;show#[Δ,λp n=>?_];let#[f,ep]:=ϋ n (.tup [.str "+",.str "-"]);generalize upd H p (.tup [.str "+",.str "-"])=G at f ep⊢;show Vu (ο.of ep) ?_;let ei:gF (V.str (Ϗ z none (some 1))) [.str "+",.str "-"]=decide (z.cps.toList[0]?=some 43\/z.cps.toList[0]?=some 45):=by
  let j:∀y:Str,eZ (V.str y) (V.str (Ϗ z none (some 1)))=decide (V.str (Ϗ z none (some 1))=V.str y):=λy=>by
   rw[ahe,decide_eq_true_eq];constructor
   .intro h;have:V.str y=V.str (Ϗ z none (some 1)):=by simpa [eZ]using h
    show this.symm
   .intro h;rw[h];simp[eZ]
  rw[ahe,decide_eq_true_eq, <-k1, <-k2];show((eZ _ _||(eZ _ _||false))=true)↔_;rw[j,j,amq,alJ,decide_eq_true_eq,decide_eq_true_eq]
 rw[ei];cbv;show fj (λh=>?_) (λh=>?_)
 .show(g H (ζ.refl _) (if_neg λx=>h x.1)).elim
 .show Ζ ?_;cbv;show#[a,cs,_,rfl,l.same f,λH1 o =>?_];let s :=f.trans o;cbv;show Θ (λh2=>?_) (λh2=>?_)
  .show(g H (ζ.refl _) (if_neg λx=>x.2 h2)).elim
  .show Ζ ?_;cbv;show#[Δ,λt u=>?_];show q t _ _ (s.trans (ζ.upd u)) (if_pos #[h,h2]) ?_;rw[υ];let v:decide (V.str (Ϗ z none (some 1))=V.str ("+":Str))=decide (z.cps.toList[0]?=some 43):=decide_eq_decide.mpr k1;rw[v]
theorem xU(T:Txt K mg):Def P w K mg base true 3 "read_order" ["columns","text"] (uD (.ref (ξ mg "NoOrder"))):=by
 show Γ (S:=U8) T.xU (λf _ _ _ s H vs Q E hr h=>?_);intro X _;let#[a,cs,z,rfl,hC,hz,j,q]:=h;let g1:=T.acC;let n1:=T.bF;let n2:=T.Hd;let nd:=U8.nd;let jh:(["word","columns"]:List Str).Nodup:=by fin2
 let bC:(["name","up"]:List Str).Nodup:=by fin2
 let D1:= @Ah P w K mg base T;let hsz:=ϳ;unfold gC at j q;w_up;cbv;show Θ (λh=>?_) (λh=>?_)
 .let h':z="":=by injection h
  cbv;show#[Δ,λp J=>?_];show q p [] _ (ζ.upd J) (if_pos h') J #[[],υ,.nil]
 .let h':¬z="":=λe=>h (by rw[e])
  rw[if_neg h']at j q;show Ζ ?_;w_up;f_tup;show dC PySem.F.plainAttrs_str PySem.F.slot_str_split PySem.F.type_str_split (h:=?_);cbv;show m_split (c:=32) λp1 W=>?_
  let Y:=Jj 32 z;let B:=λy=> @Yh 32 z y
  generalize Ψ 32 z=ws at j q Y B⊢;let#[L,pI]:=ϋ W (.lst (ws.map V.str));generalize upd H p1 (.lst (ws.map V.str))=H1 at L pI⊢;let M:(ws.map V.str).length=ws.length:=abd ..;let S1:η K H1 p1 (ws.map V.str):=η.of pI;cbv;rw[M];show Θ (λh2=>?_) (λh2=>?_)
  .show(j H (ζ.refl _) (if_pos ())).elim
  .rw[if_neg ()]at j q;show Ζ ?_;w_up;show adb ["word","columns"] (σ':=[none,some (.ref a)]) (by rfl) ϑ rfl rfl (by rfl) (by rfl) (b7 (ψ xJ)) (by intro _;rfl) nd (by rfl) (by rfl) ?_;cbv;show#[p1,_,rfl,S1,by rw[M];omega,λD=>∃o,D=[o,some (.ref a)],λl i v H'=>∃y,ws[i]?=some y/\∃o,gn cs y=some o/\∃t,v=.ref t/\t≠l/\H' t=some (.tup [.str o.1,.bl o.2]),#[none,rfl],λl i v H2 Z ys _ hk J=>?_,λfp l C s3 H0 F i D x H2 Z xo hE hi n Η G hG=>?_,λl H2 xs hE hl O e2 Η =>?_]
   .let#[y,a1,o,a2,t,a3,a4,a5]:=J;show#[y,a1,o,a2,t,a3,a4,hk t _ a4 a5]
   .let#[o,rfl]:=n;let#[O,rfl]:=hG;rw[aci]at O;let#[y,ey,rfl]:=ah6.mp O;let hyl:=B y (aak ey);show Β jh (by rfl) (.inl rfl) (.inr rfl) ?_;cbv;let g:=L.trans Η;show#[a,cs,y,rfl,hC.same g,(),λH' m e=>?_,λt o H' m e et=>?_]
    .show j H' (g.trans m) (by rw[VG (aak ey) e])
    .let#[ys,ab,_]:=G;show#[#[_,rfl],#[y,ey,o,e,t,rfl,λz=>?_,et],m];rw[z,m _ _ ab]at et;cases et
   .let#[os,eo,ha]:=Iv (f:=gn cs) (R:=sS H2) (ws:=ws) (xs:=xs) (by rw[hl,M]) λi v e=>by
     let#[y,a1,o,a2,t,a3,a4,a5]:=O i v e;show#[y,a1,o,a2,t,a3,a5]
    rw[eo]at j q;let ac:=ha.len;let g:=L.trans Η;let ae:H l=none:=by
     cases e:H l with
     |none=>rfl
     |some u=>rw[L _ _ e]at hE;cases hE
    w_up;show rO ["name","up"] (σ':=[none,none]) (b7 (ψ xJ)) nd ?_;cbv;show#[l,xs,rfl,η.of e2,by rw[hl,M];omega,λD=>∃o1 o2,D=[o1,o2],λE2 i u H'=>∃c,os[i]?=some c/\u=.str c.1,#[none,none,rfl],λE2 i u H2 Z ys _ _ p=>p,λfp E2 C s3 H0 i D x H4 Z aN hi n m G hG=>?_,λE2 H4 ys aN af ag e4 m =>?_]
    .let#[o1,o2,rfl]:=n;let#[bz,rfl]:=hG;let#[c,hc,t,rfl,ht]:=ha.get bz;show ao (ο.of (m _ _ ht)) (Ε (Β bC (by rfl) (.inl rfl) (.inr rfl) (Ε (Β bC (by rfl) (.inl rfl) (.inr rfl) (aj ?_)))));cbv;show#[#[_,_,rfl],#[c,hc,rfl],ζ.refl _]
    .let ey:=iV (ys:=os) (λc=>V.str c.1) (by rw[af,ac]) ag;let je:ys=(os.map Prod.fst).map V.str:=by rw[ey,agn];rfl
     subst je;let I:(os.map Prod.fst).length<=4000:=by simp;omega
     w_up;cbv;show Rp (by rfl) (η.of e4) I λS hS=>?_
     cbv;show Tg υ I ?_;cbv;show zB (.inl (η.of ((ζ.upd hS) _ _ e4))) ?_;cbv;let U:ζ H2 (upd H4 S (lW X S (os.map Prod.fst))):=m.trans (ζ.upd hS);let Oc:=yJ _ (os.map Prod.fst) rfl;generalize upd H4 S (lW X S (os.map Prod.fst))=H5 at U⊢;rw[abd (f:=V.str)];show fj (λh3=>?_) (λh3=>?_)
     .let h4:¬(os.map Prod.fst).Nodup:=λz=>h3 (by rw[Oc.mpr z])
      show(j H (ζ.refl _) (if_neg h4)).elim
     .let h4:(os.map Prod.fst).Nodup:=Oc.mp (by injection h3 with h5;omega);show Ζ ?_;cbv;show q l os H5 (g.trans U) (if_pos h4) ae #[xs,U _ _ e2,ha.imp λu c r=>r.same U]
abbrev Row:=Int×List V
def cA(H:Hp)(v:V)(r:Row):=∃t l,v=.ref t/\H t=some (.tup [.int r.1,.ref l])/\H l=some (.lst r.2)
theorem cA.same{H H':Hp}{v:V}{r:Row}(h:cA H v r)(s:ζ H H'):cA H' v r:=by
 let#[t,l,e,a,c]:=h;show#[t,l,e,s _ _ a,s _ _ c]
def dX(H:Hp)(a:δ)(rs:List Row):=∃vs:List V,H a=some (.lst vs)/\ς (cA H) vs rs
theorem dX.same{H H':Hp}{a:δ}{rs:List Row}(h:dX H a rs)(s:ζ H H'):dX H' a rs:=by
 let#[vs,e,q]:=h;show#[vs,s _ _ e,q.imp λa b r=>r.same s]
def Ω(cs:List ι)(r:Row):Prop:=ς (λc x=>ϓ c.2 x) cs r.2
theorem ϓ.aH{c:Str}{x y:V}(h:ϓ c x)(g:ϓ c y):aH x y:=by
 obtain rfl|⟨e,i,rfl,_⟩|⟨e,z,rfl,_⟩:=h
 .show .inl rfl
 .obtain rfl|⟨_,j,rfl,_⟩|⟨a,z,rfl,_⟩:=g
  .show .inr (.inl rfl)
  .show .inr (.inr (.inl #[_,_,rfl,rfl]))
  .show absurd e a
 .obtain rfl|⟨a,j,rfl,_⟩|⟨_,z,rfl,_⟩:=g
  .show .inr (.inl rfl)
  .show absurd a e
  .show .inr (.inr (.inr #[_,_,rfl,rfl]))
theorem uV(x:V):before x x=false:=by
 cases x with
 |non=>rfl
 |int i=>show decide_eq_false ()
 |str z=>show decide_eq_false (anE _)
 |_=>rfl
theorem RP{f:Str}{x y z:V}(g:ϓ f x)(l:ϓ f y)(hz:ϓ f z)(h1:before x y=true)(h2:before y z=true):before x z=true:=by
 obtain rfl|⟨e,k,rfl,_⟩|⟨e,z,rfl,_⟩:=hz
 .cases y<;>cases h2
 .obtain rfl|⟨_,i,rfl,_⟩|⟨c,z,rfl,_⟩:=g
  .rfl
  .obtain rfl|⟨_,j,rfl,_⟩|⟨c,z,rfl,_⟩:=l
   .cases h1
   .let a:=of_decide_eq_true h1;let b:=of_decide_eq_true h2;show decide_eq_true ()
   .show absurd e c
  .show absurd e c
 .obtain rfl|⟨c,i,rfl,_⟩|⟨_,u,rfl,_⟩:=g
  .rfl
  .show absurd c e
  .obtain rfl|⟨c,j,rfl,_⟩|⟨_,v,rfl,_⟩:=l
   .cases h1
   .show absurd c e
   .show decide_eq_true (anJ (of_decide_eq_true h1) (of_decide_eq_true h2))
theorem rC{x y:V}(h:aH x y)(l:scalar x=true)(a:scalar y=true)(c:¬x=y):before y x= !before x y:=by
 cases x with
 |non=>
  cases y with
  |non=>show absurd rfl c
  |int j=>rfl
  |str z=>rfl
  |_=>show absurd a abj
 |int i=>
  cases y with
  |non=>rfl
  |int j=>
   let m:¬i=j:=λe=>c (by rw[e])
   show decide (j<i)= !decide (i<j);by_cases h1:i<j
   .rw[decide_eq_true h1,decide_eq_false ()];rfl
   .rw[decide_eq_false h1,decide_eq_true ()];rfl
  |str z=>obtain z|z|⟨_,_,_,z⟩|⟨_,_,z,_⟩:=h<;>cases z
  |_=>show absurd a abj
 |str z=>
  cases y with
  |non=>rfl
  |int j=>obtain z|z|⟨_,_,z,_⟩|⟨_,_,_,z⟩:=h<;>cases z
  |str y=>
   let f:¬z.cps.toList=y.cps.toList:=λe=>c (by rw[gk e])
   show decide (y.cps.toList<z.cps.toList)= !decide (z.cps.toList<y.cps.toList);by_cases h1:z.cps.toList<y.cps.toList
   .rw[decide_eq_true h1,decide_eq_false (List.lt_asymm h1)];rfl
   .let h2:y.cps.toList<z.cps.toList:=by
     by_cases g:y.cps.toList<z.cps.toList
     .show g
     .show absurd (List.le_antisymm (anD.mp g) (anD.mp h1)) f
    rw[decide_eq_false h1,decide_eq_true h2];rfl
  |_=>show absurd a abj
 |_=>show absurd l abj
def j6(cs:List ι)(z:Str):Str:=match cs[Τ cs z]? with
 |some c=>c.2
 |none=>Ϫ ""
def cZ(cs:List ι)(os:List Ord)(xs:List V):Prop:=ς (λ(o:Ord) x=>ϓ (j6 cs o.1) x) os xs
theorem vf:∀{os:List Ord}{xs:List V}{n k:Int},xs.length=os.length->ak os xs xs n k=decide (n<k)
 |[],[],n,k,_=>rfl
 |o::os,x::xs,n,k,h=>by
  show(if x=x then ak os xs xs n k else _)=_;rw[if_pos rfl];show vf (by simpa using h)
 |[],_::_,_,_,h=>by simp at h
 |_::_,[],_,_,h=>by simp at h
theorem KR{cs:List ι}{n k:Int}:∀{os:List Ord}{xs ys:List V},cZ cs os xs->cZ cs os ys->¬xs=ys->ak os ys xs k n= !ak os xs ys n k
 |[],_,_,a,c,h=>by cases a;cases c;show absurd rfl h
 |o::os,_,_,a,c,h=>by
  cases a with| @cons _ x _ xs a tx=>
  cases c with| @cons _ y _ ys c ty=>
  show(if y=x then ak os ys xs k n else decide (before y x=o.2))= !(if x=y then ak os xs ys n k else decide (before x y=o.2));by_cases e:x=y
  .rw[if_pos e,if_pos e.symm];show KR tx ty λf=>h (by rw[e,f])
  .rw[if_neg e,if_neg (Ne.symm e),rC (a.aH c) a.sc c.sc e];cases before x y<;>cases o.2<;>rfl
theorem tQ{cs:List ι}{n k m:Int}:∀{os:List Ord}{xs ys zs:List V},cZ cs os xs->cZ cs os ys->cZ cs os zs->ak os xs ys n k=true->ak os ys zs k m=true->ak os xs zs n m=true
 |[],_,_,_,i,j,hz,h1,h2=>by
  cases i;cases j;cases hz;let a:=of_decide_eq_true h1;let b:=of_decide_eq_true h2;show decide_eq_true ()
 |o::os,_,_,_,i,j,hz,h1,h2=>by
  cases i with| @cons _ x _ xs i tx=>
  cases j with| @cons _ y _ ys j ty=>
  cases hz with| @cons _ z _ zs hz q=>
  let g:(if x=y then ak os xs ys n k else decide (before x y=o.2))=true:=h1;let f:(if y=z then ak os ys zs k m else decide (before y z=o.2))=true:=h2;show(if x=z then ak os xs zs n m else decide (before x z=o.2))=true;by_cases e1:x=y
  .rw[if_pos e1]at g;subst e1;by_cases l:x=z
   .rw[if_pos l]at f⊢;show tQ tx ty q g f
   .rw[if_neg l]at f⊢;show f
  .rw[if_neg e1]at g;by_cases l:y=z
   .subst l;rw[if_neg e1];show g
   .rw[if_neg l]at f;let a:=of_decide_eq_true g;let b:=of_decide_eq_true f;cases ho:o.2 with
    |true=>
     rw[ho]at a b;let c:=RP i j hz a b;let p:¬x=z:=λe=>by rw[e,uV]at c;cases c
     rw[if_neg p];show decide_eq_true c
    |false=>
     rw[ho]at a b;let s:before y x=true:=by rw[rC (i.aH j) i.sc j.sc e1,a];rfl
     let u:before z y=true:=by rw[rC (j.aH hz) j.sc hz.sc l,b];rfl
     let c:=RP hz j i u s;let p:¬x=z:=λe=>by rw[e,uV]at c;cases c
     rw[if_neg p];let d:=rC (i.aH hz) i.sc hz.sc p;rw[c]at d;show decide_eq_true ?_;cases hb:before x z with
     |true=>rw[hb]at d;cases d
     |false=>rfl
theorem bV{cs:List ι}{r:Row}(h:Ω cs r):∀{os:List Ord},aO cs os->cZ cs os (au cs os r.2)
 |[],_=>.nil
 |o::os,a=>by
  show .cons ?_ (bV h λx f=>a x (by simp[f]));let#[c,e,_]:=yf (a o (by simp));let#[v,g,i]:=h.get e;show ϓ (j6 cs o.1) (aL cs r.2 o.1);unfold j6 aL;rw[e,g];show i
theorem cZ.aH{cs:List ι}{os:List Ord}{xs ys:List V}(h:cZ cs os xs)(g:cZ cs os ys):xs.length=os.length/\ys.length=os.length/\∀(i:Nat) x y,xs[i]?=some x->ys[i]?=some y->scalar x=true/\scalar y=true/\aH x y:=by
 show#[h.len.symm,g.len.symm,λi x y e1 f=>?_];let#[o,j,c]:=h.get' e1;let#[o',a,e]:=g.get' f;rw[j]at a;cases a;show#[c.sc,e.sc,c.aH e]
def aU(cs:List ι)(os:List Ord)(r q:Row):Bool:=ak os (au cs os r.2) (au cs os q.2) r.1 q.1
def Line(cs:List ι)(os:List Ord)(rs:List Row):Prop:=rs.Pairwise λr q=>aU cs os r q=true
theorem Vv{α:Type}{p:α->Bool}:∀{l:List α},l.Pairwise (λa b=>p b=true->p a=true)->(∀x∈l.take (l.countP p),p x=true)/\∀x∈l.drop (l.countP p),p x=false
 |[],_=>by simp
 |a::l,h=>by
  let#[h1,h2]:=alN.mp h;let#[g,i]:=Vv h2;cases ha:p a with
  |true=>
   rw[amv ha];show#[λx c=>by
    rcases aaF.mp (by simpa using c)with e|e
    .rw[e];show ha
    .show g x e,λx c=>i x (by simpa using c)]
  |false=>
   let f:∀x∈l,p x=false:=λx c=>by
    cases hp:p x with
    |false=>rfl
    |true=>have:=h1 x c hp;rw[ha]at this;cases this
   let j:l.countP p=0:=amY.mpr λx c=>by rw[f x c];show abj
   rw[List.countP_cons_of_neg (by rw[ha];show abj),j];show#[by simp,λx c=>?_];rcases aaF.mp (by simpa using c)with e|e
   .rw[e];show ha
   .show f x e
inductive Ct
 |start
 |fin
 |at_ (ahead:Bool) (xs:List V) (n:Int)
def Aa(os:List Ord):Ct->List V->Int->Bool
 |.at_ true ys k,xs,n=>ak os xs ys n k
 |.at_ false ys k,xs,n=> !ak os ys xs k n
 |_,_,_=>false
def iG(cs:List ι)(os:List Ord)(c:Ct)(r:Row):Bool:=Aa os c (au cs os r.2) r.1
def jF(cs:List ι)(os:List Ord):Ct->Prop
 |.at_ _ xs _=>cZ cs os xs
 |_=>True
theorem aah{cs:List ι}{os:List Ord}(f:aO cs os){c:Ct}(g:jF cs os c){r q:Row}(l:Ω cs r)(m:Ω cs q)(h:aU cs os r q=true)(e:iG cs os c q=true):iG cs os c r=true:=by
 let i:=bV l f;let j:=bV m f;cases c with
 |start=>cases e
 |fin=>cases e
 |at_ sd xs n=>
  cases sd with
  |true=>show tQ i j g h e
  |false=>
   let a:(!ak os xs (au cs os q.2) n q.1)=true:=e;show(!ak os xs (au cs os r.2) n r.1)=true;cases hx:ak os xs (au cs os r.2) n r.1 with
   |false=>rfl
   |true=>
    rw[tQ g i j hx h]at a;cases a
theorem Vm{cs:List ι}{os:List Ord}(g:aO cs os){c:Ct}(i:jF cs os c):∀{rs:List Row},(∀r∈rs,Ω cs r)->Line cs os rs->rs.Pairwise (λa b=>iG cs os c b=true->iG cs os c a=true)
 |[],_,_=>.nil
 |r::rs,f,h=>by
  let#[h1,h2]:=alN.mp h;show .cons (λq e j=>aah g i (f r (by simp)) (f q (by simp[e])) (h1 q e) j) (Vm g i (λq e=>f q (by simp[e])) h2)
def jk:V->List V
 |.non=>[]
 |x=>[x]
def iI(rs:List Row)(q:List Nat):List Row:=q.map λi=>rs.getD i (0,[])
theorem Cw{R:V->Row->Prop}{ws:List V}{rs:List Row}(h:ς R ws rs):∀{q:List Nat},(∀i∈q,i<ws.length)->ς R (cT ws q) (iI rs q)
 |[],_=>.nil
 |i::q,a=>by
  let hi:=a i (by simp);let e:ws[i]?=some (ws[i]'hi):=aad hi;let#[r,c,f]:=h.get e;show ς R (ws.getD i .non::cT ws q) (rs.getD i (0,[])::iI rs q);rw[acn,acn,e,c];show .cons f (Cw h λj g=>a j (by simp[g]))
theorem map_getD{α:Type}(d:α):∀(l:List α),(aei l.length).map (λi=>l.getD i d)=l
 |[]=>rfl
 |a::l=>by
  rw[adx,amD,adI,agn];show a::_=_
  congr 1
  show map_getD d l
theorem Vr{rs:List Row}{lt:Nat->Nat->Bool}{q:List Nat}(h:dY rs.length lt q):(iI rs q).Perm rs:=by
 have:=h.1.map λi=>rs.getD i (0,[])
 rw[map_getD]at this;show this
theorem lZ{rs:List Row}{i:Nat}(h:i<rs.length):rs.getD i (0,[])=rs[i]:=by
 rw[acn,aad h];rfl
theorem Nk{f:Str}{x y:V}(g:ϓ f x)(a:ϓ f y):aF (jk x) (jk y)=before x y:=by
 obtain rfl|⟨e,i,rfl,_⟩|⟨e,z,rfl,_⟩:=g
 .obtain rfl|⟨_,j,rfl,_⟩|⟨_,z,rfl,_⟩:=a<;>rfl
 .obtain rfl|⟨_,j,rfl,_⟩|⟨c,z,rfl,_⟩:=a
  .rfl
  .rfl
  .show absurd e c
 .obtain rfl|⟨c,j,rfl,_⟩|⟨_,z,rfl,_⟩:=a
  .rfl
  .show absurd c e
  .rfl
theorem adB{cs:List ι}{rs:List Row}{q:List Nat}(l:(rs.map Prod.fst).Nodup)(f:dY rs.length (gW false λi j=>decide ((rs.getD i (0,[])).1<(rs.getD j (0,[])).1)) q):Line cs [] (iI rs q):=by
 unfold Line iI;rw[amk];let g:q.Nodup:=(f.1.nodup_iff).mpr anv;show(f.2.and g).imp_of_mem λ{i j} hi m h=>?_;let#[h,n]:=h;let a:=lR f hi;let c:=lR f m;show decide ((rs.getD i (0,[])).1<(rs.getD j (0,[])).1)=true;let hd:¬(rs.getD i (0,[])).1=(rs.getD j (0,[])).1:=λe=>by
  rw[lZ a,lZ c]at e;let o:(rs.map Prod.fst)[i]'(by simpa using a)=(rs.map Prod.fst)[j]'(by simpa using c):=by simpa using e
  show n ((ani l).mp o)
 obtain h|⟨h,_⟩:=h
 .show h
 .let h':decide ((rs.getD j (0,[])).1<(rs.getD i (0,[])).1)=false:=h;have:=of_decide_eq_false h';show decide_eq_true ()
def aQ(rs:List Row)(p:Nat)(i:Nat):List V:=jk (((rs.getD i (0,[])).2[p]?).getD .non)
theorem aay{cs:List ι}{os:List Ord}{o:Ord}{rs:List Row}{q:List Nat}(v:aO cs (o::os))(z:∀r∈rs,Ω cs r)(h:Line cs os rs)(p:dY rs.length (gW (!o.2) λi j=>aF (aQ rs (Τ cs o.1) i) (aQ rs (Τ cs o.1) j)) q):Line cs (o::os) (iI rs q):=by
 unfold Line iI;rw[amk];let s:q.Nodup:=(p.1.nodup_iff).mpr anv;show(p.2.and s).imp_of_mem λ{i j} hi C f=>?_;let#[f,F]:=f;let a:=lR p hi;let c:=lR p C;let D:rs.getD i (0,[])∈rs:=by rw[lZ a];show ah5 a
 let E:rs.getD j (0,[])∈rs:=by rw[lZ c];show ah5 c
 let g:ϓ (j6 cs o.1) (aL cs (rs.getD i (0,[])).2 o.1):=by
  cases bV (z _ D) v with|cons h _=>show h
 let l:ϓ (j6 cs o.1) (aL cs (rs.getD j (0,[])).2 o.1):=by
  cases bV (z _ E) v with|cons h _=>show h
 let m:aF (aQ rs (Τ cs o.1) i) (aQ rs (Τ cs o.1) j)=before (aL cs (rs.getD i (0,[])).2 o.1) (aL cs (rs.getD j (0,[])).2 o.1):=Nk g l;let n:aF (aQ rs (Τ cs o.1) j) (aQ rs (Τ cs o.1) i)=before (aL cs (rs.getD j (0,[])).2 o.1) (aL cs (rs.getD i (0,[])).2 o.1):=Nk l g;let an:=rC (g.aH l) g.sc l.sc;let old:i<j->aU cs os (rs.getD i (0,[])) (rs.getD j (0,[]))=true:=λu=>by
  rw[lZ a,lZ c];show aly.mp h i j a c u
 show(if aL cs (rs.getD i (0,[])).2 o.1=aL cs (rs.getD j (0,[])).2 o.1 then aU cs os (rs.getD i (0,[])) (rs.getD j (0,[]))else decide (before (aL cs (rs.getD i (0,[])).2 o.1) (aL cs (rs.getD j (0,[])).2 o.1)=o.2))=true;generalize aL cs (rs.getD i (0,[])).2 o.1=x at g m n an⊢;generalize aL cs (rs.getD j (0,[])).2 o.1=y at l m n an⊢;by_cases e:x=y
 .rw[if_pos e];show old ?_;subst e;obtain h1|⟨_,h1⟩:=f
  .unfold gW at h1;split at h1
   .let h1:aF (aQ rs (Τ cs o.1) j) (aQ rs (Τ cs o.1) i)=true:=h1;rw[n,uV]at h1;cases h1
   .let h1:aF (aQ rs (Τ cs o.1) i) (aQ rs (Τ cs o.1) j)=true:=h1;rw[m,uV]at h1;cases h1
  .show h1
 .rw[if_neg e];let B:=an e;show decide_eq_true ?_;cases hu:o.2 with
  |true=>
   rw[hu]at f;obtain h1|⟨h1,_⟩:=f
   .let h1:aF (aQ rs (Τ cs o.1) i) (aQ rs (Τ cs o.1) j)=true:=h1;rw[m]at h1;show h1
   .let h1:aF (aQ rs (Τ cs o.1) j) (aQ rs (Τ cs o.1) i)=false:=h1;rw[n,B]at h1;simpa using h1
  |false=>
   rw[hu]at f;obtain h1|⟨h1,_⟩:=f
   .let h1:aF (aQ rs (Τ cs o.1) j) (aQ rs (Τ cs o.1) i)=true:=h1;rw[n,B]at h1;simpa using h1
   .let h1:aF (aQ rs (Τ cs o.1) i) (aQ rs (Τ cs o.1) j)=false:=h1;rw[m]at h1;show h1
theorem ags{cs:List ι}{o:Ord}{rs:List Row}(j:∃c∈cs,c.1=o.1)(l:∀r∈rs,Ω cs r):nj (aQ rs (Τ cs o.1)):=by
 let a:∀i,ϓ (j6 cs o.1) (((rs.getD i (0,[])).2[Τ cs o.1]?).getD .non):=λi=>by
  by_cases hi:i<rs.length
  .let m:rs.getD i (0,[])∈rs:=by rw[lZ hi];show ah5 hi
   cases bV (os:=[o]) (l _ m) (λp q=>by cases acy.mp q;show j)with|cons h _=>show h
  .let e:rs.getD i (0,[])=(0,[]):=by rw[acn,alY ()];rfl
   rw[e];show .inl rfl
 show#[λi=>?_,?_]
 .show lN (jk _);obtain e|⟨_,n,e,_⟩|⟨_,z,e,_⟩:=a i<;>rw[e]
  .show .inl rfl
  .show .inr #[_,rfl]
  .show .inr #[_,rfl]
 .by_cases g:j6 cs o.1="number"
  .show .inl λi x h=>?_
   let h:jk (((rs.getD i (0,[])).2[Τ cs o.1]?).getD .non)=[x]:=h;obtain e|⟨_,n,e,_⟩|⟨f,z,e,_⟩:=a i
   .rw[e]at h;cases h
   .rw[e]at h;cases h;show#[n,rfl]
   .show absurd g f
  .show .inr λi x h=>?_
   let h:jk (((rs.getD i (0,[])).2[Τ cs o.1]?).getD .non)=[x]:=h;obtain e|⟨f,n,e,_⟩|⟨_,z,e,_⟩:=a i
   .rw[e]at h;cases h
   .show absurd f g
   .rw[e]at h;cases h;show#[z,rfl]
inductive Ij (K:ϩ) (vs:List V) (H:Hp) (Q:VK) (E:XK):Prop
 |mk (t:δ) (n:Int) (x:V):vs=[.ref t]->H t=some (.tup [.int n,x])->Q (.int n) H->Ij K vs H Q E
theorem BK(T:Txt K mg):Def P w K mg base true 1 "number_of" ["told"] (Ij K):=by
 show Γ (N:=["told"]) T.BK (λ_ _ _ _ _ H vs Q E c h=>?_);intro X _;let#[t,n,x,rfl,a,q]:=h;f_len;show ω ?_;lk;show ύ (ο.of a) (show Χ [V.int n,x] 0=some (V.int n)from rfl) ?_;show q
inductive Vf (K:ϩ) (vs:List V) (H:Hp) (Q:VK) (E:XK):Prop
 |mk (x:V):vs=[x]->(∀p H',ζ H H'->H p=none->H' p=some (.tup (jk x))->Q (.ref p) H')->Vf K vs H Q E
theorem Ac(T:Txt K mg):Def P w K mg base true 1 "rank_of" ["value"] (Vf K):=by
 show Γ (N:=["value"]) T.Ac (λ_ _ _ _ _ H vs Q E c h=>?_);intro X _;let#[x,rfl,q]:=h;let hsz:=ϳ;f_len;show ω ?_;lk;show Θ (λe=>?_) (λe=>?_)
 .lk;show#[Δ,λp a=>?_];subst e;show q p _ (ζ.upd a) a υ
 .lk;show#[Δ,λp a=>?_];let ex:jk x=[x]:=by
   cases x with
   |non=>show absurd rfl e
   |_=>rfl
  show q p _ (ζ.upd a) a (by rw[ex];show υ)
inductive Bg (K:ϩ) (vs:List V) (H:Hp) (Q:VK) (E:XK):Prop
 |mk (p:δ) (i:Nat) (up:Bool) (ws:List V) (rs:List Row):vs=[.ref p,.int i,.bl up]->H p=some (.lst ws)->ς (cA H) ws rs->rs.length<64->(∀r∈rs,i<r.2.length)->nj (aQ rs i)->H (cF K "sorted_by")=some (.tbl jE)->(∀q pl H',ζ H H'->H pl=none->dY rs.length (gW (!up) λa b=>aF (aQ rs i a) (aQ rs i b)) q->H' pl=some (.lst (cT ws q))->Q (.ref pl) H')->Bg K vs H Q E
theorem Ak(T:Txt K mg)(O:dW K mg base "sorted_by"):Def P w K mg base true 6 "sorted_by" ["rows","place","up"] (Bg K):=by
 show ach T.Ak O JZ (λ_ _ _ _ _ _ us R=>by let#[_,_,_,rfl]:=JQ R;rfl) (λvs H Q E h=>by let#[p,i,up,ws,rs,rfl,_]:=h;rfl) (λf A outer s H vs Q E S h=>?_);let#[p,i,up,ws,rs,rfl,hp,D,h64,F,M,hP,q]:=h;let nd:=JZ.nd;let n1:=T.tV;let G:=D.len;let hsz:=ϳ;w_up;show Y6 (c:=gP K "sorted_by") (P:=cF K "sorted_by") (ps:=jE) (j:=3) (qual:="sorted_by.<locals>.rank") (clos:=[("place",s.heap.objs.size+1)]) nd (by rfl) (by rfl) (by rfl) O.code O.bm (by rfl) hP (ad3 _ _) (by change (Ϫ "sorted_by"++Ϫ ".<locals>.")++Ϫ "rank"=_;fin2) (by rfl) (by rfl) (by rfl) ?_;intro C c' oc doc pm ctv vs t' H1 m hfr U n Y hq;let#[u1,n]:=n;let hK:∀(X:Cx)(σ:L2.St),X=dM true P w K mg base Kh "sorted_by" (ψ uQ) f (.ref (gP K "sorted_by")) A outer s H E->σ=[some (.ref p),some (.int i),some (.bl up),some (.ref C)]->rY X σ (.ref C) ws H1 (Tw (aQ rs i)):=by
  intro X σ eX Z;subst eX;subst Z;show#[λk v H2 H3 sm h=>?_,λk x u ϵ o H2 hx ru sm I=>?_]
  .let#[a,e,h]:=h;show#[a,e,sm _ _ h]
  .let#[r,B,t,l,rfl,ht,R]:=D.get hx;let hkl:=(aai.mp B).1;let J:=F r (aak B);let bj:=m.trans sm;show ae5 (j:=1) (v:=.ref t) (z:=.int i) (x:="told") (y:="place") I (sm _ _ U) (sm _ _ n) Y hq S.in1.in1.depth (λ_ _ _ _ _=>rfl) (by rfl) (by rfl) (by rfl) (by rfl) (by rfl) (by fin2) (λa ha=>?_) (by rfl) (by rfl) (by rfl) (by rfl) ru ?_
   .let h:=PySem.mem_of_lookup ha;change (a,NameKind.free)∈[(Ϫ "told",NameKind.local),(Ϫ "place",NameKind.free),(Ϫ "rank_of",NameKind.globalImplicit)]at h;obtain e|h:=aaF.mp h
    .cases e
    .obtain e|h:=aaF.mp h
     .show congrArg Prod.fst e
     .cases acy.mp h
   .let D1:= @Ac P w K mg base T;let hr':=((S.in1).in1).deeper (W.envX "sorted_by.<locals>.rank" (ψ (ahZ (aB uQ) 0)) o.heap.objs.size C (.ref c') [("place",s.heap.objs.size+1)]);f_len;show ω ?_;lk;show ύ (ο.of (bj _ _ ht)) (show Χ [V.int r.1,V.ref l] 1=some (V.ref l)from rfl) ?_;lk;show ϥ (η.of (bj _ _ R)) (bw (aad J)) ?_;lk;show#[_,rfl,λa H3 s3 ha h3=>?_];show#[s3,a,rfl,?_];rw[h3];unfold aQ;rw[acn,B];show _=some (HO.tup (jk ((r.2[i]?).getD .non)));rw[aad J];rfl
 let hu:=S.in1.in1.units0;change Ν _ _ _ [some (.ref p),some (.int i),some (.bl up),some (.ref C)] H1;w_up;show Κ ?_;lk;cases up with
 |true=>
  walk_at"t";f_len;show ω ?_;show K1 n1 ?_;lk;show#[p,C,ws,_,_,rfl,rfl,η.of (m _ _ hp),(),Ms M,hK _ _ rfl rfl,Ot hu M,λpl H2 qq o g L=>?_];rw[G]at L;show q qq pl _ ((m.trans o).trans (ζ.upd g)) ((m.trans o).free g) L υ
 |false=>
  walk_at"t";show Ζ ?_;f_len;show ω ?_;show Wu (b:=true) (by rfl) n1 (by rfl) ?_;lk;show#[rfl,p,C,ws,_,_,rfl,rfl,η.of (m _ _ hp),(),Ms M,hK _ _ rfl rfl,Ot hu M,λpl H2 qq o g L=>?_];rw[G]at L;show q qq pl _ ((m.trans o).trans (ζ.upd g)) ((m.trans o).free g) L υ
def eO(q:δ)(H H':Hp)(v:V)(r:Row):=∃t l,v=.ref t/\H t=none/\H l=none/\l≠q/\H' t=some (.tup [.int r.1,.ref l])/\H' l=some (.lst r.2)
theorem eO.row{q:δ}{H H':Hp}{v:V}{r:Row}(h:eO q H H' v r):cA H' v r:=by
 let#[t,l,e,_,_,_,h1,h2]:=h;show#[t,l,e,h1,h2]
theorem eO.same{q:δ}{H H' H2:Hp}{v:V}{r:Row}(h:eO q H H' v r)(s:ζ H' H2):eO q H H2 v r:=by
 let#[t,l,e,a,b,c,h1,h2]:=h;show#[t,l,e,a,b,c,s _ _ h1,s _ _ h2]
theorem eO.turn{q f:δ}{H H':Hp}{v:V}{r:Row}(h:eO q H H' v r)(g:H' f=none):eO f H H' v r:=by
 let#[t,l,e,a,b,c,h1,h2]:=h;show#[t,l,e,a,b,(λz=>by rw[z,g]at h2;cases h2),h1,h2]
inductive GC (K:ϩ) (vs:List V) (H:Hp) (Q:VK) (E:XK):Prop
 |mk (c b p:δ) (cs:List ι) (os:List Ord) (rs:List Row):vs=[.ref c,.ref b,.ref p]->Ϛ H c cs->bc H b os->dX H p rs->cs.length<=6->os.length<=6->aO cs os->rs.length<64->(∀r∈rs,Ω cs r)->(rs.map Prod.fst).Nodup->H (cF K "sorted_by")=some (.tbl jE)->(∀q ws ls H',ζ H H'->H q=none->H' q=some (.lst ws)->ς (eO q H H') ws ls->Line cs os ls->ls.Perm rs->Q (.ref q) H')->GC K vs H Q E
theorem Am(T:Txt K mg)(hN:dW K mg base "sorted_by"):Def P w K mg base true 8 "line_of" ["columns","order","rows"] (GC K):=by
 show Γ (S:=KZ) T.Am (λf Ϻ A outer s H vs Q E g h=>?_);let#[c,b,p,cs,os,rs,rfl,hC,#[ov,hb,Y],#[ws,hp,Z],hc6,km,ϻ,h64,ab,ag,hP,q]:=h;let nd:=KZ.nd;let n1:=T.tV;let n2:=T.Ri;let n3:=T.jW;let hwl:=Z.len;let ah:=Y.len;let hsz:=ϳ;let bC:(["row","values"]:List Str).Nodup:=by fin2
 let D1:= @BK P w K mg base T;let D2:= @mQ P w K mg base T;let D3:Def P w K mg base true 6 "sorted_by" ["rows","place","up"] (Bg K):=Ak T hN;w_up;f_tup;show K1 n1 ?_;show lG ["row","values"] (σ':=[none,none]) (b7 (ψ v5)) ?_;lk;show#[p,ws,rfl,η.of hp,(),λτ=>∃o1 o2,τ=[o1,o2],λE2 k u H'=>∃r,rs[k]?=some r/\eO E2 H H' u r,#[none,none,rfl],λE2 k u H2 H3 ys hE J p=>?_,λfp E2 C s3 H0 k τ x H4 H5 aN hi ai Ξ O hG=>?_,λq0 H2 us hq0 m al e2 s2=>?_]
 .let#[r,g,t,l,e,h1,h2,h3,h4,h5]:=p;show#[r,g,t,l,e,h1,h2,h3,J _ _ (λz=>by rw[z,hE]at h4;cases h4) h4,J _ _ h3 h5]
 .let#[o1,o2,rfl]:=ai;let#[bz,rfl]:=hG;let#[r,g,t,l,rfl,ht,hl]:=Z.get bz;let#[ys,O]:=O;show ao (ο.of (Ξ _ _ ht)) (Ε (Β bC (by rfl) (.inl rfl) (.inr rfl) (Ε (Β bC (by rfl) (.inl rfl) (.inr rfl) (aj ?_)))));lk;show iW (.inl (η.of (Ξ _ _ hl))) λa m=>?_
  let#[F,e5]:=ϋ m (.lst r.2);let nl:a≠E2:=λe=>by rw[e,O]at m;cases m
  generalize upd H4 a (.lst r.2)=H5 at F e5⊢;lk;show#[Δ,λt2 aK=>?_];let s6:ζ H5 (upd H5 t2 (.tup [.int r.1,.ref a])):=ζ.upd aK;show#[#[_,_,rfl],#[r,g,t2,a,rfl,(Ξ.trans F).free aK,Ξ.free m,nl,υ,s6 _ _ e5],F.trans s6]
 let R:ς (eO q0 H H2) us rs:=ph () λk r g=>by
  let J:k<us.length:=by have:=(aai.mp g).1;omega
  let#[r',ac,hn]:=al k _ (aad J);rw[g]at ac;cases ac;show#[_,aad J,hn]
 let kW:=R.len;let#[fa,am,u5]:=abu (σ:=[some (.ref c),some (.ref b),some (.ref p),none,none,none]) (X:=dM true P w K mg base Nb "line_of" (ψ v5) f Ϻ A outer s H E) (H:=H2) (xs:=us) (KV:=Pz λi=>(rs.getD i (0,[])).1) D1 (g.mono (show 1+2<=7 by decide)) (λi v H H' _ h=>h) (λi x H' hx sm=>by
  let#[r,g,t,l,rfl,_,_,_,ht,hl]:=R.get hx;show#[t,r.1,.ref l,rfl,sm _ _ ht,ζ.refl _,?_];show V.int r.1=V.int (rs.getD i (0,[])).1;rw[acn,g];rfl)
 show ZK am (by rfl) (by decide) ?_;show#[q0,fa,us,_,_,rfl,rfl,η.of e2,(),aao,u5,acg,λp1 H3 n s3 G L=>?_];rw[kW]at L;let j:ς (eO p1 H (upd H3 p1 (.lst (cT us n)))) (cT us n) (iI rs n):=(Cw R λi hi=>by rw[kW];show lR L hi).imp λu r z=>((z.same s3).turn G).same (ζ.upd G)
 let y:=adB (cs:=cs) ag L;let B:=Vr L;let bJ:ζ H (upd H3 p1 (.lst (cT us n))):=(s2.trans s3).trans (ζ.upd G);let XM:H p1=none:=(s2.trans s3).free G;let pI:(upd H3 p1 (.lst (cT us n))) p1=some (.lst (cT us n)):=υ;generalize upd H3 p1 (.lst (cT us n))=H4 at j bJ pI⊢;generalize cT us n=w1 at j pI;generalize iI rs n=l1 at j y B;w_up;show Ny (by walk_at"po") (by rfl) (by rfl) n2 (by rfl) ?_;lk;show#[b,ov,rfl,η.of (bJ _ _ hb),λi σ H'=>(∃o4 o5 M U a,σ=[some (.ref c),some (.ref b),some (.ref p),some (.ref M),o4,o5]/\ζ H H'/\H M=none/\H' M=some (.lst U)/\ς (eO M H H') U a/\Line cs (os.drop (os.length-i)) a/\a.Perm rs),?_,λi σ' H' _ D=>?_,λi x σ' H' hi hx D=>?_,λσ' H' D=>?_]
 .show#[none,none,p1,w1,l1,rfl,bJ,XM,pI,j,?_,B];rw[amc,amz];show y
 .let#[_,_,_,_,_,_,sm,_]:=D;show η.of (sm _ _ hb)
 .let#[o4,o5,M,U,a,rfl,sm,ae,zK,hA,hL,cI]:=D;let#[o,ho,t,rfl,ht]:=Y.get hx;let I:=ϻ o (aak ho);let hlt:=nu I;let m:a.length=rs.length:=cI.length_eq;let ap:=hA.len;let GQ:∀r∈a,Ω cs r:=λr g=>ab r (cI.mem_iff.mp g)
  show ao (ο.of (sm _ _ ht)) (Ε (Β nd (by rfl) (.inl rfl) (.inl rfl) (Ε (Β nd (by rfl) (.inl rfl) (.inl rfl) (aj ?_)))));f_len;f_tup;lk;show#[c,cs,o.1,rfl,hC.same sm,λH5 F=>?_];rw[qF 0 I,alD];lk;show#[M,Τ cs o.1,o.2,U,a,rfl,F _ _ zK,hA.imp λu r z=>(z.same F).row,(),λr g=>by have:=(GQ r g).len;omega,ags I GQ,F _ _ (sm _ _ hP),λn pl H6 s6 af L ar=>?_];let uJ:=(sm.trans F).trans s6;let av:H pl=none:=(sm.trans F).free af;show#[_,_,pl,cT U n,iI a n,rfl,uJ,av,ar,(Cw hA λi hi=>by rw[ap];show lR L hi).imp λu r z=>?_,?_,(Vr L).trans cI]
  .show((z.same F).turn af).same s6
  .let W:os.drop (os.length-(i+1))=o::os.drop (os.length-i):=by
    let J:os.length-(i+1)<os.length:=()
    rw[show ov.length-1-i=os.length-(i+1)by omega]at ho;rw[ahr J];let e1:=aad J;rw[ho]at e1;cases e1;rw[show os.length-(i+1)+1=os.length-i by omega]
   rw[W];show aay (λo' aw=>by
    obtain rfl|h:=aaF.mp aw
    .show I
    .show ϻ _ (aeY h)) GQ hL L
 .let#[o4,o5,M,U,a,rfl,sm,ae,zK,hA,hL,cI]:=D;f_len;show ω ?_;lk;rw[ah,anP,alx]at hL;show q M U a H' sm ae zK hA hL cI
def gb(B:Bk)(row:Int)(o:Option (List V)):Bk:=
 {B with rows:=(match o with|none=>dD B.rows row|some xs=>bZ B.rows row xs),touched:=(match o with|none=>dD B.touched row|some _=>bZ B.touched row (B.now+1)),
         done:=B.done++[#[B.now+1,row,Φ B.rows row,o]],now:=B.now+1}
def rB(B:Bk):Prop:=B.rows.length<1000000/\B.touched.length<1000000/\B.done.length<1000000
def kh(B:Bk):=∀i,Φ B.rows i=none↔ Φ B.touched i=none
abbrev cB(mg:Str->Option ε):δ:=ξ mg "Book"
inductive jC (mg:Str->Option ε) (vs:List V) (H:Hp) (Q:VK) (E:XK):Prop
 |mk (A:BA) (B:Bk) (row:Int) (v:V) (o:Option (List V)):vs=[.ref A.b,.int row,v]->Ο (cB mg) H A B->lK H v o->(o=none->Φ B.rows row≠none/\ Φ B.touched row≠none)->rB B->(∀H',Out A.fp H H'->Ο (cB mg) H' A (gb B row o)->Q (.int (B.now+1)) H')->jC mg vs H Q E
theorem Ea(T:Txt K mg):FD P w K mg base true 1 "do" "Book.do" uZ ["self","row","values"] (jC mg):=by
 show aG (S:=HY) (λf Ϻ A' outer s H vs Q E hr h=>?_);intro X _;let#[A,B,row,v,o,rfl,m,U,W,#[z1,z2,z3],q]:=h;let nd:=HY.nd;let hsz:=ϳ;let g:=T.Ϝ;let Y:=T.pO;let a2:=T.Fp;let a3:=T.G6;let J:=T.tW;let Z:_+1<cLine:=aeW (ahB (by decide:1<=64) _) hr.units;let kR:=m.rows;let#[Ϸ,er,hR]:=id kR;let#[tvs,et,hT]:=m.touched;let#[ds,ed,hD]:=m.done;let kI:=m.ins;w_up;f_tup;show WR Z (by constructor<;>rfl) ?_;show aq ?_;f_are;show#[A.b,_,_,_,_,rfl,kI,g,Y,rfl,A.r,rfl,.inl #[_,.inl er],?_];f_are;show#[_,Ϟ.k (k:=Sum.inl row) er,?_];let hw:lK H ((ώ Ϸ (Sum.inl row)).getD .non) (Φ B.rows row):=by
  obtain⟨e1,i⟩|⟨u,x,e1,i,r⟩:=iM hR row
  .rw[e1,i];rfl
  .rw[e1,i];show r
 generalize(ώ Ϸ (Sum.inl row)).getD .non=L at hw⊢;w_up;show abg ?_;f_are;show#[A.b,_,_,_,_,rfl,kI,g,J,rfl,?_];f_are;show#[_,_,rfl,rfl,_,_,kI,by show 6<1000;decide,?_];let k1:=m.Ww B.known (B.now+1);let M:Out A.fp H _:=Out.upd (H:=H) (a:=A.b) (o:=.ins (cB mg) A.dx [("heads",.ref A.h),("rows",.ref A.r),("touched",.ref A.t),("done",.ref A.d),("known",.int B.known),("now",.int (B.now+1))]) (by simp[BA.fp]);change Ν _ _ _ _ (upd H A.b (.ins (cB mg) A.dx [("heads",.ref A.h),("rows",.ref A.r),("touched",.ref A.t),("done",.ref A.d),("known",.int B.known),("now",.int (B.now+1))]));generalize upd H A.b _=H1 at k1 M⊢;let jY:=k1.ins;let fin:∀(H2:Hp)(n:Bk),Out A.fp H H2->Ο (cB mg) H2 A n->n={gb B row o with done:=B.done}->Ν X ((aB uZ).drop 3) {nx:=λ_ H'=>Q .non H',rt:=Q} [some (.ref A.b),some (.int row),some v,some L] H2:=by
  intro H2 n j k2 i;let p:n.now=B.now+1/\n.done=B.done:=by rw[i];show#[rfl,rfl]
  let l:=k2.ins;let#[Iw,NZ,y]:=k2.done;let st:=m.tup j;let ab:=hw.stay st;let G4:=U.stay st;let ac:=y.len;rw[p.2]at ac y;rw[p.1]at l;w_up;show bA (dC F.plainAttrs_list F.slot_list_append F.type_list_append (h:=?_));show aq ?_;f_are;show#[A.b,_,_,_,_,rfl,l,g,a3,rfl,.inl #[rfl,_,η.of NZ],?_];cbv;show aq ?_;f_are;show#[A.b,_,_,_,_,rfl,l,g,J,rfl,?_];cbv;show#[Δ,λt ht=>?_];let#[z,C]:=ϋ ht (.tup [.int (B.now+1),.int row,L,v]);generalize upd H2 t (.tup [.int (B.now+1),.int row,L,v])=D at z C⊢;let k3:=k2.same z;cbv;show iU Bo #[A.d,_,_,rfl,rfl,z _ _ NZ,(),?_];let qu:ς (oG D) (Iw++[V.ref t]) (B.done++[#[B.now+1,row,Φ B.rows row,o]]):=ς.app (ς.imp (λv d h=>h.stay λb ys e=>z _ _ e) y) (.cons #[t,L,v,rfl,C,ab.stay λb ys e=>z _ _ e,G4.stay λb ys e=>z _ _ e] .nil);let k4:=k3.abt qu;let o4:Out A.fp H _:=(j.trans (Out.of z)).trans (Out.upd (H:=D) (a:=A.d) (o:=.lst (Iw++[V.ref t])) (by simp[BA.fp]));generalize upd D A.d _=H4 at k4 o4⊢;let ae:=k4.ins;f_len;show ω ?_;show aq ?_;f_are;show#[A.b,_,_,_,_,rfl,ae,g,J,rfl,?_];let e4:{n with done:=B.done++[#[B.now+1,row,Φ B.rows row,o]]}=gb B row o:=by rw[i];rfl
  rw[e4]at k4;have:=q H4 o4 k4;show Q (.int n.now) H4;rw[p.1];show this
 let#[O,nD,R]:=k1.rows;let#[ak0,et1,af]:=k1.touched;let ag:=R.len;let htl:=af.len;let z1':O.length<1000000:=by rw[ag];show z1
 cases o with
 |none=>
  let ah:v=.non:=U;subst ah;let#[g1,g2]:=W rfl;w_up;cbv;show Bl ?_;show aq ?_;f_are;obtain⟨_,i⟩|⟨u,x,e1,_,_⟩:=iM R row
  .show absurd i g1
  show#[A.b,_,_,_,_,rfl,jY,g,Y,rfl,A.r,rfl,.inl #[_,.inl nD],?_];f_are;show#[O,Sum.inl row,u,nD,rfl,e1,?_];let k2:=k1.sZ (Cy R row);let j:Out A.fp H _:=M.trans (Out.upd (H:=H1) (a:=A.r) (o:=.dK (fD O (Sum.inl row))) (by simp[BA.fp]));generalize upd H1 A.r _=H2 at k2 j⊢;let l:=k2.ins;let#[G,C,c]:=k2.touched;f_len;show bA (Bl ?_);show aq ?_;f_are;obtain⟨_,i⟩|⟨u2,x2,e3,_,_⟩:=iM c row
  .show absurd i g2
  show#[A.b,_,_,_,_,rfl,l,g,a2,rfl,A.t,rfl,.inl #[_,.inl C],?_];f_are;show#[G,Sum.inl row,u2,C,rfl,e3,?_];let k3:=k2.O8 (Cy c row);let I:Out A.fp H _:=j.trans (Out.upd (H:=H2) (a:=A.t) (o:=.dK (fD G (Sum.inl row))) (by simp[BA.fp]));generalize upd H2 A.t _=D at k3 I⊢;show fin D _ I k3 rfl
 |some xs=>
  let#[t,rfl,ht]:=id U;w_up;cbv;show rK Z ?_;f_are;show aq ?_;f_are;show#[A.b,_,_,_,_,rfl,jY,g,Y,rfl,?_];f_are;show#[A.r,_,rfl,eN.k (k:=Sum.inl row) nD (),?_];let k2:=k1.sZ (Cd R row (v:=.ref t) (x:=xs) #[t,rfl,m.tup M _ _ ht]);let j:Out A.fp H _:=M.trans (Out.upd (H:=H1) (a:=A.r) (o:=.dK (putK O (Sum.inl row) (.ref t))) (by simp[BA.fp]));generalize upd H1 A.r _=H2 at k2 j⊢;let l:=k2.ins;let#[G,C,c]:=k2.touched;let z2':G.length<1000000:=by rw[c.len];show z2
  f_len;show rK Z ?_;show aq ?_;f_are;show#[A.b,_,_,_,_,rfl,l,g,J,rfl,?_];show aq ?_;f_are;show#[A.b,_,_,_,_,rfl,l,g,a2,rfl,?_];f_are;show#[A.t,_,rfl,eN.k (k:=Sum.inl row) C (),?_];let k3:=k2.O8 (Cd c row (v:=.int (B.now+1)) (x:=B.now+1) rfl);let I:Out A.fp H _:=j.trans (Out.upd (H:=H2) (a:=A.t) (o:=.dK (putK G (Sum.inl row) (.int (B.now+1)))) (by simp[BA.fp]));generalize upd H2 A.t _=D at k3 I⊢;show fin D _ I k3 rfl
theorem ql(T:Txt K mg):Def P w K mg base true 1 "is_whole" ["value"] NB:=by
 show Γ (N:=["value"]) T.ql (λ_ _ _ _ _ H vs Q E a h=>?_);intro X _;let#[v,rfl,hs,q]:=h;let n1:=T.DK;let n2:=T.Mq;let c:=T.Zt;f_len;show ω ?_;cases v with
 |non=>
  cbv;show q
 |int i=>
  cbv;show q
 |str z=>
  cbv;show q
 |_=>cases hs
theorem zW(T:Txt K mg):Def P w K mg base true 2 "is_number_value" ["value"] Ni:=by
 show Γ (N:=["value"]) T.zW (λ_ _ _ _ _ H vs Q E a h=>?_);intro X _;let#[v,rfl,hs,q]:=h;let c:=T.QJ;let f:= @ql P w K mg base T;f_len;show ω ?_;cbv;show#[v,rfl,hs,?_];cbv;cases v with
 |int i=>
  show iB (λ_=>?_) (λh=>by cases h);cbv;show Θ (λh=>?_) (λh=>?_)
  .cbv;let e:isNum (.int i)=decide (i<=1000000000000000000):=by unfold isNum;simp[h]
   rw[e]at q;show q
  .let e:isNum (.int i)=false:=by unfold isNum;simp[h]
   rw[e]at q;show q
 |non=>show iB (λh=>by cases h) (λ_=>q)
 |str z=>show iB (λh=>by cases h) (λ_=>q)
 |_=>cases hs
theorem yo(T:Txt K mg):Def P w K mg base true 3 "is_value" ["kind","value"] Ux:=by
 show Γ (N:=["kind","value"]) T.yo (λ_ _ _ _ _ H vs Q E f h=>?_);intro X _;let#[k,v,rfl,hs,hz,q]:=h;let g:=T.BL;let i:= @zW P w K mg base T;let j:= @uH P w K mg base T;w_up;cbv;show Θ (λh=>?_) (λh=>?_)
 .subst h;cbv;show q H (ζ.refl _)
 .cbv;let a:isVal k v=if k="number" then isNum v else gQ v:=by cases v<;>first|rfl|show absurd rfl h
  show Θ (λh2=>?_) (λh2=>?_)
  .let c:k="number":=by cases h2;rfl
   rw[if_pos c]at a;rw[a]at q;cbv;show#[v,rfl,hs,q H (ζ.refl _)]
  .let c:¬k="number":=λe=>h2 (by rw[e])
   rw[if_neg c]at a;rw[a]at q;cbv;show#[v,rfl,hs,hz,q]
theorem yZ(T:Txt K mg):Def P w K mg base true 2 "is_name" ["name"] Rg:=by
 show Γ (N:=["name"]) T.yZ (λ_ _ _ _ _ H vs Q E a h=>?_);intro X _;let#[z,rfl,hz,q]:=h;let n1:=T.bF;let c:=T.abA;let e:=T.adO;let hsz:=ϳ;let f:= @tM P w K mg base T;f_len;show ω ?_;cbv;unfold isName at q;show Θ (λh=>?_) (λh=>?_)
 .cbv;show Θ (λh2=>?_) (λh2=>?_)
  .cbv;rw[decide_eq_true (show 1<=z.length/\z.length<=8 by omega)]at q;show#[z,_,rfl,hz,q]
  .rw[decide_eq_false (show ¬(1<=z.length/\z.length<=8)by omega)]at q;show q H (ζ.refl _)
 .rw[decide_eq_false (show ¬(1<=z.length/\z.length<=8)by omega)]at q;cbv;show q H (ζ.refl _)
theorem ack(k a b:Str):gF (.str k) [.str a,.str b]=decide (k=a\/k=b):=by
 let e:∀a:Str,(a==k)=decide (k=a):=λa=>by rw[ahe,beq_iff_eq,decide_eq_true_iff];show eq_comm
 show((a==k)||((b==k)||false))=_;rw[e,e,amq,anF]
theorem yK(T:Txt K mg):Def P w K mg base true 3 "ask_columns" ["columns"] (wj (.ref (ξ mg "NoColumns"))):=by
 show Γ (S:=Ip) T.yK (λ_ _ _ _ _ H vs Q E hr h=>?_);intro X _;let#[a,cs,rfl,#[vs,D,f],hcl,F,q]:=h;let n1:=T.bF;let n2:=T.Hd;let g1:=T.Zz;let g2:=T.BL;let g3:=T.Kf;let nd:=Ip.nd;let hsz:=ϳ;let sa:η K H a vs:=.inl (.inl D);let gq:=f.len;let D1:= @yZ P w K mg base T;let R:(["name","kind"]:List Str).Nodup:=by fin2
 let hok:ϊ cs=true:=by
  cases e:ϊ cs with
  |true=>rfl
  |false=>
   have:=q H (ζ.refl _);rw[e]at this;show this.elim
 rw[hok]at q;unfold ϊ at hok;rw[abB,abB,decide_eq_true_eq,acz,decide_eq_true_eq]at hok;let#[#[hl6,n],G]:=hok;w_up;cbv;show Θ (λh1=>?_) (λh1=>absurd h1 ());cbv;show fj (λh2=>absurd h2 ()) (λh2=>?_);show Ζ ?_;w_up;show zx (by walk_at"po") (by rfl) (by intro _;rfl) ?_;cbv;show#[a,vs,rfl,sa,λi σ H'=>(∃l m I,σ=[some (.ref a),l,m,I])/\ζ H H',#[#[none,none,none,rfl],ζ.refl _],λi σ H' hi s=>.inl (.inl (s.2 _ _ D)),λi x σ H' v s=>?_,λσ H' s=>?_]
 .let#[#[l,m,I,rfl],sm]:=s;let#[c,J,t,rfl,L]:=f.get v;let y:=aak J;let ZW:=F c y;let g:=n c y;rw[abB]at g;show ao (ο.of (sm _ _ L)) (Ε (Β nd (by rfl) (.inl rfl) (.inl rfl) (Ε (Β nd (by rfl) (.inl rfl) (.inl rfl) (aj ?_)))));w_up;cbv;show#[c.1,rfl,ZW.1,λH2 z =>?_];rw[g.1];cbv;let j:=sm.trans z;show#[Δ,λp hp=>?_];let Ξ :=j.trans (ζ.upd (o:=.tup [.str "number",.str "text"]) hp);show Vu (ο.of υ) ?_;rw[show gF (.str c.2) [.str "number",.str "text"]=oM c.2 from ack _ _ _,g.2];cbv;show#[#[_,_,_,rfl],Ξ]
 .let#[#[l,m,I,rfl],sm]:=s;w_up;show rO ["name","kind"] (σ':=[none,none]) (b7 (ψ Bb)) nd ?_;cbv;show#[a,vs,rfl,.inl (.inl (sm _ _ D)),(),λU=>∃l m,U=[l,m],λM i u H'=>∃c,cs[i]?=some c/\u=.str c.1,#[none,none,rfl],λM i u H2 H3 ys _ _ p=>p,λfp M C s3 H0 i U x H2 H3 hE hi O z hys hG=>?_,λM H2 ys hE hl v W z =>?_]
  .let#[l,m,rfl]:=O;let#[v,rfl]:=hG;let#[c,J,t,rfl,L]:=f.get v;show ao (ο.of (z _ _ (sm _ _ L))) (Ε (Β R (by rfl) (.inl rfl) (.inr rfl) (Ε (Β R (by rfl) (.inl rfl) (.inr rfl) (aj ?_)))));cbv;show#[#[_,_,rfl],#[c,J,rfl],ζ.refl _]
  .let ey:=iV (ys:=cs) (λc=>V.str c.1) (by rw[hl,gq]) v;let je:ys=(cs.map Prod.fst).map V.str:=by rw[ey,agn];rfl
   subst je;let B:(cs.map Prod.fst).length<=4000:=by simp;omega
   let j:=sm.trans z;f_len;cbv;show Rp (by rfl) (η.of W) B λS Y=>?_
   cbv;show Tg υ B ?_;cbv;show zB (.inl (η.of ((ζ.upd Y) _ _ W))) ?_;cbv;show fj (λZ=>(Z ?_).elim) (λZ=>?_)
   .rw[(yJ _ (cs.map Prod.fst) rfl).mpr G];simp
   .show Ζ (q _ (j.trans (ζ.upd Y)))
theorem Eb(T:Txt K mg):Def P w K mg base true 2 "is_row_number" ["row"] Rt:=by
 show Γ (N:=["row"]) T.Eb (λ_ _ _ _ _ H vs Q E c h=>?_);intro X _;let#[v,rfl,a,q]:=h;let e:=T.Th;let f:= @ql P w K mg base T;f_len;show ω ?_;cbv;show#[v,rfl,a,?_];cases v with
 |int i=>
  change Q (.bl (decide (0<=i/\i<=1000000000))) H at q;rw[show oZ (V.int i)=true from rfl];cbv;show Θ (λh=>?_) (λh=>?_)
  .cbv;rw[show decide (0<=i/\i<=1000000000)=decide (i<=1000000000)from by rw[decide_eq_decide];omega]at q;show q
  .cbv;rw[decide_eq_false (show ¬(0<=i/\i<=1000000000)by omega)]at q;show q
 |non=>
  rw[show oZ V.non=false from rfl];cbv;show q
 |str z=>
  rw[show oZ (V.str z)=false from rfl];cbv;show q
 |_=>cases a
theorem VB:∀{cs:List ι}{xs:List V}{bs:List Bool},xs.length=cs.length->bs.length=cs.length->(∀(i:Nat)(b:Bool),bs[i]?=some b->∃c x,cs[i]?=some c/\xs[i]?=some x/\b=isVal c.2 x)->bs.all id=mO cs xs
 |[],[],[],_,_,_=>rfl
 |c::cs,x::xs,b::bs,h1,h2,h=>by
  let#[g,j,e1,a,f]:=h 0 b rfl;cases e1;cases a;rw[amr];unfold mO;rw[VB (by simpa using h1) (by simpa using h2) λi b e=>by simpa using h (i+1) b (by simpa using e)];rw[f];rfl
 |[],_::_,_,h1,_,_=>by simp at h1
 |_::_,[],_,h1,_,_=>by simp at h1
 |[],[],_::_,_,h2,_=>by simp at h2
 |_::_,_::_,[],_,h2,_=>by simp at h2
theorem La:∀{xs:List V},(∀(i:Nat) v,xs[i]?=some v->∃b,v=.bl b)->∃bs:List Bool,xs=bs.map V.bl
 |[],_=>#[[],rfl]
 |x::xs,h=>by
  let#[b,rfl]:=h 0 x rfl;let#[bs,rfl]:=La (xs:=xs) λi v e=>h (i+1) v (by simpa using e)
  show#[b::bs,rfl]
theorem zj(T:Txt K mg):Def P w K mg base true 4 "is_row" ["columns","row","values"] Q7:=by
 show Γ (S:=Ld) T.zj (λ_ _ _ _ _ H vs Q E hr h=>?_);intro X _;let#[a,cs,v,b,xs,rfl,#[vs,D,f],U,W,F,m,q]:=h;let n1:=T.bF;let n2:=T.Jz;let Y:=T.Bt;let hsz:=ϳ;let nd:=Ld.nd;let sa:η K H a vs:=.inl (.inl D);let sb:η K H b xs:=.inl (.inl F);let Z:=f.len;let D1:= @Eb P w K mg base T;let D2:= @yo P w K mg base T;let G:(["column","value"]:List Str).Nodup:=by fin2
 unfold wB at q;w_up;cbv;show#[v,rfl,W,?_];cbv;show Zq (λh1=>?_) (λh1=>?_)
 .rw[h1,alv,alv]at q;cbv;show q H (ζ.refl _)
 .rw[h1,akq]at q;cbv;show fj (λh2=>?_) (λh2=>?_)
  .let j:¬xs.length=cs.length:=λe=>h2 (by rw[Z,e])
   rw[decide_eq_false j,alv]at q;cbv;show q H (ζ.refl _)
  .let j:xs.length=cs.length:=by
    have:(xs.length:Int)=vs.length:=by injection h2
    omega
   rw[decide_eq_true j,akq]at q;show Ζ ?_;f_len;show ω ?_;f_are;f_are;show Nr ["column","value"] (σ':=[none,none]) (b7 (ψ Cp)) Y ?_;cbv;show#[a,b,vs,xs,rfl,rfl,D,F,(),λI=>∃J L,I=[J,L],λn i u H'=>∃c x,cs[i]?=some c/\xs[i]?=some x/\u=.bl (isVal c.2 x),#[none,none,rfl],λn i u H2 H3 ys _ _ p=>p,λfp n C s3 H0 i I x H2 H3 hE hi o sm hys hG=>?_,λn H2 ys hE hl M s sm=>?_]
   .let#[J,L,rfl]:=o;let#[l,y,u,rfl,hT,rfl,hy,O]:=hG;let#[c,hc,t,rfl,ht]:=f.get hy;let z :ζ H2 (upd H2 l (.tup [.ref t,u])):=ζ.upd hT;let R:(upd H2 l (.tup [.ref t,u])) l=some (.tup [.ref t,u]):=υ;generalize upd H2 l (.tup [.ref t,u])=H4 at z R⊢;show ao (ο.of R) (Ε (Β G (by rfl) (.inl rfl) (.inr rfl) (Ε (Β G (by rfl) (.inl rfl) (.inr rfl) (aj ?_)))));cbv;show ύ (ο.of (z _ _ (sm _ _ ht))) (show Χ [V.str c.1,V.str c.2] 1=some (V.str c.2)from rfl) ?_;cbv;let g:=m u (aak O);show#[c.2,u,rfl,g.1,g.2,λH5 dG=>#[#[_,_,rfl],#[c,u,hc,O,rfl],z.trans dG]]
   .let#[bs,rfl]:=La λi v e=>by
     let#[c,x,_,_,e]:=M i v e;show#[_,e]
    let B:bs.length=cs.length:=by rw[abd]at hl;omega
    let eb:bs.all id=mO cs xs:=VB j B λi b e=>by
     let#[c,x,e1,s,e3]:=M i (.bl b) (by rw[aci,e];rfl);show#[c,x,e1,s,by injection e3]
    cbv;show KC (by rfl) (η.of s) ?_;rw[eb];show q _ sm
def sX(cs:List ι)(row:Int)(xs:List V):Prop:=0<=row/\row<=1000000000/\ς (λc x=>ϓ c.2 x) cs xs
theorem Ex:∀c∈SG,c∈qW.cps.toList:=by fin2
theorem ϓ.is{a:Str}{v:V}(h:ϓ a v):isVal a v=true/\scalar v=true/\short v:=by
 obtain rfl|⟨h1,i,rfl,h2,e⟩|⟨h1,z,rfl,h2,e⟩:=h
 .show#[rfl,rfl,trivial]
 .show#[?_,rfl,trivial];show(if a="number" then isNum (.int i)else gQ (.int i))=true;rw[if_pos h1];show decide_eq_true #[h2,e]
 .show#[?_,rfl,by show z.length<=4000;omega];show(if a="number" then isNum (.str z)else gQ (.str z))=true;rw[if_neg h1];show(decide (z.length<=20)&&dO z _)=true;rw[decide_eq_true h2,akq];show acz.mpr λc f=>decide_eq_true (Ex c (e c f))
theorem RQ{cs:List ι}{xs:List V}(h:ς (λ(c:ι) x=>ϓ c.2 x) cs xs):mO cs xs=true/\∀x∈xs,scalar x=true/\short x:=by
 induction h with
 |nil=>show#[rfl,λx a=>by simp at a]
 |cons h _ f=>
  show#[?_,λx a=>?_]
  .show(isVal _ _&&mO _ _)=true;rw[h.is.1,f.1];rfl
  .obtain e|e:=aaF.mp a
   .rw[e];show h.is.2
   .show f.2 x e
theorem sX.ok{cs:List ι}{row:Int}{xs:List V}(h:sX cs row xs):wB cs (.int row) xs=true:=by
 unfold wB;rw[(RQ h.2.2).1,decide_eq_true h.2.2.len.symm];show(decide (0<=row/\row<=1000000000)&&true&&true)=true;rw[decide_eq_true #[h.1,h.2.1]];rfl
inductive oY (mg:Str->Option ε) (vs:List V) (H:Hp) (Q:VK) (E:XK):Prop
 |mk (A:BA) (B:Bk) (row:Int) (b:δ) (xs:List V):vs=[.ref A.b,.int row,.ref b]->Ο (cB mg) H A B->H b=some (.lst xs)->B.heads.length<=6->sX B.heads row xs->(∀H',ζ H H'->Q .non H')->oY mg vs H Q E
theorem JG(T:Txt K mg):FD P w K mg base true 5 "ask_row" "Book.ask_row" Jp ["self","row","values"] (oY mg):=by
 show aG (N:=["self","row","values"]) (λf l m outer s H vs Q E n h=>?_);intro X _;let#[A,B,row,b,xs,rfl,a,e,o,c,q]:=h;let p:= @zj P w K mg base T;let g:=T.Ϝ;let i:=T.zy;let j:=a.ins;f_len;cbv;show aq ?_;f_are;show#[A.b,_,_,_,_,rfl,j,g,i,rfl,?_];cbv;show#[A.h,B.heads,.int row,b,xs,rfl,a.heads,(),rfl,e,(RQ c.2.2).2,λH' sm=>?_];rw[c.ok];cbv;show q H' sm
inductive jK (mg:Str->Option ε) (vs:List V) (H:Hp) (Q:VK) (E:XK):Prop
 |mk (A:BA) (B:Bk) (row:Int):vs=[.ref A.b,.int row]->Ο (cB mg) H A B->0<=row->row<=1000000000->(Φ B.rows row=none->False)->(Φ B.rows row≠none->Q .non H)->jK mg vs H Q E
theorem Bq(T:Txt K mg):FD P w K mg base true 3 "ask_there" "Book.ask_there" JC ["self","row"] (jK mg):=by
 show aG (N:=["self","row"]) (λf p v outer s H vs Q E g h=>?_);intro X _;let#[A,B,row,rfl,e,y,z,a,q]:=h;let i:=T.Ϝ;let j:=T.pO;let l:=e.ins;let m:_+1<cLine:=aeW (ahB (by decide:1<=64) _) g.units;let#[Ϸ,n,o]:=e.rows;f_len;cbv;show aq ?_;f_are;show#[A.b,_,_,_,_,rfl,l,i,j,rfl,?_];show V2 m (Ϟ.k (k:=Sum.inl row) n) ?_;obtain⟨e1,c⟩|⟨u,x,e1,c,_⟩:=iM o row
 .rw[show(ώ Ϸ (Sum.inl row)).isSome=false by rw[e1];rfl,Bool.not_false];show(a c).elim
 .rw[show(ώ Ϸ (Sum.inl row)).isSome=true by rw[e1];rfl,Bool.not_true];cbv;show q (by rw[c];simp)
inductive wF (mg:Str->Option ε) (vs:List V) (H:Hp) (Q:VK) (E:XK):Prop
 |mk (A:BA) (B:Bk) (row:Int) (b:δ) (xs:List V):vs=[.ref A.b,.int row,.ref b]->Ο (cB mg) H A B->H b=some (.lst xs)->B.heads.length<=6->sX B.heads row xs->rB B->(Φ B.rows row≠none->False)->(Φ B.rows row=none->∀H',Out A.fp H H'->Ο (cB mg) H' A (gb B row (some xs))->Q (.int (B.now+1)) H')->wF mg vs H Q E
theorem SM{X:Cx}{H:Hp}{Q:VK}{p:δ}{ys:List V}(h:η X.K H p ys)(g:∀l,H l=none->Q (.ref l) (upd H l (.tup ys))):CL X (.type "tuple") [.ref p] H Q:=dZ ab6 #[p,ys,rfl,.inl #[h,g]]
theorem XN(T:Txt K mg):FD P w K mg base true 6 "put" "Book.put" V3 ["self","row","values"] (wF mg):=by
 show aG (N:=["self","row","values"]) (λf M O outer s H vs Q E a h=>?_);intro X _;let#[A,B,row,b,xs,rfl,c,n,v,y,g,i,q]:=h;let M1:ϟ P w K mg base true 5 (cB mg) "ask_row" ["self","row","values"] (oY mg):=(JG T).meth T.Ϝ T.PQ;let M2:ϟ P w K mg base true 1 (cB mg) "do" ["self","row","values"] (jC mg):=(Ea T).meth T.Ϝ T.Dk;let z:=T.Ϝ;let n1:=T.O7;let C:=T.pO;let D:_+1<cLine:=aeW (ahB (by decide:1<=64) _) a.units;w_up;show bA ?_;show bO (pl:=_) a ϑ (h:=?_);f_are;show#[A.b,cB mg,A.dx,_,true,5,_,oY mg,rfl,c.ins,by rfl,M1,by decide,id,?_];cbv;show#[A,B,row,b,xs,rfl,c,n,v,y,λH1 sm=>?_];let k1:=c.same sm;let o:=k1.ins;let j:=sm _ _ n;let#[Ϸ,F,G]:=k1.rows;w_up;cbv;show aq ?_;f_are;show#[A.b,_,_,_,_,rfl,o,z,C,rfl,?_];show ac1 D (Ϟ.k (k:=Sum.inl row) F) ?_;obtain⟨e1,l⟩|⟨u,x,e1,l,_⟩:=iM G row
 .rw[show(ώ Ϸ (Sum.inl row)).isSome=false by rw[e1];rfl];cbv;show bO (pl:=_) a ϑ (h:=?_);f_are;show#[A.b,cB mg,A.dx,_,true,1,_,jC mg,rfl,o,by rfl,M2,by decide,id,?_];cbv;show SM (η.of j) λt I=>?_
  let#[m,p]:=ϋ I (.tup xs);generalize upd H1 t (.tup xs)=H2 at m p⊢;cbv;show#[A,B,row,.ref t,some xs,rfl,k1.same m,#[t,rfl,p],(λe=>by cases e),g,λJ L k3=>?_];show q l J ((Out.of (sm.trans m)).trans L) k3
 .rw[show(ώ Ϸ (Sum.inl row)).isSome=true by rw[e1];rfl];show(i (by rw[l];simp)).elim
inductive vM (mg:Str->Option ε) (vs:List V) (H:Hp) (Q:VK) (E:XK):Prop
 |mk (A:BA) (B:Bk) (row:Int) (b:δ) (xs:List V):vs=[.ref A.b,.int row,.ref b]->Ο (cB mg) H A B->H b=some (.lst xs)->B.heads.length<=6->sX B.heads row xs->rB B->(Φ B.rows row=none->False)->(Φ B.rows row≠none->∀H',Out A.fp H H'->Ο (cB mg) H' A (gb B row (some xs))->Q (.int (B.now+1)) H')->vM mg vs H Q E
theorem Y7(T:Txt K mg):FD P w K mg base true 6 "change" "Book.change" Ja ["self","row","values"] (vM mg):=by
 show aG (N:=["self","row","values"]) (λf D F outer s H vs Q E a h=>?_);intro X _;let#[A,B,row,b,xs,rfl,c,o,v,g,i,j,q]:=h;let M1:ϟ P w K mg base true 5 (cB mg) "ask_row" ["self","row","values"] (oY mg):=(JG T).meth T.Ϝ T.PQ;let M2:ϟ P w K mg base true 1 (cB mg) "do" ["self","row","values"] (jC mg):=(Ea T).meth T.Ϝ T.Dk;let x:ϟ P w K mg base true 3 (cB mg) "ask_there" ["self","row"] (jK mg):=(Bq T).meth T.Ϝ T.Gw;let G:=T.Ϝ;let n1:=T.O7;w_up;show bA ?_;show bO (pl:=_) a ϑ (h:=?_);f_are;show#[A.b,cB mg,A.dx,_,true,5,_,oY mg,rfl,c.ins,by rfl,M1,by decide,id,?_];cbv;show#[A,B,row,b,xs,rfl,c,o,v,g,λH1 sm=>?_];let k1:=c.same sm;let p:=k1.ins;let l:=sm _ _ o;w_up;show bA ?_;show bO (pl:=_) a ϑ (h:=?_);f_are;show#[A.b,cB mg,A.dx,_,true,3,_,jK mg,rfl,p,by rfl,x,by decide,id,?_];cbv;show#[A,B,row,rfl,k1,g.1,g.2.1,λm=>j m,λm=>?_];f_len;show ω ?_;show bO (pl:=_) a ϑ (h:=?_);f_are;show#[A.b,cB mg,A.dx,_,true,1,_,jC mg,rfl,p,by rfl,M2,by decide,id,?_];cbv;show SM (η.of l) λt y=>?_
 let#[n,u]:=ϋ y (.tup xs);generalize upd H1 t (.tup xs)=H2 at n u⊢;cbv;show#[A,B,row,.ref t,some xs,rfl,k1.same n,#[t,rfl,u],(λe=>by cases e),i,λz C k3=>?_];show q m z ((Out.of (sm.trans n)).trans C) k3
inductive ux (mg:Str->Option ε) (vs:List V) (H:Hp) (Q:VK) (E:XK):Prop
 |mk (A:BA) (B:Bk) (row:Int):vs=[.ref A.b,.int row]->Ο (cB mg) H A B->0<=row->row<=1000000000->rB B->kh B->(Φ B.rows row=none->False)->(Φ B.rows row≠none->∀H',Out A.fp H H'->Ο (cB mg) H' A (gb B row none)->Q (.int (B.now+1)) H')->ux mg vs H Q E
theorem Yy(T:Txt K mg):FD P w K mg base true 4 "take" "Book.take" Ir ["self","row"] (ux mg):=by
 show aG (N:=["self","row"]) (λf o p outer s H vs Q E j h=>?_);intro X _;let#[A,B,row,rfl,a,l,m,c,e,g,q]:=h;let M2:ϟ P w K mg base true 1 (cB mg) "do" ["self","row","values"] (jC mg):=(Ea T).meth T.Ϝ T.Dk;let n:ϟ P w K mg base true 3 (cB mg) "ask_there" ["self","row"] (jK mg):=(Bq T).meth T.Ϝ T.Gw;w_up;show bA ?_;show bO (pl:=_) j ϑ (h:=?_);f_are;show#[A.b,cB mg,A.dx,_,true,3,_,jK mg,rfl,a.ins,by rfl,n,by decide,id,?_];cbv;show#[A,B,row,rfl,a,l,m,g,λi=>?_];f_len;show ω ?_;show bO (pl:=_) j ϑ (h:=?_);f_are;show#[A.b,cB mg,A.dx,_,true,1,_,jC mg,rfl,a.ins,by rfl,M2,by decide,id,?_];cbv;show#[A,B,row,.non,none,rfl,a,rfl,λ_=>#[i,λz=>i ((e row).mpr z)],c,q i]
inductive iu (mg:Str->Option ε) (g:Bk->Int) (vs:List V) (H:Hp) (Q:VK) (E:XK):Prop
 |mk (A:BA) (B:Bk):vs=[.ref A.b]->Ο (cB mg) H A B->Q (.int (g B)) H->iu mg g vs H Q E
theorem v9(T:Txt K mg):FD P w K mg base true 1 "moment" "Book.moment" J8 ["self"] (iu mg Bk.now):=by
 show aG (N:=["self"]) (λf e g outer s H vs Q E i h=>?_);intro X _;let#[A,B,rfl,a,q]:=h;let c:=T.Ϝ;f_len;show ω (aq ?_);f_are;show#[A.b,_,_,_,_,rfl,a.ins,c,T.tW,rfl,q]
inductive ju (mg:Str->Option ε) (vs:List V) (H:Hp) (Q:VK) (E:XK):Prop
 |mk (A:BA) (B:Bk):vs=[.ref A.b]->Ο (cB mg) H A B->(∀p H',ζ H H'->H p=none->Ϛ H' p B.heads->Q (.ref p) H')->ju mg vs H Q E
theorem CQ(T:Txt K mg):FD P w K mg base true 1 "columns" "Book.columns" Km ["self"] (ju mg):=by
 show aG (N:=["self"]) (λf m n outer s H vs Q E u h=>?_);intro X _;let#[A,B,rfl,a,q]:=h;let i:=T.Ϝ;let n1:=T.jW;let#[vs,j,l]:=a.heads;f_len;show ω ?_;cbv;show aq ?_;f_are;show#[A.b,_,_,_,_,rfl,a.ins,i,T.zy,rfl,?_];cbv;show iW (.inl (η.of j)) λp g=>?_
 let sm:=ζ.upd (H:=H) (o:=.lst vs) g;show q p _ sm g #[vs,υ,ς.imp (λv c ⟨t,e,h⟩=>#[t,e,sm _ _ h]) l]
inductive ug (mg:Str->Option ε) (vs:List V) (H:Hp) (Q:VK) (E:XK):Prop
 |mk (A:BA) (B:Bk) (row:Int):vs=[.ref A.b,.int row]->Ο (cB mg) H A B->0<=row->row<=1000000000->kh B->(Φ B.rows row=none->False)->(∀i,Φ B.touched row=some i->Q (.int i) H)->ug mg vs H Q E
theorem aaP(T:Txt K mg):FD P w K mg base true 4 "since" "Book.since" J9 ["self","row"] (ug mg):=by
 show aG (N:=["self","row"]) (λf D F outer s H vs Q E j h=>?_);intro X _;let#[A,B,row,rfl,a,l,m,c,e,q]:=h;let n:ϟ P w K mg base true 3 (cB mg) "ask_there" ["self","row"] (jK mg):=(Bq T).meth T.Ϝ T.Gw;let o:=T.Ϝ;let p:_+1<cLine:=aeW (ahB (by decide:1<=64) _) j.units;let#[Ϸ,v,y]:=a.touched;w_up;show bA ?_;show bO (pl:=_) j ϑ (h:=?_);f_are;show#[A.b,cB mg,A.dx,_,true,3,_,jK mg,rfl,a.ins,by rfl,n,by decide,id,?_];cbv;show#[A,B,row,rfl,a,l,m,e,λz=>?_];obtain⟨e1,g⟩|⟨u,x,e1,g,C⟩:=iM y row
 .show absurd ((c row).mpr g) z
 let i:u=.int x:=C;subst i;f_len;show ω ?_;show Wx p (by intro _ _;rfl) ?_;show aq ?_;f_are;show#[A.b,_,_,_,_,rfl,a.ins,o,T.Fp,rfl,?_];f_are;show#[A.t,.int x,rfl,?_,q x g];have:=Ϟ.k (k:=Sum.inl row) v;rw[e1]at this;show this
theorem aaz{cs:List ι}(h:ϊ cs=true):1<=cs.length/\cs.length<=6:=by
 unfold ϊ at h;rw[abB,abB,decide_eq_true_eq]at h;show h.1.1
theorem adE{cs:List ι}(h:ϊ cs=true):zY cs:=by
 unfold ϊ oM at h;rw[abB,abB,acz]at h;intro c a;let h1:=h.1.2 c a;rw[abB,decide_eq_true_eq]at h1;let#[h2,f]:=h1;unfold isName at h2;rw[abB,decide_eq_true_eq]at h2;show#[(),?_];obtain e|e:=f<;>rw[e]
 .show(by fin2:("number":Str).length<=4000)
 .show(by fin2:("text":Str).length<=4000)
inductive Lb (mg:Str->Option ε) (vs:List V) (H:Hp) (Q:VK) (E:XK):Prop
 |mk (y dx a:δ) (cs:List ι):vs=[.ref y,.ref a]->H y=some (.ins (cB mg) dx [])->H dx=some (.own y)->Ϛ H a cs->ϊ cs=true->(∀(H':Hp)(A:BA),A.b=y->A.dx=dx->H A.h=none->H A.r=none->H A.t=none->H A.d=none->Out [y] H H'->Ο (cB mg) H' A #[cs,[],[],[],0,0]->Q .non H')->Lb mg vs H Q E
theorem Yq(T:Txt K mg):FD P w K mg base true 4 "__init__" "Book.__init__" T4 ["self","columns"] (Lb mg):=by
 show aG (N:=["self","columns"]) (λf Ϻ A' outer s H vs Q E hr h=>?_);intro X _;let#[y,dx,a,cs,rfl,m,i,hC,hok,q]:=h;let D1:= @yK P w K mg base T;let l:=T.Ϝ;let n1:=T.jW;let hsz:=ϳ;w_up;cbv;show#[a,cs,rfl,hC,by have:=aaz hok;omega,adE hok,λH1 B =>?_];rw[if_pos hok];let#[vs,ha,J]:=hC;let hy1:=B _ _ m;let Jv:dx≠y:=λe=>by rw[e,m]at i;cases i
 w_up;show d9 ?_;cbv;show iW (.inl (η.of (B _ _ ha))) λh hh=>?_
 let L:ζ H (upd H1 h (.lst vs)):=B.trans (ζ.upd hh);let eh:(upd H1 h (.lst vs)) h=some (.lst vs):=υ;let M:H h=none:=B.free hh;generalize upd H1 h (.lst vs)=H2 at L eh⊢;f_are;show#[y,_,dx,_,rfl,L _ _ m,l,T.zy,by show 0<1000;decide,?_];let n:h≠y:=λe=>by rw[e,m]at M;cases M
 let o3:Out [y] H (upd H2 y (.ins (cB mg) dx [("heads",.ref h)])):=(Out.of L).trans (Out.upd (by simp));let Ie:(upd H2 y (.ins (cB mg) dx [("heads",.ref h)])) h=some (.lst vs):=by rw[ρ n];show eh
 let O:(upd H2 y (.ins (cB mg) dx [("heads",.ref h)])) y=some (.ins (cB mg) dx [("heads",.ref h)]):=υ;change Ν _ _ _ _ (upd H2 y (.ins (cB mg) dx [("heads",.ref h)]));generalize upd H2 y (.ins (cB mg) dx [("heads",.ref h)])=C at o3 Ie O⊢;let step:∀(H':Hp)(p:δ)(o o1:HO),H' y=some o1->Out [y] H H'->H' p=none->(H p=none/\p≠y/\∀fs,Out [y] H (upd (upd H' p o) y fs)/\(upd (upd H' p o) y fs) y=some fs/\(upd (upd H' p o) y fs) p=some o/\∀b u,b≠y->H' b=some u->b≠p/\(upd (upd H' p o) y fs) b=some u):=by
  intro H' p o o1 ey ho D;let j:p≠y:=λe=>by rw[e,ey]at D;cases D
  let keep:∀fs b u,b≠y->H' b=some u->b≠p/\(upd (upd H' p o) y fs) b=some u:=λfs b u g e=>by
   let Lj:b≠p:=λz=>by rw[z,D]at e;cases e
   show#[Lj,?_];rw[ρ g,ρ Lj];show e
  show#[?_,j,λfs=>#[λb u g e=>?_,υ,by rw[ρ j];show υ,keep fs]]
  .cases e1:H p with
   |none=>rfl
   |some u=>
    have:=ho p u (by simpa using j) e1;rw[D]at this;cases this
  .show(keep fs b u (by simpa using g) (ho b u g e)).2
 w_up;show d9 ?_;show Gr λr R=>?_
 f_are;let#[rn,ry,x]:=step C r (.dK []) _ O o3 R;let S:(upd C r (.dK [])) y=some (.ins (cB mg) dx [("heads",.ref h)]):=by rw[ρ (Ne.symm ry)];show O
 show#[y,_,dx,_,rfl,S,l,T.pO,by show 1<1000;decide,?_];let#[o4,U,Jt,k4]:=x (.ins (cB mg) dx [("heads",.ref h),("rows",.ref r)]);change Ν _ _ _ _ (upd (upd C r (.dK [])) y (.ins (cB mg) dx [("heads",.ref h),("rows",.ref r)]));let Vw:=(k4 _ _ n Ie).2;generalize upd (upd C r (.dK [])) y (.ins (cB mg) dx [("heads",.ref h),("rows",.ref r)])=F at o4 U Jt Vw⊢;w_up;show d9 ?_;show Gr λt W=>?_
 f_are;let#[tn,ty,x]:=step F t (.dK []) _ U o4 W;let ZX:(upd F t (.dK [])) y=some (.ins (cB mg) dx [("heads",.ref h),("rows",.ref r)]):=by rw[ρ (Ne.symm ty)];show U
 show#[y,_,dx,_,rfl,ZX,l,T.Fp,by show 2<1000;decide,?_];let#[o5,Y,T8,k5]:=x (.ins (cB mg) dx [("heads",.ref h),("rows",.ref r),("touched",.ref t)]);change Ν _ _ _ _ (upd (upd F t (.dK [])) y (.ins (cB mg) dx [("heads",.ref h),("rows",.ref r),("touched",.ref t)]));let N6:=(k5 _ _ n Vw).2;let#[rt,Qf]:=k5 _ _ ry Jt;generalize upd (upd F t (.dK [])) y (.ins (cB mg) dx [("heads",.ref h),("rows",.ref r),("touched",.ref t)])=G at o5 Y T8 Qf N6⊢;w_up;show d9 ?_;cbv;show#[Δ,λd Z=>?_];f_are;let#[dn,dy,x]:=step G d (.lst []) _ Y o5 Z;let ab:(upd G d (.lst [])) y=some (.ins (cB mg) dx [("heads",.ref h),("rows",.ref r),("touched",.ref t)]):=by rw[ρ (Ne.symm dy)];show Y
 show#[y,_,dx,_,rfl,ab,l,T.G6,by show 3<1000;decide,?_];let#[I,G7,NQ,k6]:=x (.ins (cB mg) dx [("heads",.ref h),("rows",.ref r),("touched",.ref t),("done",.ref d)]);change Ν _ _ _ _ (upd (upd G d (.lst [])) y (.ins (cB mg) dx [("heads",.ref h),("rows",.ref r),("touched",.ref t),("done",.ref d)]));let#[ac,Jh]:=k6 _ _ n N6;let#[_,R4]:=k6 _ _ ry Qf;let#[_,Vs]:=k6 _ _ ty T8;generalize upd (upd G d (.lst [])) y (.ins (cB mg) dx [("heads",.ref h),("rows",.ref r),("touched",.ref t),("done",.ref d)])=H6 at I G7 NQ Vs R4 Jh⊢;w_up;show d9 ?_;f_are;f_are;show#[y,_,dx,_,rfl,G7,l,T.Qy,by show 4<1000;decide,?_];f_len;show d9 ?_;f_are;f_are;show#[y,_,dx,_,rfl,υ,l,T.tW,by show 5<1000;decide,?_];let fin:∀b u,b≠y->H6 b=some u->(upd (upd H6 y (.ins (cB mg) dx [("heads",.ref h),("rows",.ref r),("touched",.ref t),("done",.ref d),("known",.int 0)])) y (.ins (cB mg) dx [("heads",.ref h),("rows",.ref r),("touched",.ref t),("done",.ref d),("known",.int 0),("now",.int 0)])) b=some u:=λb u g e=>by
  rw[ρ g,ρ g];show e
 let Qk:∀t' ys,H t'=some (.tup ys)->t'≠y:=λt' ys e z=>by rw[z,m]at e;cases e
 show q (upd (upd H6 y (.ins (cB mg) dx [("heads",.ref h),("rows",.ref r),("touched",.ref t),("done",.ref d),("known",.int 0)])) y (.ins (cB mg) dx [("heads",.ref h),("rows",.ref r),("touched",.ref t),("done",.ref d),("known",.int 0),("now",.int 0)])) #[y,dx,h,r,t,d] rfl rfl M rn tn dn (λb u g e=>fin b u (by simpa using g) (I b u g e)) ?_;show#[υ,fin _ _ Jv (I _ _ (by simpa using Jv) i),#[vs,fin _ _ n Jh,ς.imp (λv c ⟨u,e,hu⟩=>#[u,e,fin _ _ (Qk _ _ hu) (I _ _ (by simpa using Qk _ _ hu) hu)]) J],#[[],fin _ _ ry R4,.nil],#[[],fin _ _ ty Vs,.nil],#[[],fin _ _ dy NQ,.nil],rt,ac]
def sV(a H:Hp)(v:V)(p:Int×List V):=∃t l,v=.ref t/\H t=some (.tup [.int p.1,.ref l])/\H l=some (.lst p.2)/\a l=none/\a t=none
def aP(rows:List (Int×List V))(ks:List Int):List (Int×List V):=ks.map λk=>(k,(Φ rows k).getD [])
inductive Tf (C:Unit) (vs:List V) (H:Hp) (Q:VK) (E:XK):Prop
 |mk (a:δ) (rows:List (Int×List V)):vs=[.ref a]->DictAt (TupAt H) H a rows->rows.length<64->(∀p ys ks H',ζ H H'->H p=none->ks.Perm (rows.map (·.1))->ks.Pairwise (· <= ·)->H' p=some (.lst ys)->ς (sV H H') ys (aP rows ks)->Q (.ref p) H')->Tf C vs H Q E
theorem vR(T:Txt K mg):Def P w K mg base true 1 "told_rows" ["rows"] (Tf PUnit.unit):=by
 show Γ (N:=["rows"]) T.vR (λ_ _ _ _ _ H vs Q E hr h=>?_);intro X _;let#[a,rows,rfl,#[Ϸ,ea,hR],hl,q]:=h;let n1:=T.tV;let n2:=T.jW;let hsz:=ϳ;let hu:_+1<cLine:=aeW (ahB (by decide:1<=64) _) hr.units;let Z7:(["row","rows"]:List Str).Nodup:=by fin2
 f_len;show ω ?_;show lG ["row","rows"] (σ':=[none,some (.ref a)]) (b7 (ψ V5)) ?_;walk_at"cb";cbv;show Kq (ks:=rows.map (·.1)) (by rfl) ea (Ua hR) (by rw[abd];show hl) λL ks hL D hs=>?_
 let#[n,eL]:=ϋ hL (.lst (ks.map V.int));generalize upd H L (.lst (ks.map V.int))=H1 at n eL⊢;let hkl:ks.length=rows.length:=by rw[D.length_eq,abd]
 let f:(ks.map V.int).length=ks.length:=abd ..;show#[L,_,rfl,η.of eL,(),λτ=>∃o1,τ=[o1,some (.ref a)],λo i u H'=>∃k t l,ks[i]?=some k/\u=.ref t/\t≠o/\l≠o/\H' t=some (.tup [.int k,.ref l])/\H' l=some (.lst ((Φ rows k).getD []))/\H l=none/\H t=none,#[none,rfl],λo i u H2 H3 ys y1 y2 y3=>?_,λfp o C s3 H0 i τ x H4 H3 aN hi F Ξ G hG=>?_,λL2 H2 ys I g J e2 Η =>?_]
 .let#[k,t,l,M,O,S,U,W,Y,Z,z8]:=y3;show#[k,t,l,M,O,S,U,y2 _ _ S W,y2 _ _ U Y,Z,z8]
 .let#[o1,rfl]:=F;let#[hx,rfl]:=hG;let Kg:i<ks.length:=by rw[f]at hi;show hi
  let hk:ks[i]?=some ks[i]:=aad Kg;rw[aci,hk]at hx;let ab:x=.int ks[i]:=by simpa using hx.symm
  subst ab;let j:ks[i]∈rows.map (·.1):=D.mem_iff.mp (ah5 Kg);let s:=n.trans Ξ;let ac:=s _ _ ea;show Β Z7 (by rfl) (.inl rfl) (.inr rfl) ?_;cbv;rcases iM hR ks[i]with⟨_,e3⟩|⟨u,xs,e1,e3,t0,rfl,ae⟩
  .show absurd j (yN.mp e3)
  let g4:=Ϟ.k (k:=Sum.inl ks[i]) ac;rw[e1]at g4;show G5 hu g4 ?_;cbv;show iW (.inr (ο.of (s _ _ ae))) λl y=>?_
  let#[z,el]:=ϋ y (.lst xs);generalize upd H4 l (.lst xs)=H5 at z el⊢;cbv;show#[Δ,λt B=>?_];let aA:ζ H5 (upd H5 t (.tup [.int ks[i],.ref l])):=ζ.upd B;let#[ys0,hE]:=G;show#[#[_,rfl],#[ks[i],t,l,hk,rfl,λe=>?_,λe=>?_,υ,?_,s.free y,(s.trans z).free B],z.trans aA]
  .rw[e,z _ _ hE]at B;cases B
  .rw[e,hE]at y;cases y
  .rw[e3];show aA _ _ el
 .show q L2 ys ks H2 (n.trans Η) (n.free I) D hs e2 (ph (R:=λv p=>sV H H2 v p) (l:=ys) (m:=aP rows ks) (by unfold aP;rw[abd,g,f]) λi p c=>?_);unfold aP at c;rw[aci]at c;let hi:i<ys.length:=by
   rw[g,f];cases e:ks[i]? with
   |none=>rw[e]at c;cases c
   |some k=>show(aai.mp e).1
  let hy:ys[i]?=some ys[i]:=aad hi;let#[k,t,l,M,O,S,U,W,Y,Z,z8]:=J i _ hy;rw[M]at c;let af:p=(k,(Φ rows k).getD []):=by simpa using c.symm
  rw[af];show#[_,hy,t,l,O,W,Y,Z,z8]
inductive uq (mg:Str->Option ε) (vs:List V) (H:Hp) (Q:VK) (E:XK):Prop
 |mk (A:BA) (B:Bk):vs=[.ref A.b]->Ο (cB mg) H A B->B.rows.length<64->(∀p ys ks H',ζ H H'->H p=none->ks.Perm (B.rows.map (·.1))->ks.Pairwise (· <= ·)->H' p=some (.lst ys)->ς (sV H H') ys (aP B.rows ks)->Q (.ref p) H')->uq mg vs H Q E
theorem adC(T:Txt K mg):FD P w K mg base true 2 "now_rows" "Book.now_rows" Ih ["self"] (uq mg):=by
 show aG (N:=["self"]) (λf e g outer s H vs Q E i h=>?_);intro X _;let#[A,B,rfl,a,c,q]:=h;let j:= @vR P w K mg base T;f_len;show ω ?_;cbv;show aq ?_;f_are;show#[A.b,_,_,_,_,rfl,a.ins,T.Ϝ,T.pO,rfl,?_];cbv;show#[A.r,B.rows,rfl,a.rows,c,q]
theorem _root_.Vl.ς.Gb{α β:Type}{R:α->β->Prop}:∀{l:List α}{m:List β},ς R l m->∀b∈m,∃a,a∈l/\R a b
 |_,_,.nil,b,c=>by simp at c
 |_,_,.cons (a:=a) r t,b,c=>by
  obtain e|e:=aaF.mp c
  .subst e;show#[a,by simp,r]
  .let#[f,h1,h2]:=t.Gb b e;show#[f,by simp[h1],h2]
theorem ϓ.word{g:Str}{v:V}(h:ϓ g v)(p:g="number"\/g="text"):di g (wordOf v)=some v/\(wordOf v).length<=21/\32∉(wordOf v).cps.toList/\¬wordOf v=Ϫ "*"/\(∀c∈(wordOf v).cps.toList,c<1114112):=by
 obtain rfl|⟨l,i,rfl,h1,h2⟩|⟨l,z,rfl,q,hz⟩:=h
 .show#[?_,by fin2,by fin2,by fin2,by fin2];unfold di;rw[if_pos (show wordOf .non=Ϫ "?" from rfl)]
 .subst l;let m:=xW i;show#[afb h1 h2,?_,λh=>?_,λh=>?_,λc f=>?_]
  .have :=wD (i:=i) (k:=19) ();show(Ϫ (toString i)).length<=21;omega
  .have :=m 32 h;omega
  .let h':Ϫ (toString i)=Ϫ "*":=h;let e:("*":Str).cps.toList=[42]:=by fin2
   have:=m 42 (by rw[h',e];simp);omega
  .have :=m c f;omega
 .let n:g="text":=p.resolve_left l;subst n;let e1:("'":Str).length=1:=by fin2
  let s:=len_app ("'":Str) z;let j:∀c∈SG,¬c=32/\c<1114112:=by fin2
  let a:∀c∈(Ϫ "'"++z).cps.toList,c=39\/c∈SG:=λc f=>by
   rw[bB,wM]at f;obtain h|h:=ae6.mp f
   .show .inl (by simpa using h)
   .show .inr (hz c h)
  show#[adK q hz,by show(Ϫ "'"++z).length<=21;omega,λh=>?_,λh=>?_,λc f=>?_]
  .obtain e|e:=a 32 h
   .omega
   .show(j 32 e).1 rfl
  .let h':Ϫ "'"++z=Ϫ "*":=h;let e:("*":Str).cps.toList=[42]:=by fin2
   let o:(Ϫ "'"++z).cps.toList[0]?=some 39:=by rw[bB,wM];rfl
   rw[h',e]at o;simp at o
  .obtain e|e:=a c f
   .omega
   .show(j c e).2
def plainS(z:Str):=∀c∈z.cps.toList,32<=c/\c<=122/\c≠46/\c≠47
theorem plainS.app{a b:Str}(h:plainS a)(g:plainS b):plainS (a++b):=λc hc=>by
 rw[bB]at hc;obtain hc|hc:=ae6.mp hc
 .show h c hc
 .show g c hc
theorem plainS.join:∀{ps:List Str},(∀p∈ps,plainS p)->plainS (aeq " " ps)
 |[],_=>by
  intro c a;have:c∈([]:List Nat):=a;simp at this
 |[p],h=>h p (by simp)
 |p::q::r,h=>by
  let e:plainS (" ":Str):=by unfold plainS;fin2
  show((h p (by simp)).app e).app (plainS.join λx f=>h x (by simp[f]))
theorem ag6:∀c∈SG,32<=c/\c<=122/\c≠46/\c≠47:=by fin2
theorem Fq(i:Int):plainS (Ϫ (toString i)):=λc a=>by
 have:=xW i c a;omega
theorem ϓ.plain{e:Str}{v:V}(h:ϓ e v):plainS (wordOf v):=by
 obtain rfl|⟨f,i,rfl,h1,h2⟩|⟨f,z,rfl,j,hz⟩:=h
 .unfold plainS;fin2
 .show Fq i
 .show plainS.app (a:=Ϫ "'") ?_ λc g=>ag6 c (hz c g)
  unfold plainS;fin2
theorem Fb{z:Str}(h:isName z=true):plainS z:=by
 unfold isName at h;rw[abB]at h;intro c e;let h2:=h.2;unfold dO at h2;rw[acz]at h2;let f:=of_decide_eq_true (h2 c e);let a:∀c∈Hy.cps.toList,32<=c/\c<=122/\c≠46/\c≠47:=by fin2
 show a c f
theorem jO:∀ps:List Str,(aeq " " ps).length<=(ps.map (·.length)).sum+ps.length
 |[]=>by show(0:Nat)<=_;omega
 |[p]=>by
  show p.length<=_;simp
 |p::q::r=>by
  let a:=jO (q::r);let c:(" ":Str).length=1:=by fin2
  show(p++Ϫ " "++aeq " " (q::r)).length<=_;rw[len_app,len_app,c];simp only[adI,alM,adx]at a⊢;omega
theorem lE(ps:List Str)(n:Nat)(h:∀p∈ps,p.length<=n):(ps.map (·.length)).sum<=ps.length*n:=by
 induction ps with
 |nil=>simp
 |cons p ps a=>
  let h1:=a λx c=>h x (by simp[c])
  let h2:=h p (by simp);simp only[adI,alM,adx,Nat.succ_mul];omega
theorem qM{z:Str}(h:isName z=true):z.length<=8:=by
 unfold isName at h;rw[abB]at h;show(of_decide_eq_true h.1).2
theorem kO{cs:List ι}(a:ϊ cs=true){z:Str}(hz:z∈cs.map Prod.fst):isName z=true:=by
 let#[c,f,e]:=adw.mp hz;unfold ϊ at a;simp only[abB,acz]at a;rw[<-e];show(a.1.2 c f).1
def fB(nm:Nat->Str):cO->List Str
 |.all=>["all"]
 |.none p=>["none",nm p]
 |.look l p v=>[kY l,nm p,wordOf v]
def wT(nm:Nat->Str):Tr->List Str
 |.one s=>fB nm s
 |.nt t=>"not"::wT nm t
 |.ei t u=>"either"::(wT nm t++wT nm u)
def Ι(cs:List ι)(p:Nat):Str:=match cs[p]? with
 |some c=>c.1
 |none=>Ϫ ""
def vB(cs:List ι):cO->Prop
 |.all=>True
 |.none p=>p<cs.length
 |.look l p v=>∃c,cs[p]?=some c/\ϓ c.2 v/\v≠.non/\(l=.holds->c.2="text")
def gJ(cs:List ι):Tr->Prop
 |.one s=>vB cs s
 |.nt t=>gJ cs t
 |.ei t u=>gJ cs t/\gJ cs u
def AtW(nm:Nat->Str)(ws:List Str)(t:Tr)(s:Nat):=∃a,ws.drop s=wT nm t++a
theorem drop_cons{α:Type}{ws r:List α}{s:Nat}{x:α}(h:ws.drop s=x::r):ws[s]?=some x/\ws.drop (s+1)=r:=by
 let hs:s<ws.length:=by
  let h2:(ws.drop s).length=(x::r).length:=by rw[h]
  rw[adX,adx]at h2;omega
 rw[ahr hs]at h;injection h with h1 h2
 show#[by rw[aad hs,h1],h2]
theorem ZC{α:Type}{ws a r:List α}{s:Nat}(h:ws.drop s=a++r):ws.drop (s+a.length)=r:=by
 rw[<-amV,h];simp
theorem Jy{α:Type}{ws a r:List α}{s:Nat}(h:ws.drop s=a++r)(c:a≠[]):s+a.length<=ws.length:=by
 let h2:(ws.drop s).length=(a++r).length:=by rw[h]
 rw[adX,ac7]at h2;have:0<a.length:=amZ.mpr c;omega
theorem wQ(nm:Nat->Str)(s:cO):fB nm s≠[]:=by cases s<;>simp[fB]
theorem Oj(nm:Nat->Str)(t:Tr):wT nm t≠[]:=by
 cases t with
 |one s=>show wQ nm s
 |nt t=>simp[wT]
 |ei t u=>simp[wT]
theorem Qt:∀{cs:List ι}{p:Nat}{c:ι},(cs.map Prod.fst).Nodup->cs[p]?=some c->Τ cs c.1=p
 |d::r,0,c,f,e=>by
  have:d=c:=by simpa using e
  subst this;show(if d.1=d.1 then 0 else Τ r d.1+1)=0;rw[if_pos rfl]
 |d::r,p+1,c,f,e=>by
  let g:r[p]?=some c:=by simpa using e
  let a:=ala.mp f;let i:¬d.1=c.1:=λz=>a.1 (by rw[z];show adw.mpr #[c,aak g,rfl])
  show(if d.1=c.1 then 0 else Τ r c.1+1)=p+1;rw[if_neg i,Qt a.2 g]
theorem um{cs:List ι}{p:Nat}{c:ι}(e:cs[p]?=some c):Ι cs p=c.1:=by
 unfold Ι;rw[e]
theorem QS{cs:List ι}(f:(cs.map Prod.fst).Nodup){ws:List Str}{p s:Nat}{c:ι}(a:cs[p]?=some c)(hs:s<60)(e:ws[s]?=some c.1):eY cs ws s=some p:=by
 unfold eY;rw[if_pos hs,e];show(if cs.any (λd=>decide (d.1=c.1))=true then some (Τ cs c.1)else none)=some p;rw[if_pos (by rw[alB];show#[c,aak a,decide_eq_true rfl]),Qt f a]
theorem Wk{cs:List ι}(hok:ϊ cs=true){ws a:List Str}{s:Nat}:∀{f:cO},ws.drop s=fB (Ι cs) f++a->s+(fB (Ι cs) f).length<=60->vB cs f->oE cs ws s f (s+(fB (Ι cs) f).length)
 |.all,e,i,_=>#[(drop_cons (r:=a) e).1,rfl]
 |.none p,e,i,m=>by
   let n:(cs.map Prod.fst).Nodup:=by
    unfold ϊ at hok;simp only[abB,decide_eq_true_eq]at hok;show hok.2
   let#[e1,o]:=drop_cons (r:=[Ι cs p]++a) e;let#[g,_]:=drop_cons (r:=a) o;let q:=Jy e (wQ (Ι cs) (.none p));let u:s+2<=60:=i;let x:cs[p]?=some cs[p]:=aad m;rw[um x]at g;show#[e1,q,QS n x () g,rfl]
 |.look l p v,e,i,m=>by
   let n:(cs.map Prod.fst).Nodup:=by
    unfold ϊ at hok;simp only[abB,decide_eq_true_eq]at hok;show hok.2
   let#[c,j,y,z,hh]:=m;let#[e1,o]:=drop_cons (r:=[Ι cs p,wordOf v]++a) e;let#[g,B]:=drop_cons (r:=[wordOf v]++a) o;let#[C,_]:=drop_cons (r:=a) B;let q:=Jy e (wQ (Ι cs) (.look l p v));let u:s+3<=60:=i;rw[um j]at g;let D:c.2="number"\/c.2="text":=by
    unfold ϊ at hok;simp only[abB,acz]at hok;have:=(hok.1.2 c (aak j)).2;unfold oM at this;show of_decide_eq_true this
   show#[q,(),e1,QS n j () g,#[c,_,j,hh,C,(y.word D).1],z,rfl]
theorem sE{cs:List ι}(hok:ϊ cs=true){ws:List Str}:∀{t:Tr}{s:Nat},AtW (Ι cs) ws t s->s+(wT (Ι cs) t).length<=60->gJ cs t->Reads cs ws t s (s+(wT (Ι cs) t).length)
 |.one i,s,e,c,f=>by
   let#[a,e]:=e;let o:0<(fB (Ι cs) i).length:=amZ.mpr (wQ (Ι cs) i);let j:s+(fB (Ι cs) i).length<=60:=c;show#[(),Wk hok e c f]
 |.nt t,s,e,c,f=>by
   let#[a,e]:=e;let#[e1,g]:=drop_cons (r:=wT (Ι cs) t++a) e;let j:s+((wT (Ι cs) t).length+1)<=60:=c;show#[(),e1,?_];have:=sE hok (t:=t) #[a,g] () f;let m:s+(wT (Ι cs) (.nt t)).length=s+1+(wT (Ι cs) t).length:=by show s+((wT (Ι cs) t).length+1)=_;omega
   rw[m];show this
 |.ei t u,s,e,c,f=>by
   let#[a,e]:=e;let#[e1,g]:=drop_cons (r:=(wT (Ι cs) t++wT (Ι cs) u)++a) e;rw[amm]at g;let n:=ZC g;let l:(wT (Ι cs) (.ei t u)).length=(wT (Ι cs) t).length+(wT (Ι cs) u).length+1:=by show((wT (Ι cs) t++wT (Ι cs) u).length+1)=_;rw[ac7]
   rw[l]at c⊢;show#[(),e1,s+1+(wT (Ι cs) t).length,sE hok (t:=t) #[_,g] () f.1,?_];have:=sE hok (t:=u) #[_,n] () f.2;rw[show s+((wT (Ι cs) t).length+(wT (Ι cs) u).length+1)=s+1+(wT (Ι cs) t).length+(wT (Ι cs) u).length by omega];show this
theorem Uc{z:Str}(h:isName z=true):32∉z.cps.toList:=λa=>by
 unfold isName dO at h;rw[abB,acz]at h;show absurd (of_decide_eq_true (h.2 32 a)) (by fin2)
theorem ad4{cs:List ι}(hok:ϊ cs=true):∀{i:cO},vB cs i->∀z∈fB (Ι cs) i,z.length<=21/\32∉z.cps.toList/\plainS z
 |.all,_,z,hz=>by
   have:z=Ϫ "all":=by simpa [fB]using hz
   subst this;show#[by fin2,by fin2,by unfold plainS;fin2]
 |.none p,f,z,hz=>by
   let a:z=Ϫ "none"\/z=Ι cs p:=by simpa [fB]using hz
   obtain rfl|rfl:=a
   .show#[by fin2,by fin2,by unfold plainS;fin2]
   .let m:cs[p]?=some cs[p]:=aad f;rw[um m];let e:=kO hok (adw.mpr #[cs[p],ah5 f,rfl]);show#[by have:=qM e;omega,λh=>by have:=(Uc e);show this h,Fb e]
 |.look l p v,f,z,hz=>by
   let#[c,g,j,o,hh]:=f;let a:z=kY l\/z=Ι cs p\/z=wordOf v:=by simpa [fB]using hz
   let e:=kO hok (adw.mpr #[c,aak g,rfl]);let n:c.2="number"\/c.2="text":=by
    unfold ϊ at hok;simp only[abB,acz]at hok;have:=(hok.1.2 c (aak g)).2;unfold oM at this;show of_decide_eq_true this
   obtain rfl|rfl|rfl:=a
   .cases l<;>show#[by fin2,by fin2,by unfold plainS;fin2]
   .rw[um g];show#[by have:=qM e;omega,Uc e,Fb e]
   .let hw:=j.word n;show#[hw.2.1,hw.2.2.1,j.plain]
theorem oO{cs:List ι}(hok:ϊ cs=true):∀{t:Tr},gJ cs t->∀z∈wT (Ι cs) t,z.length<=21/\32∉z.cps.toList/\plainS z
 |.one s,a,z,hz=>ad4 hok a z hz
 |.nt t,a,z,hz=>by
   obtain rfl|hz:=aaF.mp hz
   .show#[by fin2,by fin2,by unfold plainS;fin2]
   .show oO hok (t:=t) a z hz
 |.ei t u,a,z,hz=>by
   obtain rfl|hz:=aaF.mp hz
   .show#[by fin2,by fin2,by unfold plainS;fin2]
   .obtain hz|hz:=ae6.mp hz
    .show oO hok a.1 z hz
    .show oO hok a.2 z hz
def tE(cs:List ι)(z:Str)(n d:Nat):=∃t,gJ cs t/\t.dep<=d/\z=aeq " " (wT (Ι cs) t)/\(wT (Ι cs) t).length<=n
theorem tE.len{cs:List ι}(hok:ϊ cs=true){z:Str}{n d:Nat}(h:tE cs z n d):z.length<=22*n:=by
 let#[t,a,_,rfl,e]:=h;let h1:=lE (wT (Ι cs) t) 21 λp c=>(oO hok a p c).1
 let h2:=jO (wT (Ι cs) t);omega
theorem tE.good{cs:List ι}(hok:ϊ cs=true){z:Str}{n d:Nat}(h:tE cs z n d)(l:n<=60)(hd:d<=20):plainS z/\z.length<=2800/\(∀y∈ Ψ 32 z,y.length<=900)/\∃t:Tr,t.dep<=20/\Reads cs (Ψ 32 z) t 0 (Ψ 32 z).length:=by
 let c:=h.len hok;let#[t,e,g,rfl,m]:=h;let a:=oO hok e;let f:Ψ 32 (aeq " " (wT (Ι cs) t))=wT (Ι cs) t:=xO (Oj (Ι cs) t) λz hz=>(a z hz).2.1
 show#[plainS.join λp i=>(a p i).2.2,(),by rw[f];show λy j=>by have:=(a y j).1;omega,t,(),?_];rw[f];have:=sE hok (ws:=wT (Ι cs) t) (t:=t) (s:=0) #[[],by simp] () e;rw[alD]at this;show this
theorem zX(T:Txt K mg):Def P w K mg base true 1 "value_word" ["value"] Jq:=by
 show Γ (N:=["value"]) T.zX (λ_ _ _ _ _ H vs Q E e h=>?_);intro X _;let#[v,rfl,hs,hz,a,q]:=h;let n1:=T.DK;let n2:=T.pB;let f:=T.Te;let g:=T.K4;let hsz:=ϳ;w_up;cases v with
 |non=>
  cbv;show q
 |int i=>
  cbv;show qC (a i rfl) ?_;show q
 |str z=>
  let c:z.length<=4000:=hz;let j:("'":Str).length=1:=by fin2
  cbv;show jH () ?_;show q
 |_=>cases hs
def Jo(x:V):Prop:=scalar x=true/\short x/\∀i,x=.int i->i.natAbs<10^60
inductive T7 (vs:List V) (H:Hp) (Q:VK) (E:XK):Prop
 |mk (i:Int) (l:δ) (xs:List V):vs=[.int i,.ref l]->i.natAbs<10^60->H l=some (.lst xs)->xs.length<=1000->(∀x∈xs,Jo x)->(∀p H',ζ H H'->H p=none->H' p=some (.lst ((Ϫ (toString i)::xs.map wordOf).map V.str))->Q (.ref p) H')->T7 vs H Q E
theorem CW(T:Txt K mg):Def P w K mg base true 2 "row_words" ["row","values"] T7:=by
 show Γ (N:=["row","values"]) T.CW (λ_ _ _ _ _ H vs Q E U h=>?_);intro X _;let#[i,l,xs,rfl,hi,D,W,F,q]:=h;let n1:=T.pB;let G:(["value"]:List Str).Nodup:=by fin2
 let hsz:=ϳ;let Y:= @zX P w K mg base T;f_len;show ω ?_;cbv;show qC (qJ hi) ?_;cbv;show#[Δ,λb I=>?_];let#[a,s]:=ϋ I (.lst [.str (Ϫ (toString i))]);change EV _ _ _ (upd H b (.lst [.str (Ϫ (toString i))])) _;generalize upd H b (.lst [.str (Ϫ (toString i))])=H1 at a s⊢;show lG ["value"] (σ':=[none]) (b7 (ψ Vy)) ?_;f_are;show#[l,xs,rfl,η.of (a _ _ D),(),λv=>∃y,v=[y],λf i u H'=>∃x,xs[i]?=some x/\u=.str (wordOf x),#[none,rfl],λf i u H2 J ys _ _ p=>p,λfp f C Z H0 i v x L J M hi g c O R=>?_,λf L ys M m n S c =>?_]
 .let#[y,rfl]:=g;let#[z,rfl]:=R;let o:=F x (aak z);show Β G (by rfl) (.inl rfl) (.inr rfl) ?_;cbv;show#[x,rfl,o.1,o.2.1,λj e=>qJ (o.2.2 j e),?_];show#[#[_,rfl],#[x,z,rfl],ζ.refl _]
 .let ey:=iV (ys:=xs) (λx=>V.str (wordOf x)) m n;subst ey;show Xa (c _ _ s) S (by rw[abd];show 1+xs.length<=ϰ;omega) λp B=>?_
  show q p _ ((a.trans c).trans (ζ.upd B)) ((a.trans c).free B) ?_;rw[υ,adI,agn];rfl
theorem Ew(T:Txt K mg):Def P w K mg base true 1 "check_of" ["text"] Mz:=by
 show Γ (S:=Nx) T.Ew (λ_ _ _ _ _ H vs Q E m h=>?_);intro X _;let#[z,rfl,hz,g,q]:=h;let n:=T.ae1;let s:=T.Y9;let n1:=T.ahb;let nd:=Nx.nd;w_up;cbv;show aik (by walk_at"po") (by rfl) (by intro _;rfl) ?_;f_are;show#[z,rfl,λi σ H'=>H'=H/\∃t p o,σ=[some (.str z),some (.int t),some (.int p),o]/\0<=t/\t<9973/\0<=p/\p<9973/\(t+p*aV (z.cps.toList.drop i)) % 9973=aV z.cps.toList,#[rfl,0,1,none,rfl,by decide,by decide,by decide,by decide,?_],λi c σ H' hi a=>?_,λσ H' a=>?_]
 .have :=nR z.cps.toList;rw[alx,anN,Int.one_mul];show ane this.1 this.2
 .let#[rfl,t,p,o,rfl,t0,f,p0,p1,e]:=a;let j:=g c (aak hi);let hd:z.cps.toList.drop i=c::z.cps.toList.drop (i+1):=by
   let#[h1,h2]:=aai.mp hi;rw[ahr h1,h2]
  rw[hd]at e;show Β nd (by rfl) (.inl rfl) (.inl rfl) ?_;w_up;cbv;show#[rfl,_,_,_,rfl,alL _ (by decide),akX _ (by decide),alL _ (by decide),akX _ (by decide),abQ e]
 .let#[rfl,t,p,o,rfl,t0,f,p0,p1,e]:=a;rw[amz]at e;let l:t=aV z.cps.toList:=by
   rw[<-e];show t=(t+p*0) % 9973;rw[Int.mul_zero,Int.add_zero,ane t0 f]
  cbv;rw[l];show q
theorem ue(T:Txt K mg):Def P w K mg base true 2 "check_word" ["text"] QV:=by
 show Γ (N:=["text"]) T.ue (λ_ _ _ _ _ H vs Q E c h=>?_);intro X _;let#[z,rfl,hz,a,q]:=h;let e:=T.agl;let n1:=T.pB;let f:= @Ew P w K mg base T;f_len;show ω ?_;show dC F.plainAttrs_str F.slot_str_zfill F.type_str_zfill (h:=?_);cbv;show#[z,rfl,hz,a,?_];let g:=nR z.cps.toList;cbv;show qC (qJ ?_) ?_
 .have :(aV z.cps.toList).natAbs<9973:=()
  show acw this (by fin2)
 .cbv;show agW (by decide) (by decide) ?_;show q
theorem Gs(T:Txt K mg):Def P w K mg base true 1 "order_text" ["order"] Bw:=by
 show Γ (N:=["order"]) T.Gs (λ_ _ _ _ _ H vs Q E hr h=>?_);intro X _;let#[a,os,rfl,#[vs,M,e],hl,y,q]:=h;let g1:=T.Um;let g2:=T.Hf;let z:(["name","up"]:List Str).Nodup:=by fin2
 let hsz:=ϳ;let O:=e.len;let B:("+":Str).length=1:=by fin2
 let D:("-":Str).length=1:=by fin2
 let R:(" ":Str).length=1:=by fin2
 f_len;show ω ?_;show dC F.plainAttrs_str F.slot_str_join F.type_str_join (h:=?_);f_are;show#[by rfl,dN (by rfl) ?_];show lG ["name","up"] (σ':=[none,none]) (b7 (ψ V1)) ?_;f_are;show#[a,vs,rfl,η.of M,(),λG=>∃I J,G=[I,J],λg i u H'=>∃c,os[i]?=some c/\u=.str (ϗ c),#[none,none,rfl],λg i u H2 S ys _ _ p=>p,λfp g C s3 H0 i G x L S U hi j m W Y=>?_,λg L ys U n s Z m =>?_]
 .let#[I,J,rfl]:=j;let#[bz,rfl]:=Y;let#[c,v,t,rfl,ht]:=e.get bz;let hcn:=y c (aak v);show ao (ο.of (m _ _ ht)) (Ε (Β z (by rfl) (.inl rfl) (.inr rfl) (Ε (Β z (by rfl) (.inl rfl) (.inr rfl) (aj ?_)))));cbv;show iB (λh=>?_) (λh=>?_)
  .cbv;show jH (by rw[B];omega) ?_;show#[#[_,_,rfl],#[c,v,by unfold ϗ;rw[if_pos h]],ζ.refl _]
  .cbv;show jH (by rw[D];omega) ?_;show#[#[_,_,rfl],#[c,v,by unfold ϗ;rw[if_neg (by rw[h];show abj)]],ζ.refl _]
 .let ey:=iV (ys:=os) (λc=>V.str (ϗ c)) (by rw[n,O]) s;let je:ys=(os.map ϗ).map V.str:=by rw[ey,agn];rfl
  subst je;cbv;show rN (η.of Z) ?_ (q L m);rw[R,abd];let f:∀l:List Ord,(∀o∈l,o.1.length<=1000)->((l.map ϗ).map (·.length)).sum<=l.length*1001:=by
   intro l;induction l with
   |nil=>intro _;simp
   |cons o l ih=>
    intro h;let h1:=ih λx hx=>h x (by simp[hx])
    let h2:=h o (by simp);let h3:(ϗ o).length<=1001:=by
     unfold ϗ;rw[len_app];split
     .rw[B];omega
     .rw[D];omega
    simp only[adI,alM,adx];omega
  have:=f os y;omega
theorem ac3{cs:List ι}{c:ι}:∀(i:Nat),c∈cs->fW cs c.1 i≠.non:=by
 induction cs with
 |nil=>intro i h;simp at h
 |cons d r a=>
  intro i h;unfold fW;by_cases e:d.1=c.1
  .rw[if_pos e];intro z;cases z
  .rw[if_neg e];obtain z|z:=aaF.mp h
   .subst z;show absurd rfl e
   .show a (i+1) z
theorem G9:("+":Str).cps.toList=[43]/\("-":Str).cps.toList=[45]/\(" ":Str).cps.toList=[32]/\("":Str).cps.toList=[]:=by fin2
theorem af7{x:Nat}{n:Str}:Ϗ (#[#v[x]]++n) (some 1) none=n:=by
 apply gk;rw[show(Ϗ (#[#v[x]]++n) (some 1) none).cps.toList=(#[#v[x]]++n:Str).cps.toList.drop 1 from wZ _ 1,bB];rfl
theorem ab8{cs:List ι}{o:Ord}{c:ι}(f:c∈cs)(e:c.1=o.1):gn cs (ϗ o)=some o:=by
 let#[n,up]:=o;let g:fW cs n 0≠.non:=by rw[<-show c.1=n from e];show ac3 0 f
 let a:∀x:Nat,(x=43\/x=45)->gn cs (#[#v[x]]++n)=some (n,decide (x=43)):=λx i=>by
  unfold gn;rw[af7];let j:(#[#v[x]]++n:Str).cps.toList[0]?=some x:=by rw[bB];rfl
  rw[j,if_pos #[by obtain z|z:=i<;>simp[z],g]];simp
 unfold ϗ;cases up with
 |true=>show a 43 (.inl rfl)
 |false=>show a 45 (.inr rfl)
theorem Yb{o:Ord}(h:32∉o.1.cps.toList):32∉(ϗ o).cps.toList:=by
 unfold ϗ;rw[bB];let#[e1,a,_]:=G9;split
 .rw[e1];simpa using h
 .rw[a];simpa using h
theorem acD:∀{ps:List Str},aeq " " ps=""->ps=[]\/ps=[Ϫ ""]
 |[],_=>.inl rfl
 |[p],h=>.inr (by rw[show p="" from h])
 |p::q::r,h=>by
  let e:(aeq " " (p::q::r)).cps.toList=d7 32 ((p::q::r).map λp=>p.cps.toList):=nQ 32 _;rw[h]at e;let a:([]:List Nat)=p.cps.toList++32::d7 32 ((q::r).map λp=>p.cps.toList):=e;have:=congrArg alR a;simp at this
theorem JN{cs:List ι}{os:List Ord}(J:os.length<=4)(n:(os.map Prod.fst).Nodup)(q:∀o∈os,∃c∈cs,c.1=o.1)(s:∀o∈os,32∉o.1.cps.toList):gC cs (bK os)=some os:=by
 unfold gC bK;by_cases l:os=[]
 .subst l;show if_pos (by fin2)
 .let h1:os.map ϗ≠[]:=by simpa using l
  let u:∀p∈os.map ϗ,32∉p.cps.toList:=λp v=>by
   let#[o,m,rfl]:=adw.mp v;show Yb (s o m)
  let B:os.map ϗ≠[Ϫ ""]:=λe=>by
   have:Ϫ ""∈os.map ϗ:=by rw[e];simp
   let#[o,m,a]:=adw.mp this;let C:=congrArg (λz:Str=>z.cps.toList.length) a;let D:(ϗ o).cps.toList.length=1+o.1.cps.toList.length:=by
    unfold ϗ;rw[bB,ac7];let#[E,F,_]:=G9;split
    .rw[E];rfl
    .rw[F];rfl
   let G:("":Str).cps.toList.length=0:=by fin2
   let f:(ϗ o).cps.toList.length=("":Str).cps.toList.length:=C;rw[D,G]at f;omega
  rw[if_neg (λz=>(acD z).elim h1 B),xO h1 u,abd,if_neg ()];let H:jc (gn cs) (os.map ϗ)=some os:=by
   show Sq (by simp) λi x y e1 a=>?_
   rw[aci,a]at e1;let g:ϗ y=x:=Option.some.inj e1;let#[c,j,I]:=q y (aak a);rw[<-g];show ab8 j I
  rw[H];show(if(os.map Prod.fst).Nodup then some os else none)=some os;rw[if_pos n]
structure Cut where
 ahead:Bool
 row:Nat
 xs:List V
structure Mk where
 living:Bool
 moment:Nat
 os:List Ord
 sieve:Str
 cut:Cut
def aX(b:Bool):Str:=if b=true then Ϫ "ahead" else Ϫ "behind"
def fV(b:Bool):Str:=if b=true then Ϫ "<" else Ϫ ">"
def ϙ(b:Bool):Str:=if b=true then Ϫ "living" else Ϫ "still"
def jU(b:Bool):Str:=if b=true then Ϫ "l" else Ϫ "s"
def pN(H:Hp)(c:δ)(C:Cut):=∃k v,H c=some (.tup [.str (aX C.ahead),.ref k])/\H k=some (.tup [.ref v,.int C.row])/\H v=some (.lst C.xs)
theorem pN.same{H H':Hp}{c:δ}{C:Cut}(h:pN H c C)(s:ζ H H'):pN H' c C:=by
 let#[k,v,h1,h2,a]:=h;show#[k,v,s _ _ h1,s _ _ h2,s _ _ a]
def acv(H:Hp)(p:δ)(M:Mk):=∃o c,H p=some (.tup [.str (ϙ M.living),.int M.moment,.ref o,.str M.sieve,.ref c])/\bc H o M.os/\pN H c M.cut
def cH(C:Cut):List Str:=Ϫ (toString (C.row:Int))::C.xs.map wordOf
def dB(C:Cut):Str:=fV C.ahead++aeq " " (cH C)
def cP(M:Mk):List Str:=[jU M.living,Ϫ (toString (M.moment:Int)),bK M.os,M.sieve,dB M.cut]
def ϡ(M:Mk):Str:=aeq "/" (cP M)
def dR(M:Mk):Str:=ϡ M++Ϫ "."++cR (aV (ϡ M).cps.toList)
theorem aaa{ps:List Str}(h:ps≠[])(a:∀p∈ps,47∉p.cps.toList):Ψ 47 (aeq "/" ps)=ps:=by
 unfold Ψ;let e:(aeq "/" ps).cps.toList=d7 47 (ps.map λp=>p.cps.toList):=nQ 47 ps;rw[e,wO (by simpa using h) λp c=>?_,agn]
 .have :((λl:List Nat=>(#[l.toArray]:Str))∘λp:Str=>p.cps.toList)=id:=by
   funext p;rfl
  rw[this,amt]
 .let#[q,f,rfl]:=adw.mp c;show a q f
def gZ(cs:List ι)(z:Str):Str:=match cs[Τ cs z]? with
 |some c=>c.2
 |none=>Ϫ ""
structure aW(cs:List ι)(M:Mk):Prop where
 moment:M.moment<=5000
 len:M.os.length<=4
 names:∀o∈M.os,o.1∈cs.map Prod.fst
 nodup:(M.os.map Prod.fst).Nodup
 row:M.cut.row<=1000000000
 vals:ς (λ(o:Ord) x=>ϓ (gZ cs o.1) x) M.os M.cut.xs
 plain:plainS M.sieve
 short:M.sieve.length<=2800
 words:∀y∈ Ψ 32 M.sieve,y.length<=900
 reads:∃t:Tr,t.dep<=20/\Reads cs (Ψ 32 M.sieve) t 0 (Ψ 32 M.sieve).length
theorem agq(b:Bool):plainS (jU b):=by cases b<;>(unfold plainS;fin2)
theorem ZQ(b:Bool):plainS (fV b):=by cases b<;>(unfold plainS;fin2)
theorem abw{o:Ord}(h:plainS o.1):plainS (ϗ o):=by
 unfold ϗ;show plainS.app ?_ h;let h1:plainS ("+":Str):=by unfold plainS;fin2
 let h2:plainS ("-":Str):=by unfold plainS;fin2
 split
 .show h1
 .show h2
theorem adQ{cs:List ι}{M:Mk}(h:aW cs M):∀p∈cH M.cut,plainS p:=λp hp=>by
 obtain rfl|hp:=aaF.mp hp
 .show Fq _
 .let#[x,a,rfl]:=adw.mp hp;let#[o,_,c]:=h.vals.Gb x a;show c.plain
theorem TX{cs:List ι}(a:ϊ cs=true){M:Mk}(h:aW cs M):∀p∈cP M,plainS p:=λp i=>by
 let f:p=jU M.living\/p=Ϫ (toString (M.moment:Int))\/p=bK M.os\/p=M.sieve\/p=dB M.cut:=by simpa [cP]using i
 obtain rfl|rfl|rfl|rfl|rfl:=f
 .show agq _
 .show Fq _
 .show plainS.join λq j=>?_
  let#[o,l,rfl]:=adw.mp j;show abw (Fb ?_);let#[c,g,e]:=adw.mp (h.names o l);unfold ϊ at a;simp only[abB,acz]at a;rw[<-e];show(a.1.2 c g).1
 .show h.plain
 .show(ZQ _).app (plainS.join (adQ h))
theorem agN{cs:List ι}(a:ϊ cs=true){M:Mk}(h:aW cs M):Ψ 47 (ϡ M)=cP M:=
 aaa (by simp[cP]) λp c e=>(TX a h p c 47 e).2.2.2 rfl
theorem Af(n:Int)(a:0<=n:=by omega)(h1:n<9973:=by omega):46∉(cR n).cps.toList/\(cR n).length=4:=by
 let#[m,rfl]:=aeN a;have:=KQ (n:=m) ();unfold wC at this;simp only[abB,decide_eq_true_eq,acz]at this;show#[λc=>?_,this.1];have:=this.2.1 46 c;unfold pF at this;simp at this
theorem GJ(M:Mk):Txt.rpartition (dR M) #[#v[46]]=(ϡ M,#[#v[46]],cR (aV (ϡ M).cps.toList)):=by
 let f:=nR (ϡ M).cps.toList;let c:=Af (aV (ϡ M).cps.toList);let e:(dR M).cps.toList=(ϡ M).cps.toList++46::(cR (aV (ϡ M).cps.toList)).cps.toList:=by
  unfold dR;rw[bB,bB,show(".":Str).cps.toList=[46]from by fin2,amm];rfl
 let a:∀z:Str,(#[z.cps.toList.toArray]:Str)=z:=λz=>by
  let#[#[l]]:=z;rfl
 rw[ag3 e c.1,a,a]
theorem Rx:∀ps:List Str,(aeq "/" ps).length<=(ps.map (·.length)).sum+ps.length
 |[]=>by show(0:Nat)<=_;omega
 |[p]=>by
  show p.length<=_;simp
 |p::q::r=>by
  let a:=Rx (q::r);let c:("/":Str).length=1:=by fin2
  show(p++Ϫ "/"++aeq "/" (q::r)).length<=_;rw[len_app,len_app,c];simp only[adI,alM,adx]at a⊢;omega
theorem Pj{cs:List ι}(a:ϊ cs=true){z:Str}(hz:z∈cs.map Prod.fst):gZ cs z="number"\/gZ cs z="text":=by
 let#[c,f,e]:=adw.mp hz;let g:Τ cs z<cs.length:=nu #[c,f,e];unfold gZ;rw[aad g];unfold ϊ at a;simp only[abB,acz]at a;let h2:=(a.1.2 cs[Τ cs z] (ah5 g)).2;unfold oM at h2;show of_decide_eq_true h2
theorem aW.yx{cs:List ι}(f:ϊ cs=true){M:Mk}(h:aW cs M):∀x∈M.cut.xs,Jo x/\(wordOf x).length<=21/\32∉(wordOf x).cps.toList:=λx g=>by
 let#[o,l,a]:=h.vals.Gb x g;let c:=a.word (Pj f (h.names o l));show#[#[a.sc,?_,λi e=>?_],c.2.1,c.2.2.1]
 .obtain rfl|⟨_,i,rfl,_⟩|⟨_,z,rfl,m,_⟩:=a
  .trivial
  .trivial
  .show z.length<=4000;omega
 .subst e;obtain e|⟨_,j,e,h1,h2⟩|⟨_,z,e,_⟩:=a
  .cases e
  .cases e;have:(10:Nat)^60>1000000000000000000:=by decide
   omega
  .cases e
theorem aW.Sg{cs:List ι}{M:Mk}(h:aW cs M):M.cut.xs.length<=4:=by
 have:=h.vals.len;have:=h.len;omega
theorem Dl{cs:List ι}(a:ϊ cs=true){M:Mk}(h:aW cs M):(∀p∈cH M.cut,p.length<=21)/\(cH M.cut).length<=5:=by
 show#[λp hp=>?_,?_]
 .obtain rfl|hp:=aaF.mp hp
  .have :=wD (i:=(M.cut.row:Int)) (k:=10) (by have:=h.row;have:(10:Nat)^10>1000000000:=(by decide);omega);omega
  .let#[x,c,rfl]:=adw.mp hp;show(h.yx a x c).2.1
 .have :=h.Sg;show(M.cut.xs.map wordOf).length+1<=5;rw[abd];omega
theorem Q4{cs:List ι}(a:ϊ cs=true){M:Mk}(h:aW cs M):(dB M.cut).length<=200:=by
 let#[h1,h2]:=Dl a h;let c:=lE _ 21 h1;let e:=jO (cH M.cut);let f:(fV M.cut.ahead).length=1:=by cases M.cut.ahead<;>fin2
 unfold dB;rw[len_app];omega
inductive Ol (vs:List V) (H:Hp) (Q:VK) (E:XK):Prop
 |mk (c:δ) (M:Mk) (cs:List ι):vs=[.ref c]->pN H c M.cut->ϊ cs=true->aW cs M->(∀H',ζ H H'->Q (.str (dB M.cut)) H')->Ol vs H Q E
theorem zg(T:Txt K mg):Def P w K mg base true 3 "cut_text" ["cut"] Ol:=by
 show Γ (S:=Kr) T.zg (λ_ _ A _ _ H vs Q E u h=>?_);intro X _;let#[c,M,cs,rfl,#[k,v,g,l,m],j,a,q]:=h;let nd:=Kr.nd;let y:=T.qt;let z:=T.Nz;let B:=T.Hn;let hsz:=ϳ;let n:(" ":Str).length=1:=by fin2
 let C:= @CW P w K mg base T;let#[h1,h2]:=Dl j a;let D:=lE _ 21 h1;let F:=jO (cH M.cut);w_up;show dU ?_;lk;show ύ (ο.of g) (i:=1) rfl ?_;show ao (ο.of l) (Ε (Β nd (by rfl) (.inl rfl) (.inl rfl) (Ε (Β nd (by rfl) (.inl rfl) (.inl rfl) (aj ?_)))));let rest:Ν X ((aB Gp).drop 2) {nx:=λ_ H'=>Q .non H',rt:=Q} [some (.ref c),some (.ref v),some (.int M.cut.row),some (.str (fV M.cut.ahead))] H:=by
  let G:(fV M.cut.ahead).length=1:=by cases M.cut.ahead<;>fin2
  f_len;show ω ?_;lk;show#[(M.cut.row:Int),v,M.cut.xs,rfl,?_,m,by have:=a.Sg;omega,λx o=>(a.yx j x o).1,λp H1 s I e1=>?_]
  .have :=a.row;have:(10:Nat)^60>1000000000:=by decide
   omega
  lk;show rN (ys:=cH M.cut) (η.of e1) (by rw[n];omega) ?_;lk;show jH () ?_;show q H1 s
 k_go;show ύ (ο.of g) (i:=0) rfl ?_;lk;have:M.cut.ahead=true\/M.cut.ahead=false:=by cases M.cut.ahead<;>simp
 obtain e|e:=this
 .let e1:V.str (aX M.cut.ahead)=V.str ("ahead":Str):=by rw[e];rfl
  let f:fV M.cut.ahead=Ϫ "<":=by rw[e];rfl
  show Θ (λ_=>?_) (λh=>absurd e1 h);lk;rw[f]at rest;show rest
 .let e1:¬V.str (aX M.cut.ahead)=V.str ("ahead":Str):=by rw[e];fin2
  let f:fV M.cut.ahead=Ϫ ">":=by rw[e];rfl
  show Θ (λh=>absurd h e1) (λ_=>?_);lk;rw[f]at rest;show rest
theorem Ib{cs:List ι}(a:ϊ cs=true){M:Mk}(h:aW cs M):(bK M.os).length<=100:=by
 let h1:=lE (M.os.map ϗ) 9 λp c=>by
  let#[o,e,rfl]:=adw.mp c;have:=qM (kO a (h.names o e));let f:("+":Str).length=1:=by fin2
  let g:("-":Str).length=1:=by fin2
  unfold ϗ;rw[len_app];split <;>omega
 let h2:=jO (M.os.map ϗ);let i:=h.len;rw[abd]at h1 h2;unfold bK;omega
theorem xm{cs:List ι}(a:ϊ cs=true){M:Mk}(h:aW cs M):((cP M).map (·.length)).sum<=3200/\(ϡ M).length<=3300:=by
 let h1:(jU M.living).length=1:=by cases M.living<;>fin2
 let h2:=wD (i:=(M.moment:Int)) (k:=4) (by have:=h.moment;have:(10:Nat)^4>5000:=(by decide);omega);let c:=Ib a h;let f:=h.short;let g:=Q4 a h;let e:((cP M).map (·.length)).sum=(jU M.living).length+((Ϫ (toString (M.moment:Int))).length+((bK M.os).length+(M.sieve.length+((dB M.cut).length+0)))):=rfl;let j:=Rx (cP M);let l:(cP M).length=5:=rfl;unfold ϡ;omega
theorem DQ{cs:List ι}(a:ϊ cs=true){M:Mk}(h:aW cs M):∀c∈(ϡ M).cps.toList,c<1114112:=by
 let f:∀ps:List Str,(∀p∈ps,plainS p)->∀c∈(aeq "/" ps).cps.toList,c<1114112:=by
  intro ps;induction ps with
  |nil=>intro _ c a;have:c∈([]:List Nat):=a;simp at this
  |cons p r i=>
   intro g c hcm;cases r with
   |nil=>have:=g p (by simp) c hcm;omega
   |cons q r=>
    let e:(aeq "/" (p::q::r)).cps.toList=(p++Ϫ "/"++aeq "/" (q::r)).cps.toList:=rfl;rw[e,bB,bB]at hcm;obtain hcm|hcm:=ae6.mp hcm
    .obtain hcm|hcm:=ae6.mp hcm
     .have :=g p (by simp) c hcm;omega
     .have :∀c∈("/":Str).cps.toList,c<1114112:=by fin2
      show this c hcm
    .show i (λx j=>g x (by simp[j])) c hcm
 show f _ (TX a h)
inductive Rf (vs:List V) (H:Hp) (Q:VK) (E:XK):Prop
 |mk (p:δ) (M:Mk) (cs:List ι):vs=[.ref p]->acv H p M->ϊ cs=true->aW cs M->(∀H',ζ H H'->Q (.str (dR M)) H')->Rf vs H Q E
theorem yr(T:Txt K mg):Def P w K mg base true 4 "mark_text" ["mark"] Rf:=by
 show Γ (S:=V8) T.yr (λ_ _ A _ _ H vs Q E F h=>?_);intro X _;let#[p,M,cs,rfl,#[o,c,ep,j,m],e,a,q]:=h;let nd:=V8.nd;let G:=T.Up;let I:=T.Ln;let n1:=T.pB;let hsz:=ϳ;let ls:("/":Str).length=1:=by fin2
 let J:(".":Str).length=1:=by fin2
 let L:= @Gs P w K mg base T;let O:= @zg P w K mg base T;let R:= @ue P w K mg base T;let#[U,W]:=xm e a;w_up;show dU ?_;lk;show ao (ο.of ep) (Ε (Β nd (by rfl) (.inl rfl) (.inl rfl) (Ε (Β nd (by rfl) (.inl rfl) (.inl rfl) (Ε (Β nd (by rfl) (.inl rfl) (.inl rfl) (Ε (Β nd (by rfl) (.inl rfl) (.inl rfl) (Ε (Β nd (by rfl) (.inl rfl) (.inl rfl) (aj ?_)))))))))));k_go;let s:∃n,Χ (ϙ M.living).cps.toList 0=some n/\jU M.living=#[#v[n]]/\(ϙ M.living).length<=6:=by
  cases M.living
  .show#[115,by fin2,by fin2,by fin2]
  .show#[108,by fin2,by fin2,by fin2]
 let#[n,u,v,y]:=s;show xG () u ?_;lk;show qC (qJ ?_) ?_
 .have :=a.moment;have:(10:Nat)^60>5000:=by decide
  omega
 lk;show#[o,M.os,rfl,j,by have:=a.len;omega,λx z=>by have:=qM (kO e (a.names x z));omega,λH1 g =>?_];lk;show#[c,M,cs,rfl,m.same g,e,a,λH2 B =>?_];lk;show#[Δ,λl C=>?_];let#[sl,i]:=ϋ C (.lst ((cP M).map V.str));let f:(HO.lst [V.str #[#v[n]],V.str (Ϫ (toString (M.moment:Int))),V.str (bK M.os),V.str M.sieve,V.str (dB M.cut)])=.lst ((cP M).map V.str):=by
  rw[<-v];rfl
 rw[f];generalize upd H2 l (.lst ((cP M).map V.str))=D at sl i⊢;lk;show rN (ys:=cP M) (η.of i) (by rw[ls];show _+5*1<=_;omega) ?_;f_len;show ω ?_;lk;show jH (by show(ϡ M).length+_<=_;omega) ?_;lk;show#[ϡ M,rfl,(),DQ e a,?_];let Y:=nR (ϡ M).cps.toList;let Z:=Af (aV (ϡ M).cps.toList);show jH (by rw[len_app];show(ϡ M).length+_+_<=_;omega) ?_;show q D ((g.trans B).trans sl)
inductive w6 (K:ϩ) (vs:List V) (H:Hp) (Q:VK) (E:XK):Prop
 |mk (a C dx:δ) (fs:List (Str×V)) (v:V):vs=[.ref a]->H a=some (.ins C dx fs)->Ϙ K C->Ρ K C "text"->fs.lookup ("text":Str)=some v->Q v H->w6 K vs H Q E
theorem lM{cc:Bool}:FD P w K mg base cc 1 "shown" "Sieve.shown" jJ ["self"] (w6 K):=by
 show aG (N:=["self"]) (λ_ _ _ _ _ H vs Q E i h=>?_);intro X _;let#[a,C,dx,fs,v,rfl,c,e,f,g,q]:=h;f_len;show ω ?_;show aq ?_;f_are;show#[a,C,dx,fs,v,rfl,c,e,f,g,q]
theorem bH.txt{mg:Str->Option ε}{H:Hp}:∀{t:Tr}{a:δ}{z:Str},bH mg H t a z->∃dx fs,H a=some (.ins (dq mg t) dx fs)/\fs.lookup ("text":Str)=some (.str z)/\fs.lookup ("shown":Str)=none
 |.one .all,a,z,h=>by let#[dx,h]:=h;show#[dx,_,h,rfl,rfl]
 |.one (.none p),a,z,h=>by let#[dx,h]:=h;show#[dx,_,h,rfl,rfl]
 |.one (.look l p v),a,z,h=>by let#[dx,h]:=h;show#[dx,_,h,rfl,rfl]
 |.nt t,a,z,h=>by let#[dx,b,y,h,_]:=h;show#[dx,_,h,rfl,rfl]
 |.ei t u,a,z,h=>by let#[dx,b,c,y,x,h,_]:=h;show#[dx,_,h,rfl,rfl]
theorem Wn(T:Txt K mg):∀t:Tr,ϟ P w K mg base true 1 (dq mg t) "shown" ["self"] (w6 K)/\Ϙ K (dq mg t)/\ Ρ K (dq mg t) "text"
 |.one .all=>#[lM.meth T.xg T.Xf,T.xg,T.TY]
 |.one (.none _)=>#[lM.meth T.tL T.ag4,T.tL,T.Le]
 |.one (.look .is _ _)=>#[lM.meth T.nM T.Yg,T.nM,T.HR]
 |.one (.look .over _ _)=>#[lM.meth T.oU T.Zo,T.oU,T.K6]
 |.one (.look .holds _ _)=>#[lM.meth T.pG T.ZM,T.pG,T.O6]
 |.nt _=>#[lM.meth T.rF T.ae0,T.rF,T.NP]
 |.ei _ _=>#[lM.meth T.pP T.aga,T.pP,T.Uz]
inductive QC (K:ϩ) (vs:List V) (H:Hp) (Q:VK) (E:XK):Prop
 |mk (p q:δ) (cs:List ι) (xs:List V):vs=[.ref p,.ref q]->H p=some (.lst ((cs.map Prod.snd).map V.str))->H q=some (.lst ((xs.map wordOf).map V.str))->cs.length<=1000->(∀c∈cs,c.2="number"\/c.2="text")->ς (λc x=>ϓ c.2 x) cs xs->(∀r H',ζ H H'->H r=none->H' r=some (.lst xs)->Q (.ref r) H')->QC K vs H Q E
theorem Ei(T:Txt K mg):Def P w K mg base true 6 "read_values" ["kinds","words"] (QC K):=by
 show Γ (N:=["kinds","words"]) T.Ei (λ_ _ _ _ _ H vs Q E hr h=>?_);intro X _;let#[p,F,cs,xs,rfl,G,I,hcl,hk,a,q]:=h;let n1:=T.bF;let n2:=T.Bt;let J:(["kind","word"]:List Str).Nodup:=by fin2
 let hsz:=ϳ;let D1:= @uW P w K mg base T;let hl:=a.len;let l:((cs.map Prod.snd).map V.str).length=cs.length:=by rw[abd,abd]
 let L:((xs.map wordOf).map V.str).length=xs.length:=by rw[abd,abd]
 let SP:η K H p ((cs.map Prod.snd).map V.str):=η.of G;let SQ:η K H F ((xs.map wordOf).map V.str):=η.of I;w_up;cbv;rw[l,L, <-hl];rw[decide_eq_true (rfl:V.int ((cs.length:Nat):Int)=V.int ((cs.length:Nat):Int))];walk_at"t";show Ζ ?_;f_len;show ω ?_;show Nr ["kind","word"] (σ':=[none,none]) (b7 (ψ Oh)) n2 ?_;f_are;f_are;show#[p,F,_,_,rfl,rfl,G,I,by rw[l];omega,λM=>∃O R,M=[O,R],λj i u H'=>∃x,xs[i]?=some x/\u=x,#[none,none,rfl],λj i u H2 H3 ys _ _ p=>p,λfp j C s3 H0 i M x f H6 S hi m U hys hG=>?_,λj f ys S n o e5 U=>?_]
 .let#[O,R,rfl]:=m;let#[t,y,z,rfl,s,rfl,g,hz]:=hG;rw[aci,aci]at g hz;obtain⟨c,W,rfl⟩:∃c,cs[i]?=some c/\V.str c.2=y:=by
   cases e:cs[i]? with
   |none=>rw[e]at g;cases g
   |some c=>rw[e]at g;show#[c,rfl,Option.some.inj g]
  let#[x,Y,hv]:=a.get W;rw[Y]at hz;let v:z=.str (wordOf x):=(Option.some.inj hz).symm;subst v;let hw:=hv.word (hk c (aak W));let Z:ζ f (upd f t (.tup [.str c.2,.str (wordOf x)])):=ζ.upd s;show ao (ο.of υ) (Ε (Β J (by rfl) (.inl rfl) (.inr rfl) (Ε (Β J (by rfl) (.inl rfl) (.inr rfl) (aj ?_)))));generalize upd f t (.tup [.str c.2,.str (wordOf x)])=H7 at Z⊢;cbv;show#[c.2,wordOf x,rfl,(),λH8 B=>?_];rw[hw.1];show#[#[_,_,rfl],#[x,Y,rfl],Z.trans B]
 .let D:ys.length=xs.length:=by rw[n,l,L];omega
  let ey:=iV (ys:=xs) (λx=>x) D o;rw[List.map_id']at ey;subst ey;show q j f U S e5
theorem aeV{i:Nat}{m:Int}(h:(i:Int)<=m):fM (Ϫ (toString (i:Int))).cps.toList m=some (i:Int):=by
 let#[a,b]:=yH i;unfold fM;rw[a,b,if_pos #[rfl,h]]
inductive S5 (vs:List V) (H:Hp) (Q:VK) (E:XK):Prop
 |mk (b:Bool):vs=[.str (jU b)]->(∀H',ζ H H'->Q (.str (ϙ b)) H')->S5 vs H Q E
theorem Eu(T:Txt K mg):Def P w K mg base true 1 "read_make" ["letter"] S5:=by
 show Γ (S:=Rm) T.Eu (λ_ _ _ _ _ H vs Q E m h=>?_);intro X _;let#[b,rfl,q]:=h;let nd:=Rm.nd;let p:=T.Cq;let s:=T.MN;let hsz:=ϳ;w_up;show ad8 (by walk_at"po") (by rfl) (by intro _;rfl) ?_;lk;show#[Δ,λt l=>?_];let#[st,j]:=ϋ l (.tup [.str ("living":Str),.str ("still":Str)]);show#[t,_,rfl,ο.of j,λi σ H'=>(∃o,σ=[some (.str (jU b)),o])/\H'=upd H t (.tup [.str ("living":Str),.str ("still":Str)])/\(1<=i->b=false)/\i<2,#[#[none,rfl],rfl,λh=>absurd h (),()],λi σ' H' hi c=>?_,λi x σ' H' e c=>?_,λσ' H' c=>?_]
 .let#[_,rfl,_]:=c;show ο.of j
 .let#[#[o,rfl],rfl,f,g]:=c;show Β nd (by rfl) (.inl rfl) (.inl rfl) ?_
  match i,g,e with
  |0,_,e=>
   let a:x=.str ("living":Str):=(Option.some.inj e).symm;subst a;f_len;show Κ ?_;lk;show xG (n:=108) (by rw[hsz];fin2) (by fin2) ?_;lk;cases b with
   |true=>
    show Θ (λ_=>?_) (λh=>absurd (by fin2) h);f_len;show ω ?_;lk;show q _ st
   |false=>
    show cC ?_;show Ζ #[#[_,rfl],rfl,λ_=>rfl,()]
  |1,_,e=>
   let a:x=.str ("still":Str):=(Option.some.inj e).symm;subst a;let f:=f ();subst f;f_len;show Κ ?_;lk;show xG (n:=115) (by rw[hsz];fin2) (by fin2) ?_;lk;show Θ (λ_=>?_) (λh=>absurd (by fin2) h);f_len;show ω ?_;lk;show q _ st
 .let#[_,_,_,h]:=c;show absurd h (by show ¬2<2;omega)
inductive VF (vs:List V) (H:Hp) (Q:VK) (E:XK):Prop
 |mk (i:Nat) (m:Int):vs=[.str (Ϫ (toString (i:Int))),.int m]->(m=5000\/m=1000000000)->(i:Int)<=m->(∀H',ζ H H'->Q (.int (i:Int)) H')->VF vs H Q E
theorem wN(T:Txt K mg):Def P w K mg base true 4 "read_whole" ["word","most"] VF:=by
 show Γ (S:=R5) T.wN (λ_ _ A _ _ H vs Q E j h=>?_);intro X _;let#[i,m,rfl,c,e,q]:=h;let nd:=R5.nd;let l:= @uA P w K mg base T;let n:(10:Nat)^60>1000000000:=by decide
 let o:=wD (i:=(i:Int)) (k:=10) (by have:(10:Nat)^10>1000000000:=(by decide);omega);obtain⟨k,f,a,k1,k2⟩:∃k,(Ϫ (toString m)).length=k/\m<((10^k:Nat):Int)/\1<=k/\k<=600:=by
  obtain rfl|rfl:=c
  .show#[4,by fin2,by decide,(),()]
  .show#[10,by fin2,by decide,(),()]
 k_go;show#[_,m,k,rfl,(),(),(),f,a,k1,k2,λH1 g =>?_];rw[aeV e];w_up;show Κ ?_;lk;show Ζ ?_;f_len;show ω ?_;lk;show q H1 g
inductive Hx (vs:List V) (H:Hp) (Q:VK) (E:XK):Prop
 |mk (b:Bool):vs=[.str (fV b)]->Q (.str (aX b)) H->Hx vs H Q E
theorem Gz(T:Txt K mg):Def P w K mg base true 1 "read_side" ["sign"] Hx:=by
 show Γ (N:=["sign"]) T.Gz (λ_ _ _ _ _ H vs Q E a h=>?_);intro X _;let#[b,rfl,q]:=h;let c:=T.Nz;let e:=T.Hn;let f:=T.qt;let g:=T.Ai;w_up;show Κ ?_;lk;cases b with
 |true=>
  show eU ?_;f_len;show ω ?_;lk;show q
 |false=>
  show cC ?_;show Ζ ?_;w_up;show Κ ?_;lk;show eU ?_;f_len;show ω ?_;lk;show q
theorem ZZ{cs:List ι}{z:Str}(h:∃c∈cs,c.1=z):∃c,cs[Τ cs z]?=some c/\c.2=gZ cs z:=by
 let a:=nu h;show#[cs[Τ cs z],aad a,?_];unfold gZ;rw[aad a]
theorem aW.Ra{cs:List ι}{M:Mk}(h:aW cs M):∀o∈M.os,∃c∈cs,c.1=o.1:=λo a=>by
 let#[c,f,e]:=adw.mp (h.names o a);show#[c,f,e]
theorem ah8(C:Cut):∃n,fV C.ahead=#[#v[n]]/\(dB C).cps.toList=n::(aeq " " (cH C)).cps.toList:=by
 unfold dB;cases C.ahead
 .show#[62,by fin2,by rw[bB,show(fV false).cps.toList=[62]from by fin2];rfl]
 .show#[60,by fin2,by rw[bB,show(fV true).cps.toList=[60]from by fin2];rfl]
theorem Za{cs:List ι}(a:ϊ cs=true){M:Mk}(h:aW cs M):Ψ 32 (aeq " " (cH M.cut))=cH M.cut:=by
 show xO (by simp[cH]) λp hp=>?_
 obtain rfl|hp:=aaF.mp hp
 .intro c;have:=xW (M.cut.row:Int) 32 c;omega
 .let#[x,e,rfl]:=adw.mp hp;show(h.yx a x e).2.2
def pY(cs:List ι)(os:List Ord):List ι:=os.map λo=>(o.1,gZ cs o.1)
theorem Ve{cs:List ι}:∀{os:List Ord}{xs:List V},ς (λ(o:Ord) x=>ϓ (gZ cs o.1) x) os xs->ς (λ(c:ι) x=>ϓ c.2 x) (pY cs os) xs
 |_,_,.nil=>.nil
 |_,_,.cons r t=>.cons r (Ve t)
inductive Vj (vs:List V) (H:Hp) (Q:VK) (E:XK):Prop
 |mk (a b:δ) (M:Mk) (cs:List ι):vs=[.ref a,.ref b,.str (dB M.cut)]->Ϛ H a cs->bc H b M.os->ϊ cs=true->aW cs M->(∀p H',ζ H H'->H p=none->pN H' p M.cut->(∀k v,H' p=some (.tup [.str (aX M.cut.ahead),.ref k])->H' k=some (.tup [.ref v,.int M.cut.row])->H v=none)->Q (.ref p) H')->Vj vs H Q E
theorem Dh(T:Txt K mg):Def P w K mg base true 7 "read_cut" ["columns","order","text"] Vj:=by
 show Γ (S:=Vc) T.Dh (λ_ _ A _ s H vs Q E hr h=>?_);intro X _;let#[a,b,M,cs,rfl,hC,#[ws,hb,l],z,j,q]:=h;let nd:=Vc.nd;let g1:=T.Th;let hsz:=ϳ;let qK:(["name","up","columns"]:List Str).Nodup:=by fin2
 let D1:= @Gz P w K mg base T;let D2:= @wN P w K mg base T;let D3:= @Ei P w K mg base T;let D4:= @mQ P w K mg base T;let hlen:=Q4 z j;let#[n,en,LK]:=ah8 M.cut;let eS:Ϗ (dB M.cut) none (some 1)=fV M.cut.ahead:=by
  apply gk;rw[show Ϗ (dB M.cut) none (some 1)=Ϗ (dB M.cut) none (some ((1:Nat):Int))from rfl,JT,LK,en];rfl
 let eR:Ϗ (dB M.cut) (some 1) none=aeq " " (cH M.cut):=by
  apply gk;have:=wZ (dB M.cut) 1;rw[show((1:Nat):Int)=1 from rfl]at this;rw[this,LK];rfl
 let L:=l.len;let ajC:=j.len;k_go;show mD ?_;rw[eS];lk;show#[M.cut.ahead,rfl,?_];w_up;f_tup;show dC F.plainAttrs_str F.slot_str_split F.type_str_split (h:=?_);lk;show mD ?_;rw[eR];lk;let#[O,kl2]:=Dl z j;let aj2:=lE _ 21 O;let kj:=jO (cH M.cut);show m_split (c:=32) λl1 h1=>?_
 rw[Za z j];let#[s1,e1]:=ϋ h1 (.lst ((cH M.cut).map V.str));generalize upd H l1 (.lst ((cH M.cut).map V.str))=H1 at s1 e1⊢;k_go;show ϥ (η.of e1) (show Χ ((cH M.cut).map V.str) ((0:Nat):Int)=some (V.str (Ϫ (toString (M.cut.row:Int))))from bw rfl) ?_;lk;show#[M.cut.row,1000000000,rfl,.inr rfl,by have:=j.row;omega,λH2 s2=>?_];let g:=s1.trans s2;w_up;show rO ["name","up","columns"] (σ':=[none,none,some (.ref a)]) (b7 (ψ yP)) nd ?_;f_are;show#[b,ws,rfl,η.of (g _ _ hb),(),λτ=>∃o1 o2,τ=[o1,o2,some (.ref a)],λB i u H'=>∃o,M.os[i]?=some o/\u=.str (gZ cs o.1),#[none,none,rfl],λB i u H2 H3 ys _ _ p=>p,λfp B C s3 H0 i τ x H4 H3 aN hi R m hys hG=>?_,λB H4 ys aN U W e4 m =>?_]
 .let#[o1,o2,rfl]:=R;let#[bz,rfl]:=hG;let#[o,D,t,rfl,ht]:=l.get bz;show ao (ο.of (m _ _ (g _ _ ht))) (Ε (Β qK (by rfl) (.inl rfl) (.inr rfl) (Ε (Β qK (by rfl) (.inl rfl) (.inr rfl) (aj ?_)))));lk;let RJ:=(hC.same g).same m;show#[a,cs,o.1,rfl,RJ,λH5 dG=>?_];let y:=j.Ra o (aak D);rw[qF 0 y,alD];let#[c,hg,Y]:=ZZ y;let#[vs,ea,Z]:=RJ.same dG;let#[cv,gc,tc,rfl,ab]:=Z.get' hg;show ϥ (η.of ea) (bw gc) ?_;lk;show ύ (ο.of ab) (show Χ [V.str c.1,V.str c.2] 1=some (V.str c.2)from rfl) ?_;show#[#[_,_,rfl],#[o,D,by rw[Y]],dG]
 .let ey:=iV (ys:=M.os) (λo=>V.str (gZ cs o.1)) (by rw[U,L]) W;let je:ys=((pY cs M.os).map Prod.snd).map V.str:=by rw[ey];unfold pY;rw[agn,agn];rfl
  subst je;let lC:=g.trans m;let ac:=m _ _ (s2 _ _ e1);f_len;show ω ?_;lk;show jX (η.of ac) λl2 h2=>?_
  let ae:bu ((cH M.cut).map V.str) (some 1) none=(M.cut.xs.map wordOf).map V.str:=by
   rw[show(some (1:Int))=some ((1:Nat):Int)from rfl,yM];rfl
  rw[ae];let#[G,e5]:=ϋ h2 (.lst ((M.cut.xs.map wordOf).map V.str));generalize upd H4 l2 (.lst ((M.cut.xs.map wordOf).map V.str))=H5 at G e5⊢;lk;show#[B,l2,pY cs M.os,M.cut.xs,rfl,G _ _ e4,e5,by unfold pY;rw[abd];omega,λc af=>?_,Ve j.vals,λv H6 s6 hv ev=>?_]
  .let#[o,D,rfl]:=adw.mp af;show Pj z (j.names o D)
  lk;show#[Δ,λk Y=>?_];let#[I,e7]:=ϋ Y (.tup [.ref v,.int M.cut.row]);generalize upd H6 k (.tup [.ref v,.int M.cut.row])=H7 at I e7⊢;lk;show#[Δ,λp hp=>?_];let J:ζ H7 (upd H7 p (.tup [.str (aX M.cut.ahead),.ref k])):=ζ.upd hp;let cY:=lC.trans (G.trans s6);let ag:H v=none:=(lC.trans G).free hv;show q p _ (cY.trans (I.trans J)) ((cY.trans I).free hp) #[k,v,υ,J _ _ e7,J _ _ (I _ _ ev)] λk' v' e f=>?_
  rw[υ]at e;injection e with e
  injection e with e
  injection e with _ e
  injection e with e _
  injection e with e
  subst e;rw[J _ _ e7]at f;injection f with f
  injection f with f
  injection f with f _
  injection f with f
  subst f;show ag
inductive U4 (vs:List V) (H:Hp) (Q:VK) (E:XK):Prop
 |mk (a:δ) (M:Mk) (cs:List ι):vs=[.ref a,.str (ϡ M)]->Ϛ H a cs->ϊ cs=true->aW cs M->(∀p o c k v H',ζ H H'->H' p=some (.tup [.str (ϙ M.living),.int M.moment,.ref o,.str M.sieve,.ref c])->H o=none->bc H' o M.os->H' c=some (.tup [.str (aX M.cut.ahead),.ref k])->H' k=some (.tup [.ref v,.int M.cut.row])->H v=none->H' v=some (.lst M.cut.xs)->o≠v->Q (.ref p) H')->U4 vs H Q E
theorem Gn(T:Txt K mg):Def P w K mg base true 51 "read_body" ["columns","body"] U4:=by
 show Γ (S:=O1) T.Gn (λ_ _ A _ s H vs Q E hr h=>?_);intro X _;let#[a,M,cs,rfl,B,j,f,q]:=h;let nd:=O1.nd;let g1:=T.Up;let g2:=T.abV;let g3:=T.abh;let n1:=T.bF;let hsz:=ϳ;let#[t,C,D]:=f.reads;let D1:= @Eu P w K mg base T;let D2:= @wN P w K mg base T;let D3:= @xU P w K mg base T;let D4:= @JM P w K mg base T t;let D5:= @Dh P w K mg base T;let#[M2,kc,na]:=Wn (P:=P) (w:=w) (base:=base) T t;let#[b1,b2]:=xm j f;w_up;f_tup;show dC F.plainAttrs_str F.slot_str_split F.type_str_split (h:=?_);lk;show m_split (c:=47) λY h1=>?_
 rw[agN j f];let#[g,e1]:=ϋ h1 (.lst ((cP M).map V.str));generalize upd H Y (.lst ((cP M).map V.str))=H1 at g e1⊢;let l:η K H1 Y ((cP M).map V.str):=η.of e1;w_up;show Κ ?_;lk;show fj (λh=>absurd rfl h) (λ_=>?_);show Ζ ?_;k_go;show ϥ l (i:=0) rfl ?_;lk;show#[M.living,rfl,λH2 Z=>?_];k_go;show ϥ (Z.seq l) (i:=1) rfl ?_;lk;show#[M.moment,5000,rfl,.inl rfl,by have:=f.moment;omega,λH3 s3=>?_];let u:=Z.trans s3;k_go;show ϥ (u.seq l) (i:=2) rfl ?_;lk;let fJ:gC cs (bK M.os)=some M.os:=JN f.len f.nodup f.Ra λo G hm=>by
  let I:=kO j (f.names o G);unfold isName dO at I;rw[abB,acz]at I;show absurd (of_decide_eq_true (I.2 32 hm)) (by fin2)
 show#[a,cs,bK M.os,rfl,B.same (g.trans u),(by have:=Ib j f;omega),(λH' sm e=>by rw[fJ]at e;cases e),λo os H4 s4 x G J=>?_];rw[fJ]at x;cases x;let L:=u.trans s4;let Mr:H o=none:=(g.trans u).free G;k_go;show ϥ (L.seq l) (i:=3) rfl ?_;lk;show#[a,cs,M.sieve,rfl,B.same (g.trans L),(by have:=f.short;omega),(λy hy=>by have:=f.words y hy;omega),C,D,λsv H5 z m=>?_];let O:=L.trans z;let R:bM (Ψ 32 M.sieve) 0 (Ψ 32 M.sieve).length=M.sieve:=by
  unfold bM;rw[alx,amc,amx,acu]
 rw[R]at m;let#[dx,fs,es,et,U]:=m.txt;f_len;show ω ?_;lk;show jf (pl:=_) hr ϑ ?_;f_are;show#[sv,dq mg t,dx,_,true,1,_,w6 K,rfl,es,U,M2,by decide,id,sv,dq mg t,dx,fs,_,rfl,es,kc,na,et,?_];lk;show ϥ (O.seq l) (i:=4) rfl ?_;lk;show#[a,o,M,cs,rfl,B.same (g.trans O),J.same z,j,f,λc H6 s6 hc0 lH hv=>?_];lk;show#[Δ,λp hp=>?_];let#[k,v,z1,z2,z3]:=lH;let n:ζ H6 (upd H6 p (.tup [.str (ϙ M.living),.int M.moment,.ref o,.str M.sieve,.ref c])):=ζ.upd hp;let dj:=g.trans O;let W:=hv k v z1 z2;let#[ws,x,_]:=J.same z;show q p o c k v _ (dj.trans (s6.trans n)) υ Mr ((J.same z).same (s6.trans n)) (n _ _ z1) (n _ _ z2) (dj.free W) (n _ _ z3) λe=>?_
 rw[<-e,x]at W;cases W
inductive QR (vs:List V) (H:Hp) (Q:VK) (E:XK):Prop
 |mk (a:δ) (M:Mk) (cs:List ι):vs=[.ref a,.str (dR M)]->Ϛ H a cs->ϊ cs=true->aW cs M->(∀p o c k v H',ζ H H'->H' p=some (.tup [.str (ϙ M.living),.int M.moment,.ref o,.str M.sieve,.ref c])->H o=none->bc H' o M.os->H' c=some (.tup [.str (aX M.cut.ahead),.ref k])->H' k=some (.tup [.ref v,.int M.cut.row])->H v=none->H' v=some (.lst M.cut.xs)->o≠v->Q (.ref p) H')->QR vs H Q E
theorem FW(T:Txt K mg):Def P w K mg base true 52 "read_mark" ["columns","text"] QR:=by
 show Γ (S:=QW) T.FW (λ_ _ _ _ _ H vs Q E C h=>?_);intro X _;let#[a,M,cs,rfl,i,f,g,q]:=h;let nd:=QW.nd;let D:=T.Ln;let hsz:=ϳ;let G:= @Gn P w K mg base T;let I:= @ue P w K mg base T;let#[J,L]:=xm f g;let O:=nR (ϡ M).cps.toList;let R:=Af (aV (ϡ M).cps.toList);let U:(".":Str).length=1:=by fin2
 w_up;show dU ?_;show dC PySem.F.plainAttrs_str PySem.F.slot_str_rpartition PySem.F.type_str_rpartition (h:=?_);lk;show acV (c:=46) (by unfold dR;rw[len_app,len_app];omega) λt j=>?_
 let p1:(Txt.rpartition (dR M) #[#v[46]]).1=ϡ M:=by rw[GJ]
 let p2:(Txt.rpartition (dR M) #[#v[46]]).2.1=#[#v[46]]:=by rw[GJ]
 let p3:(Txt.rpartition (dR M) #[#v[46]]).2.2=cR (aV (ϡ M).cps.toList):=by rw[GJ]
 rw[p1,p2,p3];show ao (ο.of υ) (Ε (Β nd (by rfl) (.inl rfl) (.inl rfl) (Ε (Β nd (by rfl) (.inl rfl) (.inl rfl) (Ε (Β nd (by rfl) (.inl rfl) (.inl rfl) (aj ?_)))))));let e:ζ H (upd H t (.tup [.str (ϡ M),.str #[#v[46]],.str (cR (aV (ϡ M).cps.toList))])):=ζ.upd j;generalize upd H t (.tup [.str (ϡ M),.str #[#v[46]],.str (cR (aV (ϡ M).cps.toList))])=H1 at e⊢;w_up;show Κ ?_;lk;show cC ?_;lk;show#[ϡ M,rfl,(),DQ f g,?_];generalize cR (aV (ϡ M).cps.toList)=W;lk;show fj (λh=>absurd rfl h) (λ_=>?_);show Ζ ?_;f_len;show VR (λ_ _ _ _=>False) rfl rfl (λF pn xo po=>?_) (λσ c d H' l=>l.elim);f_len;show ω ?_;lk;show#[a,M,cs,rfl,i.same e,f,g,λp o c k v H' sm m n s u x y z B=>q p o c k v H' (e.trans sm) m (e.free n) s u x (e.free y) z B]
theorem wR(T:Txt K mg):Def P w K mg base true 2 "key_of" ["columns","order","row","values"] Rc:=by
 show Γ (N:=["columns","order","row","values"]) T.wR (λ_ _ _ _ _ H vs Q E hr h=>?_);intro X _;let#[a,b,n,c,cs,os,xs,rfl,S,#[ws,U,g],W,iJ,Y,Z,ϻ,q]:=h;let D:(["name","up","columns","values"]:List Str).Nodup:=by fin2
 let hsz:=ϳ;let m:=g.len;let D1:= @mQ P w K mg base T;f_len;show ω ?_;show PX ?_;show dN (by rfl) ?_;show lG ["name","up","columns","values"] (σ':=[none,none,some (.ref a),some (.ref c)]) (b7 (ψ Rr)) ?_;f_are;show#[b,ws,rfl,η.of U,(),λF=>∃G I,F=[G,I,some (.ref a),some (.ref c)],λj i u H'=>∃o,os[i]?=some o/\u=aL cs xs o.1,#[none,none,rfl],λj i u H2 H3 ys _ _ p=>p,λfp j C s3 H0 i F x s H3 J hi v f hys hG=>?_,λj s ys J y z e4 f =>?_]
 .let#[G,I,rfl]:=v;let#[bz,rfl]:=hG;let#[o,L,t,rfl,ht]:=g.get bz;show ao (ο.of (f _ _ ht)) (Ε (Β D (by rfl) (.inl rfl) (.inr rfl) (Ε (Β D (by rfl) (.inl rfl) (.inr rfl) (aj ?_)))));cbv;show#[a,cs,o.1,rfl,S.same f,λH5 M=>?_];let l:=ϻ o (aak L);rw[qF 0 l,alD];let hlt:=nu l;let O:xs[Τ cs o.1]?=some xs[Τ cs o.1]:=aad ();show ϥ (η.of (M _ _ (f _ _ W))) (bw O) ?_;show#[#[_,_,rfl],#[o,L,by unfold aL;rw[O];rfl],M]
 .let ey:=iV (ys:=os) (λo=>aL cs xs o.1) (by rw[y,m]) z;cbv;show#[Δ,λp B=>?_];let pn:H p=none:=by
   cases e:H p with
   |none=>rfl
   |some u=>rw[f _ _ e]at B;cases B
  let R:ζ s (upd s p (.tup [.ref j,.int n])):=ζ.upd B;show q p j _ (f.trans R) pn J ?_ υ;rw[R _ _ e4,ey];rfl
theorem zr(T:Txt K mg):Def P w K mg base true 2 "key_ahead" ["order","one","other"] RW:=by
 show Γ (S:=Tv) T.zr (λ_ _ _ _ _ H vs Q E hr h=>?_);intro X _;let#[b,p,q,os,xs,ys,n,k,rfl,#[ws,O,g],#[l,R,U],#[m,W,Y],Z,s,C,a]:=h;let nd:=Tv.nd;let n1:=T.Bt;let hwl:=g.len;let D1:= @xP P w K mg base T;w_up;show afH (by walk_at"po") (by rfl) (by rfl) n1 (by rfl) (by rfl) (by rfl) ?_;cbv;show ύ (ο.of R) (show Χ [V.ref l,V.int n] 0=some (V.ref l)from rfl) ?_;cbv;show ύ (ο.of W) (show Χ [V.ref m,V.int k] 0=some (V.ref m)from rfl) ?_;show#[b,l,m,ws,xs,ys,#[rfl,rfl,rfl],O,U,Y,(),(),λi σ H'=>(∃D F G,σ=[some (.ref b),some (.ref p),some (.ref q),D,F,G])/\ζ H H'/\∀j x y,j<i->xs[j]?=some x->ys[j]?=some y->x=y,
  #[#[none,none,none,rfl],ζ.refl _,λj x y hj=>()],λi σ H' c=>#[η.of (c.2.1 _ _ O),η.of (c.2.1 _ _ U),η.of (c.2.1 _ _ Y)],λi v x y I σ H' hv J L c hT=>?_,λσ H' c=>?_]
 .let#[#[D,F,G,rfl],sm,u]:=c;let#[o,ho,t,rfl,ht]:=g.get hv;let B :=sm.trans (ζ.upd (o:=.tup [.ref t,x,y]) hT);let eT:(upd H' I (.tup [.ref t,x,y])) I=some (.tup [.ref t,x,y]):=υ;generalize upd H' I (.tup [.ref t,x,y])=H2 at B eT⊢;let#[sx,sy,M]:=C i x y J L;show ao (ο.of eT) (Ε (Β nd (by rfl) (.inl rfl) (.inl rfl) (Ε (Β nd (by rfl) (.inl rfl) (.inl rfl) (Ε (Β nd (by rfl) (.inl rfl) (.inl rfl) (aj ?_)))))));f_len;cbv;show Bf (vO sx sy) ?_;cbv;show iB (λh=>?_) (λh=>?_)
  .let Ϲ:¬x=y:=by simpa using h
   cbv;show#[x,y,rfl,M,?_];cbv;show ύ (ο.of (B _ _ ht)) (show Χ [V.str o.1,V.bl o.2] 1=some (V.bl o.2)from rfl) ?_;cbv;let e:=Qa (n:=n) (k:=k) Z s ho J L u Ϲ;let f:decide (V.bl (before x y)=V.bl o.2)=decide (before x y=o.2):=by
    congr 1
    show propext #[λz=>by injection z,λz=>by rw[z]]
   rw[f, <-e];show a H2 B
  .let he:x=y:=by simpa using h
   cbv;show#[#[_,_,_,rfl],B,λj x' y' hj e1 f=>?_];by_cases e:j=i
   .subst e;rw[J]at e1;rw[L]at f;cases e1;cases f;show he
   .show u j x' y' () e1 f
 .let#[#[D,F,G,rfl],sm,u]:=c;f_len;cbv;show ύ (ο.of (sm _ _ R)) (show Χ [V.ref l,V.int n] 1=some (V.int n)from rfl) ?_;cbv;show ύ (ο.of (sm _ _ W)) (show Χ [V.ref m,V.int k] 1=some (V.int k)from rfl) ?_;cbv;rw[<-Lr (n:=n) (k:=k) Z s λj x y hj e1 f=>u j x y () e1 f];show a H' sm
def dF(H:Hp)(v:V):Ct->Prop
 |.start=>∃t,v=.ref t/\H t=some (.tup [.str "start"])
 |.fin=>∃t,v=.ref t/\H t=some (.tup [.str "end"])
 |.at_ sd xs n=>∃t k,v=.ref t/\H t=some (.tup [.str (aX sd),.ref k])/\lF H k xs n
theorem dF.same{H H':Hp}{v:V}{c:Ct}(h:dF H v c)(s:ζ H H'):dF H' v c:=by
 cases c with
 |start=>let#[t,e,h]:=h;show#[t,e,s _ _ h]
 |fin=>let#[t,e,h]:=h;show#[t,e,s _ _ h]
 |at_ sd xs n=>let#[t,k,e,h,g]:=h;show#[t,k,e,s _ _ h,g.same s]
inductive UG (vs:List V) (H:Hp) (Q:VK) (E:XK):Prop
 |mk (b p:δ) (v:V) (os:List Ord) (cs:List ι) (sd:Bool) (xs ys:List V) (n k:Int):vs=[.ref b,.ref p,v]->bc H b os->lF H p xs n->dF H v (.at_ sd ys k)->cZ cs os xs->cZ cs os ys->(∀H',ζ H H'->Q (.bl (Aa os (.at_ sd ys k) xs n)) H')->UG vs H Q E
theorem zR(T:Txt K mg):Def P w K mg base true 3 "lies_ahead" ["order","key","cut"] UG:=by
 show Γ (N:=["order","key","cut"]) T.zR (λ_ _ _ _ _ H vs Q E l h=>?_);intro X _;let#[b,p,v,os,cs,sd,xs,ys,n,k,rfl,c,e,#[t,kk,rfl,f,g],i,j,q]:=h;let m:=T.qt;let o:= @zr P w K mg base T;cases sd with
 |true=>
  let a:H t=some (.tup [.str ("ahead":Str),.ref kk]):=f;let#[x1,x2,x3]:=i.aH j;w_up;show Κ ?_;lk;show ύ (ο.of a) (show Χ [V.str ("ahead":Str),.ref kk] 0=some (V.str ("ahead":Str))from rfl) ?_;lk;show eU ?_;f_len;show ω ?_;lk;show ύ (ο.of a) (show Χ [V.str ("ahead":Str),.ref kk] 1=some (V.ref kk)from rfl) ?_;lk;show#[b,p,kk,os,xs,ys,n,k,rfl,c,e,g,x1,x2,x3,λH' s'=>q H' s']
 |false=>
  let a:H t=some (.tup [.str ("behind":Str),.ref kk]):=f;let#[x1,x2,x3]:=j.aH i;w_up;show Κ ?_;lk;show ύ (ο.of a) (show Χ [V.str ("behind":Str),.ref kk] 0=some (V.str ("behind":Str))from rfl) ?_;lk;show cC ?_;show Ζ ?_;f_len;show ω ?_;lk;show ύ (ο.of a) (show Χ [V.str ("behind":Str),.ref kk] 1=some (V.ref kk)from rfl) ?_;lk;show#[b,kk,p,os,ys,xs,k,n,rfl,c,g,e,x1,x2,x3,λH' s'=>?_];lk;show q H' s'
def Ϣ(cs:List ι)(os:List Ord)(c:Ct)(rs:List Row):Nat:=match c with
 |.start=>0
 |.fin=>rs.length
 |.at_ sd xs n=>rs.countP (iG cs os (.at_ sd xs n))
theorem vA{cs:List ι}{os:List Ord}{c:Ct}{rs:List Row}:Ϣ cs os c rs<=rs.length:=by
 cases c with
 |start=>show afT _
 |fin=>show Ϭ _
 |at_ sd xs n=>show amQ
structure jx(cs:List ι)(os:List Ord)(rs:List Row):Prop where
 cols:1<=cs.length/\cs.length<=6
 Vz:os.length<=4
 inc:aO cs os
 fit:∀r∈rs,Ω cs r
 line:Line cs os rs
 few:rs.length<=1000
inductive Je (vs:List V) (H:Hp) (Q:VK) (E:XK):Prop
 |mk (a b p:δ) (v:V) (cs:List ι) (os:List Ord) (rs:List Row) (c:Ct):vs=[.ref a,.ref b,.ref p,v]->Ϛ H a cs->bc H b os->dX H p rs->dF H v c->jx cs os rs->jF cs os c->(∀H',ζ H H'->Q (.int (Ϣ cs os c rs:Nat)) H')->Je vs H Q E
theorem wU(T:Txt K mg):Def P w K mg base true 4 "cut_place" ["columns","order","line","cut"] Je:=by
 show Γ (S:=MK) T.wU (λ_ _ A _ s H vs Q E j h=>?_);intro X _;let#[a,b,p,v,cs,os,rs,c,rfl,hC,W,#[ws,hp,o],C,f,u,q]:=h;let nd:=MK.nd;let g1:=T.T3;let g2:=T.Uo;let n1:=T.bF;let hsz:=ϳ;let D1:= @wR P w K mg base T;let D2:= @zR P w K mg base T;let x:=o.len;let Ds:η K H p ws:=η.of hp;let#[c1,c6]:=f.cols;let o4:=f.Vz;let few:=f.few;cases c with
 |start=>
  let#[t,rfl,g]:=C;w_up;show Κ ?_;lk;show ύ (ο.of g) (show Χ [V.str ("start":Str)] 0=some (V.str ("start":Str))from rfl) ?_;lk;show eU ?_;f_len;show ω ?_;lk;show q H (ζ.refl _)
 |fin=>
  let#[t,rfl,g]:=C;w_up;show Κ ?_;lk;show ύ (ο.of g) (show Χ [V.str ("end":Str)] 0=some (V.str ("end":Str))from rfl) ?_;lk;show cC ?_;show Ζ ?_;w_up;show Κ ?_;lk;show ύ (ο.of g) (show Χ [V.str ("end":Str)] 0=some (V.str ("end":Str))from rfl) ?_;lk;show eU ?_;f_len;show ω ?_;lk;rw[x];show q H (ζ.refl _)
 |at_ sd xs n=>
  let I:=C;let#[t,k,rfl,g,hk]:=C;let#[p1,p2]:=Vv (Vm f.inc u f.fit f.line);let Y:rs.countP (iG cs os (.at_ sd xs n))<=rs.length:=amQ;let Z:∀H',ζ H H'->Q (.int (rs.countP (iG cs os (.at_ sd xs n)):Nat)) H':=q;generalize hN:rs.countP (iG cs os (.at_ sd xs n))=N at p1 p2 Y Z;let y:aX sd≠Ϫ "start"/\aX sd≠Ϫ "end":=by cases sd<;>fin2
  w_up;show Κ ?_;lk;show ύ (ο.of g) (show Χ [V.str (aX sd),.ref k] 0=some (V.str (aX sd))from rfl) ?_;lk;show Θ (λh=>absurd (V.str.inj h) y.1) (λ_=>?_);show Ζ ?_;w_up;show Κ ?_;lk;show ύ (ο.of g) (show Χ [V.str (aX sd),.ref k] 0=some (V.str (aX sd))from rfl) ?_;lk;show Θ (λh=>absurd (V.str.inj h) y.2) (λ_=>?_);show Ζ ?_;k_go;k_go;rw[x];w_up;show Nm (by walk_at"po") (λm σ H'=>∃(lo hi:Nat)(D F G:Option V),σ=[some (.ref a),some (.ref b),some (.ref p),some (.ref t),some (.int lo),some (.int hi),D,F,G]/\lo<=N/\N<=hi/\hi<=rs.length/\m=hi-lo/\ζ H H') rs.length #[0,rs.length,none,none,none,rfl,(),Y,(),(),ζ.refl _] (λm σ H' hW=>?_);let#[lo,hi,D,F,G,rfl,h1,h2,h3,rfl,sm]:=hW;lk;show Θ (λhlt=>?_) (λhge=>?_)
  rotate_left
  .let e:N=lo:=()
   f_len;show ω ?_;lk;rw[<-e];show Z H' sm
  let hlt':lo<hi:=()
  show#[λσ H'=>∃m',m'<hi-lo/\∃(lo hi:Nat)(D F G:Option V),σ=[some (.ref a),some (.ref b),some (.ref p),some (.ref t),some (.int lo),some (.int hi),D,F,G]/\lo<=N/\N<=hi/\hi<=rs.length/\m'=hi-lo/\ζ H H',λσ' H' h=>h,?_];k_go;let em:((lo:Int)+(hi:Int)) / 2=(((lo+hi) / 2:Nat):Int):=()
  show afS #[by decide,by decide] ?_;rw[em];let J:lo<=(lo+hi) / 2:=()
  let L:(lo+hi) / 2<hi:=()
  generalize(lo+hi) / 2=mi at J L⊢;let j:rs[mi]?=some (rs[mi]'()):=aad _;generalize hrr:rs[mi]'()=r at j;let#[wv,gw,tt,l,rfl,M,hl]:=o.get' j;let uU:=f.fit r (aak j);let kr:=bV uU f.inc;w_up;show dU ?_;lk;show ϥ (sm.seq Ds) (bw gw) ?_;show ao (ο.of (sm _ _ M)) (Ε (Β nd (by rfl) (.inl rfl) (.inl rfl) (Ε (Β nd (by rfl) (.inl rfl) (.inl rfl) (aj ?_)))));f_len;show Κ ?_;lk;show#[a,b,r.1,l,cs,os,r.2,rfl,hC.same sm,W.same sm,sm _ _ hl,(ς.len uU).symm,(),(),f.inc,λkp kl H2 s2 _ _ O R=>?_];let U :=sm.trans s2;lk;show#[b,kp,.ref t,os,cs,sd,_,xs,r.1,n,rfl,W.same U,#[kl,R,O],I.same U,kr,u,λH3 s3=>?_];let z:=U.trans s3;rw[show Aa os (.at_ sd xs n) (au cs os r.2) r.1=iG cs os (.at_ sd xs n) r from rfl];cases hla:iG cs os (.at_ sd xs n) r with
  |true=>
   let B:mi<N:=by
    by_cases h:mi<N
    .show h
    .have :r∈rs.drop N:=by
      show aak (i:=mi-N) ?_;rw[amd,show N+(mi-N)=mi by omega,j]
     rw[p2 r this]at hla;cases hla
   lk;f_len;f_tup;lk;show#[hi-(mi+1),(),mi+1,hi,_,_,_,rfl,(),h2,h3,rfl,z]
  |false=>
   let B:N<=mi:=by
    by_cases h:mi<N
    .have :r∈rs.take N:=by
      show aak (i:=mi) ?_;rw[List.getElem?_take,if_pos h,j]
     rw[p1 r this]at hla;cases hla
    .omega
   lk;f_len;f_tup;lk;show#[mi-lo,(),lo,mi,_,_,_,rfl,h1,B,(),rfl,z]
def cU(H:Hp)(v:V):Option Ct->Prop
 |none=>v=.non
 |some c=>dF H v c
theorem cU.same{H H':Hp}{v:V}{c:Option Ct}(h:cU H v c)(s:ζ H H'):cU H' v c:=by
 cases c with
 |none=>show h
 |some c=>show dF.same h s
def b8(r:Row):alp:=.tuple [.int r.1,.list (r.2.map dV)]
theorem Ω.lay{cs:List ι}{r:Row}(h:Ω cs r):∀x∈r.2,jZ x=true/\∀z,x=.str z->aZ 4000 z:=by
 let#[n,xs]:=r;let h':ς (λ(c:ι) x=>ϓ c.2 x) cs xs:=h;show ∀x∈xs,_;clear h;induction h' with
 |nil=>intro x hx;cases hx
 |cons r t a=>
  intro x hx;obtain e|hx:=aaF.mp hx
  .subst e;show r.jZ
  .show a x hx
theorem RM{cs:List ι}{H:Hp}{vs:List V}{rs:List Row}(h:ς (cA H) vs rs)(g:∀r∈rs,Ω cs r):cW K H vs (rs.map b8):=by
 induction h with
 |nil=>show .nil
 |cons r t a=>
  let#[p,l,rfl,h1,h2]:=r;show .cons (.tup (ο.of h1) (.cons (.int _) (.cons (.lst (η.of h2) (uv ?_)) .nil))) (a λr c=>g r (by simp[c]));show acz.mpr λx e=>((g _ (by simp)).lay x e).1
theorem aeC{cs:List ι}{H:Hp}{p:δ}{rs:List Row}(h:dX H p rs)(g:∀r∈rs,Ω cs r):RD K H (.ref p) (.list (rs.map b8)):=by
 let#[vs,e,a]:=h;show .lst (η.of e) (RM a g)
theorem wg{cs:List ι}{r:Row}(h:Ω cs r):(b8 r).canLay0=true:=by
 show(true&&((PyData.list (r.2.map dV)).canLay0&&true))=true;rw[Ay λx a=>h.lay x a];rfl
theorem N8{cs:List ι}:∀{rs:List Row},(∀r∈rs,Ω cs r)->(PyData.list (rs.map b8)).canLay0=true
 |[],_=>rfl
 |r::rs,h=>by
  let a:=N8 (rs:=rs) λd hd=>h d (by simp[hd])
  show((b8 r).canLay0&&PyData.canLayAll0 (rs.map b8))=true;rw[wg (h r (by simp))];show a
theorem Sy(r:Row):(b8 r).depth<=4:=by
 have:=Df r.2;simp only[b8,PyData.depth,PyData.depthAll];omega
theorem Hh:∀rs:List Row,PyData.depthAll (rs.map b8)<=4
 |[]=>by show(0:Nat)<=4;omega
 |r::rs=>by
  let a:=Hh rs;let h1:=Sy r;show max (b8 r).depth (PyData.depthAll (rs.map b8))<=4;omega
theorem acS(rs:List Row):(PyData.list (rs.map b8)).depth<=60:=by
 have:=Hh rs;simp only[PyData.depth];omega
inductive Qn (vs:List V) (H:Hp) (Q:VK) (E:XK):Prop
 |mk (n:Int):vs=[.int n]->1<=n->n<=100->Q .non H->Qn vs H Q E
theorem xY(T:Txt K mg):Def P w K mg base true 2 "ask_size" ["size"] Qn:=by
 show Γ (N:=["size"]) T.xY (λ_ _ _ _ _ H vs Q E a h=>?_);intro X _;let#[n,rfl,h1,h2,q]:=h;let c:=T.aat;let e:= @ql P w K mg base T;f_len;show Κ ?_;lk;show#[_,rfl,rfl,?_];rw[show oZ (V.int n)=true from rfl];lk;show Θ (λ_=>?_) (λh=>absurd h1 h);lk;show fj (λh=>absurd h2 h) (λ_=>?_);show Ζ q
theorem Dy(k a b:Str):gF (.str k) [.str a,.str b]=decide (k=a\/k=b):=by
 let e:∀a:Str,(a==k)=decide (k=a):=λa=>by rw[ahe,beq_iff_eq,decide_eq_true_iff];show eq_comm
 show((a==k)||((b==k)||false))=_;rw[e,e,amq,anF]
inductive QH (K:ϩ) (vs:List V) (H:Hp) (Q:VK) (E:XK):Prop
 |mk (v:V) (c:Ct):vs=[v]->dF H v c->(∀sd xs n,c=.at_ sd xs n->xs.length<=1000)->(∀v' H',ζ H H'->dF H' v' c->Q v' H')->QH K vs H Q E
theorem Fi(T:Txt K mg):Def P w K mg base true 1 "copy_of_cut" ["cut"] (QH K):=by
 show Γ (S:=Hs) T.Fi (λ_ _ _ _ _ H vs Q E J h=>?_);intro X _;let#[v,c,rfl,j,F,q]:=h;let nd:=Hs.nd;let L:=T.qt;let M:=T.Ai;let n1:=T.jW;let hsz:=ϳ;cases c with
 |start=>
  let#[t,rfl,e]:=j;w_up;show Κ ?_;lk;show ύ (ο.of e) (show Χ [V.str ("start":Str)] 0=some (V.str ("start":Str))from rfl) ?_;lk;show#[Δ,λy g=>?_];let#[a,f]:=ϋ g (.tup [.str ("ahead":Str),.str ("behind":Str)]);generalize upd H y (.tup [.str ("ahead":Str),.str ("behind":Str)])=H1 at a f⊢;show ni (ο.of f) ?_;rw[Dy];show#[_,rfl,?_];show cC ?_;show Ζ ?_;f_len;show ω ?_;lk;show q _ _ a #[t,rfl,a _ _ e]
 |fin=>
  let#[t,rfl,e]:=j;w_up;show Κ ?_;lk;show ύ (ο.of e) (show Χ [V.str ("end":Str)] 0=some (V.str ("end":Str))from rfl) ?_;lk;show#[Δ,λy g=>?_];let#[a,f]:=ϋ g (.tup [.str ("ahead":Str),.str ("behind":Str)]);generalize upd H y (.tup [.str ("ahead":Str),.str ("behind":Str)])=H1 at a f⊢;show ni (ο.of f) ?_;rw[Dy];show#[_,rfl,?_];show cC ?_;show Ζ ?_;f_len;show ω ?_;lk;show q _ _ a #[t,rfl,a _ _ e]
 |at_ sd xs n=>
  let#[t,k,rfl,e,l,G,m]:=j;let O:=F sd xs n rfl;w_up;show Κ ?_;lk;show ύ (ο.of e) (show Χ [V.str (aX sd),.ref k] 0=some (V.str (aX sd))from rfl) ?_;lk;show#[Δ,λy g=>?_];let#[a,f]:=ϋ g (.tup [.str ("ahead":Str),.str ("behind":Str)]);generalize upd H y (.tup [.str ("ahead":Str),.str ("behind":Str)])=H1 at a f⊢;show ni (ο.of f) ?_;rw[Dy];show#[_,rfl,?_];show Θ (λ_=>?_) (λh=>absurd (by cases sd<;>fin2) h);w_up;show dU ?_;lk;show ύ (ο.of (a _ _ e)) (show Χ [V.str (aX sd),.ref k] 1=some (V.ref k)from rfl) ?_;show ao (ο.of (a _ _ G)) (Ε (Β nd (by rfl) (.inl rfl) (.inl rfl) (Ε (Β nd (by rfl) (.inl rfl) (.inl rfl) (aj ?_)))));f_len;show ω ?_;lk;show ύ (ο.of (a _ _ e)) (show Χ [V.str (aX sd),.ref k] 0=some (V.str (aX sd))from rfl) ?_;lk;show iW (.inl (η.of (a _ _ m))) λi o=>?_
  let#[x,z]:=ϋ o (.lst xs);generalize upd H1 i (.lst xs)=H2 at x z⊢;lk;show#[Δ,λk2 p=>?_];let#[s,B]:=ϋ p (.tup [.ref i,.int n]);generalize upd H2 k2 (.tup [.ref i,.int n])=C at s B⊢;lk;show#[Δ,λD I=>?_];let u:ζ C (upd C D (.tup [.str (aX sd),.ref k2])):=ζ.upd I;show q _ _ (((a.trans x).trans s).trans u) #[D,k2,rfl,υ,i,u _ _ B,u _ _ (s _ _ z)]
def fG(cs:List ι)(os:List Ord)(sd:Bool)(rs:List Row)(c:Ct):Ct:=match rs with
 |[]=>c
 |r::_=>.at_ sd (au cs os r.2) r.1
inductive Mx (K:ϩ) (vs:List V) (H:Hp) (Q:VK) (E:XK):Prop
 |mk (a b p:δ) (sd:Bool) (v:V) (cs:List ι) (os:List Ord) (rs:List Row) (c:Ct):vs=[.ref a,.ref b,.str (aX sd),.ref p,v]->Ϛ H a cs->bc H b os->dX H p rs->dF H v c->(∀sd xs n,c=.at_ sd xs n->xs.length<=1000)->cs.length<=6->os.length<=4->aO cs os->rs.length<=1000->(∀r∈rs,Ω cs r)->(∀v' H',ζ H H'->dF H' v' (fG cs os sd rs c)->Q v' H')->Mx K vs H Q E
theorem G3(T:Txt K mg):Def P w K mg base true 3 "cut_beside" ["columns","order","side","rows","cut"] (Mx K):=by
 show Γ (S:=KN) T.G3 (λ_ _ _ _ _ H vs Q E z h=>?_);intro X _;let#[a,b,p,sd,v,cs,os,rs,c,rfl,B,C,#[ws,s,g],D,j,Y,o4,F,few,e,q]:=h;let nd:=KN.nd;let hsz:=ϳ;let Z:= @wR P w K mg base T;let D2:= @Fi P w K mg base T;let G:=g.len;w_up;show Κ ?_;lk;show#[Δ,λy I=>?_];let#[f,u]:=ϋ I (.lst []);generalize upd H y (.lst [])=H1 at f u⊢;show aex z.units (aeC (dX.same #[ws,s,g] f) e) (.lst (η.of u) .nil) (N8 e) (by rfl) (acS rs) ?_;cases rs with
 |nil=>
  rw[show PyData.eqv (.list (([]:List Row).map b8)) (.list [])=true from rfl];show#[_,rfl,?_];show Ν _ _ _ _ _;f_len;show ω ?_;lk;show#[v,c,rfl,D.same f,j,λJ H' s' h'=>q J H' (f.trans s') h']
 |cons r rs=>
  rw[show PyData.eqv (.list ((r::rs).map b8)) (.list [])=false from rfl];show#[_,rfl,?_];show Ν _ _ _ _ _;let#[wv,L,t,l,rfl,M,O]:=g.get' (i:=0) (b:=r) rfl;show Ζ ?_;w_up;show dU ?_;lk;show ϥ (η.of (f _ _ s)) (show Χ ws ((0:Nat):Int)=some (.ref t)from bw L) ?_;show ao (ο.of (f _ _ M)) (Ε (Β nd (by rfl) (.inl rfl) (.inl rfl) (Ε (Β nd (by rfl) (.inl rfl) (.inl rfl) (aj ?_)))));f_len;show ω ?_;lk;show#[a,b,r.1,l,cs,os,r.2,rfl,B.same f,C.same f,f _ _ O,(ς.len (e r (by simp))).symm,(),(),F,λkp R H2 U _ _ m n=>?_];lk;show#[Δ,λx W=>?_];let o:ζ H2 (upd H2 x (.tup [.str (aX sd),.ref kp])):=ζ.upd W;show q _ _ ((f.trans U).trans o) #[x,kp,rfl,υ,R,o _ _ n,o _ _ m]
def ig(q:δ)(H H':Hp)(v:V)(r:Row):=∃t l,v=.ref t/\H t=none/\H l=none/\l≠q/\H' t=some (.tup [.int r.1,.ref l])/\H' l=some (.lst r.2)
theorem ig.row{q:δ}{H H':Hp}{v:V}{r:Row}(h:ig q H H' v r):cA H' v r:=by
 let#[t,l,e,_,_,_,h1,h2]:=h;show#[t,l,e,h1,h2]
theorem ig.same{q:δ}{H H' H2:Hp}{v:V}{r:Row}(h:ig q H H' v r)(s:ζ H' H2):ig q H H2 v r:=by
 let#[t,l,e,a,b,c,h1,h2]:=h;show#[t,l,e,a,b,c,s _ _ h1,s _ _ h2]
def Μ{α:Type}(xs:List α)(i j:Nat):List α:=(xs.drop i).take (j-i)
theorem Ug(xs:List V)(i j:Nat)(a:i<=j)(c:j<=xs.length):bu xs (some (i:Int)) (some (j:Int))=Μ xs i j:=by
 unfold bu Μ;rw[HT.oV,HT.oV,alo c,alo (aeP a c)]
theorem Zr(xs:List V):bu xs (some (-1)) none=xs.drop (xs.length-1):=by
 let e:HT.Α xs.length 0 (some (-1))=xs.length-1:=by
  unfold HT.Α;simp;omega
 unfold bu;rw[HT.qj,e];show ah9 (by rw[adX];show Ϭ _)
structure Lf where
 rows:List Row
 back:Option Ct
 aJ:Option Ct
 start:Nat
def ϖ(cs:List ι)(os:List Ord)(rs:List Row)(c:Ct)(i j:Nat):Lf:=
 #[Μ rs i j,if 0<i then some (fG cs os true ((Μ rs i j).take 1) c)else none,if j<rs.length then some (fG cs os false ((Μ rs i j).drop ((Μ rs i j).length-1)) c)else none,i]
inductive Mf (K:ϩ) (vs:List V) (H:Hp) (Q:VK) (E:XK):Prop
 |mk (a b p:δ) (v:V) (cs:List ι) (os:List Ord) (rs:List Row) (c:Ct) (i j:Nat):vs=[.ref a,.ref b,.ref p,v,.int i,.int j]->Ϛ H a cs->bc H b os->dX H p rs->dF H v c->jx cs os rs->jF cs os c->i<=j->j<=rs.length->(∀(t q:δ)(us:List V)(x y:V) H',ζ H H'->H q=none->H' t=some (.tup [.ref q,x,y,.int i])->H' q=some (.lst us)->ς (ig q H H') us (ϖ cs os rs c i j).rows->cU H' x (ϖ cs os rs c i j).back->cU H' y (ϖ cs os rs c i j).aJ->Q (.ref t) H')->Mf K vs H Q E
theorem jF.len{cs:List ι}{os:List Ord}{c:Ct}(h:jF cs os c)(a:os.length<=4):∀sd xs n,c=.at_ sd xs n->xs.length<=1000:=λsd xs n e=>by
 subst e;have:=ς.len h;omega
theorem UT{α β:Type}{R:α->β->Prop}{l:List α}{m:List β}{i j:Nat}(h:ς R l m):ς R (Μ l i j) (Μ m i j):=(h.drop i).take (j-i)
theorem xH(T:Txt K mg):Def P w K mg base true 4 "leaf_between" ["columns","order","line","cut","start","stop"] (Mf K):=by
 show Γ (S:=Qe) T.xH (λ_ _ A _ s H vs Q E f h=>?_);intro X _;let#[a,b,p,v,cs,os,rs,c,i,j,rfl,hC,hO,#[ws,hp,M],hc,L,ab,ac,hj,q]:=h;let nd:=Qe.nd;let g1:=T.qt;let g2:=T.Ai;let n1:=T.jW;let n2:=T.bF;let hsz:=ϳ;let bC:(["row","values"]:List Str).Nodup:=by fin2
 let D1:= @G3 P w K mg base T;let ae:=M.len;let#[c1,c6]:=L.cols;let o4:=L.Vz;let few:=L.few;let O:=ab.len o4;w_up;show rO ["row","values"] (σ':=[none,none]) (b7 (ψ qU)) nd ?_;lk;show jX (η.of hp) λp1 af=>?_
 rw[Ug ws i j ac ()];let#[s1,e1]:=ϋ af (.lst (Μ ws i j));generalize upd H p1 (.lst (Μ ws i j))=H1 at s1 e1⊢;let R:ς (cA H) (Μ ws i j) (Μ rs i j):=UT M;let hll:=R.len;let hlr:(Μ rs i j).length=j-i:=by
  unfold Μ;rw[ag5,adX];omega
 let F:∀r∈ Μ rs i j,Ω cs r:=λr f=>L.fit r (aeY (afu f))
 show#[p1,_,rfl,η.of e1,(),λτ=>∃o1 o2,τ=[o1,o2],λE2 k u H'=>∃r,(Μ rs i j)[k]?=some r/\ig E2 H H' u r,#[none,none,rfl],λE2 k u H2 H3 ys hE U p=>?_,λfp E2 C W H0 k τ x H4 D aN hi ag Ξ G hG=>?_,λI H2 us ah n ai e2 Η =>?_]
 .let#[r,f,t,l,e,h1,h2,h3,h4,h5]:=p;show#[r,f,t,l,e,h1,h2,h3,U _ _ (λz=>by rw[z,hE]at h4;cases h4) h4,U _ _ h3 h5]
 .let#[o1,o2,rfl]:=ag;let#[bz,rfl]:=hG;let#[r,f,t,l,rfl,ht,hl]:=R.get bz;let g:=s1.trans Ξ;let#[ys,G]:=G;let al:=F r (aak f);let hrl:=ς.len al;show ao (ο.of (g _ _ ht)) (Ε (Β bC (by rfl) (.inl rfl) (.inr rfl) (Ε (Β bC (by rfl) (.inl rfl) (.inr rfl) (aj ?_)))));lk;show iW (.inl (η.of (g _ _ hl))) λl2 n=>?_
  let#[o,e5]:=ϋ n (.lst r.2);let nl:l2≠E2:=λe=>by rw[e,G]at n;cases n
  generalize upd H4 l2 (.lst r.2)=D at o e5⊢;lk;show#[Δ,λt2 aK=>?_];let s6:ζ D (upd D t2 (.tup [.int r.1,.ref l2])):=ζ.upd aK;show#[#[_,_,rfl],#[r,f,t2,l2,rfl,(g.trans o).free aK,g.free n,nl,υ,s6 _ _ e5],o.trans s6]
 let B:ς (ig I H H2) us (Μ rs i j):=ph () λk r f=>by
  let U:k<us.length:=by have:=(aai.mp f).1;omega
  let#[r',Y,hn]:=ai k _ (aad U);rw[f]at Y;cases Y;show#[_,aad U,hn]
 let oR:=s1.trans Η;let am:H I=none:=s1.free ah;let kW:=B.len;let ali:dX H2 I (Μ rs i j):=#[us,e2,B.imp λu r x=>x.row];let tail:∀(x:V)(H3:Hp),ζ H2 H3->cU H3 x (ϖ cs os rs c i j).back->Ν X ((aB qU).drop 3) {nx:=λ_ H'=>Q .non H',rt:=Q} [some (.ref a),some (.ref b),some (.ref p),some v,some (.int i),some (.int j),some (.ref I),some x,none] H3:=λx H3 W hx=>by
  let Lp:=oR.trans W;let fin:∀(y:V)(H4:Hp),ζ H3 H4->cU H4 y (ϖ cs os rs c i j).aJ->Ν X ((aB qU).drop 5) {nx:=λ_ H'=>Q .non H',rt:=Q} [some (.ref a),some (.ref b),some (.ref p),some v,some (.int i),some (.int j),some (.ref I),some x,some y] H4:=λy H4 m Z=>by
   f_len;show ω ?_;lk;show#[Δ,λt ht=>?_];let o:ζ H4 (upd H4 t (.tup [.ref I,x,y,.int i])):=ζ.upd ht;let mU:=(W.trans m).trans o;show q t I us x y _ (oR.trans mU) am υ (mU _ _ e2) (B.imp λu r z=>z.same mU) ((hx.same m).same o) (Z.same o)
  k_go;w_up;show Κ ?_;let Ds:η K H3 p ws:=η.of (Lp _ _ hp);lk;rw[ae];show Θ (λh=>?_) (λh=>?_)
  .let h':j<rs.length:=()
   f_len;f_tup;lk;show jX (η.of (W _ _ e2)) λp2 J=>?_
   rw[Zr];let#[m,e4]:=ϋ J (.lst (us.drop (us.length-1)));generalize upd H3 p2 (.lst (us.drop (us.length-1)))=H4 at m e4⊢;let g:=Lp.trans m;lk;show#[a,b,p2,false,v,cs,os,(Μ rs i j).drop ((Μ rs i j).length-1),c,rfl,hC.same g,hO.same g,#[_,e4,?_],hc.same g,O,c6,o4,L.inc,by rw[adX];omega,λr f=>F r (aeY f),λy D o Z=>?_]
   .rw[kW];show(B.imp λu r z=>(z.same (W.trans m)).row).drop _
   .show fin y D (m.trans o) ?_;show cU D y (if j<rs.length then _ else none);rw[if_pos h'];show Z
  .show Ζ (fin .non H3 (ζ.refl _) ?_);show cU H3 .non (if j<rs.length then _ else none);rw[if_neg ()];rfl
 k_go;w_up;show Κ ?_;lk;show Θ (λh=>?_) (λh=>?_)
 .let h':0<i:=()
  f_len;f_tup;lk;show jX (η.of e2) λp2 J=>?_
  rw[show(some (1:Int))=some ((1:Nat):Int)from rfl,aeb];let#[m,e4]:=ϋ J (.lst (us.take 1));generalize upd H2 p2 (.lst (us.take 1))=H4 at m e4⊢;let g:=oR.trans m;lk;show#[a,b,p2,true,v,cs,os,(Μ rs i j).take 1,c,rfl,hC.same g,hO.same g,#[_,e4,(B.imp λu r z=>(z.same m).row).take 1],hc.same g,O,c6,o4,L.inc,by rw[ag5];omega,λr f=>F r (afu f),λy D o Z=>?_];show tail y D (m.trans o) ?_;show cU D y (if 0<i then _ else none);rw[if_pos h'];show Z
 .show Ζ (tail .non H2 (ζ.refl _) ?_);show cU H2 .non (if 0<i then _ else none);rw[if_neg ()];rfl
def ahi(H:Hp)(Q:VK)(L:Lf):=∀(t q:δ)(us:List V)(x y:V) H',ζ H H'->H q=none->H' t=some (.tup [.ref q,x,y,.int L.start])->H' q=some (.lst us)->ς (ig q H H') us L.rows->cU H' x L.back->cU H' y L.aJ->Q (.ref t) H'
def RL(cs:List ι)(os:List Ord)(rs:List Row)(c:Ct)(n:Nat):Lf:=ϖ cs os rs c (Ϣ cs os c rs) (min (Ϣ cs os c rs+n) rs.length)
def JK(cs:List ι)(os:List Ord)(rs:List Row)(c:Ct)(n:Nat):Lf:=ϖ cs os rs c (Ϣ cs os c rs-n) (Ϣ cs os c rs)
inductive GZ (K:ϩ) (way:List ι->List Ord->List Row->Ct->Nat->Lf) (vs:List V) (H:Hp) (Q:VK) (E:XK):Prop
 |mk (a b p:δ) (v:V) (cs:List ι) (os:List Ord) (rs:List Row) (c:Ct) (n:Nat):vs=[.ref a,.ref b,.ref p,v,.int n]->Ϛ H a cs->bc H b os->dX H p rs->dF H v c->jx cs os rs->jF cs os c->1<=n->n<=100->ahi H Q (way cs os rs c n)->GZ K way vs H Q E
theorem zT(T:Txt K mg):Def P w K mg base true 5 "leaf_forth" ["columns","order","line","cut","size"] (GZ K RL):=by
 show Γ (S:=Pk) T.zT (λ_ _ A _ _ H vs Q E Z h=>?_);intro X _;let#[a,b,p,v,cs,os,rs,c,n,rfl,s,B,i,C,j,g,n1,D,q]:=h;let nd:=Pk.nd;let b1:=T.bF;let b2:=T.Cg;let D1:= @xY P w K mg base T;let D2:= @wU P w K mg base T;let D3:= @xH P w K mg base T;let few:=j.few;let lX:=vA (cs:=cs) (os:=os) (c:=c) (rs:=rs);w_up;show bA ?_;lk;show#[n,rfl,(),(),?_];k_go;show#[a,b,p,v,cs,os,rs,c,rfl,s,B,i,C,j,g,λH1 f=>?_];let#[ws,F,m]:=i.same f;let Ds:η K H1 p ws:=η.of F;let o:=m.len;f_len;show ω ?_;lk;show zq ?_;let em:(if((ws.length:Nat):Int)<((Ϣ cs os c rs:Nat):Int)+((n:Nat):Int)then((ws.length:Nat):Int)else((Ϣ cs os c rs:Nat):Int)+((n:Nat):Int))=((min (Ϣ cs os c rs+n) rs.length:Nat):Int):=by
  rw[o];split <;>omega
 rw[em];lk;show#[a,b,p,v,cs,os,rs,c,_,_,rfl,s.same f,B.same f,i.same f,C.same f,j,g,(),al0 _ _,λt G us x y H' s' h1 h2 I J L M=>q t G us x y H' (f.trans s') (f.free h1) h2 I (J.imp λu r z=>by
  let#[t,l,e,O,R,U,W,Y]:=z;show#[t,l,e,f.free O,f.free R,U,W,Y]) L M]
theorem Ck(T:Txt K mg):Def P w K mg base true 5 "leaf_back" ["columns","order","line","cut","size"] (GZ K JK):=by
 show Γ (S:=Q5) T.Ck (λ_ _ A _ _ H vs Q E W h=>?_);intro X _;let#[a,b,p,v,cs,os,rs,c,n,rfl,j,m,o,s,i,g,n1,B,q]:=h;let nd:=Q5.nd;let Y:=T.DW;let Z:= @xY P w K mg base T;let D2:= @wU P w K mg base T;let D3:= @xH P w K mg base T;let few:=i.few;let C:=vA (cs:=cs) (os:=os) (c:=c) (rs:=rs);w_up;show bA ?_;lk;show#[n,rfl,(),(),?_];k_go;show#[a,b,p,v,cs,os,rs,c,rfl,j,m,o,s,i,g,λH1 f=>?_];f_len;show ω ?_;lk;show Dq ?_;let em:(if(0:Int)>((Ϣ cs os c rs:Nat):Int)-((n:Nat):Int)then(0:Int)else((Ϣ cs os c rs:Nat):Int)-((n:Nat):Int))=((Ϣ cs os c rs-n:Nat):Int):=by
  split <;>omega
 rw[em];lk;show#[a,b,p,v,cs,os,rs,c,_,_,rfl,j.same f,m.same f,o.same f,s.same f,i,g,Nat.sub_le _ _,C,λt D us x y H' s' h1 h2 F G I J=>q t D us x y H' (f.trans s') (f.free h1) h2 F (G.imp λu r z=>by
  let#[t,l,e,L,M,O,R,U]:=z;show#[t,l,e,f.free L,f.free M,O,R,U]) I J]
def qP(H H':Hp)(v:V)(r:Row):=∃t l,v=.ref t/\H' t=some (.tup [.int r.1,.ref l])/\H l=some (.lst r.2)
theorem qP.row{H H':Hp}{v:V}{r:Row}(h:qP H H' v r)(s:ζ H H'):cA H' v r:=by
 let#[t,l,e,e1,a]:=h;show#[t,l,e,e1,s _ _ a]
inductive Va (K:ϩ) (mg:Str->Option ε) (t:Tr) (vs:List V) (H:Hp) (Q:VK) (E:XK):Prop
 |mk (a p:δ) (z:Str) (rs:List Row):vs=[.ref a,.ref p]->bH mg H t a z->dX H p rs->rs.length<=1000->(∀r∈rs,pD r.2 t)->(∀q ws H',ζ H H'->H q=none->H' q=some (.lst ws)->ς (qP H H') ws (rs.filter λr=>Ϡ r.2 t)->Q (.ref q) H')->Va K mg t vs H Q E
theorem Iu(rs:List Row)(f:Row->Bool):(iZ (λi=>f (rs.getD i (0,[]))) rs.length).map (λi=>rs.getD i (0,[]))=rs.filter f:=by
 unfold iZ;let h:=map_getD (0,[]) rs
 conv=>rhs;rw[<-h]
 rw[List.filter_map];rfl
theorem Fy{α β c:Type}{R:α->c->Prop}(g:β->c):∀{l:List α}{m:List β},ς (λa b=>R a (g b)) l m->ς R l (m.map g)
 |_,_,.nil=>.nil
 |_,_,.cons h t=>.cons h (Fy g t)
theorem Ag(T:Txt K mg)(t:Tr):Def P w K mg base true (4+t.dep) "let_through" ["sieve","rows"] (Va K mg t):=by
 rw[show 4+t.dep=(3+t.dep)+1 by omega];show Γ (N:=["sieve","rows"]) T.Ag (λ_ _ _ _ _ H vs Q E S h=>?_);intro X _;let#[a,p,z,rs,rfl,F,#[ws,U,f],hl,W,q]:=h;let hsz:=ϳ;let n:=f.len;let G:(["row","values","sieve"]:List Str).Nodup:=by fin2
 f_len;show ω ?_;show Wy ["row","values","sieve"] (σ':=[none,none,some (.ref a)]) (by rfl) (by rfl) (b7 (ψ JL)) (by intro _;rfl) ?_;lk;show#[p,ws,rfl,η.of U,(),λI=>∃J L,I=[J,L,some (.ref a)],λi=>Ϡ (rs.getD i (0,[])).2 t,λg i u H'=>u≠.ref g/\qP H H' u (rs.getD i (0,[])),#[none,none,rfl],λg i v H2 H3 ys Y Z h=>?_,λfp g C s3 H0 i I x H2 M hx o sm c=>?_,λg H2 us M e2 O sm=>?_]
 .let#[h0,s,l,e,h1,h2]:=h;show#[h0,s,l,e,Z _ _ (λz=>by rw[z,Y]at h1;cases h1) h1,h2]
 .let#[J,L,rfl]:=o;let#[r,j,tr,R,rfl,y,m]:=f.get hx;let#[ys,c]:=c;let B:rs.getD i (0,[])=r:=by rw[acn,j];rfl
  let#[da,fa,ea,la]:=(F.same sm).ins;show ao (ο.of (sm _ _ y)) (Ε (Β G (by rfl) (.inl rfl) (.inr rfl) (Ε (Β G (by rfl) (.inl rfl) (.inr rfl) (aj ?_)))));show Gv (λ_=>by rfl) ?_;show bO (pl:=_) S (by walk_at"xo") (by rfl) (by rfl) (by rfl) ?_;f_are;show#[a,dq mg t,da,_,true,3+t.dep,_,gG K mg t,rfl,ea,la,vD T t,Ϭ _,id,?_];lk;show#[a,R,z,r.2,rfl,F.same sm,η.of (sm _ _ m),W r (aak j),?_];show#[_,rfl,(by show Ϡ r.2 t=Ϡ (rs.getD i (0,[])).2 t;rw[B]),#[_,_,rfl],ζ.refl _,λ_=>?_];lk;show#[Δ,λs D=>?_];show#[#[λz=>?_,s,R,rfl,by rw[B];show υ,by rw[B];show m],ζ.upd D];injection z with z
  rw[z,c]at D;cases D
 .rw[n]at O;let yw:ς (qP H H2) us (rs.filter λr=>Ϡ r.2 t):=by
   rw[<-Iu rs λr=>Ϡ r.2 t];show Fy _ (O.imp λu i z=>by
    show z.2)
  show q g us H2 sm M e2 yw
theorem KH{cs:List ι}{os:List Ord}(g:aO cs os):∀{l m:List Row},(∀r∈l,Ω cs r)->l.Perm m->Line cs os l->Line cs os m->l=m
 |[],m,_,h,_,_=>List.Perm.nil_eq h
 |a::l,[],_,h,_,_=>absurd h.length_eq (by simp)
 |a::l,b::m,i,h,h1,h2=>by
  let c:=alN.mp h1;let f:=alN.mp h2;let e:a=b:=by
   let ha:a∈b::m:=h.mem_iff.mp (by simp);let hb:b∈a::l:=h.mem_iff.mpr (by simp);obtain e|ha:=aaF.mp ha
   .show e
   .obtain e|hb:=aaF.mp hb
    .show e.symm
    .let x1:aU cs os a b=true:=c.1 b hb;let x2:aU cs os b a=true:=f.1 a ha;let j:=bV (i a (by simp)) g;let n:=bV (i b (by simp[hb])) g;let x3:ak os (au cs os a.2) (au cs os a.2) a.1 a.1=true:=tQ j n j x1 x2;rw[vf (adm cs os a.2)]at x3;show absurd (of_decide_eq_true x3) ()
  subst e;rw[KH g (λr o=>i r (by simp[o])) (List.Perm.cons_inv h) c.2 f.2]
theorem J6{α:Type}:∀{m:List (Int×α)}{p:Int×α},(m.map (·.1)).Nodup->p∈m->Φ m p.1=some p.2
 |q::m,p,f,hp=>by
  let a:=ala.mp f;obtain rfl|hp:=aaF.mp hp
  .unfold Φ;rw[adN,decide_eq_true rfl];rfl
  .let g:¬q.1=p.1:=λe=>a.1 (adw.mpr #[p,hp,e.symm])
   let c:=J6 a.2 hp;unfold Φ at c⊢;rw[adN,decide_eq_false g];show c
theorem MP{rows:List (Int×List V)}{ks:List Int}(a:(rows.map (·.1)).Nodup)(h:ks.Perm (rows.map (·.1))):(aP rows ks).Perm rows:=by
 let h1:(aP rows ks).Perm (aP rows (rows.map (·.1))):=h.map _;let h2:aP rows (rows.map (·.1))=rows:=by
  unfold aP;rw[agn];have:rows.map ((λk=>(k,(Φ rows k).getD []))∘λx=>x.1)=rows.map id:=al7 λp c=>by
   show(p.1,(Φ rows p.1).getD [])=p;rw[J6 a c];rfl
  rw[this,amt]
 rw[h2]at h1;show h1
theorem agQ{cs:List ι}{xs:List V}(h:ς (λ(c:ι) x=>ϓ c.2 x) cs xs):∀{n:cO},vB cs n->J5 xs n
 |.all,_=>trivial
 |.none p,f=>by
   have:=h.len;show p<xs.length;let s:p<cs.length:=f;omega
 |.look l p v,f=>by
   let#[c,u,o,q,hh]:=f;let#[x,B,g]:=h.get u;show#[x,B,?_];obtain e|⟨a,i,rfl,_⟩|⟨a,y,rfl,_⟩:=g
   .show .inl e
   .right;obtain e|⟨_,j,rfl,_⟩|⟨m,_⟩:=o
    .show absurd e q
    .cases l with
     |holds=>rw[hh rfl]at a;show absurd a (by fin2)
     |is=>show#[rfl,rfl,.inr (.inr (.inl #[i,j,rfl,rfl]))]
     |over=>show#[rfl,rfl,.inr (.inr (.inl #[i,j,rfl,rfl]))]
    .show absurd a m
   .right;obtain e|⟨m,_⟩|⟨_,z,rfl,_⟩:=o
    .show absurd e q
    .show absurd m a
    .cases l with
     |holds=>show#[y,z,rfl,rfl]
     |is=>show#[rfl,rfl,.inr (.inr (.inr #[y,z,rfl,rfl]))]
     |over=>show#[rfl,rfl,.inr (.inr (.inr #[y,z,rfl,rfl]))]
theorem u9{cs:List ι}{xs:List V}(h:ς (λ(c:ι) x=>ϓ c.2 x) cs xs):∀{t:Tr},gJ cs t->pD xs t
 |.one s,a=>agQ h a
 |.nt t,a=>u9 h (t:=t) a
 |.ei t u,a=>#[u9 h a.1,u9 h a.2]
theorem Zu{H:Hp}{a:δ}{xs:List V}(h:η K H a xs):H a≠none\/∀H',η K H' a xs:=by
 rcases h with(h|⟨u,h⟩)|h
 .show .inl (by rw[h];nofun)
 .show .inl (by rw[h];nofun)
 .show .inr λ_=>.inr h
def NT(H:Hp)(S:List δ):=∀x∈S,∀ys,H x≠some (.tup ys)
theorem NT.tup{H H':Hp}{S:List δ}(h:NT H S)(o:Out S H H'):∀b ys,H b=some (.tup ys)->H' b=some (.tup ys):=λb ys e=>o b _ (λz=>h b z ys e) e
def _root_.Vl.BA.six(A:BA):List δ:=[A.h,A.r,A.t,A.d,A.b,A.dx]
theorem _root_.Vl.Ο.on6{C:δ}{H:Hp}{A:BA}{B:Bk}(k:Ο C H A B):∀x∈A.six,H x≠none:=by
 intro x c;let a:x=A.h\/x=A.r\/x=A.t\/x=A.d\/x=A.b\/x=A.dx:=by simpa [BA.six]using c
 let#[_,e,_]:=k.heads;let#[_,f,_]:=k.rows;let#[_,g,_]:=k.touched;let#[_,i,_]:=k.done;obtain rfl|rfl|rfl|rfl|rfl|rfl:=a
 .rw[e];nofun
 .rw[f];nofun
 .rw[g];nofun
 .rw[i];nofun
 .rw[k.ins];nofun
 .rw[k.own];nofun
theorem ahl{A:BA}{x:δ}(c:x∈[A.b,A.dx,A.h,A.r,A.t,A.d]):x∈A.six:=by
 let a:x=A.b\/x=A.dx\/x=A.h\/x=A.r\/x=A.t\/x=A.d:=by simpa using c
 obtain rfl|rfl|rfl|rfl|rfl|rfl:=a<;>simp[BA.six]
theorem _root_.Vl.Ο.out{C:δ}{H H':Hp}{A:BA}{B:Bk}{S:List δ}(k:Ο C H A B)(o:Out S H H')(nt:NT H S)(a:∀x∈A.six,x∉S):Ο C H' A B:=
 k.stay (nt.tup o) λx u c e=>o x u (a x (ahl c)) e
theorem made{C:δ}{H H':Hp}{y dx:δ}{A:BA}(c:H y=none)(a:H dx=none)(g:A.b=y)(i:A.dx=dx)(j:(upd (upd H dx (.own y)) y (.ins C dx [])) A.h=none)(l:(upd (upd H dx (.own y)) y (.ins C dx [])) A.r=none)(m:(upd (upd H dx (.own y)) y (.ins C dx [])) A.t=none)(n:(upd (upd H dx (.own y)) y (.ins C dx [])) A.d=none)(o:Out [y] (upd (upd H dx (.own y)) y (.ins C dx [])) H'):ζ H H'/\∀x∈A.six,H x=none:=by
 let sm:ζ H (upd (upd H dx (.own y)) y (.ins C dx [])):=λb u e=>by
  rw[ρ (λz=>by rw[z,c]at e;cases e),ρ (λz=>by rw[z,a]at e;cases e)];show e
 show#[λb u e=>o b u (λz=>by rw[acy.mp z,c]at e;cases e) (sm b u e),λx p=>?_];let f:x=A.h\/x=A.r\/x=A.t\/x=A.d\/x=A.b\/x=A.dx:=by simpa [BA.six]using p
 obtain rfl|rfl|rfl|rfl|rfl|rfl:=f
 .show sm.free j
 .show sm.free l
 .show sm.free m
 .show sm.free n
 .rw[g];show c
 .rw[i];show a
def LR(F:List δ)(H:Hp)(v:V)(xs:List V):=∃l,v=.ref l/\H l=some (.lst xs)/\l∉F
def Di(F:List δ)(H:Hp)(a:δ)(m:List (Int×List V)):Prop:=DictAt (LR F H) H a m
theorem LR.stay{F:List δ}{H H':Hp}{v:V}{xs:List V}(h:LR F H v xs)(s:∀b ys,b∉F->H b=some (.lst ys)->H' b=some (.lst ys)):LR F H' v xs:=by
 let#[l,e,h1,h2]:=h;show#[l,e,s _ _ h2 h1,h2]
structure wH(B:Bk)(mo:Nat):Prop where
 now:B.now=(mo:Nat)
 kn:B.known=0
 dl:B.done.length=mo
inductive xT (mg:Str->Option ε) (vs:List V) (H:Hp) (Q:VK) (E:XK):Prop
 |mk (A:BA) (B:Bk) (mo:Nat):vs=[.ref A.b,.int (mo:Nat)]->Ο (cB mg) H A B->wH B mo->(∀p,H p=none->Q (.ref p) (upd H p (.lst [])))->xT mg vs H Q E
theorem aba(T:Txt K mg):FD P w K mg base true 3 "done_behind" "Book.done_behind" Rn ["self","moment"] (xT mg):=by
 show aG (N:=["self","moment"]) (λf x y outer s H vs Q E z h=>?_);intro X _;let#[A,B,mo,rfl,g,e,q]:=h;let a:=T.Ϝ;let i:=T.Qy;let j:=T.tW;let l:=T.G6;let c:=g.ins;let C:=e.now;let m:=e.kn;let D:=e.dl;let#[ds,n,o]:=g.done;let u:=o.len;w_up;cbv;show aq ?_;f_are;show#[A.b,_,_,_,_,rfl,c,a,i,rfl,?_];cbv;show Θ (λh=>absurd h ()) (λh=>?_);show Ζ ?_;w_up;cbv;show aq ?_;f_are;show#[A.b,_,_,_,_,rfl,c,a,j,rfl,?_];cbv;show Θ (λh2=>absurd h2 ()) (λh2=>?_);show Ζ ?_;f_len;show ω ?_;cbv;show aq ?_;f_are;show#[A.b,_,_,_,_,rfl,c,a,l,rfl,?_];cbv;show aq ?_;f_are;show#[A.b,_,_,_,_,rfl,c,a,i,rfl,?_];cbv;show jX (η.of n) λp v=>?_
 rw[show bu ds (some ((mo:Nat)-B.known)) none=[]by rw[m,Int.sub_zero,yM];show akQ ()];show q p v
inductive vZ (mg:Str->Option ε) (vs:List V) (H:Hp) (Q:VK) (E:XK):Prop
 |mk (A:BA) (B:Bk) (mo:Nat):vs=[.ref A.b,.int (mo:Nat)]->Ο (cB mg) H A B->wH B mo->B.rows.length<64->(∀p ys ks H',ζ H H'->H p=none->ks.Perm (B.rows.map (·.1))->ks.Pairwise (· <= ·)->H' p=some (.lst ys)->ς (sV H H') ys (aP B.rows ks)->Q (.ref p) H')->vZ mg vs H Q E
theorem aa8(T:Txt K mg):FD P w K mg base true 4 "rows_at" "Book.rows_at" Bu ["self","moment"] (vZ mg):=by
 show aG (S:=Oe) (λf Ϻ A' outer s H vs Q E I h=>?_);intro X _;let#[A,B,mo,rfl,g,J,j,q]:=h;let nd:=Oe.nd;let n1:=T.aaf;let n2:=T.Ri;let M1:ϟ P w K mg base true 3 (cB mg) "done_behind" ["self","moment"] (xT mg):=(aba T).meth T.Ϝ T.Ys;let D2:= @vR P w K mg base T;let#[Ϸ,L,M]:=g.rows;w_up;cbv;show aq ?_;f_are;show#[A.b,_,_,_,_,rfl,g.ins,T.Ϝ,T.pO,rfl,?_];cbv;show aa5 L λr m=>?_
 let#[n,F]:=ϋ m (.dK Ϸ);change Ν _ _ _ _ (upd H r (.dK Ϸ));generalize upd H r (.dK Ϸ)=H1 at n F⊢;let G:=g.same n;w_up;show Ny (by walk_at"po") (by rfl) (by rfl) n2 (by rfl) ?_;show bO (pl:=_) I ϑ (h:=?_);f_are;show#[A.b,cB mg,A.dx,_,true,3,_,xT mg,rfl,G.ins,by rfl,M1,by decide,id,?_];cbv;show#[A,B,mo,rfl,G,J,λp O=>?_];let sp:=ζ.upd (o:=.lst []) O;show#[p,[],rfl,η.of υ,λi σ H'=>σ=[some (.ref A.b),some (.int (mo:Nat)),some (.ref r),none]/\H'=upd H1 p (.lst []),#[rfl,rfl],λi σ H' hi c=>by rw[c.2];show η.of υ,λi x σ H' hi hx c=>absurd hi (Nat.not_lt_zero _),λσ H' c=>?_];let#[rfl,rfl]:=c;let a:=n.trans sp;f_len;cbv;show#[r,_,rfl,#[Ϸ,sp _ _ F,jd M λv x h=>h.stay λb ys e=>a _ _ e],j,λp2 R ks U u y z C D W=>?_];show q p2 R ks U (a.trans u) (a.free y) z C D (ς.imp (λv x ⟨t,l,e,h1,h2,Y,Z⟩=>#[t,l,e,h1,h2,a.free Y,a.free Z]) W)
def θ:List ι:=[(Ϫ "size",Ϫ "number"),(Ϫ "word",Ϫ "text")]
def fY(k:Int):List Ord:=if k=1 then[(Ϫ "size",true)]else if k=2 then[(Ϫ "word",false)]else if k=3 then[(Ϫ "size",false),(Ϫ "word",true)]else if k=4 then[(Ϫ "word",true),(Ϫ "size",true)]else[]
def ϣ:Nat->Tr
 |1=>.one (.look .over 0 (.int (-1)))
 |2=>.nt (.one (.none 1))
 |3=>.ei (.one (.look .is 0 (.int 0))) (.one (.look .holds 1 (.str ("a":Str))))
 |_=>.one .all
theorem qb:ϊ θ=true:=by fin2
theorem wk{P:List Ord->Prop}(k:Int)(a:P [])(h1:P [(Ϫ "size",true)])(h2:P [(Ϫ "word",false)])(c:P [(Ϫ "size",false),(Ϫ "word",true)])(e:P [(Ϫ "word",true),(Ϫ "size",true)]):P (fY k):=by
 unfold fY;split
 .show h1
 .split
  .show h2
  .split
   .show c
   .split
    .show e
    .show a
theorem Wz(k:Int):aO θ (fY k):=by
 let s:∃c∈θ,c.1=Ϫ "size":=#[_,aeh ..,rfl];let t:∃c∈θ,c.1=Ϫ "word":=#[_,adF _ (aeh ..),rfl];show wk (P:=aO θ) k ?_ ?_ ?_ ?_ ?_<;>intro o ho
 .cases ho
 .rw[acy.mp ho];show s
 .rw[acy.mp ho];show t
 .obtain e|ho:=aaF.mp ho
  .rw[e];show s
  .rw[acy.mp ho];show t
 .obtain e|ho:=aaF.mp ho
  .rw[e];show t
  .rw[acy.mp ho];show s
theorem acG(k:Int):(fY k).length<=4:=wk (P:=λl=>l.length<=4) k (by decide) (by decide) (by decide) (by decide) (by decide)
theorem ZD(k:Int):((fY k).map Prod.fst).Nodup:=wk (P:=λl=>(l.map Prod.fst).Nodup) k (by fin2) (by fin2) (by fin2) (by fin2) (by fin2)
theorem Zk(k:Int):∀o∈fY k,o.1.length<=1000:=wk (P:=λl=>∀o∈l,o.1.length<=1000) k (by fin2) (by fin2) (by fin2) (by fin2) (by fin2)
theorem Ba{P:Nat->Tr->Prop}(k:Nat)(e:k<4)(a:P 0 (.one .all))(h1:P 1 (.one (.look .over 0 (.int (-1)))))(h2:P 2 (.nt (.one (.none 1))))(c:P 3 (.ei (.one (.look .is 0 (.int 0))) (.one (.look .holds 1 (.str ("a":Str)))))):P k (ϣ k):=by
 obtain _|_|_|_|k:=k
 .show a
 .show h1
 .show h2
 .show c
 .omega
theorem ahk{k:Nat}(a:k<4):gJ θ (ϣ k):=by
 show Ba (P:=λ_ t=>gJ θ t) k a trivial #[_,rfl,.inr (.inl #[rfl, -1,rfl,by decide,by decide]),(λe=>by cases e),(λe=>by cases e)] (show 1<2 by decide) #[#[_,rfl,.inr (.inl #[rfl,0,rfl,by decide,by decide]),(λe=>by cases e),(λe=>by cases e)],#[_,rfl,.inr (.inr #[by fin2,_,rfl,by fin2,by fin2]),(λe=>by cases e),λ_=>rfl]]
theorem PJ{k:Nat}(a:k<4):(ϣ k).dep<=1/\(wT (Ι θ) (ϣ k)).length<=60:=by
 show Ba (P:=λ_ t=>t.dep<=1/\(wT (Ι θ) t).length<=60) k a #[by show 0<=1;decide,by show 1<=60;decide] #[by show 0<=1;decide,by show 3<=60;decide] #[by show 1<=1;decide,by show 3<=60;decide] #[by show 1<=1;decide,by show 7<=60;decide]
def Gg:List Str:=[Ϫ "all",Ϫ "over size -1",Ϫ "not none word",Ϫ "either is size 0 holds word 'a"]
theorem agj{k:Nat}(a:k<4):Gg[k]?=some (aeq " " (wT (Ι θ) (ϣ k))):=by
 show Ba (P:=λk t=>Gg[k]?=some (aeq " " (wT (Ι θ) t))) k a ?_ ?_ ?_ ?_<;>fin2
theorem YK{r:Row}(h:Ω θ r):∃x y,r.2=[x,y]/\ϓ ("number":Str) x/\ϓ ("text":Str) y:=by
 let#[n,xs]:=r;let h':ς (λ(c:ι) x=>ϓ c.2 x) θ xs:=h;cases h' with
 |cons a t=>
  cases t with
  |cons b t=>
   cases t;show#[_,_,rfl,a,b]
inductive Rw (vs:List V) (H:Hp) (Q:VK) (E:XK):Prop
 |mk (k:Int):vs=[.int k]->(∀p H',ζ H H'->H p=none->bc H' p (fY k)->Q (.ref p) H')->Rw vs H Q E
theorem yU(T:Txt K mg):Def P w K mg base true 1 "_law_order" ["_law_k"] Rw:=by
 show Γ (N:=["_law_k"]) T.yU (λ_ _ _ _ _ H vs Q E y h=>?_);intro X _;let#[k,rfl,q]:=h;let hsz:=ϳ;let one:∀(o:Ord)(t p:δ),H t=none->(upd H t (.tup [.str o.1,.bl o.2])) p=none->fY k=[o]->Q (.ref p) (upd (upd H t (.tup [.str o.1,.bl o.2])) p (.lst [.ref t])):=λo t p c a e=>by
  let i:ζ H (upd H t (.tup [.str o.1,.bl o.2])):=ζ.upd c;let g:=ζ.upd (o:=.lst [.ref t]) a;show q p _ (i.trans g) (i.free a) (by rw[e];show#[_,υ,.cons #[t,rfl,g _ _ υ] .nil])
 let j:∀(o f:Ord)(t u p:δ),H t=none->(upd H t (.tup [.str o.1,.bl o.2])) u=none->(upd (upd H t (.tup [.str o.1,.bl o.2])) u (.tup [.str f.1,.bl f.2])) p=none->fY k=[o,f]->Q (.ref p) (upd (upd (upd H t (.tup [.str o.1,.bl o.2])) u (.tup [.str f.1,.bl f.2])) p (.lst [.ref t,.ref u])):=λo f t u p c l a e=>by
  let i:ζ H (upd H t (.tup [.str o.1,.bl o.2])):=ζ.upd c;let g:=ζ.upd (o:=.tup [.str f.1,.bl f.2]) l;let m:=ζ.upd (o:=.lst [.ref t,.ref u]) a;show q p _ ((i.trans g).trans m) ((i.trans g).free a) (by rw[e];show#[_,υ,.cons #[t,rfl,(g.trans m) _ _ υ] (.cons #[u,rfl,m _ _ υ] .nil)])
 w_up;show Κ ?_;lk;show Θ (λh1=>?_) (λh1=>?_)
 .let e:k=1:=by injection h1
  f_len;show ω ?_;lk;show#[Δ,λt c=>?_];lk;show#[Δ,λp a=>?_];show one (Ϫ "size",true) t p c a (by rw[e];rfl)
 let n1:¬k=1:=λe=>h1 (by rw[e])
 show Ζ ?_;w_up;show Κ ?_;lk;show Θ (λh2=>?_) (λh2=>?_)
 .let e:k=2:=by injection h2
  f_len;show ω ?_;lk;show#[Δ,λt c=>?_];lk;show#[Δ,λp a=>?_];show one (Ϫ "word",false) t p c a (by rw[e];rfl)
 let n2:¬k=2:=λe=>h2 (by rw[e])
 show Ζ ?_;w_up;show Κ ?_;lk;show Θ (λn=>?_) (λn=>?_)
 .let e:k=3:=by injection n
  f_len;show ω ?_;lk;show#[Δ,λt c=>?_];lk;show#[Δ,λu l=>?_];lk;show#[Δ,λp a=>?_];show j (Ϫ "size",false) (Ϫ "word",true) t u p c l a (by rw[e];rfl)
 let v:¬k=3:=λe=>n (by rw[e])
 show Ζ ?_;w_up;show Κ ?_;lk;show Θ (λs=>?_) (λs=>?_)
 .let e:k=4:=by injection s
  f_len;show ω ?_;lk;show#[Δ,λt c=>?_];lk;show#[Δ,λu l=>?_];lk;show#[Δ,λp a=>?_];show j (Ϫ "word",true) (Ϫ "size",true) t u p c l a (by rw[e];rfl)
 let x:¬k=4:=λe=>s (by rw[e])
 show Ζ ?_;f_len;show ω ?_;lk;show#[Δ,λp a=>?_];show q p _ (ζ.upd a) a ?_;rw[show fY k=[]by unfold fY;rw[if_neg n1,if_neg n2,if_neg v,if_neg x]];show#[_,υ,.nil]
theorem Cj(T:Txt K mg):Def P w K mg base true 1 "_law_order_words" ["_law_order_here"] Bw:=by
 show Γ (N:=["_law_order_here"]) T.Cj (λ_ _ _ _ _ H vs Q E hr h=>?_);intro X _;let#[a,os,rfl,#[vs,L,e],hl,z,q]:=h;let M:(["_law_one"]:List Str).Nodup:=by fin2
 let hsz:=ϳ;let O:=e.len;let B:("+":Str).length=1:=by fin2
 let D:("-":Str).length=1:=by fin2
 let R:(" ":Str).length=1:=by fin2
 f_len;show ω ?_;show dC F.plainAttrs_str F.slot_str_join F.type_str_join (h:=?_);f_are;show#[by rfl,dN (by rfl) ?_];show lG ["_law_one"] (σ':=[none]) (b7 (ψ RC)) ?_;f_are;show#[a,vs,rfl,η.of L,(),λG=>∃I,G=[I],λj i u H'=>∃c,os[i]?=some c/\u=.str (ϗ c),#[none,rfl],λj i u H2 S ys _ _ p=>p,λfp j C s3 H0 i G x J S U hi m f W Y=>?_,λj J ys U n s Z f =>?_]
 .let#[I,rfl]:=m;let#[bz,rfl]:=Y;let#[c,v,t,rfl,y]:=e.get bz;let hcn:=z c (aak v);show Β M (by rfl) (.inl rfl) (.inr rfl) ?_;lk;show ύ (ο.of (f _ _ y)) (show Χ [V.str c.1,V.bl c.2] 1=some (V.bl c.2)from rfl) ?_;lk;show iB (λh=>?_) (λh=>?_)
  .lk;show ύ (ο.of (f _ _ y)) (show Χ [V.str c.1,V.bl c.2] 0=some (V.str c.1)from rfl) ?_;show jH (by rw[B];omega) ?_;show#[#[_,rfl],#[c,v,by unfold ϗ;rw[if_pos h]],ζ.refl _]
  .lk;show ύ (ο.of (f _ _ y)) (show Χ [V.str c.1,V.bl c.2] 0=some (V.str c.1)from rfl) ?_;show jH (by rw[D];omega) ?_;show#[#[_,rfl],#[c,v,by unfold ϗ;rw[if_neg (by rw[h];show abj)]],ζ.refl _]
 .let ey:=iV (ys:=os) (λc=>V.str (ϗ c)) (by rw[n,O]) s;let je:ys=(os.map ϗ).map V.str:=by rw[ey,agn];rfl
  subst je;cbv;show rN (η.of Z) ?_ (q J f);rw[R,abd];let g:∀l:List Ord,(∀o∈l,o.1.length<=1000)->((l.map ϗ).map (·.length)).sum<=l.length*1001:=by
   intro l;induction l with
   |nil=>intro _;simp
   |cons o l ih=>
    intro h;let h1:=ih λx hx=>h x (by simp[hx])
    let h2:=h o (by simp);let h3:(ϗ o).length<=1001:=by
     unfold ϗ;rw[len_app];split
     .rw[B];omega
     .rw[D];omega
    simp only[adI,alM,adx];omega
  have:=g os z;omega
inductive VJ (vs:List V) (H:Hp) (Q:VK) (E:XK):Prop
 |mk (k:Nat):vs=[.int (k:Nat)]->k<4->(∀H',ζ H H'->Q (.str (aeq " " (wT (Ι θ) (ϣ k)))) H')->VJ vs H Q E
theorem Aw(T:Txt K mg):Def P w K mg base true 1 "_law_sieve_words" ["_law_sieve"] VJ:=by
 show Γ (N:=["_law_sieve"]) T.Aw (λ_ _ _ _ _ H vs Q E e h=>?_);intro X _;let#[k,rfl,a,q]:=h;let hsz:=ϳ;f_len;show ω ?_;lk;show#[Δ,λp c=>?_];lk;show ϥ (η.of (xs:=Gg.map V.str) υ) (v:=.str (aeq " " (wT (Ι θ) (ϣ k)))) (bw (by rw[aci,agj a];rfl)) ?_;show q _ (ζ.upd c)
inductive Pq (vs:List V) (H:Hp) (Q:VK) (E:XK):Prop
 |mk (k:Nat) (l:δ) (r:Row):vs=[.int (k:Nat),.ref l]->k<4->H l=some (.lst r.2)->Ω θ r->Q (.bl (Ϡ r.2 (ϣ k))) H->Pq vs H Q E
theorem Bj(T:Txt K mg):Def P w K mg base true 1 "_law_lets" ["_law_sieve","_law_values"] Pq:=by
 show Γ (N:=["_law_sieve","_law_values"]) T.Bj (λ_ _ _ _ _ H vs Q E G h=>?_);intro X _;let#[k,l,r,rfl,I,a,B,q]:=h;let#[x,y,C,j,u]:=YK B;rw[C]at a q;let m:Χ [x,y] 0=some x:=rfl;let n:Χ [x,y] 1=some y:=rfl;let fin:∀b:Bool,b=Ϡ [x,y] (ϣ k)->Q (.bl b) H:=λb e=>by rw[e];show q
 w_up;show Κ ?_;lk;show Θ (λh1=>?_) (λh1=>?_)
 .let e:k=1:=by injection h1 with h1;omega
  subst e;f_len;show ω ?_;lk;show ϥ (η.of a) m ?_;obtain rfl|⟨_,i,rfl,_⟩|⟨f,_⟩:=j
  .lk;show fin _ rfl
  .lk;show ϥ (η.of a) m ?_;lk;show fin _ rfl
  .show absurd rfl f
 show Ζ ?_;w_up;show Κ ?_;lk;show Θ (λh2=>?_) (λh2=>?_)
 .let e:k=2:=by injection h2 with h2;omega
  subst e;f_len;show ω ?_;lk;show ϥ (η.of a) n ?_;obtain rfl|⟨f,_⟩|⟨_,z,rfl,_⟩:=u
  .lk;show fin _ rfl
  .show absurd f (by fin2)
  .lk;show fin _ rfl
 show Ζ ?_;w_up;show Κ ?_;lk;show Θ (λg=>?_) (λg=>?_)
 .let e:k=3:=by injection g with g;omega
  subst e;let o:∀b:Bool,b=Ϡ [x,y] (.one (.look .is 0 (.int 0)))->(b=true->Q (.bl true) H):=λb e1 p=>fin _ (by show true=(Ϡ [x,y] (.one (.look .is 0 (.int 0)))||_);rw[<-e1,p];rfl)
  let s:∀b:Bool,b=Ϡ [x,y] (.one (.look .is 0 (.int 0)))->b=false->∀c:Bool,c=Ϡ [x,y] (.one (.look .holds 1 (.str ("a":Str))))->Q (.bl c) H:=λb e1 p c D=>fin _ (by show c=(Ϡ [x,y] (.one (.look .is 0 (.int 0)))||Ϡ [x,y] (.one (.look .holds 1 (.str ("a":Str)))));rw[<-e1,p,D];rfl)
  let ex:∀b:Bool,b=decide (x=.int 0)->b=Ϡ [x,y] (.one (.look .is 0 (.int 0))):=λb e=>by
   rw[e];obtain rfl|⟨_,i,rfl,_⟩|⟨f,_⟩:=j
   .rfl
   .rfl
   .show absurd rfl f
  let F:=j.sc;f_len;show ω ?_;f_are;f_are;f_are;f_are;f_are;show ϥ (η.of a) m ?_;f_are;show Az (vO F rfl) ?_;walk_at"t";show Θ (λh=>?_) (λh=>?_)
  .show o _ (ex _ rfl) (decide_eq_true h)
  .lk;show ϥ (η.of a) n ?_;let v:=s _ (ex _ rfl) (decide_eq_false h);obtain rfl|⟨f,_⟩|⟨_,z,rfl,_⟩:=u
   .lk;show v _ rfl
   .show absurd f (by fin2)
   .lk;show ϥ (η.of a) n ?_;lk;show v _ rfl
 show Ζ ?_;f_len;show ω ?_;lk;let e:k=0:=by
  have:¬k=1:=λe=>h1 (by rw[e];rfl)
  have:¬k=2:=λe=>h2 (by rw[e];rfl)
  have:¬k=3:=λe=>g (by rw[e];rfl)
  omega
 subst e;show fin _ rfl
inductive HN (vs:List V) (H:Hp) (Q:VK) (E:XK):Prop
 |mk (b:δ) (u v:V) (os:List Ord) (r q:Row):vs=[.ref b,u,v]->bc H b os->aO θ os->cA H u r->cA H v q->Ω θ r->Ω θ q->(∀H',ζ H H'->Q (.bl (aU θ os r q)) H')->HN vs H Q E
theorem Bs(T:Txt K mg):Def P w K mg base true 1 "_law_ahead" ["_law_order_here","_law_one","_law_other"] HN:=by
 show Γ (S:=V9) T.Bs (λ_ _ A _ s H vs Q E hr h=>?_);intro X _;let#[b,u,v,os,r,q,rfl,#[ws,hb,B],W,#[t1,Y,rfl,C,Z],#[t2,l2,rfl,aK,ab],D,nF,g]:=h;let nd:=V9.nd;let hsz:=ϳ;let hwl:=B.len;let kr:=bV D W;let kq:=bV nF W;let#[x1,x2,x3]:=kr.aH kq;let hlr:=D.len;let hlq:=nF.len;w_up;show zx (by walk_at"po") (by rfl) (by intro _;rfl) ?_;lk;show#[b,ws,rfl,η.of hb,λi σ H'=>(∃o1 o2 o3 o4 o5 o6,σ=[some (.ref b),some (.ref t1),some (.ref t2),o1,o2,o3,o4,o5,o6])/\ζ H H'/\∀j x y,j<i->(au θ os r.2)[j]?=some x->(au θ os q.2)[j]?=some y->x=y,#[#[none,none,none,none,none,none,rfl],ζ.refl _,λj x y h=>()],λi σ H' _ G=>η.of (G.2.1 _ _ hb),λi wv σ H' hx G=>?_,λσ H' G=>?_]
 .let#[#[o1,o2,o3,o4,o5,o6,rfl],sm,a]:=G;let#[o,M,tt,rfl,ac]:=B.get hx;let I:=W o (aak M);let hpl:=nu I;let ex:r.2[Τ θ o.1]?=some (aL θ r.2 o.1):=by
   unfold aL;rw[aad ()];rfl
  let ey:q.2[Τ θ o.1]?=some (aL θ q.2 o.1):=by
   unfold aL;rw[aad ()];rfl
  let O:(au θ os r.2)[i]?=some (aL θ r.2 o.1):=by
   unfold au;rw[aci,M];rfl
  let R:(au θ os q.2)[i]?=some (aL θ q.2 o.1):=by
   unfold au;rw[aci,M];rfl
  let#[sx,J,f]:=x3 i _ _ O R;let Aj:=λU=>Qa (n:=r.1) (k:=q.1) x1 x2 M O R a U
  generalize aL θ r.2 o.1=x at ex O sx f Aj;generalize aL θ q.2 o.1=y at ey R J f Aj;show ao (ο.of (sm _ _ ac)) (Ε (Β nd (by rfl) (.inl rfl) (.inl rfl) (Ε (Β nd (by rfl) (.inl rfl) (.inl rfl) (aj ?_)))));w_up;f_tup;show dC F.plainAttrs_list F.slot_list_index F.type_list_index (h:=?_);lk;show#[Δ,λp hp=>?_];let s1:ζ H' (upd H' p (.lst ((θ.map Prod.fst).map V.str))):=ζ.upd hp;let e1:(upd H' p (.lst ((θ.map Prod.fst).map V.str))) p=some (.lst ((θ.map Prod.fst).map V.str)):=υ;show#[.inl #[rfl,_,η.of υ],?_];change EA _ _ _ (upd H' p (.lst ((θ.map Prod.fst).map V.str))) _;generalize upd H' p (.lst ((θ.map Prod.fst).map V.str))=H1 at s1 e1⊢;let l :=sm.trans s1;lk;show aht (η.of e1) (ahK I) (λm y h e=>W5 h e) ?_;k_go;show ύ (ο.of (l _ _ C)) (show Χ [V.int r.1,V.ref Y] 1=some (V.ref Y)from rfl) ?_;lk;show ϥ (η.of (l _ _ Z)) (bw ex) ?_;k_go;show ύ (ο.of (l _ _ aK)) (show Χ [V.int q.1,V.ref l2] 1=some (V.ref l2)from rfl) ?_;lk;show ϥ (η.of (l _ _ ab)) (bw ey) ?_;f_len;show Κ ?_;lk;show Bf (vO sx J) ?_;lk;show iB (λh=>?_) (λh=>?_)
  .let U:¬x=y:=by simpa using h
   let fin:∀(c:Bool),c=before x y->Q (.bl (decide (V.bl c=V.bl o.2))) H1:=λc ec=>by
    rw[show decide (V.bl c=V.bl o.2)=aU θ os r q by
     show _=ak os (au θ os r.2) (au θ os q.2) r.1 q.1;rw[Aj U,ec]
     congr 1
     show propext #[λz=>by injection z,λz=>by rw[z]]]
    show g H1 l
   cases x with
   |non=>
    cases y with
    |non=>show absurd rfl U
    |int j=>
     cbv;show fin _ rfl
    |str z=>
     cbv;show fin _ rfl
    |_=>show absurd J abj
   |int i1=>
    cases y with
    |non=>
     cbv;show fin _ rfl
    |int j=>
     cbv;show fin _ rfl
    |str z=>obtain z|z|⟨_,_,_,z⟩|⟨_,_,z,_⟩:=f<;>cases z
    |_=>show absurd J abj
   |str z1=>
    cases y with
    |non=>
     cbv;show fin _ rfl
    |int j=>obtain z|z|⟨_,_,z,_⟩|⟨_,_,_,z⟩:=f<;>cases z
    |str z=>
     cbv;show fin _ rfl
    |_=>show absurd J abj
   |_=>show absurd sx abj
  .let he:x=y:=by simpa using h
   show Ζ #[#[_,_,_,_,_,_,rfl],l,λj x' y' hj e1 L=>?_];by_cases e:j=i
   .subst e;rw[O]at e1;rw[R]at L;cases e1;cases L;show he
   .show a j x' y' () e1 L
 .let#[#[o1,o2,o3,o4,o5,o6,rfl],sm,a]:=G;f_len;show ω ?_;lk;show ύ (ο.of (sm _ _ C)) (show Χ [V.int r.1,V.ref Y] 0=some (V.int r.1)from rfl) ?_;lk;show ύ (ο.of (sm _ _ aK)) (show Χ [V.int q.1,V.ref l2] 0=some (V.int q.1)from rfl) ?_;lk;rw[<-Lr (n:=r.1) (k:=q.1) x1 x2 λj x y hj e1 L=>a j x y () e1 L];show g _ sm
structure Tb(mg:Str->Option ε)(F:List δ)(A:BA)(d:δ)(H:Hp)(B:Bk):Prop where
 bk:Ο (cB mg) H A B
 ro:Di F H d B.rows
structure CP(A:BA)(d:δ)(F:List δ):Prop where
 nd:d∉A.six
 inF:∀x∈d::A.fp,x∈F
theorem QB{A:BA}:∀x∈A.fp,x∈A.six:=λx c=>by
 let a:x=A.b\/x=A.r\/x=A.t\/x=A.d:=by simpa [BA.fp]using c
 obtain rfl|rfl|rfl|rfl:=a<;>simp[BA.six]
section
variable{F:List δ}{A:BA}{d:δ}{H H':Hp}{B B':Bk}
theorem Tb.same(h:Tb mg F A d H B)(sm:ζ H H'):Tb mg F A d H' B:=by
 let#[k1,e1,h1]:=h.ro;show#[h.bk.same sm,#[k1,sm _ _ e1,jd h1 λv x z=>z.stay λb ys _ e=>sm _ _ e]]
theorem Tb.sZ(f:CP A d F)(c:Ο (cB mg) H A B){k0 Ϸ:List (Key×V)}(e:H d=some (.dK k0))(g:ς (PR (LR F H)) Ϸ B.rows):Tb mg F A d (upd H d (.dK Ϸ)) B:=by
 show#[c.out (S:=[d]) (Out.upd (by simp)) (λy a ys z=>by rw[acy.mp a,e]at z;cases z) λy a hz=>?_,#[Ϸ,υ,jd g λv x z=>z.stay λb ys c e=>?_]]
 .rw[acy.mp hz]at a;show f.nd a
 .rw[ρ (λz=>c (by rw[z];show f.inF _ (by simp)))];show e
theorem Tb.book(a:CP A d F)(h:Tb mg F A d H B)(o:Out A.fp H H'):Di F H' d B.rows:=by
 let#[k1,e1,h1]:=h.ro;show#[k1,o _ _ (λz=>a.nd (QB _ z)) e1,jd h1 λv x z=>z.stay λb ys c e=>o _ _ (λz=>c (a.inF _ (by simp[z]))) e]
end
structure oJ(B:Bk)(i:Nat):Prop where
 heads:B.heads=θ
 nd:(B.rows.map (·.1)).Nodup
 wf:kh B
 ok:∀p∈B.rows,Ω θ p
 keys:∀p∈B.rows,0<=p.1/\p.1<90
 rl:B.rows.length<=i
 tl:B.touched.length<=i
 dl:B.done.length<=i
theorem Vh{α:Type}{m:List (Int×α)}{i:Int}{x:α}{p:Int×α}(h:p∈bZ m i x):p∈m/\¬p.1=i\/p=(i,x):=by
 unfold bZ at h;split at h
 .let#[q,c,e]:=adw.mp h;split at e
  .next a=>show .inr (by rw[<-e,a])
  .next a=>show .inl (by rw[<-e];show#[c,a])
 .next f=>
  obtain h|h:=ae6.mp h
  .show .inl #[h,λe=>f (alB.mpr #[p,h,decide_eq_true e])]
  .show .inr (acy.mp h)
theorem J1{α:Type}(m:List (Int×α))(i:Int)(x:α):(bZ m i x).length<=m.length+1:=by
 unfold bZ;split
 .rw[abd];omega
 .rw[ac7,afi];omega
theorem VP{α:Type}(m:List (Int×α))(i:Int):(dD m i).length<=m.length:=aix ..
theorem kh.deed{B:Bk}(h:kh B)(row:Int)(o:Option (List V)):kh (gb B row o):=λi=>by
 cases o with
 |none=>
  show Φ (dD B.rows row) i=none↔ Φ (dD B.touched row) i=none;rw[zZ,zZ];by_cases e:i=row
  .rw[if_pos e,if_pos e];show#[λ_=>rfl,λ_=>rfl]
  .rw[if_neg e,if_neg e];show h i
 |some xs=>
  show Φ (bZ B.rows row xs) i=none↔ Φ (bZ B.touched row (B.now+1)) i=none;rw[yG,yG];by_cases e:i=row
  .rw[if_pos e,if_pos e];show#[(λz=>by cases z),(λz=>by cases z)]
  .rw[if_neg e,if_neg e];show h i
theorem oJ.deed{B:Bk}{i:Nat}(h:oJ B i){row:Int}{o:Option (List V)}(a:0<=row)(h1:row<90)(c:∀xs,o=some xs->Ω θ (row,xs)):oJ (gb B row o) (i+1):=by
 let e:=h.tl;let f:=h.dl;let g:=h.rl;let hd:(gb B row o).done.length<=i+1:=by
  show(B.done++[_]).length<=i+1;rw[ac7,afi];omega
 cases o with
 |none=>
  show#[h.heads,agE h.nd,h.wf.deed row none,λp hp=>h.ok p (aiK.mp hp).1,λp hp=>h.keys p (aiK.mp hp).1,?_,?_,hd]
  .show(dD B.rows row).length<=i+1;have:=VP B.rows row;omega
  .show(dD B.touched row).length<=i+1;have:=VP B.touched row;omega
 |some xs=>
  show#[h.heads,We h.nd,h.wf.deed row (some xs),λp hp=>?_,λp hp=>?_,?_,?_,hd]
  .obtain hp|hp:=Vh hp
   .show h.ok p hp.1
   .rw[hp];show c xs rfl
  .obtain hp|hp:=Vh hp
   .show h.keys p hp.1
   .rw[hp];show#[a,h1]
  .show(bZ B.rows row xs).length<=i+1;have:=J1 B.rows row xs;omega
  .show(bZ B.touched row (B.now+1)).length<=i+1;have:=J1 B.touched row (B.now+1);omega
theorem oJ.small{B:Bk}{i:Nat}(h:oJ B i)(hi:i<1000000):rB B:=by
 let h1:=h.tl;let h2:=h.dl;let a:=h.rl;show#[(),(),()]
end
end K93
namespace K93
open PySem L2 PyProof.Rows My Vl Lw
section
variable{P:Ϯ}{w:ϭ}{K:ϩ}{mg:Str->Option ε}{base:ϫ}
def jL:List V:=[.non,.str ("":Str),.str ("a":Str),.str ("ab":Str),.str ("b":Str),.str ("ba":Str)]
theorem agS:∀v∈jL,ϓ ("text":Str) v:=by
 let tx:∀z:Str,z.length<=20/\(∀c∈z.cps.toList,c∈SG)->ϓ ("text":Str) (.str z):=λz h=>.inr (.inr #[by fin2,z,rfl,h.1,h.2])
 intro v a;simp only[jL,aaF,age,or_false]at a;obtain rfl|rfl|rfl|rfl|rfl|rfl:=a
 .show .inl rfl
 all_goals show tx _ (by fin2)
abbrev fK:=Int×List V×Bool
def jB(H:Hp)(v:V)(r:fK):=∃t l,v=.ref t/\H t=some (.tup [.int r.1,.ref l,.bl r.2.2])/\H l=some (.lst r.2.1)
theorem jB.same{H H':Hp}{v:V}{r:fK}(h:jB H v r)(s:ζ H H'):jB H' v r:=by
 let#[t,l,e,a,c]:=h;show#[t,l,e,s _ _ a,s _ _ c]
structure gm where
 rows:List fK
 back:V
 aJ:V
 many:Int
 ahead:Int
 moment:Int
def uB(H:Hp)(q:δ)(rs:List fK):=∃vs,H q=some (.lst vs)/\ς (jB H) vs rs
theorem uB.same{H H':Hp}{q:δ}{rs:List fK}(h:uB H q rs)(s:ζ H H'):uB H' q rs:=by
 let#[vs,e,a]:=h;show#[vs,s _ _ e,a.imp λu c r=>r.same s]
def cM(H:Hp)(p:δ)(L:gm):=∃q,H p=some (.tup [.ref q,L.back,L.aJ,.int L.many,.int L.ahead,.int L.moment])/\uB H q L.rows
theorem cM.same{H H':Hp}{p:δ}{L:gm}(h:cM H p L)(s:ζ H H'):cM H' p L:=by
 let#[q,e,a]:=h;show#[q,s _ _ e,a.same s]
def dI(r:fK):alp:=.tuple [.int r.1,.list (r.2.1.map dV),.bool r.2.2]
def uI(L:gm):alp:=.tuple [.list (L.rows.map dI),dV L.back,dV L.aJ,.int L.many,.int L.ahead,.int L.moment]
def il(x:V):Prop:=jZ x=true/\∀z,x=.str z->aZ 4000 z
theorem il.data{x:V}(h:il x):(dV x).canLay0=true:=by
 let#[hs,hz]:=h;cases x with
 |str z=>show(hz z rfl).lay
 |_=>rfl
def layR(rs:List fK):=∀r∈rs,∀x∈r.2.1,il x
theorem Av:∀{rs:List fK},layR rs->PyData.canLayAll0 (rs.map dI)=true
 |[],_=>rfl
 |r::rs,h=>by
  let a:=Av (rs:=rs) λd hd=>h d (by simp[hd])
  let h1:(PyData.list (r.2.1.map dV)).canLay0=true:=Ay λx c=>h r (by simp) x c
  show((dI r).canLay0&&PyData.canLayAll0 (rs.map dI))=true;rw[a,Bool.and_true];show(true&&((PyData.list (r.2.1.map dV)).canLay0&&(true&&true)))=true;rw[h1];rfl
theorem Yw{L:gm}(h:layR L.rows)(a:il L.back)(c:il L.aJ):(uI L).canLay0=true:=by
 show((PyData.list (L.rows.map dI)).canLay0&&((dV L.back).canLay0&&((dV L.aJ).canLay0&&(true&&(true&&(true&&true))))))=true;rw[a.data,c.data];show(PyData.canLayAll0 (L.rows.map dI)&&_)=true;rw[Av h];rfl
theorem aeR(r:fK):(dI r).depth<=4:=by
 have:=Df r.2.1;simp only[dI,PyData.depth,PyData.depthAll];omega
theorem yV:∀rs:List fK,PyData.depthAll (rs.map dI)<=4
 |[]=>by show(0:Nat)<=4;omega
 |r::rs=>by
  let a:=yV rs;let h1:=aeR r;show max (dI r).depth (PyData.depthAll (rs.map dI))<=4;omega
theorem K7(x:V):(dV x).depth<=1:=by cases x<;>(show(_:Nat)<=1;show alV rfl)
theorem aa0(L:gm):(uI L).depth<=60:=by
 let h1:=yV L.rows;let h2:=K7 L.back;let a:=K7 L.aJ;simp only[uI,PyData.depth,PyData.depthAll];omega
theorem ym{H:Hp}{vs:List V}{rs:List fK}(h:ς (jB H) vs rs)(g:layR rs):cW K H vs (rs.map dI):=by
 induction h with
 |nil=>show .nil
 |cons r t a=>
  let#[p,l,rfl,h1,h2]:=r;show .cons (.tup (ο.of h1) (.cons (.int _) (.cons (.lst (η.of h2) (uv ?_)) (.cons (.bl _) .nil)))) (a λr c=>g r (by simp[c]));show acz.mpr λx e=>(g _ (by simp) x e).1
theorem vX{H:Hp}{p:δ}{L:gm}(h:cM H p L)(g:layR L.rows)(c:il L.back)(f:il L.aJ):RD K H (.ref p) (uI L):=by
 let#[q,e,vs,i,a]:=h;show .tup (ο.of e) (.cons (.lst (η.of i) (ym a g)) (.cons (Gu c.1) (.cons (Gu f.1) (.cons (.int _) (.cons (.int _) (.cons (.int _) .nil))))))
abbrev sT(cs:List ι)(t:Tr):Str:=aeq " " (wT (Ι cs) t)
def cN(lv:Bool)(mo:Nat)(os:List Ord)(z:Str):Option Ct->V
 |some (.at_ sd xs n)=>.str (dR #[lv,mo,os,z,#[sd,n.toNat,xs]])
 |_=>.non
def fH(cs:List ι)(os:List Ord)(c:Ct):=∃sd xs n,c=.at_ sd xs n/\cZ cs os xs/\0<=n/\n<=1000000000
structure wy(cs:List ι)(os:List Ord)(t:Tr)(mo:Nat):Prop where
 ok:ϊ cs=true
 o4:os.length<=4
 inc:aO cs os
 rP:(os.map Prod.fst).Nodup
 gt:gJ cs t
 dp:t.dep<=20
 Jl:(wT (Ι cs) t).length<=60
 mo:mo<=5000
theorem wy.good{cs:List ι}{os:List Ord}{t:Tr}{mo:Nat}(h:wy cs os t mo){lv sd:Bool}{xs:List V}{n:Int}(a:cZ cs os xs)(h1:n<=1000000000):aW cs #[lv,mo,os,sT cs t,#[sd,n.toNat,xs]]:=by
 let#[f,g,i,j]:=tE.good h.ok (z:=sT cs t) (n:=60) (d:=20) #[t,h.gt,h.dp,rfl,h.Jl] (by decide) (by decide);show#[h.mo,h.o4,λo l=>by let#[c,m,e]:=h.inc o l;show adw.mpr #[c,m,e],h.rP,by show n.toNat<=_;omega,a,f,g,i,j]
def eQ:Bool->List ι->List Ord->List Row->Ct->Nat->Lf
 |true=>RL
 |false=>JK
def lQ(cs:List ι)(os:List Ord)(on:Bool)(c:Ct):Prop:=(on=true/\c=.start)\/(on=false/\c=.fin)\/fH cs os c
theorem lQ.ok{cs:List ι}{os:List Ord}{on:Bool}{c:Ct}(h:lQ cs os on c):jF cs os c:=by
 obtain⟨_,rfl⟩|⟨_,rfl⟩|⟨sd,xs,n,rfl,a,_⟩:=h
 .trivial
 .trivial
 .show a
theorem Hm{cs:List ι}{os:List Ord}{sd:Bool}{rs:List Row}{c:Ct}(e:aO cs os)(f:∀r∈rs,Ω cs r)(a:∀r∈rs,0<=r.1/\r.1<=1000000000)(g:rs=[]->fH cs os c):fH cs os (fG cs os sd rs c):=by
 cases rs with
 |nil=>show g rfl
 |cons r rs=>show#[sd,_,_,rfl,bV (f r (by simp)) e,(a r (by simp)).1,(a r (by simp)).2]
theorem tY{α:Type}(l:List α){i j:Nat}(h:j<=l.length):(Μ l i j).length=j-i:=by
 unfold Μ;rw[ag5,adX];omega
theorem Iz{cs:List ι}{os:List Ord}{on:Bool}{c:Ct}{rs:List Row}{n:Nat}(h:jx cs os rs)(o:∀r∈rs,0<=r.1/\r.1<=1000000000)(n1:1<=n)(p:lQ cs os on c):∀d,(eQ on cs os rs c n).back=some d\/(eQ on cs os rs c n).aJ=some d->fH cs os d:=by
 let s:=vA (cs:=cs) (os:=os) (c:=c) (rs:=rs);let g:∀i j:Nat,i<=j->j<=rs.length->(i=j->(0<i\/j<rs.length)->fH cs os c)->∀d,(ϖ cs os rs c i j).back=some d\/(ϖ cs os rs c i j).aJ=some d->fH cs os d:=by
  intro i j u v q d hd;let sub:∀r∈ Μ rs i j,r∈rs:=λr f=>aeY (afu f)
  let sl:=tY rs (i:=i) v;obtain hd|hd:=hd
  .let a:(if 0<i then some (fG cs os true ((Μ rs i j).take 1) c)else none)=some d:=hd;split at a
   .next hi=>
    cases a;show Hm h.inc (λr f=>h.fit r (sub r (afu f))) (λr f=>o r (sub r (afu f))) λe=>q ?_ (.inl hi)
    have:=congrArg alR e;rw[ag5,sl,alH]at this;omega
   .cases a
  .let a:(if j<rs.length then some (fG cs os false ((Μ rs i j).drop ((Μ rs i j).length-1)) c)else none)=some d:=hd;split at a
   .next hi=>
    cases a;show Hm h.inc (λr f=>h.fit r (sub r (aeY f))) (λr f=>o r (sub r (aeY f))) λe=>q ?_ (.inr hi)
    have:=congrArg alR e;rw[adX,sl,alH]at this;omega
   .cases a
 cases on with
 |true=>
  show g (Ϣ cs os c rs) (min (Ϣ cs os c rs+n) rs.length) () (al0 ..) λe l=>?_
  obtain⟨_,rfl⟩|⟨z,_⟩|z:=p
  .let m:Ϣ cs os .start rs=0:=rfl;rw[m]at e l;omega
  .cases z
  .show z
 |false=>
  show g (Ϣ cs os c rs-n) (Ϣ cs os c rs) () s λe l=>?_
  obtain⟨z,_⟩|⟨_,rfl⟩|z:=p
  .cases z
  .let m:Ϣ cs os .fin rs=rs.length:=rfl;rw[m]at e l;omega
  .show z
def pM(H H':Hp)(p:δ)(L:gm):=∃q vs,H' p=some (.tup [.ref q,L.back,L.aJ,.int L.many,.int L.ahead,.int L.moment])/\H q=none/\H' q=some (.lst vs)/\ς (λv(r:fK)=>∃t l,v=V.ref t/\H' t=some (.tup [.int r.1,.ref l,.bl r.2.2])/\H l=none/\H' l=some (.lst r.2.1)) vs L.rows
theorem pM.old{a H H':Hp}{p:δ}{L:gm}(h:pM H H' p L)(s:ζ a H):pM a H' p L:=by
 let#[q,vs,h1,h2,c,f]:=h;show#[q,vs,h1,s.free h2,c,f.imp λv r z=>by
  let#[t,l,e,g,i,j]:=z;show#[t,l,e,g,s.free i,j]]
def gA(H:Hp)(mk:δ)(lv:Bool)(mo:Nat)(os:List Ord)(z:Str)(c:Ct):=∃o v,H mk=some (.tup [.str (ϙ lv),.int (mo:Nat),.ref o,.str z,v])/\bc H o os/\dF H v c
theorem gA.same{H H':Hp}{mk:δ}{lv:Bool}{mo:Nat}{os:List Ord}{z:Str}{c:Ct}(h:gA H mk lv mo os z c)(s:ζ H H'):gA H' mk lv mo os z c:=by
 let#[o,v,h1,h2,a]:=h;show#[o,v,s _ _ h1,h2.same s,a.same s]
inductive Qv (vs:List V) (H:Hp) (Q:VK) (E:XK):Prop
 |mk (mk:δ) (v:V) (lv:Bool) (cs:List ι) (os:List Ord) (t:Tr) (mo:Nat) (c:Ct) (d:Option Ct):vs=[.ref mk,v]->gA H mk lv mo os (sT cs t) c->wy cs os t mo->cU H v d->(∀x,d=some x->fH cs os x)->(∀H',ζ H H'->Q (cN lv mo os (sT cs t) d) H')->Qv vs H Q E
theorem Gd(T:Txt K mg):Def P w K mg base true 5 "mark_at" ["mark","cut"] Qv:=by
 show Γ (N:=["mark","cut"]) T.Gd (λ_ _ _ _ _ H vs Q E S h=>?_);intro X _;let#[mk,v,lv,cs,os,t,mo,c,d,rfl,#[o,u,e,G,U],s,y,hd,q]:=h;let hsz:=ϳ;let W:= @yr P w K mg base T;f_len;show ω ?_;cases d with
 |none=>
  cases y;lk;show q H (ζ.refl _)
 |some x=>
  let#[sd,xs,n,rfl,I,J,n1]:=hd x rfl;let#[tc,k,rfl,f,L,g,i]:=y;lk;show abO (ο.of e) (show ¬(HT.Α 5 0 none=0/\HT.Α 5 5 (some (-1))=5)by decide) λp M=>?_
  let#[B,e1]:=ϋ M (.tup [.str (ϙ lv),.int (mo:Nat),.ref o,.str (sT cs t)]);change EV _ _ _ (upd H p (.tup [.str (ϙ lv),.int (mo:Nat),.ref o,.str (sT cs t)])) _;generalize upd H p (.tup [.str (ϙ lv),.int (mo:Nat),.ref o,.str (sT cs t)])=H1 at B e1⊢;lk;show#[Δ,λp2 j=>?_];let#[l,C]:=ϋ j (.tup [.ref tc]);generalize upd H1 p2 (.tup [.ref tc])=H2 at l C⊢;show bf afn #[p,p2,_,_,rfl,rfl,ο.of (l _ _ e1),ο.of C,by simp,Δ,(λz=>by cases z),λ_ p3 m=>?_];let#[D,F]:=ϋ m (.tup [.str (ϙ lv),.int (mo:Nat),.ref o,.str (sT cs t),.ref tc]);change EA _ _ _ (upd H2 p3 (.tup [.str (ϙ lv),.int (mo:Nat),.ref o,.str (sT cs t),.ref tc])) _;generalize upd H2 p3 (.tup [.str (ϙ lv),.int (mo:Nat),.ref o,.str (sT cs t),.ref tc])=Y at D F⊢;let a:=(B.trans l).trans D;lk;show#[p3,#[lv,mo,os,sT cs t,#[sd,n.toNat,xs]],cs,rfl,#[o,tc,F,G.same a,k,L,a _ _ f,?_,a _ _ i],s.ok,s.good I n1,λO R=>q O (a.trans R)];rw[show(((#[sd,n.toNat,xs]:Cut).row:Nat):Int)=n from al9 J];show a _ _ g
structure pJ(mg:Str->Option ε)(H:Hp)(A:BA)(B:Bk)(mo:Nat):Prop where
 bk:Ο (cB mg) H A B
 nw:wH B mo
 wf:kh B
 tc:∀i k,Φ B.touched i=some k->k<=B.now
 r64:B.rows.length<64
 nd:(B.rows.map Prod.fst).Nodup
 fit:∀r∈B.rows,Ω B.heads r/\0<=r.1/\r.1<=1000000000
theorem pJ.same{H H':Hp}{A:BA}{B:Bk}{mo:Nat}(h:pJ mg H A B mo)(s:ζ H H'):pJ mg H' A B mo:=#[h.bk.same s,h.nw,h.wf,h.tc,h.r64,h.nd,h.fit]
inductive Ls (K:ϩ) (mg:Str->Option ε) (t:Tr) (vs:List V) (H:Hp) (Q:VK) (E:XK):Prop
 |mk (A:BA) (B:Bk) (lv:Bool) (mo:Nat) (a:δ) (z:Str):vs=[.ref A.b,.str (ϙ lv),.int (mo:Nat),.ref a]->pJ mg H A B mo->bH mg H t a z->gJ B.heads t->(∀q ws rs H',ζ H H'->H q=none->H' q=some (.lst ws)->ς (cA H') ws rs->rs.Perm (B.rows.filter λr=>Ϡ r.2 t)->Q (.ref q) H')->Ls K mg t vs H Q E
theorem Be(T:Txt K mg)(t:Tr):Def P w K mg base true (5+t.dep) "rows_of_list" ["book","make","begin","sieve"] (Ls K mg t):=by
 rw[show 5+t.dep=(4+t.dep)+1 by omega];show Γ (S:=Ul) T.Be (λf O R outer s H vs Q E j h=>?_);intro X _;let#[A,B,lv,mo,a,z,rfl,c,D,m,q]:=h;let nd:=Ul.nd;let U:=T.Cq;let M1:ϟ P w K mg base true 4 (cB mg) "rows_at" ["self","moment"] (vZ mg):=(aa8 T).meth T.Ϝ T.X6;let M2:ϟ P w K mg base true 2 (cB mg) "now_rows" ["self"] (uq mg):=(adC T).meth T.Ϝ T.aib;let W:= @Ag P w K mg base T t
 let rest:∀p1 ys ks H1,ζ H H1->H p1=none->ks.Perm (B.rows.map (·.1))->ks.Pairwise (· <= ·)->H1 p1=some (.lst ys)->ς (sV H H1) ys (aP B.rows ks)->
   Ν X ((aB Ar).drop 1) {nx:=λ_ H'=>Q .non H',rt:=Q} [some (.ref A.b),some (.str (ϙ lv)),some (.int (mo:Nat)),some (.ref a),some (.ref p1)] H1:=by
  intro p1 ys ks H1 n F o G p v;let g:=MP (rows:=B.rows) c.nd o;let y:dX H1 p1 (aP B.rows ks):=#[ys,p,v.imp λu r z=>by
   let#[t,l,e,h1,h2,_]:=z;show#[t,l,e,h1,h2]]
  generalize aP B.rows ks=rs at g y;let I:=g.length_eq;let J:=c.r64;f_len;show ω ?_;lk;show#[a,p1,z,rs,rfl,D.same n,y,(),λr j=>u9 (c.fit r (g.mem_iff.mp j)).1 m,λp2 L H2 C x i M=>?_];show q p2 L _ H2 (n.trans C) (n.free x) i (M.imp λu r z=>z.row C) (g.filter _)
 w_up;f_tup;cases lv with
 |true=>
  lk;show eU ?_;show jf (pl:=_) j ϑ ?_;f_are;show#[A.b,cB mg,A.dx,_,true,2,_,uq mg,rfl,c.bk.ins,by rfl,M2,(),id,A,B,rfl,c.bk,c.r64,rest]
 |false=>
  lk;show Θ (λh=>?_) (λ_=>?_)
  .injection h with h
   show absurd h (by fin2)
  show bO (pl:=_) j ϑ (h:=?_);f_are;show#[A.b,cB mg,A.dx,_,true,4,_,vZ mg,rfl,c.bk.ins,by rfl,M1,(),id,?_];lk;show#[A,B,mo,rfl,c.bk,c.nw,c.r64,rest]
inductive Mh (mg:Str->Option ε) (vs:List V) (H:Hp) (Q:VK) (E:XK):Prop
 |mk (A:BA) (B:Bk) (lv:Bool) (mo:Nat) (r:Row):vs=[.ref A.b,.str (ϙ lv),.int (mo:Nat),.int r.1]->pJ mg H A B mo->r∈B.rows->Q (.bl true) H->Mh mg vs H Q E
theorem DP(T:Txt K mg):Def P w K mg base true 5 "is_untouched" ["book","make","begin","row"] (Mh mg):=by
 show Γ (N:=["book","make","begin","row"]) T.DP (λf j l outer s H vs Q E e h=>?_);intro X _;let#[A,B,lv,mo,r,rfl,a,c,q]:=h;let m:=T.MN;let M1:ϟ P w K mg base true 4 (cB mg) "since" ["self","row"] (ug mg):=(aaP T).meth T.Ϝ T.aaR;f_len;show ω ?_;cases lv with
 |false=>
  lk;show Θ (λ_=>q) (λh=>absurd rfl h)
 |true=>
  lk;show Θ (λh=>?_) (λ_=>?_)
  .injection h with h
  lk;show bO (pl:=_) e ϑ (h:=?_);f_are;show#[A.b,cB mg,A.dx,_,true,4,_,ug mg,rfl,a.bk.ins,by rfl,M1,by decide,id,?_];lk;let#[_,g,n1]:=a.fit r c;show#[A,B,r.1,rfl,a.bk,g,n1,a.wf,λz=>absurd (List.mem_map_of_mem (f:=Prod.fst) c) (yN.mp z),λi hi=>?_];lk;let h1:=a.tc _ _ hi;let h2:=a.nw.now;rw[decide_eq_true (show i<=(mo:Nat)by omega)];show q
def yd(lv:Bool)(mo:Nat)(os:List Ord)(z:Str)(many:Nat)(L:Lf):gm:=#[L.rows.map λr=>(r.1,r.2,true),cN lv mo os z L.back,cN lv mo os z L.aJ,many,L.start,mo]
structure lU(K:ϩ)(mg:Str->Option ε)(H:Hp)(A:BA)(B:Bk)(os:List Ord)(t:Tr)(mo n:Nat):Prop where
 bk:pJ mg H A B mo
 li:wy B.heads os t mo
 n1:1<=n
 n2:n<=100
 tb:H (cF K "sorted_by")=some (.tbl jE)
theorem lU.same{H H':Hp}{A:BA}{B:Bk}{os:List Ord}{t:Tr}{mo n:Nat}(h:lU K mg H A B os t mo n)(s:ζ H H'):lU K mg H' A B os t mo n:=#[h.bk.same s,h.li,h.n1,h.n2,s _ _ h.tb]
def ToldN(lv:Bool)(B:Bk)(os:List Ord)(t:Tr)(mo n:Nat)(on:Bool)(c:Ct)(H:Hp)(Q:VK):=∀p ls H',ζ H H'->Line B.heads os ls->ls.Perm (B.rows.filter λr=>Ϡ r.2 t)->pM H H' p (yd lv mo os (sT B.heads t) ls.length (eQ on B.heads os ls c n))->Q (.ref p) H'
theorem ToldN.same{lv:Bool}{B:Bk}{os:List Ord}{t:Tr}{mo n:Nat}{on:Bool}{c:Ct}{H H':Hp}{Q:VK}(h:ToldN lv B os t mo n on c H Q)(s:ζ H H'):ToldN lv B os t mo n on c H' Q:=λp ls H2 a h1 h2 e=>h p ls H2 (s.trans a) h1 h2 (e.old s)
inductive pQ (K:ϩ) (mg:Str->Option ε) (t:Tr) (on:Bool) (vs:List V) (H:Hp) (Q:VK) (E:XK):Prop
 |mk (A:BA) (B:Bk) (mk:δ) (os:List Ord) (lv:Bool) (mo n:Nat) (c:Ct):vs=[.ref A.b,.ref mk,.int (n:Nat),.bl on]->lU K mg H A B os t mo n->gA H mk lv mo os (sT B.heads t) c->lQ B.heads os on c->ToldN lv B os t mo n on c H Q->pQ K mg t on vs H Q E
theorem nA(T:Txt K mg)(hN:dW K mg base "sorted_by")(t:Tr)(on:Bool):Def P w K mg base true (10+2*t.dep) "leaf_from" ["book","mark","size","onward"] (pQ K mg t on):=by
 rw[show 10+2*t.dep=(9+2*t.dep)+1 by omega];show Γ (S:=RK) T.nA (λf Ϻ A' outer s H vs Q E g h=>?_);intro X _;let#[A,B,mk,os,lv,mo,n,ct,rfl,a,#[o,v,ab,hO,R],oK,q]:=h;let nd:=RK.nd;let n1:=T.bF;let g1:=T.Cq;let hsz:=ϳ;let U:=a.li.gt;let hok:=a.li.ok;let ϻ:=a.li.inc;let km:=a.li.o4;let#[c1,c6]:=WD hok;let R9:(["row","values","book","make","begin"]:List Str).Nodup:=by fin2
 let D1:= @JM P w K mg base T t;let D2:= @Be P w K mg base T t;let D3:Def P w K mg base true 8 "line_of" ["columns","order","rows"] (GC K):=Am T hN;let D4:= @zT P w K mg base T;let D5:= @Ck P w K mg base T;let D6:= @DP P w K mg base T;let D7:= @Gd P w K mg base T;let M2:ϟ P w K mg base true 1 (cB mg) "moment" ["self"] (iu mg Bk.now):=(v9 T).meth T.Ϝ T.xj;let M3:ϟ P w K mg base true 1 (cB mg) "columns" ["self"] (ju mg):=(CQ T).meth T.Ϝ T.yq;let hw:=oO hok U;let lH:Ψ 32 (sT B.heads t)=wT (Ι B.heads) t:=xO (Oj (Ι B.heads) t) λz hz=>(hw z hz).2.1
 let Mp:=a.li.Jl;let Ej:(sT B.heads t).length<=3000:=by
  let h1:=lE (wT (Ι B.heads) t) 21 λp hp=>(hw p hp).1
  let h2:=jO (wT (Ι B.heads) t);show(aeq " " (wT (Ι B.heads) t)).length<=3000;omega
 let ah:Reads B.heads (wT (Ι B.heads) t) t 0 (wT (Ι B.heads) t).length:=by
  have:=sE hok (ws:=wT (Ι B.heads) t) (t:=t) (s:=0) #[[],by simp] () U;rw[alD]at this;show this
 let ai:=a.bk.r64;let Ge:=a.bk.fit;w_up;show dU ?_;lk;show ao (ο.of ab) (Ε (Β nd (by rfl) (by first|show Or.inl rfl|show Or.inr rfl) (by first|show Or.inl rfl|show Or.inr rfl) (Ε (Β nd (by rfl) (by first|show Or.inl rfl|show Or.inr rfl) (by first|show Or.inl rfl|show Or.inr rfl) (Ε (Β nd (by rfl) (.inl rfl) (.inl rfl) (Ε (Β nd (by rfl) (.inl rfl) (.inl rfl) (Ε (Β nd (by rfl) (.inl rfl) (.inl rfl) (aj ?_)))))))))));w_up;f_tup;show jf (pl:=_) g ϑ ?_;f_are;show⟨A.b,cB mg,A.dx,_,true,1,_,ju mg,rfl,a.bk.bk.ins,by rfl,M3,(),id,A,B,rfl,a.bk.bk,λc H1 s1 hc0 hC=>?_⟩;k_go;show#[c,B.heads,_,rfl,hC,Ej,by rw[lH];show λy J=>by have:=(hw y J).1;omega,a.li.dp,by rw[lH];show ah,λsv H2 s2 hv=>?_];generalize bM (Ψ 32 (sT B.heads t)) 0 (Ψ 32 (sT B.heads t)).length=zz at hv;let bj:=s1.trans s2;lk;show#[A,B,lv,mo,sv,zz,rfl,a.bk.same bj,hv,U,λp2 Br rs H3 s3 hp2 ac al G=>?_];let bJ:=bj.trans s3;let am:(B.rows.filter λr=>Ϡ r.2 t).length<=B.rows.length:=aix ..;let ap:rs.length<64:=aeW (aeP (aka G.length_eq) am) ai;let M:∀r∈rs,r∈B.rows:=λr g=>(aiK.mp (G.mem_iff.mp g)).1
 let ar:(rs.map Prod.fst).Nodup:=(G.map Prod.fst).nodup_iff.mpr (a.bk.nd.sublist (List.Sublist.map _ al8));lk;show#[c,o,p2,B.heads,os,rs,rfl,hC.same (s2.trans s3),hO.same bJ,#[Br,ac,al],c6,(),ϻ,ap,λr g=>(Ge r (M r g)).1,ar,bJ _ _ a.tb,λln lw ls H4 s4 iy N5 Lg hL cI=>?_];let Z:=bJ.trans s4;let mK:=Lg.len;let av:=cI.trans G;let hll:ls.length=rs.length:=cI.length_eq;let m:∀r∈ls,r∈B.rows:=λr g=>M r (cI.mem_iff.mp g)
 let Ao:jx B.heads os ls:=#[#[c1,c6],km,ϻ,λr g=>(Ge r (m r g)).1,hL,()];let ae:∀r∈ls,0<=r.1/\r.1<=1000000000:=λr g=>(Ge r (m r g)).2
 let Uw:dX H4 ln ls:=#[lw,N5,Lg.imp λu r z=>by
  let#[t,l,e,_,_,_,h1,h2]:=z;show#[t,l,e,h1,h2]]
 let BW:=Iz Ao ae a.n1 oK
 let rest:∀(D:δ)(us:List V)(x y:V)(H5:Hp),ζ H4 H5->H4 D=none->H5 D=some (.lst us)->ς (ig D H4 H5) us (eQ on B.heads os ls ct n).rows->cU H5 x (eQ on B.heads os ls ct n).back->cU H5 y (eQ on B.heads os ls ct n).aJ->
   Ν X ((aB qg).drop 4) {nx:=λ_ H'=>Q .non H',rt:=Q} [some (.ref A.b),some (.ref mk),some (.int (n:Nat)),some (.bl on),some (.str (ϙ lv)),some (.int (mo:Nat)),some (.ref o),some (.str (sT B.heads t)),some v,some (.ref c),some (.ref ln),some (.ref D),some x,some y,some (.int ((eQ on B.heads os ls ct n).start:Nat)),none,none] H5:=by
  intro D us x y H5 s5 I hq i hx J;let Qu:∀r∈(eQ on B.heads os ls ct n).rows,r∈ls:=λr g=>by
   cases on<;>show aeY (afu g)
  generalize af:eQ on B.heads os ls ct n=L at i hx J BW Qu⊢;let kW:=i.len;let dj:=Z.trans s5;let hLr:L.rows.length<=1000:=by
   have:=i.len;rw[<-af];cases on
   .show(Μ ls _ _).length<=1000;unfold Μ;rw[ag5,adX];omega
   .show(Μ ls _ _).length<=1000;unfold Μ;rw[ag5,adX];omega
  w_up;show rO ["row","values","book","make","begin"] (σ':=[none,none,some (.ref A.b),some (.str (ϙ lv)),some (.int (mo:Nat))]) (b7 (ψ qg)) nd ?_;lk;show#[D,us,rfl,η.of hq,(),λτ=>∃o1 o2,τ=[o1,o2,some (.ref A.b),some (.str (ϙ lv)),some (.int (mo:Nat))],λE2 j u H'=>u≠.ref E2/\∃r t l,L.rows[j]?=some r/\u=.ref t/\H' t=some (.tup [.int r.1,.ref l,.bl true])/\H4 l=none/\H5 l=some (.lst r.2),#[none,none,rfl],λE2 j u H8 H9 ys hE hk p=>?_,λfp E2 C s9 H8 j τ x H6 H7 aN hi aw uJ W hG=>?_,λq1 H6 O3 ax hl6 ay e6 s6=>?_]
  .let#[h0,r,t,l,g,e,h1,h2,h3]:=p;show#[h0,r,t,l,g,e,hk _ _ (λz=>h0 (by rw[e,z])) h1,h2,h3]
  .let#[o1,o2,rfl]:=aw;let#[bz,rfl]:=hG;let#[r,F,tr,lr,rfl,ajB,aA,_,aC,aE]:=i.get bz;let#[ys,W]:=W;show ao (ο.of (uJ _ _ aC)) (Ε (Β R9 (by rfl) (.inl rfl) (.inr rfl) (Ε (Β R9 (by rfl) (.inl rfl) (.inr rfl) (aj ?_)))));lk;show#[A,B,lv,mo,r,rfl,a.bk.same (dj.trans uJ),m r (Qu r (aak F)),?_];lk;show#[Δ,λt2 aK=>?_];show#[#[_,_,rfl],#[λz=>?_,r,t2,lr,F,rfl,υ,aA,aE],ζ.upd aK];injection z with z
   rw[z,W]at aK;cases aK
  let cY:=dj.trans s6;let ag:gA H6 mk lv mo os (sT B.heads t) ct:=gA.same #[o,v,ab,hO,R] cY;let wJ:η K H6 ln lw:=(s5.trans s6).seq (η.of N5);let O:Ν X ((aB qg).drop 6) {nx:=λ_ H'=>Q .non H',rt:=Q} [some (.ref A.b),some (.ref mk),some (.int (n:Nat)),some (.bl on),some (.str (ϙ lv)),some (.int (mo:Nat)),some (.ref o),some (.str (sT B.heads t)),some v,some (.ref c),some (.ref ln),some (.ref D),some x,some y,some (.int (L.start:Nat)),some (.ref q1),some (.int (mo:Nat))] H6:=by
   f_len;show ω ?_;lk;show#[mk,x,lv,B.heads,os,t,mo,ct,L.back,rfl,ag,a.li,hx.same s6,λd e=>BW d (.inl e),λH7 Y=>?_];lk;show#[mk,y,lv,B.heads,os,t,mo,ct,L.aJ,rfl,ag.same Y,a.li,J.same (s6.trans Y),λd e=>BW d (.inr e),λH8 s8=>?_];let sq8:η K H8 ln lw:=(Y.trans s8).seq wJ;lk;show#[Δ,λp9 aI=>?_];let s9:=ζ.upd (o:=.tup [.ref q1,cN lv mo os (sT B.heads t) L.back,cN lv mo os (sT B.heads t) L.aJ,.int (lw.length:Nat),.int (L.start:Nat),.int (mo:Nat)]) aI;show q p9 ls _ (((cY.trans Y).trans s8).trans s9) hL av ?_;rw[af];show#[q1,O3,by rw[υ,mK];rfl,dj.free ax,((Y.trans s8).trans s9) _ _ e6,ph (by show(L.rows.map _).length=_;rw[abd];omega) λj r' aR=>?_];let Q0:(L.rows.map λr=>(r.1,r.2,true))[j]?=some r':=aR;rw[aci]at Q0;let#[r,g,rfl]:=ah6.mp Q0;let hj:j<O3.length:=by have:=(aai.mp g).1;omega
   let#[_,r2,t2,l2,F,e,h1,h2,h3]:=ay j _ (aad hj);rw[g]at F;cases F;show#[_,aad hj,t2,l2,e,((Y.trans s8).trans s9) _ _ h1,Z.free h2,((s6.trans Y).trans (s8.trans s9)) _ _ h3]
  w_up;f_tup;cases lv with
  |true=>
   lk;show eU ?_;show jf (pl:=_) g ϑ ?_;f_are;show#[A.b,cB mg,A.dx,_,true,1,_,iu mg Bk.now,rfl,(a.bk.bk.same cY).ins,by rfl,M2,(),id,A,B,rfl,a.bk.bk.same cY,?_];rw[a.bk.nw.now];show O
  |false=>
   lk;show Θ (λh=>?_) (λ_=>?_)
   .injection h with h
    show absurd h (by fin2)
   lk;show O
 w_up;show Κ ?_;lk;cases on with
 |true=>
  lk;f_len;show dU ?_;lk;show#[c,o,ln,v,B.heads,os,ls,ct,n,rfl,hC.same ((s2.trans s3).trans s4),hO.same Z,Uw,R.same Z,Ao,oK.ok,a.n1,a.n2,λt4 D us x y H5 s5 I yF hq i hx J=>?_];show ao (ο.of yF) (Ε (Β nd (by rfl) (.inl rfl) (.inl rfl) (Ε (Β nd (by rfl) (.inl rfl) (.inl rfl) (Ε (Β nd (by rfl) (.inl rfl) (.inl rfl) (Ε (Β nd (by rfl) (.inl rfl) (.inl rfl) (aj ?_)))))))));show rest D us x y H5 s5 I hq i hx J
 |false=>
  lk;f_len;show dU ?_;lk;show#[c,o,ln,v,B.heads,os,ls,ct,n,rfl,hC.same ((s2.trans s3).trans s4),hO.same Z,Uw,R.same Z,Ao,oK.ok,a.n1,a.n2,λt4 D us x y H5 s5 I yF hq i hx J=>?_];show ao (ο.of yF) (Ε (Β nd (by rfl) (.inl rfl) (.inl rfl) (Ε (Β nd (by rfl) (.inl rfl) (.inl rfl) (Ε (Β nd (by rfl) (.inl rfl) (.inl rfl) (Ε (Β nd (by rfl) (.inl rfl) (.inl rfl) (aj ?_)))))))));show rest D us x y H5 s5 I hq i hx J
inductive O5 (mg:Str->Option ε) (vs:List V) (H:Hp) (Q:VK) (E:XK):Prop
 |mk (A:BA) (B:Bk) (lv:Bool) (zo z:Str) (v:V) (os:List Ord) (c:Ct) (mo:Nat):vs=[.ref A.b,.str (ϙ lv),.str zo,.str z,v]->Ο (cB mg) H A B->B.now=(mo:Nat)->zo.length<=4000->gC B.heads zo=some os->dF H v c->(∀p H',ζ H H'->gA H' p lv mo os z c->Q (.ref p) H')->O5 mg vs H Q E
theorem v7(T:Txt K mg):Def P w K mg base true 4 "begin_of" ["book","make","order","sieve","cut"] (O5 mg):=by
 show Γ (N:=["book","make","order","sieve","cut"]) T.v7 (λf M O outer s H vs Q E l h=>?_);intro X _;let#[A,B,lv,x,z,v,os,ct,mo,rfl,a,g,y,m,i,q]:=h;let hsz:=ϳ;let R:= @xU P w K mg base T;let M2:ϟ P w K mg base true 1 (cB mg) "moment" ["self"] (iu mg Bk.now):=(v9 T).meth T.Ϝ T.xj;let C:ϟ P w K mg base true 1 (cB mg) "columns" ["self"] (ju mg):=(CQ T).meth T.Ϝ T.yq;f_len;show ω ?_;lk;show jf (pl:=_) l ϑ ?_;f_are;show#[A.b,cB mg,A.dx,_,true,1,_,iu mg Bk.now,rfl,a.ins,by rfl,M2,by decide,id,A,B,rfl,a,?_];lk;show jf (pl:=_) l ϑ ?_;f_are;show#[A.b,cB mg,A.dx,_,true,1,_,ju mg,rfl,a.ins,by rfl,C,by decide,id,A,B,rfl,a,λc H1 n D F=>?_];lk;show#[c,B.heads,x,rfl,F,y,(λH' _ e=>by rw[m]at e;cases e),λb G H2 u e I J=>?_];rw[m]at e;cases e;lk;show#[Δ,λp L=>?_];let j:=ζ.upd (o:=.tup [.str (ϙ lv),.int B.now,.ref b,.str z,v]) L;show q p _ ((n.trans u).trans j) #[b,v,by rw[υ,g],J.same j,i.same ((n.trans u).trans j)]
def acX(on:Bool):Ct:=if on=true then .start else .fin
inductive tR (K:ϩ) (mg:Str->Option ε) (t:Tr) (on:Bool) (vs:List V) (H:Hp) (Q:VK) (E:XK):Prop
 |mk (A:BA) (B:Bk) (lv:Bool) (os:List Ord) (zo:Str) (mo n:Nat):vs=[.ref A.b,.str (ϙ lv),.str zo,.str (sT B.heads t),.int (n:Nat)]->lU K mg H A B os t mo n->zo.length<=4000->gC B.heads zo=some os->ToldN lv B os t mo n on (acX on) H Q->tR K mg t on vs H Q E
theorem Gf(T:Txt K mg)(g:dW K mg base "sorted_by")(t:Tr):Def P w K mg base true (11+2*t.dep) "first_leaf" ["book","make","order","sieve","size"] (tR K mg t true):=by
 rw[show 11+2*t.dep=(10+2*t.dep)+1 by omega];show Γ (N:=["book","make","order","sieve","size"]) T.Gf (λf u v outer s H vs Q E x h=>?_);intro X _;let#[A,B,lv,os,i,mo,n,rfl,c,j,l,q]:=h;let hsz:=ϳ;let y:=T.T3;let z:= @v7 P w K mg base T;let C:Def P w K mg base true (10+2*t.dep) "leaf_from" ["book","mark","size","onward"] (pQ K mg t true):=nA T g t true;f_len;show ω ?_;lk;show#[Δ,λp m=>?_];let#[a,e1]:=ϋ m (.tup [.str ("start":Str)]);change EA _ _ _ (upd H p (.tup [.str ("start":Str)])) _;generalize upd H p (.tup [.str ("start":Str)])=H1 at a e1⊢;lk;show#[A,B,lv,i,_,_,os,.start,mo,rfl,(c.same a).bk.bk,c.bk.nw.now,j,l,#[p,rfl,e1],λmk H2 e o=>?_];lk;show#[A,B,mk,os,lv,mo,n,.start,rfl,c.same (a.trans e),o,.inl #[rfl,rfl],q.same (a.trans e)]
theorem yI(T:Txt K mg)(g:dW K mg base "sorted_by")(t:Tr):Def P w K mg base true (11+2*t.dep) "last_leaf" ["book","make","order","sieve","size"] (tR K mg t false):=by
 rw[show 11+2*t.dep=(10+2*t.dep)+1 by omega];show Γ (N:=["book","make","order","sieve","size"]) T.yI (λf u v outer s H vs Q E x h=>?_);intro X _;let#[A,B,lv,os,i,mo,n,rfl,c,j,l,q]:=h;let hsz:=ϳ;let y:=T.Uo;let z:= @v7 P w K mg base T;let C:Def P w K mg base true (10+2*t.dep) "leaf_from" ["book","mark","size","onward"] (pQ K mg t false):=nA T g t false;f_len;show ω ?_;lk;show#[Δ,λp m=>?_];let#[a,e1]:=ϋ m (.tup [.str ("end":Str)]);change EA _ _ _ (upd H p (.tup [.str ("end":Str)])) _;generalize upd H p (.tup [.str ("end":Str)])=H1 at a e1⊢;lk;show#[A,B,lv,i,_,_,os,.fin,mo,rfl,(c.same a).bk.bk,c.bk.nw.now,j,l,#[p,rfl,e1],λmk H2 e o=>?_];lk;show#[A,B,mk,os,lv,mo,n,.fin,rfl,c.same (a.trans e),o,.inr (.inl #[rfl,rfl]),q.same (a.trans e)]
inductive Qq (mg:Str->Option ε) (vs:List V) (H:Hp) (Q:VK) (E:XK):Prop
 |mk (A:BA) (B:Bk) (M:Mk):vs=[.ref A.b,.str (dR M)]->Ο (cB mg) H A B->ϊ B.heads=true->aW B.heads M->(M.moment:Int)<=B.now->(∀p H',ζ H H'->gA H' p M.living M.moment M.os M.sieve (.at_ M.cut.ahead M.cut.xs M.cut.row)->Q (.ref p) H')->Qq mg vs H Q E
theorem wL(T:Txt K mg):Def P w K mg base true 53 "read_good_mark" ["book","text"] (Qq mg):=by
 show Γ (S:=JW) T.wL (λf O R outer s H vs Q E j h=>?_);intro X _;let#[A,B,M,rfl,a,hok,n,u,q]:=h;let nd:=JW.nd;let U:= @FW P w K mg base T;let M2:ϟ P w K mg base true 1 (cB mg) "moment" ["self"] (iu mg Bk.now):=(v9 T).meth T.Ϝ T.xj;let x:ϟ P w K mg base true 1 (cB mg) "columns" ["self"] (ju mg):=(CQ T).meth T.Ϝ T.yq;w_up;generalize hz:dR M=z;f_tup;lk;show jf (pl:=_) j ϑ ?_;f_are;show#[A.b,cB mg,A.dx,_,true,1,_,ju mg,rfl,a.ins,by rfl,x,by decide,id,A,B,rfl,a,λc H1 y C D=>?_];lk;show#[c,M,B.heads,by rw[hz],D,hok,n,λp o l k v H2 F m W G e I J L _=>?_];let g:=y.trans F;w_up;show Κ ?_;lk;show ύ (ο.of m) (i:=1) rfl ?_;lk;show jf (pl:=_) j ϑ ?_;f_are;show#[A.b,cB mg,A.dx,_,true,1,_,iu mg Bk.now,rfl,(a.same g).ins,by rfl,M2,by decide,id,A,B,rfl,a.same g,?_];lk;show Θ (λh=>?_) (λ_=>?_)
 .show absurd h ()
 show Ζ ?_;f_len;show ω ?_;lk;show q p H2 g #[o,.ref l,m,G,l,k,rfl,e,v,I,L]
inductive qZ (K:ϩ) (mg:Str->Option ε) (t:Tr) (on:Bool) (vs:List V) (H:Hp) (Q:VK) (E:XK):Prop
 |mk (A:BA) (B:Bk) (lv:Bool) (os:List Ord) (mo n:Nat) (sd:Bool) (xs:List V) (k:Int):vs=[.ref A.b,cN lv mo os (sT B.heads t) (some (.at_ sd xs k)),.int (n:Nat)]->lU K mg H A B os t mo n->cZ B.heads os xs->0<=k->k<=1000000000->ToldN lv B os t mo n on (.at_ sd xs k) H Q->qZ K mg t on vs H Q E
theorem z9(T:Txt K mg)(i:dW K mg base "sorted_by")(t:Tr)(j:t.dep<=20):Def P w K mg base true 54 "turn_forth" ["book","mark","size"] (qZ K mg t true):=by
 show Γ (N:=["book","mark","size"]) T.z9 (λf p u outer s H vs Q E v h=>?_);intro X _;let#[A,B,lv,os,mo,n,sd,xs,k,rfl,a,e,k0,k1,q]:=h;let x:= @wL P w K mg base T;let y:Def P w K mg base true (10+2*t.dep) "leaf_from" ["book","mark","size","onward"] (pQ K mg t true):=nA T i t true;let l:(((k.toNat:Nat):Int))=k:=al9 k0;let m:=a.li.good (lv:=lv) (sd:=sd) e k1;f_len;show ω ?_;generalize hz:cN lv mo os (sT B.heads t) (some (.at_ sd xs k))=z;lk;show#[A,B,#[lv,mo,os,sT B.heads t,#[sd,k.toNat,xs]],by first|rfl|(rw[<-hz];rfl),a.bk.bk,a.li.ok,m,by have:=a.bk.nw.now;show(mo:Int)<=B.now;omega,λmk H1 g o=>?_];lk;show#[A,B,mk,os,lv,mo,n,.at_ sd xs k,rfl,a.same g,?_,.inr (.inr #[sd,xs,k,rfl,e,k0,k1]),q.same g];let c:gA H1 mk lv mo os (sT B.heads t) (.at_ sd xs ((k.toNat:Nat):Int)):=o;rw[l]at c;show c
theorem El(T:Txt K mg)(i:dW K mg base "sorted_by")(t:Tr)(j:t.dep<=20):Def P w K mg base true 54 "turn_back" ["book","mark","size"] (qZ K mg t false):=by
 show Γ (N:=["book","mark","size"]) T.El (λf p u outer s H vs Q E v h=>?_);intro X _;let#[A,B,lv,os,mo,n,sd,xs,k,rfl,a,e,k0,k1,q]:=h;let x:= @wL P w K mg base T;let y:Def P w K mg base true (10+2*t.dep) "leaf_from" ["book","mark","size","onward"] (pQ K mg t false):=nA T i t false;let l:(((k.toNat:Nat):Int))=k:=al9 k0;let m:=a.li.good (lv:=lv) (sd:=sd) e k1;f_len;show ω ?_;generalize hz:cN lv mo os (sT B.heads t) (some (.at_ sd xs k))=z;lk;show#[A,B,#[lv,mo,os,sT B.heads t,#[sd,k.toNat,xs]],by first|rfl|(rw[<-hz];rfl),a.bk.bk,a.li.ok,m,by have:=a.bk.nw.now;show(mo:Int)<=B.now;omega,λmk H1 g o=>?_];lk;show#[A,B,mk,os,lv,mo,n,.at_ sd xs k,rfl,a.same g,?_,.inr (.inr #[sd,xs,k,rfl,e,k0,k1]),q.same g];let c:gA H1 mk lv mo os (sT B.heads t) (.at_ sd xs ((k.toNat:Nat):Int)):=o;rw[l]at c;show c
def pA:List Ϩ->List Ϩ
 |(.For _ _ b _ _)::_=>b
 |_=>[]
structure eV(mg:Str->Option ε)(A:BA)(d:δ)(H:Hp)(B:Bk)(i:Nat):Prop where
 tb:Tb mg (d::A.fp) A d H B
 dk:oJ B i
 nw:wH B i
 tc:∀j k,Φ B.touched j=some k->k<=B.now
section
variable{A:BA}{d:δ}{H H':Hp}{B:Bk}{i:Nat}
theorem eV.same(h:eV mg A d H B i)(s:ζ H H'):eV mg A d H' B i:=#[h.tb.same s,h.dk,h.nw,h.tc]
theorem eV.deed(h:eV mg A d H B i){row:Int}{o:Option (List V)}(c:0<=row)(f:row<90)(hok:∀xs,o=some xs->Ω θ (row,xs))(g:Tb mg (d::A.fp) A d H' (gb B row o)):eV mg A d H' (gb B row o) (i+1):=by
 let n1:=h.nw.now;let n2:=h.nw.dl;show#[g,h.dk.deed c f hok,#[by show B.now+1=_;omega,h.nw.kn,by show(B.done++[_]).length=_;rw[ac7,afi];omega],λj k e=>?_];show k<=B.now+1;cases o with
 |none=>
  let a:Φ (dD B.touched row) j=some k:=e;rw[zZ]at a;split at a
  .cases a
  .have :=h.tc j k a;omega
 |some xs=>
  let a:Φ (bZ B.touched row (B.now+1)) j=some k:=e;rw[yG]at a;split at a
  .cases a;show Int.le_refl _
  .have :=h.tc j k a;omega
theorem eV.live(h:eV mg A d H B i):∀x∈d::A.fp,H x≠none:=λx hx e=>by
 obtain rfl|hx:=aaF.mp hx
 .let#[Ϸ,z,_]:=h.tb.ro;rw[e]at z;cases z
 .obtain⟨fs,z⟩|⟨Ϸ,z⟩|⟨xs,z⟩:=h.tb.bk.QZ hx<;>rw[e]at z<;>cases z
theorem Yv(T:Txt K mg){f:δ}{Ϻ:ε}{A':ϱ}{outer:List Env}{s0:μ}{H0:Hp}{E:XK}(Y:ϔ true 6 (A'.deeper (envOfC "_law_book" (ψ lg) s0.heap.objs.size f Ϻ))){sc:δ}{ns:List Int}{k:Nat}{D:Ends}(hS:η K H sc (ns.map V.int))(hl:ns.length<=63)(hk:k<15)(h:eV mg A d H B k)(zM:d∉A.six)(hD:∀B' H',Out (d::A.fp) H H'->eV mg A d H' B' (k+1)->∀L M F,D.nx [some (.ref sc),some (.ref A.b),some (.ref d),some (.int (k:Nat)),L,M,F] H'){L M F:Option V}:Ν (dM true P w K mg base zH "_law_book" (ψ lg) f Ϻ A' outer s0 H0 E) (pA ((aB lg).drop 2)) D [some (.ref sc),some (.ref A.b),some (.ref d),some (.int (k:Nat)),L,M,F] H:=by
 let nd:=GK.nd;let n2:=T.jW;let hsz:=ϳ;let q:_+1<cLine:=aeW (ahB (by decide:1<=64) _) Y.units;let G:=h.dk;let s:=G.small ();let hrl:=G.rl;let h6:B.heads.length<=6:=by rw[G.heads];decide
 let O:CP A d (d::A.fp):=#[zM,λx Q=>Q];let D0:= @nU P w K mg base T;let M1:ϟ P w K mg base true 6 (cB mg) "put" ["self","row","values"] (wF mg):=(XN T).meth T.Ϝ T.aaZ;let M2:ϟ P w K mg base true 6 (cB mg) "change" ["self","row","values"] (vM mg):=(Y7 T).meth T.Ϝ T.adH;let M3:ϟ P w K mg base true 4 (cB mg) "take" ["self","row"] (ux mg):=(Yy T).meth T.Ϝ T.adY;let CV:∀{H2 H3:Hp},Out A.fp H2 H3->Out (d::A.fp) H2 H3:=λo=>o.mono λx Q=>by simp[Q]
 let#[Ϸ,er,hR]:=id h.tb.ro;let hkl:=hR.len;let fin:∀(row:Int)(v:δ)(xs:List V)(H3:Hp)(c:List (Key×V)),0<=row->row<90->Ω θ (row,xs)->Out (d::A.fp) H H3->Ο (cB mg) H3 A (gb B row (some xs))->H3 d=some (.dK c)->ς (PR (LR (d::A.fp) H3)) c B.rows->H3 v=some (.lst xs)->v∉d::A.fp->∀L M F,D.nx [some (.ref sc),some (.ref A.b),some (.ref d),some (.int (k:Nat)),L,M,F] (upd H3 d (.dK (putK c (Sum.inl row) (.ref v)))):=λrow v xs H3 c p R hok a ab g l C I=>
  hD _ _ (a.trans (Out.upd (by simp))) (h.deed (o:=some xs) p R (λys e=>by cases e;show hok) (Tb.sZ O ab g (Cd l row #[v,rfl,C,I])))
 let rest:∀(row:Int)(x:V),0<=row->row<90->ϓ ("number":Str) x->Ν (dM true P w K mg base zH "_law_book" (ψ lg) f Ϻ A' outer s0 H0 E) ((pA ((aB lg).drop 2)).drop 3) D [some (.ref sc),some (.ref A.b),some (.ref d),some (.int (k:Nat)),some (.int row),some x,F] H:=by
  intro row x p R Q;k_go;show#[Δ,λp1 ac=>?_];let#[Z,e1]:=ϋ ac (.lst jL);change EV _ _ _ (upd H p1 (.lst jL)) _;generalize upd H p1 (.lst jL)=H1 at Z e1⊢;lk;show#[sc,ns,301+2*(k:Nat),6,rfl,Z.seq hS,hl,(),(),by decide,?_];let c0:=lA ns (301+2*(k:Nat)) (m:=6);let c1:=lY ns (301+2*(k:Nat)) (m:=6);generalize fZ ns (301+2*(k:Nat)) 6=dd at c0 c1⊢;let#[j,rfl]:=aeN c0;let hj:j<jL.length:=by show j<6;omega
  show ϥ (η.of e1) (v:=jL[j]) (bw (aad hj)) ?_;let hy:=agS _ (ah5 hj);generalize jL[j]=y at hy⊢;lk;show#[Δ,λv S=>?_];let#[s2,C]:=ϋ S (.lst [x,y]);generalize upd H1 v (.lst [x,y])=H2 at s2 C⊢;let U:=Z.trans s2;let I:v∉d::A.fp:=λz=>h.live v z (Z.free S)
  let n:=h.tb.same U;let J:=n.bk;let g2:=Ϟ.k (k:=Sum.inl row) (U _ _ er);let hok:Ω θ (row,[x,y]):=.cons Q (.cons hy .nil);f_len;show Κ ?_;lk;show V2 q g2 ?_;obtain⟨e1,W⟩|⟨u,x',e1,W,_⟩:=iM hR row
  .rw[show(ώ Ϸ (Sum.inl row)).isSome=false by rw[e1];rfl];lk;w_up;show bA ?_;show bO (pl:=_) Y ϑ (h:=?_);f_are;show#[A.b,cB mg,A.dx,_,true,6,_,wF mg,rfl,J.ins,by rfl,M1,by decide,id,?_];lk;show iW (.inl (η.of C)) λb hb=>?_
   let#[i,X]:=ϋ hb (.lst [x,y]);generalize upd H2 b (.lst [x,y])=H8 at i X⊢;lk;show#[A,B,row,b,[x,y],rfl,J.same i,X,h6,#[p,(),by rw[G.heads];show hok],s,λz=>absurd W z,λ_ H3 a k3=>?_];let#[c,g,l]:=(n.same i).book O a;let ae:=l.len;f_len;show rK q ?_;lk;show#[d,_,rfl,eN.k (k:=Sum.inl row) g (),?_];show fin row v [x,y] H3 c p R hok ((Out.of (U.trans i)).trans (CV a)) k3 g l (a _ _ (λz=>I (by simp[z])) (i _ _ C)) I _ _ _
  .rw[show(ώ Ϸ (Sum.inl row)).isSome=true by rw[e1];rfl];lk;f_len;show Κ ?_;lk;show Θ (λhw=>?_) (λhw=>?_)
   .w_up;show bA ?_;show bO (pl:=_) Y ϑ (h:=?_);f_are;show#[A.b,cB mg,A.dx,_,true,6,_,vM mg,rfl,J.ins,by rfl,M2,by decide,id,?_];lk;show iW (.inl (η.of C)) λb hb=>?_
    let#[i,X]:=ϋ hb (.lst [x,y]);generalize upd H2 b (.lst [x,y])=H8 at i X⊢;lk;show#[A,B,row,b,[x,y],rfl,J.same i,X,h6,#[p,(),by rw[G.heads];show hok],s,(λz=>by rw[W]at z;cases z),λ_ H3 a k3=>?_];let#[c,g,l]:=(n.same i).book O a;let ae:=l.len;f_len;show rK q ?_;lk;show#[d,_,rfl,eN.k (k:=Sum.inl row) g (),?_];show fin row v [x,y] H3 c p R hok ((Out.of (U.trans i)).trans (CV a)) k3 g l (a _ _ (λz=>I (by simp[z])) (i _ _ C)) I _ _ _
   .w_up;show bA ?_;show bO (pl:=_) Y ϑ (h:=?_);f_are;show#[A.b,cB mg,A.dx,_,true,4,_,ux mg,rfl,J.ins,by rfl,M3,by decide,id,?_];lk;show#[A,B,row,rfl,J,p,(),s,G.wf,(λz=>by rw[W]at z;cases z),λ_ H3 a k3=>?_];let#[c,g,l]:=n.book O a;f_len;show bA (Bl ?_);lk;show#[d,rfl,.inl #[_,.inl g],?_];lk;let af:∃v,ώ c (Sum.inl row)=some v:=by
     obtain⟨_,z⟩|⟨u,y,z,_⟩:=iM l row
     .rw[W]at z;cases z
     .show#[u,z]
    let#[vv,G4]:=af;show#[c,Sum.inl row,vv,g,rfl,G4,?_];show hD _ _ (((Out.of U).trans (CV a)).trans (Out.upd (by simp))) (h.deed (o:=none) p R (λys e=>by cases e) (Tb.sZ O k3 g (Cy l row))) _ _ _
 k_go;show#[sc,ns,500+(k:Nat),40,rfl,hS,hl,(),(),by decide,?_];let j0:=lA ns (500+(k:Nat)) (m:=40);let j1:=lY ns (500+(k:Nat)) (m:=40);generalize fZ ns (500+(k:Nat)) 40=row at j0 j1⊢;k_go;show#[sc,ns,300+2*(k:Nat),6,rfl,hS,hl,(),(),by decide,?_];let c0:=lA ns (300+2*(k:Nat)) (m:=6);let c1:=lY ns (300+2*(k:Nat)) (m:=6);generalize fZ ns (300+2*(k:Nat)) 6=dd at c0 c1⊢;lk;w_up;show Κ ?_;lk;show Θ (λ_=>?_) (λ_=>?_)
 .f_len;f_tup;lk;show rest row .non j0 () (.inl rfl)
 .show Ζ (rest row _ j0 () (.inr (.inl #[rfl,_,rfl,(),()])))
end
inductive Vk (K:ϩ) (mg:Str->Option ε) (vs:List V) (H:Hp) (Q:VK) (E:XK):Prop
 |mk (sc:δ) (ns:List Int):vs=[.ref sc]->η K H sc (ns.map V.int)->ns.length<=63->(∀p A d B mo H',ζ H H'->H' p=some (.tup [.ref A.b,.ref d])->eV mg A d H' B mo->mo<=14->Q (.ref p) H')->Vk K mg vs H Q E
theorem DN(T:Txt K mg):Def P w K mg base true 7 "_law_book" ["_law_script"] (Vk K mg):=by
 show Γ (S:=GK) T.DN (λf Ϻ A' outer s0 H vs Q E hr h=>?_);intro X _;let#[a,ns,rfl,L,hl,q]:=h;let nd:=GK.nd;let n1:=T.PN;let hsz:=ϳ;let D0:= @nU P w K mg base T;let MB:=(Yq (P:=P) (w:=w) (base:=base) T).make T.abn T.afL;let hsl:=Zu L;w_up;f_tup;show j5 MB hr (by decide) (λ_=>rfl) ϑ ?_;lk;show#[Δ,λc l=>?_];lk;show#[Δ,λg aK=>?_];lk;show#[Δ,λn Tc=>?_];let sa:=ζ.upd (o:=.tup [.str ("size":Str),.str ("number":Str)]) l;let M:=ζ.upd (o:=.tup [.str ("word":Str),.str ("text":Str)]) aK;let sc:=ζ.upd (o:=.lst [.ref c,.ref g]) Tc;let O:=(sa.trans M).trans sc;let Tn:Ϛ (upd (upd (upd H c (.tup [.str ("size":Str),.str ("number":Str)])) g (.tup [.str ("word":Str),.str ("text":Str)])) n (.lst [.ref c,.ref g])) n θ:=#[_,υ,.cons #[c,rfl,(M.trans sc) _ _ υ] (.cons #[g,rfl,sc _ _ υ] .nil)];change EA _ _ _ (upd (upd (upd H c (.tup [.str ("size":Str),.str ("number":Str)])) g (.tup [.str ("word":Str),.str ("text":Str)])) n (.lst [.ref c,.ref g])) _;generalize upd (upd (upd H c (.tup [.str ("size":Str),.str ("number":Str)])) g (.tup [.str ("word":Str),.str ("text":Str)])) n (.lst [.ref c,.ref g])=H2 at O Tn⊢;clear sa M sc l aK Tc;lk;intro y dx hy s Ϲ;let R:ζ H2 (upd (upd H2 dx (.own y)) y (.ins (cB mg) dx [])):=λb u e=>by
  rw[ρ (λz=>by rw[z,hy]at e;cases e),ρ (λz=>by rw[z,s]at e;cases e)];show e
 show#[y,dx,n,θ,rfl,υ,by rw[ρ Ϲ,υ],Tn.same R,qb,λH3 A eb CG f1 f2 f3 f4 o3 k3=>?_];let#[s3,U]:=made hy s eb CG f1 f2 f3 f4 o3;subst eb;show#[rfl,?_];let bJ:=O.trans s3;w_up;f_tup;show Gr λd hd=>?_
 let#[W,ed]:=ϋ hd (.dK []);generalize upd H3 d (.dK [])=Y at W ed⊢;let fQ:=bJ.trans W;let k4:=k3.same W;let zM:d∉A.six:=λz=>k3.on6 d z hd
 let uw:∀x∈d::A.fp,H x=none:=λx hx=>by
  obtain rfl|hx:=aaF.mp hx
  .show bJ.free hd
  .show O.free (U x (QB x hx))
 let Z:=fQ.seq L;let Pg:∀{H'},Out (d::A.fp) Y H'->ζ H H':=λo b u e=>o _ _ (λz=>by rw[uw b z]at e;cases e) (fQ _ _ e)
 let S4:eV mg A d Y #[θ,[],[],[],0,0] 0:=#[#[k4,[],ed,.nil],#[rfl,.nil,λi=>#[λ_=>rfl,λ_=>rfl],(λp v=>by cases v),(λp v=>by cases v),Ϭ _,Ϭ _,Ϭ _],#[rfl,rfl,rfl],(λj k e=>by cases e)];w_up;show Oo (by walk_at"po") (by rfl) (by rfl) n1 (by rfl) ?_;lk;show#[a,ns,0,15,rfl,Z,hl,by decide,by decide,by decide,?_];let c0:=lA ns 0 (m:=15);let c1:=lY ns 0 (m:=15);generalize fZ ns 0 15=cc at c0 c1⊢;let#[C,rfl]:=aeN c0;show#[(C:Nat),rfl,(),(),λi σ H'=>∃o4 D F G,σ=[some (.ref a),some (.ref A.b),some (.ref d),o4,D,F,G]/\Out (d::A.fp) Y H'/\∃B,eV mg A d H' B i,#[none,none,none,none,rfl,Out.refl _ _,_,S4],λi σ' H' hi hP=>?_,λσ' H' hP=>?_]
 .let#[o4,D,F,G,rfl,I,B,J]:=hP;show Β nd (by rfl) (.inl rfl) (.inl rfl) ?_;show Yv T hr ((Pg I).seq L) hl () J zM ?_;show λB' H5 o9 h6 D F G=>#[_,_,_,_,rfl,I.trans o9,B',h6]
 let#[o4,D,F,G,rfl,I,B,J]:=hP;rw[show((C:Nat):Int).toNat=C from am8 C]at J;f_len;show ω ?_;lk;show#[Δ,λp v=>?_];let s9:=ζ.upd (o:=.tup [.ref A.b,.ref d]) v;show q p A d B C _ ((Pg I).trans s9) υ (J.same s9) ()
end
end K93
namespace K93
open PySem L2 PyProof.Rows My Vl Lw
section
variable{P:Ϯ}{w:ϭ}{K:ϩ}{mg:Str->Option ε}{base:ϫ}
def jt(H:Hp)(S:List δ)(H':Hp)(v:V)(r:Row):=∃t l,v=.ref t/\H t=none/\H l=none/\t∉S/\l∉S/\H' t=some (.tup [.int r.1,.ref l])/\H' l=some (.lst r.2)
theorem jt.same{H H' H2:Hp}{S:List δ}{v:V}{r:Row}(h:jt H S H' v r)(s:Out S H' H2):jt H S H2 v r:=by
 let#[t,l,e,h1,h2,a,c,f,g]:=h;show#[t,l,e,h1,h2,a,c,s _ _ a f,s _ _ c g]
theorem jt.row{H H':Hp}{S:List δ}{v:V}{r:Row}(h:jt H S H' v r):cA H' v r:=by
 let#[t,l,e,h1,h2,f,g,a,c]:=h;show#[t,l,e,a,c]
inductive LC (K:ϩ) (vs:List V) (H:Hp) (Q:VK) (E:XK):Prop
 |mk (F:List δ) (d b:δ) (k:Nat) (os:List Ord) (m:List Row):vs=[.ref d,.ref b,.int (k:Nat)]->Di F H d m->bc H b os->aO θ os->k<4->(m.map Prod.fst).Nodup->m.length<64->(∀r∈m,Ω θ r)->(∀p ws ls H',ζ H H'->H p=none->H' p=some (.lst ws)->ς (jt H [p] H') ws ls->Line θ os ls->ls.Perm (m.filter λr=>Ϡ r.2 (ϣ k))->Q (.ref p) H')->LC K vs H Q E
theorem ahJ{os:List Ord}(a:aO θ os){r q:Row}(f:Ω θ r)(g:Ω θ q)(j:¬r.1=q.1)(h:aU θ os r q=false):aU θ os q r=true:=by
 let i:=bV f a;let c:=bV g a;let h':ak os (au θ os r.2) (au θ os q.2) r.1 q.1=false:=h;show ak os (au θ os q.2) (au θ os r.2) q.1 r.1=true;by_cases e:au θ os r.2=au θ os q.2
 .rw[e,vf c.len.symm]at h'⊢;have:=of_decide_eq_false h';show decide_eq_true ()
 .rw[KR i c e,h'];rfl
theorem M6{os:List Ord}(a:aO θ os){r q p:Row}(c:Ω θ r)(e:Ω θ q)(f:Ω θ p)(h1:aU θ os r q=true)(h2:aU θ os q p=true):aU θ os r p=true:=tQ (bV c a) (bV e a) (bV f a) h1 h2
def vC(os:List Ord)(rs:List Row)(i j:Nat):Prop:=j<i/\∀x,rs[j]?=some x->∀m q,m<i->¬m=j->rs[m]?=some q->aU θ os x q=true
theorem vC.next{os:List Ord}{rs:List Row}(s:aO θ os)(p:∀r∈rs,Ω θ r)(v:(rs.map Prod.fst).Nodup){i j:Nat}{x y:Row}(h:vC os rs i j)(g:rs[j]?=some x)(n:rs[i]?=some y):vC os rs (i+1) (if aU θ os y x=true then i else j):=by
 let#[h1,h2]:=h;let l:=p x (aak g);let u:=p y (aak n);let z:¬y.1=x.1:=λe=>by
  let a:(rs.map Prod.fst)[i]?=some y.1:=by rw[aci,n];rfl
  let b:(rs.map Prod.fst)[j]?=some y.1:=by rw[aci,g,e];rfl
  have:=(anf (aai.mp a).1 v).mp (a.trans b.symm);omega
 split
 .next o=>
  show#[(),λB c m q C D f=>?_];rw[n]at c;cases c;by_cases e:m=j
  .rw[e,g]at f;cases f;show o
  .show M6 s u l (p q (aak f)) o (h2 x g m q () e f)
 .next o=>
  show#[(),λB c m q C E f=>?_];rw[g]at c;cases c;by_cases e:m=i
  .rw[e,n]at f;cases f;show ahJ s u l z (by simpa using o)
  .show h2 x g m q () E f
theorem Sx{α β:Type}{R:α->β->Prop}:∀{l:List α}{m:List β},ς R l m->∀j,ς R (l.eraseIdx j) (m.eraseIdx j)
 |_,_,.nil,_=>.nil
 |_,_,.cons _ t,0=>t
 |_,_,.cons h t,j+1=>.cons h (Sx t j)
structure Ez(H:Hp)(a p:δ)(os:List Ord)(all rs ls:List Row)(ws us:List V)(H':Hp):Prop where
 sm:ζ H H'
 ea:H' a=some (.lst ws)
 ep:H' p=some (.lst us)
 rw_:ς (jt H [a,p] H') ws rs
 lw:ς (jt H [a,p] H') us ls
 pm:(ls++rs).Perm all
 ln:Line θ os ls
 lt:∀r∈ls,∀q∈rs,aU θ os r q=true
theorem Eh(T:Txt K mg):Def P w K mg base true 2 "_law_line" ["_law_table","_law_order_here","_law_sieve"] (LC K):=by
 show Γ (S:=Kz) T.Eh (λ_ _ A _ s H vs Q E O h=>?_);intro X _;let#[F,d,b,k,os,m,rfl,#[Ϸ,er,hR],hO,ϻ,hk,ap,RG,ae,q]:=h;let nd:=Kz.nd;let n1:=T.tV;let n2:=T.jW;let n3:=T.bF;let hsz:=ϳ;let ar:=aeW (ahB (show 1<=64 by decide) _) O.units;let hu:=O.units;let jh:(["_law_row","_law_table","_law_sieve"]:List Str).Nodup:=by fin2
 let D1:= @Bs P w K mg base T;let D2:= @Bj P w K mg base T;w_up;show aaJ ["_law_row","_law_table","_law_sieve"] (σ':=[none,some (.ref d),some (.int (k:Nat))]) (by rfl) (by rfl) (by rfl) (b7 (ψ CT)) (by intro _;rfl) nd (by rfl) (by rfl) ?_;walk_at"cb";lk;show Kq (ks:=m.map Prod.fst) (by rfl) er (Ua hR) (by rw[abd];show RG) λL ks f ah hso=>?_
 let#[s1,eL]:=ϋ f (.lst (ks.map V.int));generalize upd H L (.lst (ks.map V.int))=H1 at s1 eL⊢;let hkl:ks.length=m.length:=by rw[ah.length_eq,abd]
 let aT:(ks.map V.int).length=ks.length:=abd ..;let a0:=MP ap ah;let a1:∀i row,ks[i]?=some row->∃l xs,ώ Ϸ (Sum.inl row)=some (.ref l)/\H l=some (.lst xs)/\ Ω θ (row,xs)/\(aP m ks).getD i (0,[])=(row,xs):=λi row B=>by
  let av:row∈m.map Prod.fst:=ah.mem_iff.mp (aak B);obtain⟨_,z⟩|⟨u,xs,I,af,l,rfl,J,_⟩:=iM hR row
  .show absurd av (yN.mp z)
  show#[l,xs,I,J,ae _ (ahA af),?_];rw[acn];unfold aP;rw[aci,B];show(row,(Φ m row).getD [])=_;rw[af];rfl
 let a2:(aP m ks).length=ks.length:=by unfold aP;rw[abd]
 show#[L,_,rfl,η.of eL,(),λτ=>∃o1,τ=[o1,some (.ref d),some (.int (k:Nat))],λi=>Ϡ ((aP m ks).getD i (0,[])).2 (ϣ k),λg i u H'=>∃t l,u=.ref t/\H t=none/\H l=none/\t≠g/\l≠g/\H' t=some (.tup [.int ((aP m ks).getD i (0,[])).1,.ref l])/\H' l=some (.lst ((aP m ks).getD i (0,[])).2),#[none,rfl],λg i v H2 H3 ys hE hk h=>?_,λfp g C s3 H0 i τ x H2 aN hx a3 sm U=>?_,λg H2 us aN e2 hA sm=>?_]
 .let#[t,l,e,h1,h2,h3,h4,h5,h6]:=h;show#[t,l,e,h1,h2,h3,h4,hk _ _ h3 h5,hk _ _ h4 h6]
 .let#[o1,rfl]:=a3;let#[ys,U]:=U;rw[aci]at hx;let#[row,B,rfl]:=ah6.mp hx;let#[l,xs,I,J,uU,Bp]:=a1 i row B;let Η :=s1.trans sm;let dg:∀{H2:Hp},ζ H H2->Ϟ H2 d (.int row) (some (.ref l)):=λD=>by
   have:=Ϟ.k (k:=Sum.inl row) (D _ _ er);rw[I]at this;show this
  show Β jh (by rfl) (.inl rfl) (.inr rfl) ?_;show Gv (λ_=>by rfl) ?_;lk;show G5 ar (dg Η) ?_;lk;show#[k,l,(row,xs),rfl,hk,Η _ _ J,uU,?_];show#[_,rfl,(by show Ϡ xs (ϣ k)=Ϡ ((aP m ks).getD i (0,[])).2 (ϣ k);rw[Bp]),#[_,rfl],ζ.refl _,λ_=>?_];lk;show G5 ar (dg Η) ?_;lk;show iW (.inl (η.of (Η _ _ J))) λl2 W=>?_
  let#[D,wY]:=ϋ W (.lst xs);generalize upd H2 l2 (.lst xs)=H3 at D wY⊢;lk;show#[Δ,λt ht=>?_];let s3:ζ H3 (upd H3 t (.tup [.int row,.ref l2])):=ζ.upd ht;show#[#[t,l2,rfl,(Η.trans D).free ht,Η.free W,λz=>?_,λz=>?_,by rw[Bp];show υ,by rw[Bp];show s3 _ _ wY],D.trans s3]
  .rw[z,D _ _ U]at ht;cases ht
  .rw[z,U]at W;cases W
 rw[aT, <-a2]at hA;let yC:=Fy (R:=λ(u:V)(r:Row)=>∃t l,u=.ref t/\H t=none/\H l=none/\t≠g/\l≠g/\H2 t=some (.tup [.int r.1,.ref l])/\H2 l=some (.lst r.2)) (λi=>(aP m ks).getD i (0,[])) hA;rw[Iu (aP m ks) λr=>Ϡ r.2 (ϣ k)]at yC;let su:=a0.filter λr=>Ϡ r.2 (ϣ k)
 generalize(aP m ks).filter (λr=>Ϡ r.2 (ϣ k))=Y at yC su;let ag:∀r∈Y,Ω θ r:=λr O=>ae r (aiK.mp (su.mem_iff.mp O)).1
 let a4:(Y.map Prod.fst).Nodup:=(su.map Prod.fst).nodup_iff.mpr (ap.sublist (List.Sublist.map _ al8));let J:Y.length<64:=aeW (aeP (aka su.length_eq) (aix ..)) RG;k_go;show#[Δ,λp hp=>?_];let#[D,ep]:=ϋ hp (.lst []);generalize upd H2 p (.lst [])=H3 at D ep⊢;let a5:=(s1.trans sm).trans D;let aw:H p=none:=(s1.trans sm).free hp;let a6:H g=none:=s1.free aN;let Ue:g≠p:=λz=>by rw[z,hp]at e2;cases e2
 let a7:Ez H g p os Y Y [] us [] H3:=#[a5,D _ _ e2,ep,yC.imp λu r z=>by
  let#[t,l,e,h1,h2,h3,h4,h5,h6]:=z;show#[t,l,e,h1,h2,(λz=>by
   obtain z|z:=aaF.mp z
   .show h3 z
   .rw[acy.mp z,hp]at h5;cases h5),(λz=>by
   obtain z|z:=aaF.mp z
   .show h4 z
   .rw[acy.mp z,hp]at h6;cases h6),D _ _ h5,D _ _ h6],.nil,List.Perm.refl _,.nil,(λr O=>by cases O)]
 w_up;show Nm (by walk_at"po") (λmm σ H4=>∃o5 G rs ls ws us,σ=[some (.ref d),some (.ref b),some (.int (k:Nat)),some (.ref g),some (.ref p),o5,G]/\Ez H g p os Y rs ls ws us H4/\mm=rs.length) Y.length #[none,none,Y,[],us,[],rfl,a7,rfl] λmm σ H4 hW=>?_
 let#[o5,G,rs,ls,ws,us,rfl,f,rfl]:=hW;let ax:=f.rw_.len;let kW:=f.lw.len;let a8:=f.pm.length_eq;rw[ac7]at a8;let V0:η K H4 g ws:=η.of f.ea;lk;show Θ (λay=>?_) (λay=>?_)
 .let a9:0<rs.length:=()
  let n:∀r∈rs,Ω θ r:=λr O=>ag r (f.pm.mem_iff.mp (adW _ O))
  let hfl:∀r∈ls,Ω θ r:=λr O=>ag r (f.pm.mem_iff.mp (ajP _ O))
  let aA:(rs.map Prod.fst).Nodup:=((f.pm.map Prod.fst).nodup_iff.mpr a4).sublist (List.Sublist.map _ (List.sublist_append_right ls rs));let#[x0,aC,hr0]:=f.rw_.get' (aad a9);show#[λσ' H'=>∃o5 G M ai al am,σ'=[some (.ref d),some (.ref b),some (.int (k:Nat)),some (.ref g),some (.ref p),o5,G]/\Ez H g p os Y M ai al am H'/\M.length<rs.length,λσ' H' hN=>?_,?_]
  .let#[o5,G,M,ai,al,am,e,h1,h2]:=hN;show#[M.length,h2,o5,G,M,ai,al,am,e,h1,rfl]
  k_go;show ϥ V0 (i:=((0:Nat):Int)) (bw aC) ?_;w_up;show zx (by walk_at"po") (by rfl) (by intro _;rfl) ?_;lk;show jX V0 λq0 ba=>?_
  rw[show bu ws (some 1) none=ws.drop 1 from yM ws 1];let#[s5,e5]:=ϋ ba (.lst (ws.drop 1));generalize upd H4 q0 (.lst (ws.drop 1))=H5 at s5 e5⊢;show#[q0,_,rfl,η.of e5,λi σ' H'=>∃j G x,σ'=[some (.ref d),some (.ref b),some (.int (k:Nat)),some (.ref g),some (.ref p),some x,G]/\ζ H5 H'/\vC os rs (i+1) j/\ws[j]?=some x,#[0,G,x0,rfl,ζ.refl _,#[(),λx _ m q hm Ϲ=>absurd (show m=0 by omega) Ϲ],aC],λi σ' H' _ hP=>?_,λi x σ' H' hx hP=>?_,λσ' H' hP=>?_]
  .let#[j,G,x,_,s6,_]:=hP;show η.of (s6 _ _ e5)
  .let#[j,G,x',rfl,s6,bb,hj]:=hP;rw[amd,Nat.add_comm]at hx;let#[r,o,uf]:=f.rw_.get hx;let#[r',aE,bd]:=f.rw_.get hj;let Z:=s5.trans s6;show Β nd (by rfl) (.inl rfl) (.inl rfl) ?_;f_len;show Κ ?_;lk;show#[b,x,x',os,r,r',rfl,hO.same (f.sm.trans Z),ϻ,uf.row.same Z,bd.row.same Z,n r (aak o),n r' (aak aE),λH7 s7=>?_];let ab:=bb.next ϻ n aA aE o;cases hlt:aU θ os r r' with
   |true=>
    rw[if_pos hlt]at ab;lk;f_len;f_tup;lk;show#[i+1,some x,x,rfl,s6.trans s7,ab,hx]
   |false=>
    rw[if_neg (by rw[hlt];show abj)]at ab;lk;show Ζ #[j,some x,x',rfl,s6.trans s7,ab,hj]
  let#[j,G,x,rfl,s6,#[be,aI],hj]:=hP;rw[adX,am7 (),ax]at be;rw[adX,am7 (),ax]at aI;let Z:=s5.trans s6;let#[r,o,uf]:=f.rw_.get hj;let aK:=aI r o;let Rq:=Z _ _ f.ea;let uL:ς (cA H') ws rs:=f.rw_.imp λu r z=>z.row.same Z
  let ac:r∈rs:=aak o;w_up;show bA (dC PySem.F.plainAttrs_list PySem.F.slot_list_remove PySem.F.type_list_remove (h:=?_));f_are;show#[.inl #[rfl,_,η.of Rq],?_];lk;let bg:RD K H' x (b8 r):=by
   let#[t,l,rfl,h1,h2]:=uf.row.same Z;show .tup (ο.of h1) (.cons (.int _) (.cons (.lst (η.of h2) (uv (acz.mpr λx hx=>((n r ac).lay x hx).1))) .nil))
  show aco (ds:=rs.map b8) (d:=b8 r) (j:=j) hu Rq (RM uL n) bg (λy hy=>?_) (wg (n r ac)) #[b8 r,by rw[aci,o];rfl,SeqAt.eqv_refl _ (wg (n r ac))] (λm y hm hy=>?_) ?_
  .let#[q,hq,rfl]:=adw.mp hy;show#[wg (n q hq),aeP (Sy q) (by decide)]
  .rw[aci]at hy;let#[q,hq,rfl]:=ah6.mp hy;let Ϲ:¬q.1=r.1:=λe=>by
    let a:(rs.map Prod.fst)[m]?=some q.1:=by rw[aci,hq];rfl
    let c:(rs.map Prod.fst)[j]?=some q.1:=by rw[aci,o,e];rfl
    have:=(anf (aai.mp a).1 aA).mp (a.trans c.symm);omega
   show((decide (q.1=r.1))&&_)=false;rw[decide_eq_false Ϲ];rfl
  let o7:Out [g,p] H' (upd H' g (.lst (ws.eraseIdx j))):=Out.upd (by simp);let e7:(upd H' g (.lst (ws.eraseIdx j))) g=some (.lst (ws.eraseIdx j)):=υ;let p7:(upd H' g (.lst (ws.eraseIdx j))) p=some (.lst us):=by rw[ρ Ue.symm];show Z _ _ f.ep
  generalize upd H' g (.lst (ws.eraseIdx j))=H7 at o7 e7 p7⊢;f_len;show bA (dC PySem.F.plainAttrs_list PySem.F.slot_list_append PySem.F.type_list_append (h:=?_));f_are;show#[.inl #[rfl,_,η.of p7],?_];lk;show iU Bo #[p,us,_,rfl,rfl,p7,(),?_];let o8:Out [g,p] H7 (upd H7 p (.lst (us++[x]))):=Out.upd (by simp);let out:Out [g,p] H4 (upd H7 p (.lst (us++[x]))):=((Out.of Z).trans o7).trans o8;let aR:(r::rs.eraseIdx j).Perm rs:=by
   let e:rs.drop j=r::rs.drop (j+1):=rA o;rw[List.eraseIdx_eq_take_drop_succ];show List.perm_middle.symm.trans ?_;rw[<-e,List.take_append_drop]
  let aS:∀z∈rs.eraseIdx j,z∈rs:=λz hz=>List.mem_of_mem_eraseIdx hz
  show#[_,_,rs.eraseIdx j,ls++[r],ws.eraseIdx j,us++[x],rfl,#[λa u e=>?_,by rw[ρ Ue];show e7,υ,Sx (f.rw_.imp λu r z=>z.same out) j,(f.lw.imp λu r z=>z.same out).app (.cons (uf.same out) .nil),?_,?_,λz hz y hy=>?_],?_]
  .show out _ _ (λz=>by
    obtain z|z:=aaF.mp z
    .rw[z,a6]at e;cases e
    .rw[acy.mp z,aw]at e;cases e) (f.sm _ _ e)
  .rw[amm];show(List.Perm.append_left ls aR).trans f.pm
  .show List.pairwise_append.mpr #[f.ln,amu ..,λz hz y hy=>by rw[acy.mp hy];show f.lt z hz r ac]
  .obtain hz|hz:=ae6.mp hz
   .show f.lt z hz y (aS y hy)
   .rw[acy.mp hz];let#[m,hm,e1,e2]:=List.mem_eraseIdx_iff_getElem.mp hy;show aK m y hm e1 (by rw[aad hm,e2])
  .have :=aR.length_eq;rw[adx]at this;omega
 .let e0:rs=[]:=akz ();subst e0;let LQ:=f.pm;rw[alG]at LQ;f_len;show ω ?_;lk;show q p us ls H4 f.sm aw f.ep (f.lw.imp λu r z=>by
   let#[t,l,e,h1,h2,h3,h4,h5,h6]:=z;show#[t,l,e,h1,h2,λz=>h3 (by simp[acy.mp z]),λz=>h4 (by simp[acy.mp z]),h5,h6]) f.ln (LQ.trans su)
def ou(v:V)(c:Prop):Prop:=(v=.non/\c)\/∃z,v=.str z/\¬c
theorem VM{v:V}{c:Prop}[Decidable c](h:ou v c):decide (v=.non)=decide c:=by
 obtain⟨rfl,h⟩|⟨z,rfl,h⟩:=h
 .rw[decide_eq_true h];rfl
 .rw[decide_eq_false h];rfl
inductive Ut (vs:List V) (H:Hp) (Q:VK) (E:XK):Prop
 |mk (pf ln q0:δ) (ls:List Row) (lw us:List V) (i j:Nat) (mo:Int) (bk fo:V):vs=[.ref pf,.ref ln,.int (i:Nat),.int (j:Nat),.int mo]->H pf=some (.tup [.ref q0,bk,fo,.int (ls.length:Nat),.int (i:Nat),.int mo])->H q0=some (.lst us)->ς (jB H) us ((Μ ls i j).map λr=>(r.1,r.2,true))->H ln=some (.lst lw)->ς (cA H) lw ls->(∀r∈ls,Ω θ r)->ls.length<=1000->i<=j->j<=ls.length->ou bk (i=0)->ou fo (j=ls.length)->(∀H',ζ H H'->Q (.bl true) H')->Ut vs H Q E
theorem By(T:Txt K mg):Def P w K mg base true 1 "_law_leaf" ["_law_leaf_here","_law_line_here","_law_at","_law_after","_law_moment"] Ut:=by
 show Γ (S:=Pu) T.By (λ_ _ _ _ _ H vs Q E g h=>?_);intro X _;let#[pf,ln,q0,ls,lw,us,i,j,mo,bk,fo,rfl,v,y,B,Y,Z,o,hll,D,F,tZ,G,q]:=h;let nd:=Pu.nd;let n1:=T.bF;let hsz:=ϳ;let hu:=g.units;let jh:(["_law_one"]:List Str).Nodup:=by fin2
 let mK:=Z.len;let hsl:(Μ ls i j).length=j-i:=tY ls F;w_up;show dU ?_;lk;show ao (ο.of v) ?_
 iterate 6 show Ε (Β nd (by rfl) (.inl rfl) (.inl rfl) ?_)
 show aj (Nq (Κ ?_));lk;show lG ["_law_one"] (σ':=[none]) (b7 (ψ yE)) ?_;lk;show jX (η.of Y) λp3 I=>?_
 rw[Ug lw i j D ()];let#[J,e4]:=ϋ I (.lst (Μ lw i j));generalize upd H p3 (.lst (Μ lw i j))=H4 at J e4⊢;let K3:ς (cA H) (Μ lw i j) (Μ ls i j):=UT Z;let ajU:=K3.len;show#[p3,_,rfl,η.of e4,(),λτ=>∃o1,τ=[o1],λL n u H'=>u≠.ref L/\∃r t l,(Μ ls i j)[n]?=some r/\u=.ref t/\H' t=some (.tup [.int r.1,.ref l,.bl true])/\H l=some (.lst r.2),#[none,rfl],λL n u H8 H9 ys hE hk p=>?_,λfp L C s9 H8 n τ x H6 H7 aN hi M Ξ m hG=>?_,λq1 H5 Hk hq1 hl8 O e8 s5=>?_]
 .let#[h0,r,t,l,g,e,h1,h2]:=p;show#[h0,r,t,l,g,e,hk _ _ (λz=>h0 (by rw[e,z])) h1,h2]
 .let#[o1,rfl]:=M;let#[bz,rfl]:=hG;let#[r,g,tr,lr,rfl,R,a]:=K3.get bz;let#[ys,m]:=m;let Ju:ο K H6 tr [.int r.1,.ref lr]:=ο.of ((J.trans Ξ) _ _ R);show Β jh (by rfl) (.inl rfl) (.inr rfl) ?_;lk;show ύ Ju (i:=0) rfl ?_;lk;show ύ Ju (i:=1) rfl ?_;lk;show#[Δ,λt2 U=>?_];show#[#[_,rfl],#[λz=>?_,r,t2,lr,g,rfl,υ,a],ζ.upd U];injection z with z
  rw[z,m]at U;cases U
 let s:=J.trans s5;let tK:ς (jB H5) Hk ((Μ ls i j).map λr=>(r.1,r.2,true)):=ph (by rw[abd];omega) λn r' c=>by
  rw[aci]at c;let#[r,g,rfl]:=ah6.mp c;let hj:n<Hk.length:=by have:=(aai.mp g).1;omega
  let#[_,r',t,l,c,e,h1,h2]:=O n _ (aad hj);rw[g]at c;cases c;show#[_,aad hj,t,l,e,h1,s _ _ h2]
 let a:layR ((Μ ls i j).map λr=>(r.1,r.2,true)):=λr g x hx=>by
  let#[r0,W,rfl]:=adw.mp g;show(o r0 (aeY (afu W))).lay x hx
 let Wj:=B.imp λu r z=>jB.same z s
 let f:(PyData.list (((Μ ls i j).map λr=>(r.1,r.2,true)).map dI)).canLay0=true:=Av a;let pC:(PyData.list (((Μ ls i j).map λr=>(r.1,r.2,true)).map dI)).depth<=60:=by
  have:=yV ((Μ ls i j).map λr=>(r.1,r.2,true));simp only[PyData.depth];omega
 show zu hu (.lst (η.of (s _ _ y)) (ym Wj a)) (.lst (η.of e8) (ym tK a)) f f pC ?_;rw[SeqAt.eqv_refl _ f];lk;let sql:η K H5 ln lw:=η.of (s _ _ Y);show Ζ ?_;w_up;show Κ (mF ?_);lk;show fj (λh=>absurd (by rw[mK]) h) (λ_=>?_);lk;show fj (λh=>absurd rfl h) (λ_=>?_);lk;show fj (λh=>absurd rfl h) (λ_=>?_);show Ζ ?_;f_len;show ω ?_;let e1:V.bl (decide (bk=V.non))=V.bl (decide (V.int (i:Nat)=V.int 0)):=congrArg V.bl ((VM tZ).trans (decide_eq_decide.mpr #[λe=>by rw[e];rfl,λe=>by injection e with e;omega]));let e2:V.bl (decide (fo=V.non))=V.bl (decide (V.int (j:Nat)=V.int (lw.length:Nat))):=congrArg V.bl ((VM G).trans (decide_eq_decide.mpr #[λe=>by rw[e,mK],λe=>by injection e with e;omega]));lk;show Θ (λ_=>?_) (λh=>absurd e1 h);lk;rw[decide_eq_true e2];show q _ s
theorem Cr{α:Type}{p:α->Bool}:∀{l:List α}{i:Nat},i<=l.length->(∀j x,l[j]?=some x->p x=decide (j<i))->l.countP p=i
 |[],i,hi,_=>by simp at hi;rw[hi];rfl
 |x::l,0,_,h=>amY.mpr λy a=>by
  let#[j,c,e]:=al5 a;rw[h j y (by rw[aad c,e])];simp
 |x::l,i+1,hi,h=>by
  let f:=h 0 x rfl;rw[amv (by rw[f];rfl),Cr (i:=i) (by simpa using hi) λj y a=>by rw[h (j+1) y (by simpa using a)];simp]
theorem xq{os:List Ord}{ls:List Row}(h:Line θ os ls){i j:Nat}{r q:Row}(a:i<j)(c:ls[i]?=some r)(e:ls[j]?=some q):aU θ os r q=true:=by
 let#[h1,e1]:=aai.mp c;let#[h2,f]:=aai.mp e;rw[<-e1, <-f];show aly.mp h i j h1 h2 a
theorem Dd{os:List Ord}(a:aO θ os){r:Row}(c:Ω θ r):aU θ os r r=false:=by
 show ak os _ _ r.1 r.1=false;rw[vf (bV c a).len.symm];show decide_eq_false ()
theorem Tz{os:List Ord}(c:aO θ os){r q:Row}(a:Ω θ r)(f:Ω θ q)(h:aU θ os r q=true):aU θ os q r=false:=by
 cases e:aU θ os q r with
 |false=>rfl
 |true=>
  have:=M6 c a f a h e;rw[Dd c a]at this;cases this
theorem Hv{os:List Ord}(f:aO θ os){ls:List Row}(l:∀r∈ls,Ω θ r)(g:Line θ os ls){i:Nat}{r:Row}(e:ls[i]?=some r)(sd:Bool):Ϣ θ os (.at_ sd (au θ os r.2) r.1) ls=i+(if sd=true then 0 else 1):=by
 let hi:=(aai.mp e).1;let c:=l r (aak e);cases sd with
 |true=>
  show Ϣ θ os (.at_ true (au θ os r.2) r.1) ls=i;show Cr () λj q a=>?_
  show aU θ os q r=decide (j<i);let m:=l q (aak a);obtain h|h|h:=ang j i
  .rw[xq g h a e,decide_eq_true h]
  .subst h;rw[e]at a;cases a;rw[Dd f c,decide_eq_false ()]
  .rw[Tz f c m (xq g h e a),decide_eq_false ()]
 |false=>
  show Ϣ θ os (.at_ false (au θ os r.2) r.1) ls=i+1;show Cr () λj q a=>?_
  show(!aU θ os r q)=decide (j<i+1);let m:=l q (aak a);obtain h|h|h:=ang j i
  .rw[Tz f m c (xq g h a e),decide_eq_true ()];rfl
  .subst h;rw[e]at a;cases a;rw[Dd f c,decide_eq_true ()];rfl
  .rw[xq g h e a,decide_eq_false ()];rfl
theorem abm{os:List Ord}(a:aO θ os){ls:List Row}(f:∀r∈ls,Ω θ r)(g:Line θ os ls){i j:Nat}{c:Ct}(m:i<=j)(n:j<=ls.length)(l:i=j->Ϣ θ os c ls=i):Ϣ θ os (fG θ os true ((Μ ls i j).take 1) c) ls=i/\Ϣ θ os (fG θ os false ((Μ ls i j).drop ((Μ ls i j).length-1)) c) ls=j:=by
 let sl:=tY ls (i:=i) n;by_cases e:i=j
 .let o:Μ ls i j=[]:=akz ();rw[o];show#[l e,by rw[<-e];show l e]
 .let h1:(Μ ls i j).take 1=[ls[i]'()]:=by
   unfold Μ;rw[List.take_take,alo (),ahr ()];rfl
  let h2:(Μ ls i j).drop ((Μ ls i j).length-1)=[ls[j-1]'()]:=by
   rw[sl];unfold Μ;rw[List.drop_take,amV,show j-i-(j-i-1)=1 by omega,show i+(j-i-1)=j-1 by omega,ahr ()];rfl
  rw[h1,h2];show#[(Hv a f g (aad _) true).trans (by simp),(Hv a f g (aad _) false).trans ?_];show j-1+1=j;omega
def cJ(on:Bool)(n m i:Nat):Nat×Nat:=if on=true then(i,min (i+n) m)else(i-n,i)
theorem agJ(on:Bool)(os:List Ord)(ls:List Row)(c:Ct)(n:Nat):eQ on θ os ls c n=ϖ θ os ls c (cJ on n ls.length (Ϣ θ os c ls)).1 (cJ on n ls.length (Ϣ θ os c ls)).2:=by
 cases on<;>rfl
theorem W2{on:Bool}{n m i:Nat}(h:i<=m):(cJ on n m i).1<=(cJ on n m i).2/\(cJ on n m i).2<=m:=by
 cases on
 .show#[by show i-n<=i;omega,h]
 .show#[by show i<=min (i+n) m;omega,al0 ..]
theorem afB{cs:List ι}(a:ϊ cs=true){M:Mk}(h:aW cs M):aZ 4000 (dR M):=by
 let#[_,f]:=xm a h;let o:=nR (ϡ M).cps.toList;let#[m,g]:=aeN (show 0<=aV (ϡ M).cps.toList by omega);let e:=KQ (n:=m) ();unfold wC at e;simp only[abB,decide_eq_true_eq,acz]at e;let i:aZ 3300 (ϡ M):=#[f,DQ a h];let j:aZ 1 (".":Str):=#[by fin2,by fin2];let l:aZ 4 (cR (aV (ϡ M).cps.toList)):=by
  rw[g];show#[aka e.1,λc a=>?_];have:=e.2.1 c a;unfold pF at this;simp at this;omega
 show((i.app j).app l).mono (by decide)
theorem Nj{cs:List ι}{os:List Ord}{sd:Bool}{rs:List Row}(c c':Ct)(h:rs≠[]):fG cs os sd rs c=fG cs os sd rs c':=by
 cases rs with
 |nil=>show absurd rfl h
 |cons r rs=>rfl
theorem Xj{os:List Ord}{ls:List Row}(c a:Ct){i j:Nat}(g:i<=j)(l:j<=ls.length)(h:i=j->ls.length=0):ϖ θ os ls c i j=ϖ θ os ls a i j:=by
 let sl:=tY ls (i:=i) l;by_cases e:i=j
 .let e0:=h e;let hi:¬0<i:=()
  let f:¬j<ls.length:=()
  unfold ϖ;rw[if_neg hi,if_neg f,if_neg hi,if_neg f]
 .unfold ϖ;rw[Nj c a (λz=>by have:=congrArg alR z;rw[ag5,sl,alH]at this;omega),Nj c a (λz=>by have:=congrArg alR z;rw[adX,sl,alH]at this;omega)]
structure jG(n:Nat)(os:List Ord)(ls:List Row)(i j:Nat):Prop where
 ij:i<=j
 jl:j<=ls.length
 ne:i=j->ls.length=0
 fw:0<i->j=min (i+n) ls.length
 ok:∀d,(ϖ θ os ls .start i j).back=some d\/(ϖ θ os ls .start i j).aJ=some d->fH θ os d
theorem adT{os:List Ord}{ls:List Row}{c:Ct}{on:Bool}{n p:Nat}(l:jx θ os ls)(m:∀r∈ls,0<=r.1/\r.1<=1000000000)(n1:1<=n)(o:lQ θ os on c)(f:Ϣ θ os c ls=p)(g:ls.length=0\/if on=true then p<ls.length else 0<p):eQ on θ os ls c n=ϖ θ os ls .start (cJ on n ls.length p).1 (cJ on n ls.length p).2/\jG n os ls (cJ on n ls.length p).1 (cJ on n ls.length p).2:=by
 let i:=vA (cs:=θ) (os:=os) (c:=c) (rs:=ls);rw[f]at i;let#[a,b]:=W2 (on:=on) (n:=n) i;let j:(cJ on n ls.length p).1=(cJ on n ls.length p).2->ls.length=0:=by
  cases on
  .intro e;let q:p-n=p:=e;obtain z|z:=g
   .show z
   .let z':0<p:=z;omega
  .intro e;let q:p=min (p+n) ls.length:=e;obtain z|z:=g
   .show z
   .let z':p<ls.length:=z;omega
 let e:eQ on θ os ls c n=ϖ θ os ls .start (cJ on n ls.length p).1 (cJ on n ls.length p).2:=by
  rw[agJ,f];show Xj _ _ a b j
 show#[e,a,b,j,?_,?_]
 .cases on
  .intro(z:0<p-n);show p=min (p-n+n) ls.length;omega
  .show λ_=>rfl
 .rw[<-e];show Iz l m n1 o
theorem jG.marks{n:Nat}{os:List Ord}{ls:List Row}{i j:Nat}(g:jx θ os ls)(h:jG n os ls i j)(lv:Bool)(mo:Nat)(z:Str)(on:Bool):ou (cN lv mo os z (if on=true then(ϖ θ os ls .start i j).aJ else(ϖ θ os ls .start i j).back)) (if on=true then j=ls.length else i=0)/\
  ∀e,(if on=true then(ϖ θ os ls .start i j).aJ else(ϖ θ os ls .start i j).back)=some e->fH θ os e/\(Ϣ θ os e ls=if on=true then j else i)/\if on=true then j<ls.length else 0<i:=by
 let#[p1,p2]:=abm (c:=.start) g.inc g.fit g.line h.ij h.jl λe=>by
  have:=h.ne e;have:=h.jl;show 0=i;omega
 cases on with
 |true=>
  show ou (cN lv mo os z (ϖ θ os ls .start i j).aJ) (j=ls.length)/\∀e,(ϖ θ os ls .start i j).aJ=some e->fH θ os e/\Ϣ θ os e ls=j/\j<ls.length;by_cases a:j<ls.length
  .let e:(ϖ θ os ls .start i j).aJ=some (fG θ os false ((Μ ls i j).drop ((Μ ls i j).length-1)) .start):=if_pos a;let hok:=h.ok _ (.inr e);rw[e];show#[?_,λc f=>by cases f;show#[hok,p2,a]];let#[sd,xs,k,l,_]:=hok;rw[l];show .inr #[_,rfl,()]
  .let e:(ϖ θ os ls .start i j).aJ=none:=if_neg a;rw[e];show#[.inl #[rfl,by have:=h.jl;omega],λc f=>by cases f]
 |false=>
  show ou (cN lv mo os z (ϖ θ os ls .start i j).back) (i=0)/\∀e,(ϖ θ os ls .start i j).back=some e->fH θ os e/\Ϣ θ os e ls=i/\0<i;by_cases a:0<i
  .let e:(ϖ θ os ls .start i j).back=some (fG θ os true ((Μ ls i j).take 1) .start):=if_pos a;let hok:=h.ok _ (.inl e);rw[e];show#[?_,λc f=>by cases f;show#[hok,p1,a]];let#[sd,xs,k,l,_]:=hok;rw[l];show .inr #[_,rfl,()]
  .let e:(ϖ θ os ls .start i j).back=none:=if_neg a;rw[e];show#[.inl #[rfl,()],λc f=>by cases f]
abbrev fO(kS:Nat):Str:=sT θ (ϣ kS)
def dh(lv:Bool)(mo:Nat)(os:List Ord)(kS:Nat)(ls:List Row)(i j:Nat):gm:=yd lv mo os (fO kS) ls.length (ϖ θ os ls .start i j)
theorem aev{H H':Hp}{p:δ}{L:gm}(h:pM H H' p L):cM H' p L:=by
 let#[q,vs,h1,h2,a,c]:=h;show#[q,h1,vs,a,c.imp λv r z=>by
  let#[t,l,e,f,i,g]:=z;show#[t,l,e,f,g]]
theorem cM.put{H:Hp}{p d:δ}{L:gm}{Ϸ c:List (List Key×V)}(h:cM H p L)(e:H d=some (.dT Ϸ)):cM (upd H d (.dT c)) p L:=by
 let st:∀b o,H b=some o->(∀k,o≠.dT k)->(upd H d (.dT c)) b=some o:=λb o a n=>by
  rw[ρ (λz=>n Ϸ (by rw[z,e]at a;cases a;rfl))];show a
 let#[q,h1,vs,h2,f]:=h;show#[q,st _ _ h1 (λ_ z=>by cases z),vs,st _ _ h2 (λ_ z=>by cases z),f.imp λv r z=>by
  let#[t,l,e,g,i]:=z;show#[t,l,e,st _ _ g (λ_ z=>by cases z),st _ _ i (λ_ z=>by cases z)]]
structure bh(K:ϩ)(mg:Str->Option ε)(H:Hp)(A:BA)(B:Bk)(sc ln:δ)(ns:List Int)(os:List Ord)(kS:Nat)(ls:List Row)(lw:List V)(mo n:Nat):Prop where
 scL:η K H sc (ns.map V.int)
 nl:ns.length<=63
 FN:H ln=some (.lst lw)
 rw_:ς (cA H) lw ls
 li:Line θ os ls
 pm:ls.Perm (B.rows.filter λr=>Ϡ r.2 (ϣ kS))
 ins:lU K mg H A B os (ϣ kS) mo n
 hh:B.heads=θ
 k4:kS<4
section
variable{H H':Hp}{A:BA}{B:Bk}{sc ln:δ}{ns:List Int}{os:List Ord}{kS:Nat}{ls:List Row}{lw:List V}{mo n:Nat}
theorem bh.same(c:bh K mg H A B sc ln ns os kS ls lw mo n)(s:ζ H H'):bh K mg H' A B sc ln ns os kS ls lw mo n:=#[s.seq c.scL,c.nl,s _ _ c.FN,c.rw_.imp λu r z=>z.same s,c.li,c.pm,c.ins.same s,c.hh,c.k4]
theorem bh.mem(c:bh K mg H A B sc ln ns os kS ls lw mo n):∀r∈ls,r∈B.rows:=λr a=>(aiK.mp (c.pm.mem_iff.mp a)).1
theorem bh.fit(c:bh K mg H A B sc ln ns os kS ls lw mo n):∀r∈ls,Ω θ r:=λr a=>by
 have:=(c.ins.bk.fit r (c.mem r a)).1;rw[c.hh]at this;show this
theorem bh.inc(c:bh K mg H A B sc ln ns os kS ls lw mo n):aO θ os:=by
 have:=c.ins.li.inc;rw[c.hh]at this;show this
theorem bh.len(c:bh K mg H A B sc ln ns os kS ls lw mo n):ls.length<64:=aeW (aeP (aka c.pm.length_eq) (aix ..)) c.ins.bk.r64
theorem bh.JV(c:bh K mg H A B sc ln ns os kS ls lw mo n):jx θ os ls:=#[by decide,c.ins.li.o4,c.inc,c.fit,c.li,by have:=c.len;omega]
theorem bh.num(c:bh K mg H A B sc ln ns os kS ls lw mo n):∀r∈ls,0<=r.1/\r.1<=1000000000:=λr a=>(c.ins.bk.fit r (c.mem r a)).2
theorem bh.told(c:bh K mg H A B sc ln ns os kS ls lw mo n){lv on:Bool}{ct:Ct}{p:Nat}{H1 H2:Hp}{i:δ}{f:List Row}(l:lQ θ os on ct)(m:Ϣ θ os ct ls=p)(o:ls.length=0\/if on=true then p<ls.length else 0<p)(j:Line B.heads os f)(q:f.Perm (B.rows.filter λr=>Ϡ r.2 (ϣ kS)))(a:pM H1 H2 i (yd lv mo os (sT B.heads (ϣ kS)) f.length (eQ on B.heads os f ct n))):cM H2 i (dh lv mo os kS ls (cJ on n ls.length p).1 (cJ on n ls.length p).2)/\jG n os ls (cJ on n ls.length p).1 (cJ on n ls.length p).2:=by
 rw[c.hh]at j a;let g:=KH c.inc c.fit (c.pm.trans q.symm) c.li j;subst g;let#[e,h]:=adT c.JV c.num c.ins.n1 l m o;rw[e]at a;show#[aev a,h]
theorem bh.data(c:bh K mg H A B sc ln ns os kS ls lw mo n){i j:Nat}(h:jG n os ls i j)(lv:Bool):layR (dh lv mo os kS ls i j).rows/\il (dh lv mo os kS ls i j).back/\il (dh lv mo os kS ls i j).aJ:=by
 let m:∀o:Option Ct,(∀d,o=some d->fH θ os d)->il (cN lv mo os (fO kS) o):=λo p=>by
  cases o with
  |none=>show#[rfl,λz e=>by cases e]
  |some d=>
   let#[sd,xs,k,rfl,q,_,k1]:=p d rfl;show#[rfl,λz e=>?_];let f:V.str (dR #[lv,mo,os,sT θ (ϣ kS),#[sd,k.toNat,xs]])=.str z:=e;injection f with f
   rw[<-f];let a:=c.ins.li;rw[c.hh]at a;show afB qb (a.good q k1)
 show#[λr s x u=>?_,m _ λd e=>h.ok d (.inl e),m _ λd e=>h.ok d (.inr e)];let g:r∈(Μ ls i j).map λr=>(r.1,r.2,true):=s
 let#[v,l,rfl]:=adw.mp g;show(c.fit v (aeY (afu l))).lay x u
end
end
end K93
namespace K93
open PySem L2 PyProof.Rows My Vl Lw
section
variable{P:Ϯ}{w:ϭ}{K:ϩ}{mg:Str->Option ε}{base:ϫ}
def jz(lv:Bool)(mo:Nat)(os:List Ord)(kS:Nat)(ls:List Row)(Ϸ:List (List Key×V))(H:Hp):=∀(i j:Nat) v,ώ Ϸ [Sum.inl (i:Int),Sum.inl (j:Int)]=some v->∃p,v=.ref p/\cM H p (dh lv mo os kS ls i j)
theorem jz.same{lv:Bool}{mo:Nat}{os:List Ord}{kS:Nat}{ls:List Row}{Ϸ:List (List Key×V)}{H H':Hp}(h:jz lv mo os kS ls Ϸ H)(s:ζ H H'):jz lv mo os kS ls Ϸ H':=λi j v e=>by
 let#[p,a,h2]:=h i j v e;show#[p,a,h2.same s]
theorem jz.put{lv:Bool}{mo:Nat}{os:List Ord}{kS:Nat}{ls:List Row}{Ϸ:List (List Key×V)}{H:Hp}{d p:δ}{i j:Nat}(h:jz lv mo os kS ls Ϸ H)(e:H d=some (.dT Ϸ))(n:cM H p (dh lv mo os kS ls i j)):jz lv mo os kS ls (putK Ϸ [Sum.inl (i:Int),Sum.inl (j:Int)] (.ref p)) (upd H d (.dT (putK Ϸ [Sum.inl (i:Int),Sum.inl (j:Int)] (.ref p)))):=λl m v f=>by
 rw[W0]at f;split at f
 .next z=>
  cases f;injection z with g c
  injection c with c _
  injection g with g
  injection c with c
  let a:l=i:=Int.ofNat.inj g;let b:m=j:=Int.ofNat.inj c;subst a b;show#[p,rfl,n.put e]
 .let#[p2,o,q]:=h l m v f;show#[p2,o,q.put e]
def J4(e:Hp)(sc pm b o ln a:δ)(f g:Str)(kS n:Nat)(lv:Bool)(mo:Nat)(os:List Ord)(ls:List Row)(k:Nat)(σ:L2.St)(H:Hp):Prop:=
 ∃(Ϸ:List (List Key×V))(c:δ)(i j:Nat)(l m p:Option V),σ=[some (.ref sc),some (.ref pm),some (.ref b),some (.ref o),some (.str f),some (.int (kS:Nat)),some (.str g),some (.int (n:Nat)),some (.str (ϙ lv)),some (.ref ln),some (.int (i:Nat)),some (.int (j:Nat)),some (.ref c),some (.ref a),l,m,p]/\ζ e H/\H a=some (.dT Ϸ)/\Ϸ.length<=k/\cM H c (dh lv mo os kS ls i j)/\jz lv mo os kS ls Ϸ H/\jG n os ls i j
theorem WX(T:Txt K mg)(hN:dW K mg base "sorted_by"){f:δ}{R:ε}{S:ϱ}{outer:List Env}{U:μ}{H0:Hp}{E:XK}(hr:ϔ true 59 (S.deeper (envOfC "law" (ψ du) U.heap.objs.size f R))){O H1:Hp}{A:BA}{B:Bk}{sc pm o ln m:δ}{ns:List Int}{os:List Ord}{I J:Str}{kS:Nat}{ls:List Row}{lw:List V}{mo n:Nat}{lv:Bool}(a:bh K mg O A B sc ln ns os kS ls lw mo n)(ae:O m=none){k:Nat}(hk:k<20){D:Ends}(hD:∀σ' H',J4 O sc pm A.b o ln m I J kS n lv mo os ls (k+1) σ' H'->D.nx σ' H'){Ϸ:List (List Key×V)}{l:δ}{i j:Nat}{oX mL:Option V}(s1:ζ O H1)(Ho:H1 m=some (.dT Ϸ))(hkl:Ϸ.length<=k)(rJ:cM H1 l (dh lv mo os kS ls i j))(W:jz lv mo os kS ls Ϸ H1)(y:jG n os ls i j):Ν (dM true P w K mg base pH "law" (ψ du) f R S outer U H0 E) (pA ((aB du).drop 14)) D [some (.ref sc),some (.ref pm),some (.ref A.b),some (.ref o),some (.str I),some (.int (kS:Nat)),some (.str J),some (.int (n:Nat)),some (.str (ϙ lv)),some (.ref ln),some (.int (i:Nat)),some (.int (j:Nat)),some (.ref l),some (.ref m),some (.int (k:Nat)),oX,mL] H1:=by
 let nd:=Gh.nd;let hu:=hr.units;let X:_+1<cLine:=aeW (ahB (by decide:1<=64) _) hr.units;let n1:=T.bF;let n2:=T.Cg;let n3:=T.DW;let hsz:=ϳ;let#[hdp,_]:=PJ a.k4;let hL:=a.JV;let hlen:=a.len;let af:=y.ij;let ag:=y.jl;let Ϲ:=y.ne;let D0:= @nU P w K mg base T;let D1:= @By P w K mg base T;let D2:Def P w K mg base true 54 "turn_forth" ["book","mark","size"] (qZ K mg (ϣ kS) true):=z9 T hN (ϣ kS) ();let D3:Def P w K mg base true 54 "turn_back" ["book","mark","size"] (qZ K mg (ϣ kS) false):=El T hN (ϣ kS) ();let M2:ϟ P w K mg base true 1 (cB mg) "moment" ["self"] (iu mg Bk.now):=(v9 T).meth T.Ϝ T.xj;let#[Y,Z,g3]:=a.data y lv;let c:=Yw Y Z g3;let pC:=aa0 (dh lv mo os kS ls i j);let c1:=a.same s1;let tZ:∀{H},ζ O H->Ο (cB mg) H A B:=λs=>(a.same s).ins.bk.bk
 let Qs:=y.marks hL lv mo (fO kS) false;let ah:=y.marks hL lv mo (fO kS) true;let#[q0,ai,us,al,am]:=id rJ;w_up;show Κ (mF ?_);lk;show jf (pl:=_) hr ϑ ?_;f_are;show#[A.b,cB mg,A.dx,_,true,1,_,iu mg Bk.now,rfl,(tZ s1).ins,by rfl,M2,by decide,id,A,B,rfl,tZ s1,?_];rw[a.ins.bk.nw.now];lk;show#[l,ln,q0,ls,lw,us,i,j,(mo:Nat),_,_,rfl,ai,al,am,c1.FN,c1.rw_,a.fit,(),af,ag,Qs.1,ah.1,λH2 s2=>?_];let e2:=s2 _ _ Ho;lk;show Xh X (by constructor<;>rfl) ?_;f_are;show#[m,rfl,.inr #[_,.inl e2],?_];lk;show#[Δ,λtp ap=>?_];let#[s3,e3]:=ϋ ap (.tup [.int (i:Nat),.int (j:Nat)]);generalize upd H2 tp (.tup [.int (i:Nat),.int (j:Nat)])=H3 at s3 e3⊢;let jN:=s2.trans s3;let Px:=rJ.same jN;lk;show#[_,Ϟ.t (k:=[Sum.inl (i:Int),Sum.inl (j:Int)]) (s3 _ _ e2) e3,?_];let hg:∃p',(ώ Ϸ [Sum.inl (i:Int),Sum.inl (j:Int)]).getD (.ref l)=.ref p'/\cM H3 p' (dh lv mo os kS ls i j):=by
  cases hv:ώ Ϸ [Sum.inl (i:Int),Sum.inl (j:Int)]with
  |none=>show#[l,rfl,Px]
  |some v=>
   let#[p,rfl,hp]:=W i j v hv;show#[p,rfl,hp.same jN]
 let#[p',eg,ar]:=hg;rw[eg];lk;show zu hu (vX ar Y Z g3) (vX Px Y Z g3) c c pC ?_;rw[SeqAt.eqv_refl _ c];lk;show Ζ ?_;w_up;show rK X ?_;lk;show#[Δ,λXo av=>?_];let#[s4,e4]:=ϋ av (.tup [.int (i:Nat),.int (j:Nat)]);generalize upd H3 Xo (.tup [.int (i:Nat),.int (j:Nat)])=H4 at s4 e4⊢;let lC:=jN.trans s4;let zV:=lC _ _ Ho;let M8:=rJ.same lC;let aw:=W.same lC;show#[m,_,rfl,eN.t (k:=[Sum.inl (i:Int),Sum.inl (j:Int)]) zV e4 (),?_];let s5:ζ O (upd H4 m (.dT (putK Ϸ [Sum.inl (i:Int),Sum.inl (j:Int)] (.ref l)))):=λb u e=>by
  rw[ρ (λz=>by rw[z,ae]at e;cases e)];show(s1.trans lC) _ _ e
 let Ep:(upd H4 m (.dT (putK Ϸ [Sum.inl (i:Int),Sum.inl (j:Int)] (.ref l)))) m=some (.dT (putK Ϸ [Sum.inl (i:Int),Sum.inl (j:Int)] (.ref l))):=υ;let u6:cM (upd H4 m (.dT (putK Ϸ [Sum.inl (i:Int),Sum.inl (j:Int)] (.ref l)))) l (dh lv mo os kS ls i j):=M8.put zV;let FJ:=aw.put zV M8;let ax:=Fe Ϸ [Sum.inl (i:Int),Sum.inl (j:Int)] (.ref l);generalize upd H4 m (.dT (putK Ϸ [Sum.inl (i:Int),Sum.inl (j:Int)] (.ref l)))=H5 at s5 Ep u6 FJ⊢;generalize putK Ϸ [Sum.inl (i:Int),Sum.inl (j:Int)] (.ref l)=Bc at Ep FJ ax;let rest:∀H6,ζ H5 H6->Ν (dM true P w K mg base pH "law" (ψ du) f R S outer U H0 E) ((pA ((aB du).drop 14)).drop 3) D [some (.ref sc),some (.ref pm),some (.ref A.b),some (.ref o),some (.str I),some (.int (kS:Nat)),some (.str J),some (.int (n:Nat)),some (.str (ϙ lv)),some (.ref ln),some (.int (i:Nat)),some (.int (j:Nat)),some (.ref l),some (.ref m),some (.int (k:Nat)),oX,mL] H6:=by
  intro H6 L;let cY:=s5.trans L;let c6:=a.same cY;let uE:=u6.same L;let Fj:=L _ _ Ep;let Ed:=FJ.same L;let wJ:η K H6 ln lw:=η.of c6.FN;let mK:=a.rw_.len;let#[q6,Tu,_]:=id uE;let fin:∀on:Bool,Ν (dM true P w K mg base pH "law" (ψ du) f R S outer U H0 E) ((pA ((aB du).drop 14)).drop 6) D [some (.ref sc),some (.ref pm),some (.ref A.b),some (.ref o),some (.str I),some (.int (kS:Nat)),some (.str J),some (.int (n:Nat)),some (.str (ϙ lv)),some (.ref ln),some (.int (i:Nat)),some (.int (j:Nat)),some (.ref l),some (.ref m),some (.int (k:Nat)),some (.bl on),some (cN lv mo os (fO kS) (if on=true then(ϖ θ os ls .start i j).aJ else(ϖ θ os ls .start i j).back))] H6:=by
   intro on;let#[_,C]:=y.marks hL lv mo (fO kS) on;generalize(if on=true then(ϖ θ os ls .start i j).aJ else(ϖ θ os ls .start i j).back)=ay at C⊢;cases ay with
   |none=>
    f_len;show Κ (mF ?_);show EW _ _ [some (.ref sc),some (.ref pm),some (.ref A.b),some (.ref o),some (.str I),some (.int (kS:Nat)),some (.str J),some (.int (n:Nat)),some (.str (ϙ lv)),some (.ref ln),some (.int (i:Nat)),some (.int (j:Nat)),some (.ref l),some (.ref m),some (.int (k:Nat)),some (.bl on),some .non] H6 _;lk;f_len;show Κ ?_;lk;show Ζ (hD _ _ #[Bc,l,i,j,_,_,_,rfl,cY,Fj,(),uE,Ed,y])
   |some e=>
    let#[#[sd,xs,x,rfl,g,k0,k1],F,G]:=C e rfl;let oK:∀on,lQ θ os on (.at_ sd xs x):=λon=>.inr (.inr #[sd,xs,x,rfl,g,k0,k1])
    let hz:∃z,cN lv mo os (fO kS) (some (.at_ sd xs x))=.str z:=#[_,rfl];let#[zm,Q]:=hz;rw[Q];f_len;show Κ (mF ?_);lk;cases on with
    |true=>
     lk;k_go;k_go;show zq ?_;f_len;f_tup;lk;show#[A,B,lv,os,mo,n,sd,xs,x,by rw[a.hh, <-Q],c6.ins,by rw[a.hh];show g,k0,k1,λp2 jw H7 M lB cI q=>?_];let#[pW,tH]:=a.told (oK true) F (.inr G) lB cI q;show hD _ _ #[Bc,p2,_,_,some (.int (k:Nat)),some (.bl true),some (.str zm),?_,cY.trans M,M _ _ Fj,(),pW,Ed.same M,tH];show([some (.ref sc),some (.ref pm),some (.ref A.b),some (.ref o),some (.str I),some (.int (kS:Nat)),some (.str J),some (.int (n:Nat)),some (.str (ϙ lv)),some (.ref ln),some (.int (j:Nat)),some (.int (if(j:Int)+(n:Nat)<(lw.length:Nat)then(j:Int)+(n:Nat)else(lw.length:Nat))),some (.ref p2),some (.ref m),some (.int (k:Nat)),some (.bl true),some (.str zm)]:L2.St)=_;rw[show(if(j:Int)+(n:Nat)<(lw.length:Nat)then(j:Int)+(n:Nat)else(lw.length:Nat))=((min (j+n) ls.length:Nat):Int)by split <;>omega];rfl
    |false=>
     lk;f_len;show Κ ?_;lk;k_go;k_go;show Dq ?_;f_len;f_tup;lk;show#[A,B,lv,os,mo,n,sd,xs,x,by rw[a.hh, <-Q],c6.ins,by rw[a.hh];show g,k0,k1,λp2 jw H7 M lB cI q=>?_];let#[pW,tH]:=a.told (oK false) F (.inr G) lB cI q;show hD _ _ #[Bc,p2,_,_,some (.int (k:Nat)),some (.bl false),some (.str zm),?_,cY.trans M,M _ _ Fj,(),pW,Ed.same M,tH];show([some (.ref sc),some (.ref pm),some (.ref A.b),some (.ref o),some (.str I),some (.int (kS:Nat)),some (.str J),some (.int (n:Nat)),some (.str (ϙ lv)),some (.ref ln),some (.int (if(i:Int)-(n:Nat)>0 then(i:Int)-(n:Nat)else 0)),some (.int (i:Nat)),some (.ref p2),some (.ref m),some (.int (k:Nat)),some (.bl false),some (.str zm)]:L2.St)=_;rw[show(if(i:Int)-(n:Nat)>0 then(i:Int)-(n:Nat)else 0)=((i-n:Nat):Int)by split <;>omega];rfl
  let go:∀on:Bool,Ν (dM true P w K mg base pH "law" (ψ du) f R S outer U H0 E) ((pA ((aB du).drop 14)).drop 5) D [some (.ref sc),some (.ref pm),some (.ref A.b),some (.ref o),some (.str I),some (.int (kS:Nat)),some (.str J),some (.int (n:Nat)),some (.str (ϙ lv)),some (.ref ln),some (.int (i:Nat)),some (.int (j:Nat)),some (.ref l),some (.ref m),some (.int (k:Nat)),some (.bl on),mL] H6:=by
   intro on;k_go;cases on with
   |true=>
    lk;show ύ (ο.of Tu) (i:=2) rfl ?_;show fin true
   |false=>
    lk;show ύ (ο.of Tu) (i:=1) rfl ?_;show fin false
  k_go;show#[sc,ns,20+(k:Nat),3,rfl,c6.scL,a.nl,(),(),by decide,?_];lk;w_up;show Κ ?_;lk;show#[sc,ns,6,2,rfl,c6.scL,a.nl,by decide,by decide,by decide,?_];lk;show Θ (λ_=>?_) (λ_=>?_)
  .f_len;f_tup;lk;show go _
  .show Ζ (go _)
 let#[_,C]:=Qs;let#[q5,sH,_]:=id u6;cases hb:(ϖ θ os ls .start i j).back with
 |none=>
  let eb:(dh lv mo os kS ls i j).back=.non:=by
   show cN lv mo os (fO kS) (ϖ θ os ls .start i j).back=_;rw[hb];rfl
  rw[eb]at sH;w_up;show Κ (mF ?_);lk;show ύ (ο.of sH) (i:=1) rfl ?_;lk;show Ζ (rest H5 (ζ.refl _))
 |some e=>
  let#[#[sd,xs,x,rfl,g,k0,k1],F,G]:=C e hb;let ab:0<i:=G;let hz:∃z,cN lv mo os (fO kS) (some (.at_ sd xs x))=.str z:=#[_,rfl];let#[zm,Q]:=hz;let eb:(dh lv mo os kS ls i j).back=.str zm:=by
   show cN lv mo os (fO kS) (ϖ θ os ls .start i j).back=_;rw[hb];show Q
  rw[eb]at sH;w_up;show Κ (mF ?_);lk;show ύ (ο.of sH) (i:=1) rfl ?_;lk;show ύ (ο.of sH) (i:=1) rfl ?_;lk;show#[A,B,lv,os,mo,n,sd,xs,x,by rw[a.hh, <-Q],(a.same s5).ins,by rw[a.hh];show g,k0,k1,λp2 jw H6 L lB cI q=>?_];let ac:Ϣ θ os (.at_ sd xs x) ls=i:=F;let#[uE,_]:=a.told (on:=true) (.inr (.inr #[sd,xs,x,rfl,g,k0,k1])) ac (.inr (by show i<ls.length;omega)) lB cI q;let Vt:cM H6 p2 (dh lv mo os kS ls i (min (i+n) ls.length)):=uE;rw[<-y.fw ab]at Vt;lk;show zu hu (vX Vt Y Z g3) (vX (u6.same L) Y Z g3) c c pC ?_;rw[SeqAt.eqv_refl _ c];lk;show Ζ (rest H6 L)
theorem ahW{cs:List ι}(f:ϊ cs=true){os:List Ord}(g:aO cs os)(l:os.length<=4):(bK os).length<=100:=by
 let h1:=lE (os.map ϗ) 9 λp i=>by
  let#[o,j,rfl]:=adw.mp i;let#[c,a,e]:=g o j;have:=qM (kO f (z:=o.1) (adw.mpr #[c,a,e]));let m:("+":Str).length=1:=by fin2
  let n:("-":Str).length=1:=by fin2
  unfold ϗ;rw[len_app];split <;>omega
 let h2:=jO (os.map ϗ);rw[abd]at h1 h2;unfold bK;omega
theorem Yr{cs:List ι}(i:ϊ cs=true){os:List Ord}(g:aO cs os)(j:os.length<=4)(a:(os.map Prod.fst).Nodup):gC cs (bK os)=some os:=JN j a g λo l m=>by
 let#[c,f,e]:=g o l;let a:=kO i (z:=o.1) (adw.mpr #[c,f,e]);unfold isName dO at a;rw[abB,acz]at a;show absurd (of_decide_eq_true (a.2 32 m)) (by fin2)
theorem aif(T:Txt K mg)(Z:dW K mg base "sorted_by"){f:δ}{fd:ahC}(F:cj K "law" "law" du f fd):cG P w K mg base (bU P w) true 60 f fd ["_law_script"] (Dj K "sorted_by" jE):=by
 show Fo F Gh (λvs H Q E h=>by let#[a,ns,rfl,_]:=h;rfl) (λϺ A' outer s0 H vs Q E S h=>?_);let#[a,ns,rfl,n,s,ab,q]:=h;let nd:=Gh.nd;let n1:=T.PN;let hsz:=ϳ;let D0:= @nU P w K mg base T;let D1:= @DN P w K mg base T;let D2:= @yU P w K mg base T;let D3:= @Cj P w K mg base T;let D4:= @Aw P w K mg base T;let D5:= @Eh P w K mg base T;let n2:=T.bF;let n3:=T.Cg;let n4:=T.DW;k_go;show#[a,ns,rfl,n,s,λpm A d B mo H1 s1 G h1 hmo=>?_];let hh:=h1.dk.heads;k_go;show ύ (ο.of G) (i:=0) rfl ?_;k_go;show#[a,ns,1,5,rfl,s1.seq n,s,by decide,by decide,by decide,?_];generalize fZ ns 1 5=D;lk;show#[D,rfl,λb H2 s2 hb0 Dt=>?_];let I:=Wz D;let U:=acG D;let rP:=ZD D;let J:=Zk D;generalize fY D=os at Dt I U rP J;let bj:=s1.trans s2;k_go;show#[b,os,rfl,Dt,(),J,λH3 W=>?_];let bJ:=bj.trans W;k_go;show#[a,ns,2,4,rfl,bJ.seq n,s,by decide,by decide,by decide,?_];let g0:=lA ns 2 (m:=4);let g1:=lY ns 2 (m:=4);generalize fZ ns 2 4=kv at g0 g1⊢;let#[kS,rfl]:=aeN g0;let L:kS<4:=()
 k_go;show#[kS,rfl,L,λH4 X=>?_];let fQ:=bJ.trans X;k_go;show#[a,ns,3,4,rfl,fQ.seq n,s,by decide,by decide,by decide,?_];lk;let e0:=lA ns 3 (m:=4);let e1:=lY ns 3 (m:=4);generalize fZ ns 3 4=kn at e0 e1⊢;let#[c,rfl]:=aeN e0;rw[show(1:Int)+(c:Nat)=((c+1:Nat):Int)by omega];k_go;show#[Δ,λlm cV=>?_];let#[M,e5]:=ϋ cV (.lst [.str ("living":Str),.str ("still":Str)]);change EV _ _ _ (upd H4 lm (.lst [.str ("living":Str),.str ("still":Str)])) _;generalize upd H4 lm (.lst [.str ("living":Str),.str ("still":Str)])=H5 at M e5⊢;let dj:=fQ.trans M;lk;show#[a,ns,4,2,rfl,dj.seq n,s,by decide,by decide,by decide,?_];let j0:=lA ns 4 (m:=2);let j1:=lY ns 4 (m:=2);generalize fZ ns 4 2=jj at j0 j1⊢;let#[jn,rfl]:=aeN j0;let gq:∃lv,[V.str ("living":Str),.str ("still":Str)][jn]?=some (.str (ϙ lv)):=by
  obtain _|_|jn:=jn
  .show#[true,rfl]
  .show#[false,rfl]
  .omega
 let#[lv,gq]:=gq;show ϥ (η.of e5) (v:=.str (ϙ lv)) (bw gq) ?_;let h5:=h1.same (((s2.trans W).trans X).trans M);let ac:=(((s2.trans W).trans X).trans M) _ _ G;k_go;show ύ (ο.of ac) (i:=1) rfl ?_;lk;show#[d::A.fp,d,b,kS,os,B.rows,rfl,h5.tb.ro,Dt.same ((W.trans X).trans M),I,L,h1.dk.nd,by have:=h1.dk.rl;omega,h1.dk.ok,λln lw ls H6 s6 ai0 iy uL lB cI=>?_];let cY:=dj.trans s6;let h6:=h5.same s6;let wJ:η K H6 ln lw:=η.of iy;let mK:=uL.len;let#[pC,Mp]:=PJ L;let D6:Def P w K mg base true (11+2*(ϣ kS).dep) "first_leaf" ["book","make","order","sieve","size"] (tR K mg (ϣ kS) true):=Gf T Z (ϣ kS);let D7:Def P w K mg base true (11+2*(ϣ kS).dep) "last_leaf" ["book","make","order","sieve","size"] (tR K mg (ϣ kS) false):=yI T Z (ϣ kS);let O:bh K mg H6 A B a ln ns os kS ls lw mo (c+1):=#[cY.seq n,s,iy,uL.imp λu r z=>z.row,lB,cI,#[#[h6.tb.bk,h1.nw,h1.dk.wf,h1.tc,by have:=h1.dk.rl;omega,h1.dk.nd,λr S=>by have:=h1.dk.keys r S;rw[hh];show#[h1.dk.ok r S,(),()]],#[by rw[hh];show qb,U,by rw[hh];show I,rP,by rw[hh];show ahk L,(),by rw[hh];show Mp,()],(),(),cY _ _ ab],hh,L];let HQ:(bK os).length<=4000:=by have:=ahW qb I U;omega
 let fJ:=Yr qb I U rP;let g:∀(l:δ)(i j:Nat)(x y:Int)(H7:Hp),x=(i:Nat)->y=(j:Nat)->ζ H6 H7->cM H7 l (dh lv mo os kS ls i j)->jG (c+1) os ls i j->Ν (dM true P w K mg base pH "law" (ψ du) f Ϻ A' outer s0 H E) ((aB du).drop 13) {nx:=λ_ H'=>Q .non H',rt:=Q} [some (.ref a),some (.ref pm),some (.ref A.b),some (.ref b),some (.str (bK os)),some (.int (kS:Nat)),some (.str (fO kS)),some (.int ((c+1:Nat):Int)),some (.str (ϙ lv)),some (.ref ln),some (.int x),some (.int y),some (.ref l),none,none,none,none] H7:=by
  intro l i j x y H7 ex ey C rJ ae;subst ex ey;w_up;f_tup;show qi ab9 λkd R=>?_
  let Y:=ζ.upd (o:=.dT []) R;let c7:=O.same C;w_up;show Oo (by walk_at"po") (by rfl) (by rfl) n1 (by rfl) ?_;lk;show#[by decide,by decide,λk σ H'=>J4 H7 a pm A.b b ln kd (bK os) (fO kS) kS (c+1) lv mo os ls k σ H',#[[],l,i,j,none,none,none,rfl,Y,υ,Ϭ _,rJ.same Y,(λi j v e=>by cases e),ae],λk σ' H' hk hP=>?_,λσ' H' hP=>?_]
  .let#[Ϸ,l,i,j,zL,oX,mL,rfl,y1,y2,y3,y4,y5,y6]:=hP;show Β nd (by rfl) (.inl rfl) (.inl rfl) ?_;show WX T Z S c7 R hk (λ_ _ h=>h) y1 y2 y3 y4 y5 y6
  .let#[Ϸ,l,i,j,zL,oX,mL,rfl,_]:=hP;f_len;show ω ?_;lk;show q _
 k_go;k_go;show zq ?_;k_go;show#[A,B,lv,os,bK os,mo,c+1,by rw[hh],O.ins,HQ,by rw[hh];show fJ,λl jw H7 C af ag ah=>?_];let hm:∀on:Bool,ls.length=0\/if on=true then(if on=true then 0 else ls.length)<ls.length else 0<(if on=true then 0 else ls.length):=λon=>by
  cases on
  .show ls.length=0\/0<ls.length;omega
  .show ls.length=0\/0<ls.length;omega
 let#[pW,tH]:=O.told (on:=true) (ct:=.start) (p:=0) (.inl #[rfl,rfl]) rfl (hm true) af ag ah;w_up;show Κ ?_;lk;show#[a,ns,5,2,rfl,(cY.trans C).seq n,s,by decide,by decide,by decide,?_];lk;let sq7:η K H7 ln lw:=C.seq wJ;show Θ (λ_=>?_) (λ_=>?_)
 .w_up;f_tup;lk;show Dq ?_;k_go;f_len;f_tup;lk;show#[A,B,lv,os,bK os,mo,c+1,by rw[hh],(O.same C).ins,HQ,by rw[hh];show fJ,λZw ls3 H8 Y Eo Wq Zg=>?_];let#[ai,al]:=O.told (on:=false) (ct:=.fin) (p:=ls.length) (.inr (.inl #[rfl,rfl])) rfl (hm false) Eo Wq Zg;show g Zw _ _ _ _ H8 ?_ ?_ (C.trans Y) ai al
  .show _=((ls.length-(c+1):Nat):Int);split <;>omega
  .show _=((ls.length:Nat):Int);rw[mK]
 .show Ζ ?_;show g l _ _ _ _ H7 ?_ ?_ C pW tH
  .rfl
  .show _=((min (0+(c+1)) ls.length:Nat):Int);split <;>omega
end
end K93
theorem PySem.Challenge.cw_turnleaf_k93_whole_to_and_fro_holds : PySem.Challenge.rw_turnleaf_k93_whole_to_and_fro.Holds := by
 show PySem.Challenge.t0 (by intro P w K mg base;show K93.aif)
#print axioms PySem.Challenge.cw_turnleaf_k93_whole_to_and_fro_holds
